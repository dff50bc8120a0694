import PyProof.Rows.All
import KE.KFromBytes
import KE.KSortTup
import KE.KIsAll
import KE.KRevIter
import PyProof.InstStoreFacts
import PyProof.InstSpecial
import PyProof.FString
import OpenK.KCls
import PySem.Challenge.RW_throwruns_k62_free_rows
set_option Elab.async false
set_option linter.all false
set_option genSizeOf false
set_option genSizeOfSpec false
set_option genInjectivity false
set_option maxRecDepth 100000
set_option maxHeartbeats 0
def DV.nf{P:Prop}(h:false=true):P:=absurd h Bool.false_ne_true
open List (mem_filter mem_range filterMap_cons mem_cons_self mem_cons_of_mem mem_cons mem_append mem_append_left getElem?_set_self getElem?_set_ne mem_filterMap mem_append_right append_nil nodup_cons of_mem_zip replicate length length_take getElem?_append_right getElem?_append_left getElem?_map mem_of_getElem? length_append length_map length_replicate size_toArray length_drop replicate_succ flatten_cons foldl append_assoc map_nil map_cons forIn_cons sublist_cons_self nodup_append nil_append perm_append_comm sublist_append_right cons_append length_cons all_cons drop_length perm_middle zip_cons_cons zip_append lookup_cons all_eq_true mem_nil_iff getD_eq_getElem?_getD getElem?_eq_getElem getElem_toArray getElem_mem sum_append take_length mem_singleton mem_map lookup zipWith isEmpty_iff filter_cons length_nil filter_eq_self sum_cons foldr_cons range' map_map map_congr_left flatMap_cons length_eq_zero_iff map_append filter_append filter_map length_range range_succ map_take not_mem_nil)
open Nat (lt_of_lt_of_le lt_irrefl ne_of_lt le_trans ne_of_gt le_refl zero_le succ_mul log2_lt lt_succ_self lt_succ_of_lt not_lt le_succ lt_trans zero_add)
open PySem.W (nsIn clsIn typeIn findIn specialIn takesIn codeIn keepIn fnOf excIn readsIn findCls methodObj hideAll hideAll_get of_hideAll cellsFrom_some callWith_K mroIn looks_findIn looks_mroIn kitOne kitCls isNs_of_in tail_of_in looks_clsIn kia_one mg_of)
open PySem.Heap (lt_size get?_push_of_some get?_push_size get?_update_self get?_update_other size_push)
noncomputable section
def qA:=@PySem.Heap.get?_push_of_some
def qB:=@PySem.wpAny_bind
def qC:=@PySem.wpAny_pure
def qD:=@List.mem_cons_of_mem
def qE:=@List.mem_cons_self
def qF:=@Bool.false_ne_true
def qG:=@List.getElem?_eq_some_iff
def qJ:=@Option.some.inj
def qK:=@List.mem_append_right
abbrev qH:=PySem.W.Frag
namespace L2
open PySem
def wg(s:Stmt):Arguments:=match s with
 | .FunctionDef _ a _ _ _ _ _ _ _ _=>a|_=>{posonlyargs:=[],args:=[],vararg:=none,kwonlyargs:=[],kw_defaults:=[],kwarg:=none,defaults:=[]}
def yu(s:Stmt):List Stmt:=match s with
 | .FunctionDef _ _ b _ _ _ _ _ _ _=>b|_=>[]
def zZ(s:Stmt):Scope:=match s with
 | .FunctionDef _ _ _ _ _ _ sc _ _ _=>sc|_=>{kind:=.function,names:=[],isGenerator:=false,isCoroutine:=false}
end L2
namespace DV
open PySem L2
def jS(c:Str):List Str:=if c == "TooGreat" then ["many","most"]else if c == "NoText" then ["row"]else []
abbrev VB:List Value:=[.type "ValueError",.type "Exception",.type "BaseException",.type "object"]
def Gy(K:qH)(C f:Addr):Bool:=match K.lookup C with
 |some ⟨.type "type",_,.cls cd,sl⟩=>(match cd.mro,sl.toList with
  | .ref C'::bm,[_,_,_,_,some (.builtin n),_]=>(C'==C&&n == "ValueError.__new__")&&(!cd.hasDel&&PySem.W.tailIn K VB bm)&&(PySem.W.nsOkIn K cd.ns&&nsIn K cd.ns "__init__" == some (some (.ref f)))|_,_=>false)
 |_=>false
def initSt:Stmt->Stmt
 | .ClassDef _ _ _ (b::_) _ _ _ _ _ _ _=>b|s=>s
def xIn(K:qH)(c:Str)(C T:Addr):Bool:=(match clsIn K C with|some cd=>cd.name==c&&cd.mro==[.ref C,.ref T,.type "ValueError",.type "Exception",.type "BaseException",.type "object"]|none=>false)
 && typeIn K (.ref C)==some (.type "type")&&findIn K (.ref C) "__getattribute__" == some (some (.builtin "BaseException.__getattribute__"))&&findIn K (.ref C) "__getattr__" == some none
 && findIn K (.ref C) "__class__" == some (some (.builtin "object.__class__"))&&specialIn K (.builtin "object.__class__") "__get__" == some (some (.builtin "getset_descriptor.__get__"))&&takesIn K (.builtin "object.__class__")==some true&&!(C==T)
def tIn(K:qH)(T:Addr):Bool:=(match clsIn K T with|some cd=>cd.mro==(.ref T::VB)|none=>false)&&typeIn K (.ref T)==some (.type "type")
def isFr:Obj->Bool
 |⟨_,_,.freed,_⟩=>true|_=>false
def ua:List Obj->Nat->List Addr->qH
 | [],_,_=>[]|_::_,_,[]=>[]
 |o::os,i,a::as=>match Nat.beq i a with
  |true=>(match isFr o with
   |true=>ua os (i+1) as|false=>(i,o)::ua os (i+1) as)
  |false=>ua os (i+1) (a::as)
def Yi(h:Heap)(as:List Addr):qH:=ua h.objs.toList 0 as
def FvT:Type:=Bool×Str×Str×Arguments×FuncBody×Scope×Addr×List (Str×Addr)×Value×Addr
def fvOf(b:Bool)(fd:FuncData):FvT:=(b,fd.name,fd.qualname,fd.params,fd.body,fd.scope,fd.globals,fd.closure,fd.defaults,fd.builtins)
def y0(K:qH)(n:Str):Option FvT:=match nsIn K mainGlobals n with
 |some (some (.ref a))=>(match K.lookup a with
  |some ⟨_,_,.func fd,_⟩=>some (fvOf (codeIn K fd.code n&&keepIn K (.ref a)) fd)|_=>none)
 |_=>none
def jB(n:Str)(st:Stmt):Option FvT:=some (fvOf true (fnOf n n (wg st) (yu st) (zZ st) .none .none .none .none none .none .none))
def Zr(K:qH)(n:Str):Option Int:=match nsIn K mainGlobals n with
 |some (some (.int i _))=>some i|_=>none
def j0(K:qH)(n:Str):Bool:=match nsIn K mainGlobals n with
 |some none=>true|_=>false
def JG(K:qH)(n:Str):Option Addr:=match nsIn K mainGlobals n with
 |some (some (.ref a))=>some a|_=>none
def zBM(K:qH):Bool:=match K.lookup sysModules with
 |some o=>(match o.data with | .dict _ _=>true|_=>false)
 |none=>false
def zFc(K:qH)(cl rs:List Str):Bool :=
 (cl.isEmpty||(match JG K "ThrowError" with
  |some T=>tIn K T&&cl.all λc=>(match JG K c with|some C=>xIn K c C T|none=>false)
  |none=>false)) &&
 (rs.all λc=>(match JG K c with|some C=>excIn K C VB "ValueError.__new__" |none=>false))&&zBM K
def iOk(K:qH)(c:Str)(C T f:Addr)(cd:ClassData):Bool :=
 (keepIn K (.ref C)&&Gy K C f&&typeIn K (.ref f)==some (.type "function")&&keepIn K (.ref f)) &&
 (readsIn K T (.type "type")&&specialIn K (.ref T) "__getattribute__" == some (some (.builtin "type.__getattribute__"))&&(match findCls K (.ref T) (.type "type") "__init__" with|some (.val (.builtin b))=>b == "ValueError.__init__" |_=>false)) &&
 (cd.mro==.ref C::.ref T::VB&&cd.hasDict&&findIn K (.ref C) "__setattr__" == some (some (.builtin "object.__setattr__"))&&(jS c).all λn=>findIn K (.ref C) n==some none)
def iview(K:qH)(c q:Str):Option FvT:=match JG K c,JG K "ThrowError" with
 |some C,some T=>(match clsIn K C with
  |some cd=>(match nsIn K cd.ns "__init__" with
   |some (some (.ref f))=>(match K.lookup f with
    |some ⟨_,_,.func fd,_⟩=>some (fvOf (codeIn K fd.code q&&iOk K c C T f cd) fd)|_=>none)
   |_=>none)
  |none=>none)
 |_,_=>none
def iwant(q:Str)(st:Stmt):Option FvT:=some (fvOf true (fnOf "__init__" q (wg st) (yu st) (zZ st) .none .none .none .none none .none .none))
end DV
namespace My
open PySem L2 DV
def top(i:Nat):Stmt:=PySem.Challenge.pw_throwruns_k62_free_rows.main.body.getD i (.Pass ⟨0,0,0,0⟩)
abbrev vC:Stmt:=top 11
abbrev wY:Stmt:=top 12
abbrev Zs:Stmt:=top 17
abbrev vD:Stmt:=top 18
abbrev vE:Stmt:=top 19
abbrev Yj:Stmt:=top 20
abbrev ZN:Stmt:=top 21
abbrev wZ:Stmt:=top 22
abbrev ub:Stmt:=top 23
abbrev Yk:Stmt:=top 24
abbrev wC:Stmt:=top 27
abbrev wE:Stmt:=top 30
abbrev Jz:Stmt:=top 31
abbrev uc:Stmt:=top 32
abbrev Zt:Stmt:=top 33
abbrev vF:Stmt:=top 34
abbrev vG:Stmt:=top 35
abbrev J0:Stmt:=top 37
abbrev Zu:Stmt:=top 38
abbrev Yl:Stmt:=top 39
abbrev Zv:Stmt:=top 40
abbrev J2:Stmt:=top 42
abbrev Zw:Stmt:=top 43
abbrev J4:Stmt:=top 44
abbrev Zx:Stmt:=top 45
abbrev wF:Stmt:=top 46
abbrev s_law:Stmt:=top 47
def cl_:List Str:=["NoDie","NoRow","NoNumber","NoLine","NoMachine","NoPaper","NoText","TooGreat"]
def rs_:List Str:=["NoDie","NoRow","NoNumber","NoLine","NoMachine","NoPaper"]
abbrev vH:Stmt:=initSt (top 9)
def lkT:Type:=List (Option FvT)×List (Option Int)×List Bool×Bool
def Zy(K:qH):lkT:=([y0 K "is_whole",y0 K "is_whole_within",y0 K "sign_good",y0 K "row_good",y0 K "need_row",y0 K "need_number",y0 K "need_signs",y0 K "greatest_length",y0 K "runs_of",y0 K "longest_any",y0 K "weigh_alike_upto",y0 K "need_free_length",y0 K "need_ordered",y0 K "ways_on",y0 K "free_many",y0 K "free_nth",y0 K "free_all",y0 K "_law_cell_at",y0 K "_law_next",y0 K "_law_pen_of",y0 K "_law_draw",y0 K "_law_kind_of",y0 K "_law_free",y0 K "_law_counted",y0 K "_law_told",y0 K "_law_small_right",y0 K "law",iview K "TooGreat" "TooGreat.__init__"],[Zr K "LEAST_SIGNS",Zr K "MOST_FREE",Zr K "MOST_LISTED",Zr K "MOST_SIGNS",Zr K "MOST_THROWS"],[j0 K "ValueError",j0 K "all",j0 K "bool",j0 K "int",j0 K "isinstance",j0 K "len",j0 K "max",j0 K "range",j0 K "repr",j0 K "reversed",j0 K "sum",j0 K "tuple",j0 K "zip"],zFc K cl_ rs_)
def wants:lkT:=([jB "is_whole" vC,jB "is_whole_within" wY,jB "sign_good" Zs,jB "row_good" vD,jB "need_row" vE,jB "need_number" Yj,jB "need_signs" ZN,jB "greatest_length" wZ,jB "runs_of" ub,jB "longest_any" Yk,jB "weigh_alike_upto" wC,jB "need_free_length" wE,jB "need_ordered" Jz,jB "ways_on" uc,jB "free_many" Zt,jB "free_nth" vF,jB "free_all" vG,jB "_law_cell_at" J0,jB "_law_next" Zu,jB "_law_pen_of" Yl,jB "_law_draw" Zv,jB "_law_kind_of" J2,jB "_law_free" Zw,jB "_law_counted" J4,jB "_law_told" Zx,jB "_law_small_right" wF,jB "law" s_law,iwant "TooGreat.__init__" vH],[some 2,some 20,some 500,some 3,some 20],[true,true,true,true,true,true,true,true,true,true,true,true,true],true)
def q0:Program:=PySem.Challenge.pw_throwruns_k62_free_rows
def isLaw:Stmt->Bool
 | .FunctionDef f ..=>f == "law"|_=>false
def q:Program:={q0 with main:={q0.main with body:=q0.main.body.filter isLaw}}
def nameOf:Stmt->List Str
 | .FunctionDef f ..=>[f]| .ClassDef f ..=>[f]| .Assign [.Name x _] _ _=>[x]|_=>[]
def ls:List Str:=(q0.main.body.flatMap nameOf).filter (· != "law")
def as:List Addr:=[1,2,3,15,22,23,24,25,28,35,36,37,40,47,48,49,52,59,60,61,64,71,72,73,76,83,84,85,88,95,96,97,100,107,109,110,112,113,114,115,116,119,126,128,129,131,132,133,134,135,138,140,141,143,144,145,147,148,150,151,152,154,155,157,158,159,162,163,164,166,167,169,170,171,173,174,176,177,178,180,181,183,184,185,188,189,190,192,193,195,196,197,199,200,202,203,204,207,208,209,211,212,214,215,216,218,219,221,222,223,225,226,228,229,230,232,233,235,236,237,239,240,242,243,244,247,248,249,251,252,254,255,256,258,259,261,262,263,265,266,268,269,270,272,273,275,276,284,286,287,289,290,291,293,294,296,297,298,300,301,303,304,305,307,308,310,311,312,315,316,317,319,320,322,323]
end My
section
open PySem PySem.W PyProof.Rows
theorem My.hz:OpenLaw.wellSaid PySem.Challenge.rw_throwruns_k62_free_rows=true:=by decide +kernel
theorem My.h2{α β γ:Type}{o:Option α}{f:α->β}{g:α->γ}{b:β}{c:γ}(h1:o.map f=some b)(h2:o.map g=some c):o.map (λs=>(f s,g s))=some (b,c):=by
 cases o with
 |none=>cases h1|some s=>cases h1;cases h2;rfl
theorem My.hu:∀(w:World) (os:OsState),(topFrom treeTable (OpenLaw.row PySem.Challenge.rw_throwruns_k62_free_rows).toRowW.prog w 5948 ⟨boot_heap w.params,#[],boot_drawn,boot_toks,os⟩).map (λs=>openSeen My.q My.ls (importedModules (OpenLaw.row PySem.Challenge.rw_throwruns_k62_free_rows).toRowW.prog.main.body) (λs=>xlAt My.q [] s&&recOk (RowW.records (OpenLaw.row PySem.Challenge.rw_throwruns_k62_free_rows).toRowW) s) true s)=some (openGood My.q My.ls):=by
 intro w os
 kernel_rfl
theorem My.h4{α γ:Type}{o:Option α}{g:α->List γ}{w:List γ}(n:Nat)(ha:o.map (λs=>(g s).take n)=some (w.take n))(hb:o.map (λs=>(g s).drop n)=some (w.drop n)):o.map g=some w:=by
 cases o with
 |none=>cases ha|some s=>exact congrArg some ((List.take_append_drop n (g s)).symm.trans ((congr (congrArg HAppend.hAppend (qJ ha)) (qJ hb)).trans (List.take_append_drop n w)))
theorem My.h5{α γ δ:Type}{o:Option α}{g:α->γ×δ}{w:γ×δ}(ha:o.map (λs=>(g s).1)=some w.1)(hc:o.map (λs=>(g s).2)=some w.2):o.map g=some w:=by
 cases o with
 |none=>cases ha|some s=>exact congrArg some (Prod.ext (qJ ha) (qJ hc))
theorem My.hv0:∀(w:World) (os:OsState),(topFrom treeTable (OpenLaw.row PySem.Challenge.rw_throwruns_k62_free_rows).toRowW.prog w 5948 ⟨boot_heap w.params,#[],boot_drawn,boot_toks,os⟩).map (λs=>((My.Zy (DV.Yi s.heap My.as)).1.take 20))=some (My.wants.1.take 20):=by
 intro w os
 kernel_rfl
theorem My.hv1:∀(w:World) (os:OsState),(topFrom treeTable (OpenLaw.row PySem.Challenge.rw_throwruns_k62_free_rows).toRowW.prog w 5948 ⟨boot_heap w.params,#[],boot_drawn,boot_toks,os⟩).map (λs=>((My.Zy (DV.Yi s.heap My.as)).1.drop 20))=some (My.wants.1.drop 20):=by
 intro w os
 kernel_rfl
theorem My.hvc:∀(w:World) (os:OsState),(topFrom treeTable (OpenLaw.row PySem.Challenge.rw_throwruns_k62_free_rows).toRowW.prog w 5948 ⟨boot_heap w.params,#[],boot_drawn,boot_toks,os⟩).map (λs=>(My.Zy (DV.Yi s.heap My.as)).2)=some My.wants.2:=by
 intro w os
 kernel_rfl
theorem My.hv(w:World)(os:OsState):(topFrom treeTable (OpenLaw.row PySem.Challenge.rw_throwruns_k62_free_rows).toRowW.prog w 5948 ⟨boot_heap w.params,#[],boot_drawn,boot_toks,os⟩).map (λs=>My.Zy (DV.Yi s.heap My.as))=some My.wants:=My.h5 (My.h4 20 (My.hv0 w os) (My.hv1 w os)) (My.hvc w os)
theorem My.ht:∀(w:World) (os:OsState),(topFrom treeTable (OpenLaw.row PySem.Challenge.rw_throwruns_k62_free_rows).toRowW.prog w 5948 ⟨boot_heap w.params,#[],boot_drawn,boot_toks,os⟩).map (λs=>(openSeen My.q My.ls (importedModules (OpenLaw.row PySem.Challenge.rw_throwruns_k62_free_rows).toRowW.prog.main.body) (λs=>xlAt My.q [] s&&recOk (RowW.records (OpenLaw.row PySem.Challenge.rw_throwruns_k62_free_rows).toRowW) s) true s,My.Zy (DV.Yi s.heap My.as)))=some (openGood My.q My.ls,My.wants):=λw os=>My.h2 (My.hu w os) (My.hv w os)
theorem My.ho:opening (OpenLaw.row PySem.Challenge.rw_throwruns_k62_free_rows).toRowW.prog=plainProg (OpenLaw.row PySem.Challenge.rw_throwruns_k62_free_rows).toRowW.prog.main.scope.names:=by kernel_rfl
theorem My.hf:∀s,fenceModules? (OpenLaw.row PySem.Challenge.rw_throwruns_k62_free_rows).toRowW.prog s=some s:=by
 intro s
 kernel_rfl
theorem My.hl:LeftO (OpenLaw.row PySem.Challenge.rw_throwruns_k62_free_rows).toRowW.prog My.q My.ls (λs=>xlAt My.q [] s&&recOk (RowW.records (OpenLaw.row PySem.Challenge.rw_throwruns_k62_free_rows).toRowW) s) (λs=>My.Zy (DV.Yi s.heap My.as)) (λ_=>My.wants) 5948:=by
 intro w;obtain⟨s,hs,hv⟩:=Option.map_eq_some_iff.mp (boot_open My.ho (N:=5948) rfl My.hf w);unfold openEnds;rw[hs];obtain⟨h,g,d,t,os⟩:=s;have h1:h=boot_heap w.params:=congrArg Prod.fst hv;have h2:g=#[]:=congrArg (λx=>x.2.1) hv;have h3:d=boot_drawn:=congrArg (λx=>x.2.2.1) hv;have h4:t=boot_toks:=congrArg (λx=>x.2.2.2) hv;subst h1;subst h2;subst h3;subst h4;exact My.ht w os
end
namespace L2
open PySem PySem.Spec PyProof.Rows
abbrev Key:=Sum Int Str
def keyIs:Key->Value->Bool
 | .inl k,v=>Value.isInt k v| .inr x,v=>Value.isStrOf x v
def keyH(w:World):Key->Int
 | .inl k=>hashInt k| .inr x=>hashStr w x
def yP:∀{k:Key} {v:Value},keyIs k v=true->(∃i t,k=Sum.inl i/\v=Value.int i t)\/(∃x t,k=Sum.inr x/\v=Value.str x t)
 | .inl i,v,h=>by
  obtain⟨t,e⟩:=Value.isInt_shape (k:=i) (v:=v) h;exact .inl ⟨i,t,rfl,e⟩
 | .inr x,v,h=>by
  obtain⟨t,e⟩:=Value.isStrOf_shape (x:=x) (v:=v) h;exact .inr ⟨x,t,rfl,e⟩
def key_ll(a b:Int):decide ((Sum.inl a:Key)=Sum.inl b)=(a==b):=by
 by_cases e:a=b
 ·subst e;simp
 ·have h:¬(Sum.inl a:Key)=Sum.inl b:=λq=>e (Sum.inl.inj q)
  rw[decide_eq_false h];exact(beq_eq_false_iff_ne.mpr e).symm
def key_rr(a b:Str):decide ((Sum.inr a:Key)=Sum.inr b)=decide (a=b):=by
 by_cases e:a=b
 ·subst e;simp
 ·have h:¬(Sum.inr a:Key)=Sum.inr b:=λq=>e (Sum.inr.inj q)
  rw[decide_eq_false h,decide_eq_false e]
def key_lr(a:Int)(b:Str):decide ((Sum.inl a:Key)=Sum.inr b)=false:=decide_eq_false (λq=>nomatch q)
def key_rl(a:Str)(b:Int):decide ((Sum.inr a:Key)=Sum.inl b)=false:=decide_eq_false (λq=>nomatch q)
def Gz(prog:Program)(w:World):PySem.KeyKind prog w Key where
 is:=keyIs
 hash:=keyH w
 inj:=λv a b ha hb=>by
  rcases yP ha with⟨i,t,rfl,rfl⟩|⟨x,t,rfl,rfl⟩
  ·rcases yP hb with⟨j,u,rfl,e⟩|⟨y,u,rfl,e⟩
   ·injection e with e1 _;rw[e1]
   ·exact nomatch e
  ·rcases yP hb with⟨j,u,rfl,e⟩|⟨y,u,rfl,e⟩
   ·exact nomatch e
   ·injection e with e1 _;rw[e1]
 byValue:=λk v h=>by
  rcases yP h with⟨i,t,rfl,rfl⟩|⟨x,t,rfl,rfl⟩<;>rfl
 pyHash:=λhv h=>by
  rcases yP hv with⟨i,t,rfl,rfl⟩|⟨x,t,rfl,rfl⟩
  ·exact wpAny_pyHash_int h
  ·exact wpAny_pyHash_str h
 eqBool:=λhu hv h=>by
  rcases yP hu with⟨i,t,rfl,rfl⟩|⟨x,t,rfl,rfl⟩
  ·rcases yP hv with⟨j,u,rfl,rfl⟩|⟨y,u,rfl,rfl⟩
   ·rw[key_ll]at h;exact wpAny_eqBool_int h
   ·rw[key_lr]at h;exact SeqAt.EqAt.int_str i t y u _ _ _ _ h
  ·rcases yP hv with⟨j,u,rfl,rfl⟩|⟨y,u,rfl,rfl⟩
   ·rw[key_rl]at h;exact SeqAt.EqAt.str_int x t j u _ _ _ _ h
   ·rw[key_rr]at h;exact wpAny_eqBool_str h
 «strs»:=λk x t v h=>by
  rcases yP h with⟨i,u,rfl,e⟩|⟨y,u,rfl,e⟩
  ·exact nomatch e
  ·injection e with e1 _
   subst e1;cases v<;>rfl
set_option genInjectivity true in
inductive V where
 |non|bl (b:Bool)|int (i:Int)|str (x:Str)|byt (b:Array UInt8)|flt (b:UInt64)|ref (a:Addr)|ty (n:String)
 deriving DecidableEq
def yL:V->Value->Prop
 | .non,u=>u=Value.none| .bl b,u=>u=Value.bool b| .int i,u=>∃t,u=Value.int i t| .str x,u=>∃t,u=Value.str x t| .byt b,u=>∃t,u=Value.bytes b t| .flt b,u=>∃t,u=Value.float b t| .ref a,u=>u=Value.ref a| .ty n,u=>u=Value.type n
abbrev yc:List V->List Value->Prop:=Paired yL
theorem yc.length{xs:List V}{us:List Value}(r:yc xs us):xs.length=us.length:=Paired.length r
theorem yc.get:∀{xs:List V} {us:List Value} {i:Nat} {x:V},yc xs us->xs[i]?=some x->∃u,us[i]?=some u/\yL x u
 |_,_,_,_,.nil,e=>by simp at e|_,_,0,_,.cons r _,e=>by simp at e;subst e;exact⟨_,rfl,r⟩
 |_,_,i+1,x,.cons _ t,e=>by
  obtain⟨u,h1,h2⟩:=yc.get (i:=i) (x:=x) t (by simpa using e);exact⟨u,by simpa using h1,h2⟩
theorem yc.set{x:V}{u:Value}(r:yL x u):∀{xs:List V} {us:List Value} (i:Nat),yc xs us->yc (xs.set i x) (us.set i u)
 |_,_,_,.nil=>.nil|_,_,0,.cons _ t=>.cons r t|_,_,i+1,.cons q t=>.cons q (yc.set r i t)
theorem yc.append:∀{xs ys:List V} {us ws:List Value},yc xs us->yc ys ws->yc (xs++ys) (us++ws)
 |_,_,_,_,.nil,s=>s|_,_,_,_,.cons r t,s=>.cons r (yc.append t s)
theorem yc.take:∀{xs:List V} {us:List Value} (n:Nat),yc xs us->yc (xs.take n) (us.take n)
 |_,_,0,_=>.nil|_,_,_+1,.nil=>.nil|_,_,n+1,.cons r t=>.cons r (yc.take n t)
theorem yc.drop:∀{xs:List V} {us:List Value} (n:Nat),yc xs us->yc (xs.drop n) (us.drop n)
 |_,_,0,r=>r|_,_,_+1,.nil=>.nil|_,_,n+1,.cons _ t=>yc.drop n t
def RelO:Option V->Option Value->Prop
 |some v,some u=>yL v u|none,none=>True|_,_=>False
def KV{κ:Type}:List (κ×V)->List (κ×Value)->Prop:=Paired λ(p:κ×V) (q:κ×Value)=>p.1=q.1/\yL p.2 q.2
def kV:Key->V
 | .inl i=>.int i| .inr x=>.str x
inductive HO where
 /-- a list -/
 |l (xs:List V)
 /-- a tuple (never changes) -/
 |t (xs:List V)
 /-- a dict whose keys are ints and texts; one whose keys are tuples of ints and texts (the empty one is both) -/
 |dK (kvs:List (Key×V))|dT (kvs:List (List Key×V))
 /-- a set of ints: its members,its size -/
 |set (S:Int->Bool) (n:Nat)
 /-- an instance of the class at C,its dict at dx,its attributes -/
 |ins (C dx:Addr) (fs:List (Str×V))
 /-- the dict of the instance at x -/
 |own (x:Addr)
 /-- the dict of an exception -/
 |xd (fs:List (Str×V))
 /-- a bound method,f of x -/
 |met (f x:Addr)
 /-- a range object lo,lo+1,.. below hi -/
 |rng (lo hi:Int)
 /-- a thing that is known to the object (the script; a dict while a loop walks it): read,never written while it is so -/
 |frz (o:Obj) (u:HO)
 /-- a code object's table -/
 |tbl (ps:Array Value)
 /-- any other thing,by what is true of its one object (a def of one's own: SetO a S n:=HO.ext fun h=>..) -/
 |ext (φ:Heap->Prop)
abbrev Hp:=Addr->Option HO
def upd(H:Hp)(a:Addr)(o:HO):Hp:=λb=>if b=a then some o else H b
def zY{H:Hp}{a:Addr}{o:HO}:upd H a o a=some o:=by unfold upd;rw[if_pos rfl]
def zG{H:Hp}{a b:Addr}{o:HO}(h:b≠a):upd H a o b=H b:=by unfold upd;rw[if_neg h]
def yj{H:Hp}{a b:Addr}{o:HO}(h:H a=some o)(h':H b=none):a≠b:=by
 intro e;subst e;rw[h]at h';cases h'
section
variable(P:Program)(w:World)
def yd(H:Hp)(h:Heap)(a:Addr):HO->Prop
 | .l xs=>xs.length<=sizeLine/\∃(its:List Value) (n:Nat),yc xs its/\h.get? a=some {cls:=.type "list",data:=.seq its.toArray n}| .t xs=>xs.length<=sizeLine/\∃its:List Value,yc xs its/\IsTup h a its.toArray| .dK kvs=>kvs.length<=sizeLine/\(a==sysModules)=false/\∃vs,KV kvs vs/\h.DictOf (Gz P w) a vs
 | .dT kvs=>kvs.length<=sizeLine/\(a==sysModules)=false/\∃xs:List (List Key×Addr×Value),
   Paired (λ(p:List Key×V) (q:List Key×Addr×Value)=>p.1=q.1/\H q.2.1=some (.t (p.1.map kV))/\yL p.2 q.2.2) kvs xs /\
   ∃o es ep,h.get? a=some o/\o.ExactDict/\o.data=.dict es ep/\es.toList=xs.map (entryOfKey (tupleKind (Gz P w)))/\(xs.map (·.1)).Nodup
 | .set S n=>h.SetOf (intKind P w) a S n
 | .ins C dx fs=>H dx=some (.own a)/\fs.length<=1000/\dx≠a/\h.get? a=some (PySem.W.instObj C dx) /\
   ∃mA,h.Ns1 dx mA/\(∀f,RelO (fs.lookup f) (mA f))/\PySem.Within mA (fs.map (·.1))
 | .own _=>∃o,h.get? a=some o| .xd fs=>∃mA,h.Ns1 a mA/\∀f,RelO (fs.lookup f) (mA f)| .rng lo hi=>∃t u v,h.get? a=some {cls:=.type "range",data:=.fields #[.int lo t,.int hi u,.int 1 v]}| .frz o u=>h.get? a=some o/\yd H h a u| .tbl ps=>h.get? a=some {cls:=.none,data:=.fields ps}| .met f x=>h.get? a=some (methodObj (.ref f) (.ref x))| .ext φ=>φ h/\(∃o,h.get? a=some o)/\∀h1 h2:Heap,φ h1->(∀o,h1.get? a=some o->h2.get? a=some o)->φ h2
def HOk(H:Hp)(h:Heap):Prop:=∀a o,H a=some o->yd P w H h a o
end
section
variable{P:Program}{w:World}{H H':Hp}{h h':Heap}{a:Addr}{o:HO}
theorem yd.lt(x:yd P w H h a o):a<h.objs.size:=by
 cases o with
 |l xs=>obtain⟨_,_,_,_,e⟩:=x;exact lt_size e|t xs=>obtain⟨_,_,_,p⟩:=x;exact p.lt|dK kvs=>obtain⟨_,_,_,_,o,_,_,e,_⟩:=x;exact lt_size e|dT kvs=>obtain⟨_,_,_,_,o,_,_,e,_⟩:=x;exact lt_size e|set S n=>obtain⟨o,_,_,_,e,_⟩:=x;exact lt_size e|ins C dx fs=>obtain⟨_,_,_,e,_⟩:=x;exact lt_size e|own y=>obtain⟨_,e⟩:=x;exact lt_size e|xd fs=>obtain⟨_,⟨_,_,_,e,_⟩,_⟩:=x;exact lt_size e|rng lo hi=>obtain⟨_,_,_,e⟩:=x;exact lt_size e|frz ob u=>obtain⟨e,_⟩:=x;exact lt_size e|tbl ps=>exact lt_size (show h.get? a=some _ from x)|met f y=>exact lt_size (show h.get? a=some _ from x)|ext φ=>obtain⟨_,⟨_,e⟩,_⟩:=x;exact lt_size e
theorem Paired.mapP{α β:Type}{F G:α->β->Prop}:∀{l₁:List α} {l₂:List β},Paired F l₁ l₂->(∀a b,F a b->G a b)->Paired G l₁ l₂
 |_,_,.nil,_=>.nil|_,_,.cons r t,f=>.cons (f _ _ r) (Paired.mapP t f)
def yd.stay(x:yd P w H h a o)(k:∀b u,(b=a\/H b=some (.own a))->h.get? b=some u->h'.get? b=some u)
  (ho:∀b,H b=some (.own a)->H' b=some (.own a)) (ht:∀b xs,H b=some (.t xs)->H' b=some (.t xs)):yd P w H' h' a o:=by
 induction o with
 |l xs=>obtain⟨z,its,n,r,e⟩:=x;exact⟨z,its,n,r,k _ _ (.inl rfl) e⟩|t xs=>obtain⟨z,its,r,ob,e,c⟩:=x;exact⟨z,its,r,ob,k _ _ (.inl rfl) e,c⟩|dK kvs=>obtain⟨z,y,vs,r,ob,es,ep,e,c⟩:=x;exact⟨z,y,vs,r,ob,es,ep,k _ _ (.inl rfl) e,c⟩
 |dT kvs =>
  obtain⟨z,y,xs,r,ob,es,ep,e,c⟩:=x;exact⟨z,y,xs,Paired.mapP r λp q z=>⟨z.1,ht _ _ z.2.1,z.2.2⟩,ob,es,ep,k _ _ (.inl rfl) e,c⟩
 |set S n=>obtain⟨ob,es,ep,t,e,c⟩:=x;exact⟨ob,es,ep,t,k _ _ (.inl rfl) e,c⟩
 |ins C dx fs =>
  obtain⟨d,z,ne,e,mA,⟨od,es,ep,e2,c⟩,r⟩:=x;exact⟨ho _ d,z,ne,k _ _ (.inl rfl) e,mA,⟨od,es,ep,k _ _ (.inr d) e2,c⟩,r⟩
 |own y=>obtain⟨ob,e⟩:=x;exact⟨ob,k _ _ (.inl rfl) e⟩|xd fs=>obtain⟨mA,⟨od,es,ep,e,c⟩,r⟩:=x;exact⟨mA,⟨od,es,ep,k _ _ (.inl rfl) e,c⟩,r⟩|rng lo hi=>obtain⟨t,u,v,e⟩:=x;exact⟨t,u,v,k _ _ (.inl rfl) e⟩|frz ob u ih=>obtain⟨e,q⟩:=x;exact⟨k _ _ (.inl rfl) e,ih q⟩
 |tbl ps =>
  have e:h.get? a=some {cls:=.none,data:=.fields ps}:=x;show h'.get? a=some {cls:=.none,data:=.fields ps};exact k a _ (.inl rfl) e
 |met f y =>
  have e:h.get? a=some (methodObj (.ref f) (.ref y)):=x;show h'.get? a=some (methodObj (.ref f) (.ref y));exact k a _ (.inl rfl) e
 |ext φ=>obtain⟨p,⟨o,e⟩,st⟩:=x;exact⟨st _ _ p λo q=>k _ _ (.inl rfl) q,⟨o,k _ _ (.inl rfl) e⟩,st⟩
theorem HOk.lt(x:HOk P w H h)(e:H a=some o):a<h.objs.size:=(x a o e).lt
def HOk.fresh(x:HOk P w H h)(e:h.objs.size<=a):H a=none:=by
 cases q:H a with
 |none=>rfl|some u=>exact absurd (lt_of_lt_of_le (x.lt q) e) (lt_irrefl _)
def HOk.kept(x:HOk P w H h)(k:∀b u,h.get? b=some u->h'.get? b=some u):HOk P w H h':=λa o e =>
 (x a o e).stay (λb u _ q=>k b u q) (λ_ q=>q) λ_ _ q=>q
def HOk.laid(x:HOk P w H h)(k:∀b u,h.get? b=some u->h'.get? b=some u)(hp:h.objs.size<=a)(new:yd P w (upd H a o) h' a o):HOk P w (upd H a o) h':=λb u e=>by
 have hn:=x.fresh hp;by_cases hb:b=a
 ·subst hb;rw[zY]at e;cases e;exact new
 ·rw[zG hb]at e
  exact(x b u e).stay (λc v _ q=>k c v q) (λc q=>by rw[zG (yj q hn)];exact q) λc xs q=>by rw[zG (yj q hn)];exact q
end
def Rd(H:Hp)(a:Addr)(u:HO):Prop:=H a=some u\/∃o,H a=some (.frz o u)
def Rd.ok{P:Program}{w:World}{H:Hp}{h:Heap}{a:Addr}{u:HO}(r:Rd H a u)(x:HOk P w H h):yd P w H h a u:=by
 rcases r with r|⟨o,r⟩
 ·exact x a u r
 ·obtain⟨_,q⟩:=x a _ r
  exact q
def Mut:Option HO->Prop
 |some (.l _)=>True|some (.dK _)=>True|some (.dT _)=>True|some (.set _ _)=>True|some (.ins _ _ _)=>True|some (.ext _)=>True|_=>False
section
variable{P:Program}{w:World}{H:Hp}{h h':Heap}{x e:Addr}{o':HO}
def HOk.write(ok:HOk P w H h)(mu:Mut (H x))(he:e=x\/H e=some (.own x))(k:∀b u,b≠e->h.get? b=some u->h'.get? b=some u)(heo:∃u,h'.get? e=some u)
  (new:yd P w (upd H x o') h' x o'):HOk P w (upd H x o') h':=λb u q=>by
 have nown:∀c y,H c=some (.own y)->c≠x:=λc y r z=>by subst z;rw[r]at mu;exact mu
 have ntup:∀c xs,H c=some (.t xs)->c≠x:=λc xs r z=>by subst z;rw[r]at mu;exact mu
 by_cases hb:b=x
 ·subst hb;rw[zY]at q;cases q;exact new
 ·rw[zG hb]at q
  by_cases hbe:b=e
  ·have q':H b=some (.own x):=by
    rcases he with z|z
    ·exact absurd (hbe.trans z) hb
    ·rw[hbe];exact z
   rw[q]at q';cases q';obtain⟨v,hv⟩:=heo;exact⟨v,by rw[hbe];exact hv⟩
  ·refine(ok b u q).stay (λc v hc r=>k c v ?_ r) (λc r=>by rw[zG (nown c b r)];exact r) λc xs r=>by rw[zG (ntup c xs r)];exact r
   rcases hc with rfl|hc
   ·exact hbe
   ·rintro rfl
    rcases he with z|z
    ·exact nown c b hc z
    ·rw[hc]at z;cases z;exact hb rfl
end
structure Un(fs ex:List Addr)(H H':Hp)(h h':Heap):Prop where
 keep:∀b o,h.get? b=some o->H b=none->b∉fs->b∉ex->h'.get? b=some o
 slot:∀b o,h.get? b=some o->H b=none->b∈fs->b∉ex->∃sl,h'.get? b=some {o with slots:=sl}
 free:∀b o,h.get? b=some o->H b=none->b∉ex->H' b=none
 there:∀b o,h.get? b=some o->b∉ex->∃o',h'.get? b=some o'
 tups:∀b xs,H b=some (.t xs)->H' b=some (.t xs)
 frzs:∀b o u,H b=some (.frz o u)->H' b=some (.frz o u)
 tbls:∀b ps,H b=some (.tbl ps)->∃more,H' b=some (.tbl (ps++more))
section
variable{fs fs' ex ex':List Addr}{H H1 H2:Hp}{h h1 h2 h':Heap}{a x e:Addr}{o:HO}
def Un.any(u:Un fs ex H H1 h h1){b:Addr}{ob:Obj}(q:h.get? b=some ob)(n:H b=none)(hx:b∉ex):∃sl,h1.get? b=some {ob with slots:=sl}:=by
 by_cases hb:b∈fs
 ·exact u.slot b ob q n hb hx
 ·exact⟨ob.slots,u.keep b ob q n hb hx⟩
def Un.kept(k:∀b u,h.get? b=some u->h'.get? b=some u):Un fs ex H H h h' :=
 ⟨λb ob q _ _ _=>k b ob q,λb ob q _ _ _=>⟨ob.slots,k b ob q⟩,λ_ _ _ n _=>n,λb ob q _=>⟨ob,k b ob q⟩,λ_ _ q=>q,λ_ _ _ q=>q,λ_ ps q=>⟨#[],by rw[q];simp⟩⟩
def Un.refl:Un fs ex H H h h:=Un.kept λ_ _ q=>q
def Un.laid(k:∀b u,h.get? b=some u->h'.get? b=some u)(hp:h.objs.size<=a)(hn:H a=none):Un fs ex H (upd H a o) h h' where
 keep:=λb u q _ _ _=>k b u q
 slot:=λb u q _ _ _=>⟨u.slots,k b u q⟩
 free:=λb u q n _=>by rw[zG (ne_of_lt (lt_of_lt_of_le (lt_size q) hp))];exact n
 there:=λb u q _=>⟨u,k b u q⟩
 tups:=λb xs q=>by rw[zG (yj q hn)];exact q
 frzs:=λb u xs q=>by rw[zG (yj q hn)];exact q
 tbls:=λb ps q=>⟨#[],by rw[zG (yj q hn),q];simp⟩
def Un.write(mu:Mut (H x))(he:e=x\/H e=some (.own x))(k:∀b u,b≠e->h.get? b=some u->h'.get? b=some u)(heo:∃u,h'.get? e=some u):Un fs ex H (upd H x o) h h':=by
 have hx:∀b,H b=none->b≠x:=λb n z=>by subst z;rw[n]at mu;exact mu
 have hb:∀b,H b=none->b≠e:=λb n z=>by
  subst z;rcases he with r|r
  ·exact hx b n r
  ·rw[n]at r;cases r
 have hm:∀b u,H b=some u->¬Mut (some u)->b≠x:=λb u q nm z=>by subst z;rw[q]at mu;exact nm mu
 refine⟨λb u q n _ _=>k b u (hb b n) q,λb u q n _ _=>⟨u.slots,k b u (hb b n) q⟩,λb u q n _=>by rw[zG (hx b n)];exact n,λb u q _=>?_,
  λb xs q=>by rw[zG (hm b _ q λz=>z)];exact q,λb u xs q=>by rw[zG (hm b _ q λz=>z)];exact q,λb ps q=>⟨#[],by rw[zG (hm b _ q λz=>z),q];simp⟩⟩
 by_cases hbe:b=e
 ·subst hbe;exact heo
 ·exact⟨u,k b u hbe q⟩
end
def trk(h:Heap)(H:Hp):List Addr:=(List.range h.objs.size).filter λa=>(H a).isSome
def zDs(h:Heap)(H:Hp):Heap:=hideAll h (trk h H)
def zBN(h:Heap)(H:Hp):(zDs h H).objs.size=h.objs.size:=PySem.W.hideAll_size _ _
def zDt{h:Heap}{H:Hp}{b:Addr}{o:Obj}(e:h.get? b=some o)(n:H b=none):(zDs h H).get? b=some o :=
 hideAll_get _ e λhm=>by
  have q:(H b).isSome=true:=(mem_filter.mp hm).2;rw[n]at q;simp at q
def of_hidT{h:Heap}{H:Hp}{b:Addr}{o:Obj}(e:(zDs h H).get? b=some o):h.get? b=some o/\H b=none:=by
 have e':h.get? b=some o:=of_hideAll (trk h H) e;refine⟨e',?_⟩;cases q:H b with
 |none=>rfl
 |some x =>
  have hm:b∈trk h H:=mem_filter.mpr ⟨mem_range.mpr (lt_size e'),by simp[q]⟩;have z:(zDs h H).get? b=none:=PySem.W.hideAll_none (trk h H) hm;rw[z]at e;cases e
def allNews(g h:Heap)(L:Addr):List (Addr×Obj):=(List.range h.objs.size).filterMap λa=>if a=L\/(g.get? a).isSome=true then none else(h.get? a).map λo=>(a,o)
def j9(g h:Heap)(L d:Addr):List (Addr×Obj):=(allNews g h L).filter λp=>decide (p.1≠d)
structure Mod(K:qH)(mg:Str->Option Value)(base:Heap):Prop where
 kin:K.In base
 glob:base.Ns mainGlobals mg
 blt:∃mb,base.Ns builtinsNs mb/\∀x:Str,x≠"__name__"->mb x=bootBuiltins x
 nolimit:base.NoLimit
structure Cx where
 prog:Program
 w:World
 K:qH
 mg:Str->Option Value
 base:Heap
 A:Around
 N:List Str
 s₀:Shared
 H₀:Hp
 env:Env
 outer:List Env
 stack:List Env
 ex:List Addr
 fn:Str->Bool
 calm:Bool
 pn:List (Addr×Obj)
 xe:Value->Shared->Prop
def frs(l:List Env):List Addr:=l.filterMap (·.frame)
abbrev Cx.fs(X:Cx):List Addr:=frs X.outer
def Vis(sc:Scope)(x:Str):Prop:=sc.names.lookup x=some .local\/sc.names.lookup x=some .cell\/sc.names.lookup x=some .free
def Loc(sc:Scope)(x:Str):Prop:=sc.names.lookup x=some .local\/sc.names.lookup x=some .cell
def Look(env:Env)(h:Heap)(m:Str->Option Value)(x:Str)(u:Value):Prop :=
 (env.kindOf x=some .local/\m x=some u)\/((env.kindOf x=some .cell\/env.kindOf x=some .free)/\∃c,env.cells.lookup x=some c/\h.IsCell c (some u))
structure Cx.Ok(X:Cx):Prop where
 mod:Mod X.K X.mg X.base
 kind:X.env.scope.kind=.function
 glob:X.env.globals=mainGlobals
 blt:X.env.builtins=builtinsNs
 above:X.s₀.heap.objs.size<=X.env.locals
 inj:∀x y c,X.env.cells.lookup x=some c->X.env.cells.lookup y=some c->x=y
 has:∀x,(X.env.kindOf x=some .cell\/X.env.kindOf x=some .free)->∃c,X.env.cells.lookup x=some c
 cab:∀x c,X.fn x=true->X.env.cells.lookup x=some c->X.s₀.heap.objs.size<=c
 hd:X.calm=true->X.A.handled=none
 frames:X.A.frames=some X.stack
 stk:X.stack=X.outer\/(X.stack=X.env::X.outer/\X.env.frame=some X.env.locals)
 exf:∀b∈X.ex,b≠X.env.locals/\∀x c,X.env.cells.lookup x=some c->c≠b
 bs:∀b o,X.base.get? b=some o->X.s₀.heap.get? b=some o/\X.H₀ b=none
 bsz:X.base.objs.size<=X.s₀.heap.objs.size
 noex:∀b o,X.base.get? b=some o->b∉X.ex
 exfs:∀b∈X.ex,b∉X.fs
 funs:X.s₀.heap.FunFrames X.base X.outer
 frf:∀b∈X.fs,X.H₀ b=none
structure Inv(X:Cx)(pins:List (Addr×Obj))(O:List (Option V))(H:Hp)(s:Shared):Prop where
 ok:X.Ok
 os:s.os=X.s₀.os
 bare:AllBare s.gens
 base:Un X.fs X.ex X.H₀ H X.s₀.heap s.heap
 loc:∃m,s.heap.Ns X.env.locals m/\∀(i:Nat) (x:Str) (v:V),X.N[i]?=some x->O[i]?=some (some v)->Vis X.env.scope x->∃u,yL v u/\Look X.env s.heap m x u
 cell:∀x c,X.env.cells.lookup x=some c->∃v,s.heap.IsCell c v
 free:H X.env.locals=none
 freeC:∀x c,X.env.cells.lookup x=some c->H c=none
 pin:∀p∈X.pn++pins,s.heap.get? p.1=some p.2/\H p.1=none/\p.1≠X.env.locals/\p.1∉X.fs/\∀v,p.2.data≠.cell v
 hok:HOk X.prog X.w H s.heap
 len:O.length=X.N.length
section
variable{X:Cx}{pins:List (Addr×Obj)}{O:List (Option V)}{H H':Hp}{s:Shared}{h':Heap}
def Cx.Ok.nofr(ok:X.Ok){b:Addr}{o:Obj}(e:X.base.get? b=some o):b∉X.fs:=λhb=>by
 have:=(ok.funs.mem hb).1;rw[e]at this;cases this
theorem Inv.bs(I:Inv X pins O H s):∀b o,X.base.get? b=some o->s.heap.get? b=some o/\H b=none:=λb o e =>
 ⟨I.base.keep b o (I.ok.bs b o e).1 (I.ok.bs b o e).2 (I.ok.nofr e) (I.ok.noex b o e),I.base.free b o (I.ok.bs b o e).1 (I.ok.bs b o e).2 (I.ok.noex b o e)⟩
def Inv.bk(I:Inv X pins O H s):∀b o,X.base.get? b=some o->s.heap.get? b=some o:=λb o e=>(I.bs b o e).1
theorem Inv.mod(I:Inv X pins O H s):Mod X.K X.mg X.base:=I.ok.mod
def Inv.kIn(I:Inv X pins O H s):X.K.In s.heap:=I.ok.mod.kin.keeps I.bk
theorem Inv.lt(I:Inv X pins O H s):X.env.locals<s.heap.objs.size:=let ⟨_,hn,_⟩:=I.loc;hn.lt
def Inv.sz(I:Inv X pins O H s):X.s₀.heap.objs.size<=s.heap.objs.size:=le_trans I.ok.above (Nat.le_of_lt I.lt)
def Inv.nofs(I:Inv X pins O H s){a:Addr}(h:s.heap.objs.size<=a):a∉X.fs:=λhb=>by
 obtain⟨_,o,ho,_⟩:=I.ok.funs.mem hb;exact absurd (lt_of_lt_of_le (lt_size ho) (le_trans I.sz h)) (lt_irrefl _)
def Inv.cne(I:Inv X pins O H s):∀x c,X.env.cells.lookup x=some c->c≠X.env.locals:=λx c e z=>by
 obtain⟨v,o,ho,hd⟩:=I.cell x c e;obtain⟨m,⟨o',es,ep,ho',hd',_⟩,_⟩:=I.loc;rw[z,ho']at ho;cases ho;rw[hd']at hd;cases hd
theorem Inv.funs(I:Inv X pins O H s):s.heap.FunFrames X.base X.outer:=by
 have all:∀(l:List Env),(∀b∈frs l,b∈X.fs)->X.s₀.heap.FunFrames X.base l->s.heap.FunFrames X.base l:=by
  intro l
  induction l with
  |nil=>intro _ _;trivial
  |cons env r ih =>
   intro hs hl;obtain⟨hk,⟨L,o,hf,hn,ho,hd⟩,hr⟩:=hl;have hL:L∈X.fs:=hs L (by unfold frs;rw[filterMap_cons,hf];exact qE);obtain⟨sl,e⟩:=I.base.slot L o ho (I.ok.frf L hL) hL λz=>I.ok.exfs L z hL
   exact⟨hk,⟨L,_,hf,hn,e,hd⟩,ih (λb hb=>hs b (by unfold frs;rw[filterMap_cons,hf];exact qD _ hb)) hr⟩
 exact all X.outer (λ_ hb=>hb) I.ok.funs
theorem Inv.stack(I:Inv X pins O H s):s.heap.FunFrames X.base X.stack:=by
 rcases I.ok.stk with e|⟨e,hf⟩
 ·rw[e];exact I.funs
 ·rw[e]
  obtain⟨m,hn,_⟩:=I.loc;refine .cons (by rw[I.ok.kind];decide) hf hn ?_ I.funs;exact Heap.get?_none_of_le (le_trans I.ok.bsz I.ok.above)
def Inv.stkSub(I:Inv X pins O H s):∀b∈frs X.stack,b∈X.env.locals::X.fs:=λb hb=>by
 rcases I.ok.stk with e|⟨e,hf⟩
 ·rw[e]at hb;exact qD _ hb
 ·rw[e]at hb
  unfold frs at hb;rw[filterMap_cons,hf]at hb;exact hb
def Inv.stkFree(I:Inv X pins O H s):∀b∈frs X.stack,H b=none:=λb hb=>by
 rcases mem_cons.mp (I.stkSub b hb)with e|hb
 ·rw[e];exact I.free
 ·obtain⟨_,o,ho,_⟩:=I.ok.funs.mem hb
  exact I.base.free b o ho (I.ok.frf b hb) λz=>I.ok.exfs b z hb
def Inv.step{g':Array GenState}{t':Nat}{d':Drawn}{ch:List Addr}(I:Inv X pins O H s)
  (hch:∀b∈ch,(b∈X.ex\/X.s₀.heap.objs.size<=b)/\b≠X.env.locals/\(∀x c,X.env.cells.lookup x=some c->c≠b)/\∀p∈X.pn++pins,p.1≠b)
  (keep:∀b o,b≠X.env.locals->b∉X.fs->b∉ch->s.heap.get? b=some o->H b=none->h'.get? b=some o)
  (slot:∀b o,b≠X.env.locals->b∈X.fs->b∉ch->s.heap.get? b=some o->H b=none->∃sl,h'.get? b=some {o with slots:=sl}) (free:∀b o,b∉ch->s.heap.get? b=some o->H b=none->H' b=none)
  (there:∀b o,b∉ch->s.heap.get? b=some o->∃o',h'.get? b=some o')
  (tups:∀b xs,H b=some (.t xs)->H' b=some (.t xs)) (frzs:∀b o u,H b=some (.frz o u)->H' b=some (.frz o u)) (tbls:∀b ps,H b=some (.tbl ps)->∃more,H' b=some (.tbl (ps++more)))
  (ns:∀m,s.heap.Ns X.env.locals m->h'.Ns X.env.locals m) (hok:HOk X.prog X.w H' h') (hg:AllBare g') :
  Inv X pins O H' {s with heap:=h',gens:=g',drawn:=d',toks:=t'}:=by
 have neL:∀b o,X.s₀.heap.get? b=some o->b≠X.env.locals:=λb o e=>ne_of_lt (lt_of_lt_of_le (lt_size e) I.ok.above)
 have neC:∀b o,X.s₀.heap.get? b=some o->b∉X.ex->b∉ch:=λb o e hx hb=>by
  rcases(hch b hb).1 with z|z
  ·exact hx z
  ·exact absurd (lt_of_lt_of_le (lt_size e) z) (lt_irrefl _)
 have cellK:∀x c,X.env.cells.lookup x=some c->∀v,s.heap.IsCell c v->h'.IsCell c v:=λx c e v ⟨o,ho,hd⟩=>by
  have nch:c∉ch:=λz=>(hch c z).2.2.1 x c e rfl
  by_cases hc:c∈X.fs
  ·obtain⟨sl,q⟩:=slot c o (I.cne x c e) hc nch ho (I.freeC x c e)
   exact⟨_,q,hd⟩
  ·exact⟨o,keep c o (I.cne x c e) hc nch ho (I.freeC x c e),hd⟩
 refine⟨I.ok,I.os,hg,⟨λb o e n hb hx=>?_,λb o e n hb hx=>?_,λb o e n hx=>?_,λb o e hx=>?_,λb xs e=>tups b xs (I.base.tups b xs e),λb o xs e=>frzs b o xs (I.base.frzs b o xs e),λb ps e=>?_⟩,?_,λx c e=>?_,?_,λx c e=>?_,λp hp=>?_,hok,I.len⟩
 ·exact keep b o (neL b o e) hb (neC b o e hx) (I.base.keep b o e n hb hx) (I.base.free b o e n hx)
 ·obtain⟨sl,e1⟩:=I.base.slot b o e n hb hx
  obtain⟨sl',e2⟩:=slot b _ (neL b o e) hb (neC b o e hx) e1 (I.base.free b o e n hx);exact⟨sl',e2⟩
 ·obtain⟨o',e1⟩:=I.base.there b o e hx
  exact free b o' (neC b o e hx) e1 (I.base.free b o e n hx)
 ·obtain⟨o',e1⟩:=I.base.there b o e hx
  exact there b o' (neC b o e hx) e1
 ·obtain⟨m1,e1⟩:=I.base.tbls b ps e
  obtain⟨m2,e2⟩:=tbls b _ e1;exact⟨m1++m2,by rw[e2,Array.append_assoc]⟩
 ·obtain⟨m,hn,hl⟩:=I.loc
  refine⟨m,ns m hn,λi x v e1 e2 e3=>?_⟩;obtain⟨u,r,l⟩:=hl i x v e1 e2 e3;refine⟨u,r,?_⟩;rcases l with l|⟨k,c,e,z⟩
  ·exact .inl l
  ·exact .inr ⟨k,c,e,cellK x c e _ z⟩
 ·obtain⟨v,z⟩:=I.cell x c e
  exact⟨v,cellK x c e v z⟩
 ·obtain⟨m,⟨o,_,_,ho,_⟩,_⟩:=I.loc
  exact free _ o (λz=>(hch _ z).2.1 rfl) ho I.free
 ·obtain⟨v,o,ho,hd⟩:=I.cell x c e
  exact free c o (λz=>(hch c z).2.2.1 x c e rfl) ho (I.freeC x c e)
 ·obtain⟨e,n,ne,nf,d⟩:=I.pin p hp
  have nch:p.1∉ch:=λz=>(hch p.1 z).2.2.2 p hp rfl
  exact⟨keep p.1 p.2 ne nf nch e n,free p.1 p.2 nch e n,ne,nf,d⟩
def Inv.un{t':Nat}(I:Inv X pins O H s)(u:Un X.fs [] H H' s.heap h')(hok:HOk X.prog X.w H' h'):Inv X pins O H' {s with heap:=h',toks:=t'}:=by
 obtain⟨m,⟨o,es,ep,ho,r⟩,_⟩:=id I.loc;obtain⟨sl,hL⟩:=u.any ho I.free (by simp);exact I.step (g':=s.gens) (d':=s.drawn) (ch:=[]) (λ_ z=>nomatch z) (λb o _ hb _ e n=>u.keep b o e n hb (by simp)) (λb o _ hb _ e n=>u.slot b o e n hb (by simp)) (λb o _ e n=>u.free b o e n (by simp)) (λb o _ e=>u.there b o e (by simp)) u.tups u.frzs u.tbls (λm' hm=>by
  obtain⟨o',es',ep',ho',r'⟩:=hm;rw[ho]at ho';cases ho';exact⟨_,es',ep',hL,r'⟩) hok I.bare
def Inv.call{g':Array GenState}{t':Nat}{d':Drawn}{ch:List Addr}(I:Inv X pins O H s)(u:Un (frs X.stack) ch H H' s.heap h')(hok:HOk X.prog X.w H' h')(hg:AllBare g')
  (hch:∀b∈ch,(b∈X.ex\/X.s₀.heap.objs.size<=b)/\b≠X.env.locals/\(∀x c,X.env.cells.lookup x=some c->c≠b)/\∀p∈X.pn++pins,p.1≠b) :
  Inv X pins O H' {s with heap:=h',gens:=g',drawn:=d',toks:=t'}:=by
 obtain⟨m,⟨o,es,ep,ho,r⟩,_⟩:=id I.loc;obtain⟨sl,hL⟩:=u.any ho I.free λz=>(hch _ z).2.1 rfl
 exact I.step (ch:=ch) hch (λb o hL hb hc e n=>u.keep b o e n (λz=>(mem_cons.mp (I.stkSub b z)).elim hL hb) hc) (λb o _ _ hc e n=>u.any e n hc) (λb o hc e n=>u.free b o e n hc) (λb o hc e=>u.there b o e hc) u.tups u.frzs u.tbls (λm' hm=>by
  obtain⟨o',es',ep',ho',r'⟩:=hm;rw[ho]at ho';cases ho';exact⟨_,es',ep',hL,r'⟩) hok hg
def Inv.turned{t':Nat}{it:Addr}(I:Inv X pins O H s)(k:∀b o,b≠it->s.heap.get? b=some o->h'.get? b=some o)(hn:H it=none)(hL:it≠X.env.locals)
  (h1:it∈X.ex\/X.s₀.heap.objs.size<=it) (h2:∀x c,X.env.cells.lookup x=some c->c≠it) (h3:∀p∈X.pn++pins,p.1≠it):Inv X pins O H {s with heap:=h',toks:=t'}:=by
 have nit:∀b u,H b=some u->b≠it:=λb u e z=>by rw[z,hn]at e;cases e
 refine I.step (g':=s.gens) (d':=s.drawn) (ch:=[it]) (λb hb=>?_) (λb o _ _ hc e _=>k b o (λz=>hc (by simp[z])) e) (λb o _ _ hc e _=>⟨o.slots,k b o (λz=>hc (by simp[z])) e⟩) (λ_ _ _ _ n=>n)
  (λb o hc e=>⟨o,k b o (λz=>hc (by simp[z])) e⟩) (λ_ _ e=>e) (λ_ _ _ e=>e) (λb ps e=>⟨#[],by rw[e];simp⟩) (λm hm=>?_) (λb u e=>?_) I.bare
 ·have e:b=it:=by simpa using hb
  subst e;exact⟨h1,hL,h2,h3⟩
 ·obtain⟨o,es,ep,ho,r⟩:=hm
  exact⟨o,es,ep,k _ o (Ne.symm hL) ho,r⟩
 ·refine(I.hok b u e).stay (λc v hc q=>k c v ?_ q) (λ_ q=>q) λ_ _ q=>q
  rcases hc with z|z
  ·rw[z];exact nit b u e
  ·exact nit c _ z
def Inv.tok(I:Inv X pins O H s)(t:Nat):Inv X pins O H {s with toks:=t}:=I.un (h':=s.heap) (t':=t) Un.refl I.hok
theorem Inv.kept{t':Nat}(I:Inv X pins O H s)(k:∀b u,s.heap.get? b=some u->h'.get? b=some u):Inv X pins O H {s with heap:=h',toks:=t'}:=I.un (Un.kept k) (I.hok.kept k)
theorem Inv.laid{a:Addr}{o:HO}{t':Nat}(I:Inv X pins O H s)(k:∀b u,s.heap.get? b=some u->h'.get? b=some u)(hp:s.heap.objs.size<=a)(new:yd X.prog X.w (upd H a o) h' a o) :
  Inv X pins O (upd H a o) {s with heap:=h',toks:=t'}:=I.un (Un.laid k hp (I.hok.fresh hp)) (I.hok.laid k hp new)
theorem Inv.write{x e:Addr}{o:HO}{t':Nat}(I:Inv X pins O H s)(mu:Mut (H x))(he:e=x\/H e=some (.own x))(k:∀b u,b≠e->s.heap.get? b=some u->h'.get? b=some u)(heo:∃u,h'.get? e=some u)
  (new:yd X.prog X.w (upd H x o) h' x o):Inv X pins O (upd H x o) {s with heap:=h',toks:=t'}:=I.un (Un.write mu he k heo) (I.hok.write mu he k heo new)
def Inv.pins_of{pins':List (Addr×Obj)}(I:Inv X pins O H s)(h:∀p∈pins',s.heap.get? p.1=some p.2/\H p.1=none/\p.1≠X.env.locals/\p.1∉X.fs/\∀v,p.2.data≠.cell v):Inv X pins' O H s :=
 ⟨I.ok,I.os,I.bare,I.base,I.loc,I.cell,I.free,I.freeC,λp hp=>(mem_append.mp hp).elim (λz=>I.pin p (mem_append_left _ z)) (h p),I.hok,I.len⟩
def vd{N:List Str}(hN:N.Nodup){i j:Nat}{x:Str}(a:N[i]?=some x)(b:N[j]?=some x):i=j:=by
 obtain⟨h1,e1⟩:=qG.mp a;obtain⟨h2,e2⟩:=qG.mp b;exact(List.getElem_inj hN).mp (e1.trans e2.symm)
def Zz{M:Model}{A:Around}{E:Value->Shared->Prop}{i:Nat}{x:Str}{v:V}{u:Value}{Q:Unit->Shared->Prop}(I:Inv X pins O H s)(hN:X.N.Nodup)(hi:X.N[i]?=some x)(hx:Loc X.env.scope x)(r:yL v u)
  (h:∀s',Inv X pins (O.set i (some v)) H s'->(∃a,Heap.SameBut a s.heap s'.heap/\(a=X.env.locals\/X.env.cells.lookup x=some a))->Q () s') (hf:X.fn x=true\/X.env.scope.names.lookup x=some .local:=by first|exact .inl rfl|exact .inr rfl|assumption):wpAny M A (storeName X.env x u) Q E s:=by
 obtain⟨m,hn,hl⟩:=id I.loc;have hcls:(X.env.scope.kind==.class||(X.env.scope.kind==.module&&X.env.locals != X.env.globals))=false:=by rw[I.ok.kind];rfl
 have hiO:i<O.length:=by rw[I.len];exact(qG.mp hi).1
 have cne:=I.cne;have tracked:∀{a:Addr} {h':Heap},(∃o,s.heap.get? a=some o/\H a=none)->Heap.SameBut a s.heap h'->HOk X.prog X.w H h':=λ{a h'} ha hs b ob e=>by
  obtain⟨_,_,hfree⟩:=ha;refine(I.hok b ob e).stay (λc w' hc q=>(hs.2 c ?_).trans q) (λ_ q=>q) λ_ _ q=>q
  rintro rfl
  rcases hc with rfl|hc
  ·rw[hfree]at e;cases e
  ·rw[hfree]at hc;cases hc
 rcases hx with hk|hk
 ·refine wpAny_storeName_local hk hn (λh' hn' hs=>?_) hcls
  obtain⟨oL,_,_,hoL,_⟩:=id hn;refine h _ ⟨I.ok,I.os,I.bare,⟨λb o e n hb hx=>?_,λb o e n hb hx=>?_,I.base.free,λb o e hx=>?_,I.base.tups,I.base.frzs,I.base.tbls⟩,⟨_,hn',λj y v' e1 e2 e3=>?_⟩,λy c e=>?_,I.free,I.freeC,λp hp=>?_,tracked ⟨oL,hoL,I.free⟩ hs,by simpa using I.len⟩ ⟨_,hs,.inl rfl⟩
  ·exact(hs.2 b (ne_of_lt (lt_of_lt_of_le (lt_size e) I.ok.above))).trans (I.base.keep b o e n hb hx)
  ·obtain⟨sl,e1⟩:=I.base.slot b o e n hb hx
   exact⟨sl,(hs.2 b (ne_of_lt (lt_of_lt_of_le (lt_size e) I.ok.above))).trans e1⟩
  ·obtain⟨o',e1⟩:=I.base.there b o e hx
   exact⟨o',(hs.2 b (ne_of_lt (lt_of_lt_of_le (lt_size e) I.ok.above))).trans e1⟩
  ·by_cases hj:j=i
   ·subst hj
    rw[hi]at e1;cases e1;rw[getElem?_set_self hiO]at e2;cases e2;exact⟨u,r,.inl ⟨hk,by simp⟩⟩
   ·rw[getElem?_set_ne (Ne.symm hj)]at e2
    obtain⟨u',r',q⟩:=hl j y v' e1 e2 e3;refine⟨u',r',?_⟩;rcases q with⟨k,e⟩|⟨k,c,e,z⟩
    ·refine .inl ⟨k,?_⟩
     have:y≠x:=λe=>hj (vd hN e1 (e▸hi))
     simp[this,e]
    ·exact .inr ⟨k,c,e,z.sameBut hs (cne y c e)⟩
  ·obtain⟨w',z⟩:=I.cell y c e
   exact⟨w',z.sameBut hs (cne y c e)⟩
  ·obtain⟨e,n,ne,nf,d⟩:=I.pin p hp
   exact⟨(hs.2 p.1 ne).trans e,n,ne,nf,d⟩
 ·have hfn:X.fn x=true:=by
   rcases hf with z|z
   ·exact z
   ·rw[z]at hk;cases hk
  obtain⟨c,hc⟩:=I.ok.has x (.inl hk);obtain⟨w',z⟩:=I.cell x c hc;refine wpAny_storeName_cell I.ok.kind hk hc z (λh' hc' hs=>?_);obtain⟨oc,hoc,hocd⟩:=id z;refine h {s with heap:=h'} ⟨I.ok,I.os,I.bare,⟨λb o e n hb hx=>?_,λb o e n hb hx=>?_,I.base.free,λb o e hx=>?_,I.base.tups,I.base.frzs,I.base.tbls⟩,⟨m,hn.sameBut hs (Ne.symm (cne x c hc)),λj y v' e1 e2 e3=>?_⟩,λy c' e=>?_,I.free,I.freeC,λp hp=>?_,tracked ⟨oc,hoc,I.freeC x c hc⟩ hs,by simpa using I.len⟩ ⟨c,hs,.inr hc⟩
  ·exact(hs.2 b (ne_of_lt (lt_of_lt_of_le (lt_size e) (I.ok.cab x c hfn hc)))).trans (I.base.keep b o e n hb hx)
  ·obtain⟨sl,e1⟩:=I.base.slot b o e n hb hx
   exact⟨sl,(hs.2 b (ne_of_lt (lt_of_lt_of_le (lt_size e) (I.ok.cab x c hfn hc)))).trans e1⟩
  ·obtain⟨o',e1⟩:=I.base.there b o e hx
   exact⟨o',(hs.2 b (ne_of_lt (lt_of_lt_of_le (lt_size e) (I.ok.cab x c hfn hc)))).trans e1⟩
  ·by_cases hj:j=i
   ·subst hj
    rw[hi]at e1;cases e1;rw[getElem?_set_self hiO]at e2;cases e2;exact⟨u,r,.inr ⟨.inl hk,c,hc,hc'⟩⟩
   ·rw[getElem?_set_ne (Ne.symm hj)]at e2
    obtain⟨u',r',q⟩:=hl j y v' e1 e2 e3;refine⟨u',r',?_⟩;rcases q with q|⟨k,c',e,z'⟩
    ·exact .inl q
    ·refine .inr ⟨k,c',e,z'.sameBut hs ?_⟩
     rintro rfl
     exact hj (vd hN e1 (I.ok.inj _ _ _ e hc▸hi))
  ·by_cases hcc:c'=c
   ·subst hcc;exact⟨_,hc'⟩
   ·obtain⟨w2,z2⟩:=I.cell y c' e
    exact⟨w2,z2.sameBut hs hcc⟩
  ·obtain⟨e,n,ne,nf,d⟩:=I.pin p hp
   refine⟨(hs.2 p.1 ?_).trans e,n,ne,nf,d⟩;intro q;rw[q,hoc]at e;have q':oc=p.2:=qJ e;exact d w' (by rw[<- q'];exact hocd)
def wj{M:Model}{A:Around}{E:Value->Shared->Prop}{i:Nat}{x:Str}{v:V}{u:Value}{Q:Unit->Shared->Prop}(I:Inv X pins O H s)(hN:X.N.Nodup)(hi:X.N[i]?=some x)(hx:Loc X.env.scope x)(r:yL v u)
  (h:∀s',Inv X pins (O.set i (some v)) H s'->Q () s') (hf:X.fn x=true\/X.env.scope.names.lookup x=some .local:=by first|exact .inl rfl|exact .inr rfl|assumption):wpAny M A (storeName X.env x u) Q E s :=
 Zz I hN hi hx r (λs' I' _=>h s' I') hf
def Inv.call'{s':Shared}{ch:List Addr}(I:Inv X pins O H s)(ho:s'.os=s.os)(u:Un (frs X.stack) ch H H' s.heap s'.heap)(hok:HOk X.prog X.w H' s'.heap)(hg:AllBare s'.gens)
  (hch:∀b∈ch,(b∈X.ex\/X.s₀.heap.objs.size<=b)/\b≠X.env.locals/\(∀x c,X.env.cells.lookup x=some c->c≠b)/\∀p∈X.pn++pins,p.1≠b):Inv X pins O H' s':=by
 obtain⟨h',g',d',t',o'⟩:=s';have e:o'=s.os:=ho;subst e;exact I.call (g':=g') (t':=t') (d':=d') u hok hg hch
end
abbrev XK:=Value->Option Addr->Hp->Prop
abbrev St:=List (Option V)
abbrev VK:=V->Hp->Prop
abbrev TE:=St->Hp->VK->Prop
abbrev TT:=St->Hp->(Bool->Hp->Prop)->Prop
abbrev TA:=St->Hp->(List V->Hp->Prop)->Prop
structure Ends where
 nx:St->Hp->Prop
 rt:VK
 bk:St->Hp->Prop:=λ_ _=>False
 ct:St->Hp->Prop:=λ_ _=>False
abbrev TS:=Ends->St->Hp->Prop
def EP(X:Cx)(pins:List (Addr×Obj))(O:St)(Q:VK)(u:Value)(s':Shared):Prop:=∃v H',Inv X pins O H' s'/\yL v u/\Q v H'
def TP(X:Cx)(pins:List (Addr×Obj))(O:St)(Q:Bool->Hp->Prop)(b:Bool)(s':Shared):Prop:=∃H',Inv X pins O H' s'/\Q b H'
def AP(X:Cx)(pins:List (Addr×Obj))(O:St)(Q:List V->Hp->Prop)(us:List Value)(s':Shared):Prop:=∃vs H',Inv X pins O H' s'/\yc vs us/\Q vs H'
def SP(X:Cx)(pins:List (Addr×Obj))(D:Ends)(f:Flow)(s':Shared):Prop :=
 match f with
 | .next=>∃O' H',Inv X pins O' H' s'/\D.nx O' H'| .brk=>∃O' H',Inv X pins O' H' s'/\D.bk O' H'| .cont=>∃O' H',Inv X pins O' H' s'/\D.ct O' H'| .ret u=>∃v O' H',Inv X pins O' H' s'/\yL v u/\D.rt v H'
def PE(X:Cx)(e:Expr)(t:TE):Prop :=
 ∀(pins:List (Addr×Obj)) (s:Shared) (O:St) (H:Hp) (Q:VK),Inv X pins O H s->t O H Q->wpAny (model X.prog X.w) X.A (eval e X.env) (EP X pins O Q) X.xe s
def PT(X:Cx)(e:Expr)(t:TT):Prop :=
 ∀(pins:List (Addr×Obj)) (s:Shared) (O:St) (H:Hp) (Q:Bool->Hp->Prop),Inv X pins O H s->t O H Q->wpAny (model X.prog X.w) X.A (isTrue e X.env (eval e X.env)) (TP X pins O Q) X.xe s
def PW(X:Cx)(e:Expr)(t:TT):Prop :=
 ∀(whole:Sem Value) (pins:List (Addr×Obj)) (s:Shared) (O:St) (H:Hp) (Q:Bool->Hp->Prop),Inv X pins O H s->t O H Q->wpAny (model X.prog X.w) X.A (isTrue e X.env whole) (TP X pins O Q) X.xe s
def PW.pt{X:Cx}{e:Expr}{t:TT}(h:PW X e t):PT X e t:=h _
def PA(X:Cx)(es:List Expr)(t:TA):Prop :=
 ∀(pos:Pos) (pins:List (Addr×Obj)) (s:Shared) (O:St) (H:Hp) (Q:List V->Hp->Prop),Inv X pins O H s->t O H Q->wpAny (model X.prog X.w) X.A (spliced (backTo pos (starEach es X.env))) (AP X pins O Q) X.xe s
def PS(X:Cx)(st:Stmt)(t:TS):Prop :=
 ∀(pins:List (Addr×Obj)) (s:Shared) (O:St) (H:Hp) (D:Ends),Inv X pins O H s->t D O H->wpAny (model X.prog X.w) X.A (exec st X.env) (SP X pins D) X.xe s
def PSs(X:Cx)(st:List Stmt)(t:TS):Prop :=
 ∀(pins:List (Addr×Obj)) (s:Shared) (O:St) (H:Hp) (D:Ends),Inv X pins O H s->t D O H->wpAny (model X.prog X.w) X.A (execs st X.env) (SP X pins D) X.xe s
def thn{α:Type}{t:Sem α}{Q Q':α->Shared->Prop}{M:Model}{A:Around}{E:Value->Shared->Prop}{s:Shared}(h:wpAny M A t Q E s)(hQ:∀a s,Q a s->Q' a s):wpAny M A t Q' E s:=wpAny_mono h hQ λ_ _ x=>x
section
variable{X:Cx}
def bin{a b:Expr}{ta tb:TE}(ha:PE X a ta)(hb:PE X b tb){pins:List (Addr×Obj)}{s:Shared}{O:St}{H:Hp}{R:V->V->Hp->Prop}(I:Inv X pins O H s)(h:ta O H λx H1=>tb O H1 λy H2=>R x y H2)
  {α:Type} {Q:α->Shared->Prop} {f:Value->Value->Sem α}
  (hf:∀v u s2 x y H2,Inv X pins O H2 s2->yL x v->yL y u->R x y H2->wpAny (model X.prog X.w) X.A (f v u) Q X.xe s2) :
  wpAny (model X.prog X.w) X.A (eval a X.env) (λv s₁=>wpAny (model X.prog X.w) X.A (eval b X.env) (λu s₂=>wpAny (model X.prog X.w) X.A (f v u) Q X.xe s₂) X.xe s₁) X.xe s:=by
 refine thn (ha pins s O H _ I h) λv s1 ⟨x,H1,I1,r1,q1⟩=>?_
 refine thn (hb pins s1 O H1 _ I1 q1) λu s2 ⟨y,H2,I2,r2,q2⟩=>?_
 exact hf v u s2 x y H2 I2 r1 r2 q2
def Z0(i:Nat):TE:=λO H Q=>∃v,O[i]?=some (some v)/\Q v H
def tC(v:V):TE:=λ_ H Q=>Q v H
def zFd{i:Nat}{x:Str}{pos:Pos}(hN:X.N[i]?=some x)(hv:Vis X.env.scope x)(hd:(x==("__debug__":Str))=false:=by decide)(hcd:(x==("__classdict__":Str))=false:=by decide):PE X (.Name x pos) (Z0 i):=by
 intro pins s O H Q I h;obtain⟨v,e,h⟩:=h;obtain⟨m,hn,hl⟩:=I.loc;obtain⟨u,r,l⟩:=hl i x v hN e hv;have fin:EP X pins O Q u s:=⟨v,H,I,r,h⟩;rcases l with⟨hk,hm⟩|⟨hk,c,hc,hcell⟩
 ·exact wpAny_Name (wpAny_loadName_local I.ok.kind hk hn hm fin) hd
 ·rcases hk with hk|hk
  ·exact wpAny_Name (wpAny_loadName_cell I.ok.kind hk hc hcell fin) hd
  ·exact wpAny_Name (wpAny_loadName_free I.ok.kind hk hc hcell fin hcd) hd
def pe_int{i j pos}:PE X (.Constant (.int i) j pos) (tC (.int i)):=λ_ _ _ H _ I h=>wpAny_Constant_int ⟨.int i,H,I.tok _,⟨_,rfl⟩,h⟩
def pe_bl{b j pos}:PE X (.Constant (.bool b) j pos) (tC (.bl b)):=λ_ _ _ H _ I h=>Constant_bool ⟨.bl b,H,I,rfl,h⟩
def pe_non{j pos}:PE X (.Constant .none j pos) (tC .non):=λ_ _ _ H _ I h=>Constant_none ⟨.non,H,I,rfl,h⟩
def zFe{x j pos}:PE X (.Constant (.str x) j pos) (tC (.str x)):=λ_ _ _ H _ I h=>Calls.Constant_str ⟨.str x,H,I.tok _,⟨_,rfl⟩,h⟩
def Gl(X:Cx)(x:Str):Prop:=X.env.kindOf x=some .globalImplicit
def Y5{E:Value->Shared->Prop}{pins:List (Addr×Obj)}{s:Shared}{O:St}{H:Hp}{x:Str}{u:Value}{pos:Pos}{Q:Value->Shared->Prop}(I:Inv X pins O H s)(hg:Gl X x)(hm:X.mg x=some u)(h:Q u s)
  (hd:(x==("__debug__":Str))=false:=by decide):wpAny (model X.prog X.w) X.A (eval (.Name x pos) X.env) Q E s :=
 Calls.Name_function_global I.ok.kind hg (Calls.loadGlobal_global (by rw[I.ok.glob];exact I.mod.glob.keeps I.bk) hm h) hd
def Ym{E:Value->Shared->Prop}{pins:List (Addr×Obj)}{s:Shared}{O:St}{H:Hp}{x:Str}{u:Value}{pos:Pos}{Q:Value->Shared->Prop}(I:Inv X pins O H s)(hg:Gl X x)(hm:X.mg x=none)(hv:bootBuiltins x=some u)(h:Q u s)
  (hn:x≠"__name__":=by decide) (hd:(x==("__debug__":Str))=false:=by decide):wpAny (model X.prog X.w) X.A (eval (.Name x pos) X.env) Q E s:=by
 obtain⟨mb,h1,h2⟩:=I.mod.blt;exact Calls.Name_function_global I.ok.kind hg (Calls.loadGlobal_builtin (by rw[I.ok.glob];exact I.mod.glob.keeps I.bk) hm (by rw[I.ok.blt];exact h1.keeps I.bk) ((h2 x hn).trans hv) h) hd
def G0{x:Str}{v:V}{u:Value}{pos:Pos}(hg:Gl X x)(hm:X.mg x=some u)(r:yL v u)(hd:(x==("__debug__":Str))=false:=by decide):PE X (.Name x pos) (tC v) :=
 λ_ _ _ H _ I h=>Y5 I hg hm ⟨v,H,I,r,h⟩ hd
def zBO{x:Str}{v:V}{u:Value}{pos:Pos}(hg:Gl X x)(hm:X.mg x=none)(hv:bootBuiltins x=some u)(r:yL v u)(hn:x≠"__name__":=by decide)(hd:(x==("__debug__":Str))=false:=by decide):PE X (.Name x pos) (tC v) :=
 λ_ _ _ H _ I h=>Ym I hg hm hv ⟨v,H,I,r,h⟩ hn hd
variable{a b:Expr}{ta tb:TE}{pos:Pos}
def tB(t:TE):TT:=λO H Q=>t O H λx H1=>∃c,x=.bl c/\Q c H1
def pt_val{e:Expr}{t:TE}(h:PE X e t)(he:∀whole,isTrue e X.env whole=(do let v <- whole;standAt e.pos;holding [v] (truthy v)):=by intro _;rfl):PT X e (tB t):=by
 intro pins s O H Q I hw;refine isTrue_plain (thn (h pins s O H _ I hw) λv s1 ⟨x,H1,I1,r1,q1⟩=>?_) (he _);obtain⟨d,rfl,q⟩:=q1;cases r1;exact wpAny_truthy_bool ⟨H1,I1,q⟩
variable{tA tB':TT}{j9:List Expr}
def tAnd(t u:TT):TT:=λO H Q=>t O H λc H1=>if c=true then u O H1 Q else Q false H1
def tOr(t u:TT):TT:=λO H Q=>t O H λc H1=>if c=true then Q true H1 else u O H1 Q
def tNot(t:TT):TT:=λO H Q=>t O H λc H1=>Q (!c) H1
def pw_and1(ha:PT X a tA):PW X (.BoolOp .And [a] pos) tA:=by
 intro wh pins s O H Q I h;refine isTrue_and (thn (ha pins s O H Q I h) λc s1 e=>?_);cases c with
 |true=>exact isTrue_and_nil e|false=>exact e
def pw_or1(ha:PT X a tA):PW X (.BoolOp .Or [a] pos) tA:=by
 intro wh pins s O H Q I h;refine isTrue_or (thn (ha pins s O H Q I h) λc s1 e=>?_);cases c with
 |false=>exact isTrue_or_nil e|true=>exact e
def pw_and(ha:PT X a tA)(hb:PW X (.BoolOp .And (b::j9) pos) tB'):PW X (.BoolOp .And (a::b::j9) pos) (tAnd tA tB'):=by
 intro wh pins s O H Q I h;refine isTrue_and (thn (ha pins s O H _ I h) λc s1 ⟨H1,I1,q1⟩=>?_);cases c with
 |true=>exact hb wh pins s1 O H1 Q I1 q1|false=>exact⟨H1,I1,q1⟩
def pw_or(ha:PT X a tA)(hb:PW X (.BoolOp .Or (b::j9) pos) tB'):PW X (.BoolOp .Or (a::b::j9) pos) (tOr tA tB'):=by
 intro wh pins s O H Q I h;refine isTrue_or (thn (ha pins s O H _ I h) λc s1 ⟨H1,I1,q1⟩=>?_);cases c with
 |true=>exact⟨H1,I1,q1⟩|false=>exact hb wh pins s1 O H1 Q I1 q1
def pt_not(ha:PT X a tA):PT X (.UnaryOp .Not a pos) (tNot tA):=by
 intro pins s O H Q I h;exact isTrue_not (ha pins s O H (λc H1=>Q (!c) H1) I h)
def tAndV(ta tb:TE):TE:=λO H Q=>ta O H λx H1=>∃c,x=.bl c/\if c=true then tb O H1 Q else Q (.bl false) H1
def tNotV(ta:TE):TE:=λO H Q=>ta O H λx H1=>∃c,x=.bl c/\Q (.bl (!c)) H1
def pe_one{op}{t:TE}(h:PE X a t):PE X (.BoolOp op [a] pos) t:=λpins s O H Q I hw=>BoolOp_one (h pins s O H Q I hw)
def pe_and(ha:PE X a ta)(hb:PE X (.BoolOp .And (b::j9) pos) tb):PE X (.BoolOp .And (a::b::j9) pos) (tAndV ta tb):=by
 intro pins s O H Q I h;refine BoolOp_and (thn (ha pins s O H _ I h) λv s1 ⟨x,H1,I1,r1,q1⟩=>?_);obtain⟨c,rfl,q1⟩:=q1;cases r1;refine wpAny_truthy_bool ?_;cases c with
 |true=>exact hb pins s1 O H1 Q I1 q1|false=>exact⟨.bl false,H1,I1,rfl,q1⟩
def pe_not(ha:PE X a ta):PE X (.UnaryOp .Not a pos) (tNotV ta):=by
 intro pins s O H Q I h;refine UnaryOp_ (thn (ha pins s O H _ I h) λv s1 ⟨x,H1,I1,r1,q1⟩=>?_);obtain⟨c,rfl,q1⟩:=q1;cases r1;exact not_of (wpAny_truthy_bool ⟨.bl (!c),H1,I1,rfl,q1⟩)
end
def SqL(K:qH)(H:Hp)(a:Addr)(xs:List V):Prop :=
 Rd H a (.l xs) \/
  ∃(o:Obj) (its:Array Value) (n:Nat),K.lookup a=some o/\o.cls=.type "list"/\o.dict=none/\o.data=.seq its n/\its.size<=sizeLine/\yc xs its.toList
def SqT(K:qH)(H:Hp)(a:Addr)(xs:List V):Prop :=
 Rd H a (.t xs) \/
  ∃(o:Obj) (its:Array Value) (n:Nat),K.lookup a=some o/\o.cls=.type "tuple"/\o.data=.seq its n/\its.size<=sizeLine/\yc xs its.toList
def absV:Value->Option V
 | .none=>some .non| .bool b=>some (.bl b)| .int i _=>some (.int i)| .str x _=>some (.str x)| .bytes b _=>some (.byt b)| .float b _=>some (.flt b)| .ref a=>some (.ref a)| .type n=>some (.ty n)|_=>none
def yL.abs{x:V}{u:Value}(r:yL x u):absV u=some x:=by
 cases x with
 |non=>cases r;rfl|bl _=>cases r;rfl|int _=>obtain⟨t,rfl⟩:=r;rfl|str _=>obtain⟨t,rfl⟩:=r;rfl|byt _=>obtain⟨t,rfl⟩:=r;rfl|flt _=>obtain⟨t,rfl⟩:=r;rfl|ref _=>cases r;rfl|ty _=>cases r;rfl
theorem yL.inj{x y:V}{u:Value}(r:yL x u)(q:yL y u):x=y:=qJ (r.abs.symm.trans q.abs)
theorem yc.inj:∀{xs ys:List V} {us:List Value},yc xs us->yc ys us->xs=ys
 |_,_,_,.nil,.nil=>rfl|_,_,_,.cons r t,.cons r' t'=>by rw[r.inj r',yc.inj t t']
section
variable{X:Cx}{pins:List (Addr×Obj)}{O:St}{H:Hp}{s:Shared}{a:Addr}{xs ys:List V}
def SqL.of{K:qH}(h:H a=some (.l xs)):SqL K H a xs:=.inl (.inl h)
def SqT.of{K:qH}(h:H a=some (.t xs)):SqT K H a xs:=.inl (.inl h)
def Inv.list(I:Inv X pins O H s)(h:SqL X.K H a xs):∃its:List Value,yc xs its/\PlainL s.heap a its.toArray/\xs.length<=sizeLine:=by
 rcases h with h|⟨o,its,n,hk,hc,hd,hs,hz,r⟩
 ·obtain⟨z,its,n,r,e⟩:=h.ok I.hok
  exact⟨its,r,⟨_,n,e,rfl,rfl,rfl⟩,z⟩
 ·refine⟨its.toList,r,⟨o,n,I.kIn a o hk,hc,hd,by simpa using hs⟩,?_⟩
  have e:=r.length;simp only[Array.length_toList]at e;omega
def Inv.tuple(I:Inv X pins O H s)(h:SqT X.K H a xs):∃its:List Value,yc xs its/\IsTup s.heap a its.toArray/\xs.length<=sizeLine:=by
 rcases h with h|⟨o,its,n,hk,hc,hs,hz,r⟩
 ·obtain⟨z,its,r,p⟩:=h.ok I.hok
  exact⟨its,r,p,z⟩
 ·refine⟨its.toList,r,⟨o,I.kIn a o hk,hc,n,by simpa using hs⟩,?_⟩
  have e:=r.length;simp only[Array.length_toList]at e;omega
def Inv.list_inj(I:Inv X pins O H s)(h:SqL X.K H a xs)(h':SqL X.K H a ys):xs=ys:=by
 obtain⟨its,r,⟨o,n,e,_,_,d⟩,_⟩:=I.list h;obtain⟨its',r',⟨o',n',e',_,_,d'⟩,_⟩:=I.list h';rw[e]at e';cases e';rw[d]at d';injection d' with d1 _
 have:its=its':=by simpa using congrArg Array.toList d1
 subst this;exact r.inj r'
def Inv.tuple_inj(I:Inv X pins O H s)(h:SqT X.K H a xs)(h':SqT X.K H a ys):xs=ys:=by
 obtain⟨its,r,⟨o,e,_,n,d⟩,_⟩:=I.tuple h;obtain⟨its',r',⟨o',e',_,n',d'⟩,_⟩:=I.tuple h';rw[e]at e';cases e';rw[d]at d';injection d' with d1 _
 have:its=its':=by simpa using congrArg Array.toList d1
 subst this;exact r.inj r'
end
abbrev Cx.wish(X:Cx)(E:Value->Shared->Prop):Cx:={X with xe:=E}
abbrev Cx.nox(X:Cx):Cx:=X.wish λ_ _=>False
theorem Cx.Ok.wish{X:Cx}(ok:X.Ok)(E:Value->Shared->Prop):(X.wish E).Ok :=
 ⟨ok.mod,ok.kind,ok.glob,ok.blt,ok.above,ok.inj,ok.has,ok.cab,ok.hd,ok.frames,ok.stk,ok.exf,ok.bs,ok.bsz,ok.noex,ok.exfs,ok.funs,ok.frf⟩
def Cx.Ok.unwish{X:Cx}{E:Value->Shared->Prop}(ok:(X.wish E).Ok):X.Ok :=
 ⟨ok.mod,ok.kind,ok.glob,ok.blt,ok.above,ok.inj,ok.has,ok.cab,ok.hd,ok.frames,ok.stk,ok.exf,ok.bs,ok.bsz,ok.noex,ok.exfs,ok.funs,ok.frf⟩
section
variable{X:Cx}{pins:List (Addr×Obj)}{O:St}{H:Hp}{s:Shared}{E:Value->Shared->Prop}
theorem Inv.wish(I:Inv X pins O H s)(E:Value->Shared->Prop):Inv (X.wish E) pins O H s:=⟨I.ok.wish E,I.os,I.bare,I.base,I.loc,I.cell,I.free,I.freeC,I.pin,I.hok,I.len⟩
theorem Inv.unwish(I:Inv (X.wish E) pins O H s):Inv X pins O H s:=⟨I.ok.unwish,I.os,I.bare,I.base,I.loc,I.cell,I.free,I.freeC,I.pin,I.hok,I.len⟩
theorem SP.unwish{D:Ends}{f:Flow}{s':Shared}(h:SP (X.wish E) pins D f s'):SP X pins D f s':=by
 cases f with
 |next=>obtain⟨O',H',I,q⟩:=h;exact⟨O',H',I.unwish,q⟩|brk=>obtain⟨O',H',I,q⟩:=h;exact⟨O',H',I.unwish,q⟩|cont=>obtain⟨O',H',I,q⟩:=h;exact⟨O',H',I.unwish,q⟩|ret u=>obtain⟨v,O',H',I,r,q⟩:=h;exact⟨v,O',H',I.unwish,r,q⟩
theorem PE.nox{e:Expr}{t:TE}(h:PE X.nox e t):PE X e t:=λpins s O H Q I hw =>
 wpAny_mono (h pins s O H Q (I.wish _) hw) (λ_ _ ⟨v,H',I',r,q⟩=>⟨v,H',I'.unwish,r,q⟩) λ_ _ z=>False.elim z
end
section
variable{X:Cx}{st:Stmt}{j9:List Stmt}{t u:TS}{e:Expr}{te:TE}{pos:Pos}
def tNext:TS:=λD O H=>D.nx O H
def tSeq(t u:TS):TS:=λD O H=>t {D with nx:=u D} O H
def pss_nil:PSs X [] tNext:=λ_ _ O H _ I h=>wpAny_execs_nil ⟨O,H,I,h⟩
def Ze(h1:PS X st t)(h2:PSs X j9 u):PSs X (st::j9) (tSeq t u):=by
 intro pins s O H D I h;refine wpAny_execs_cons (thn (h1 pins s O H {D with nx:=u D} I h) λf s1 q=>?_)
 cases f with
 |next =>
  obtain⟨O',H',I',q⟩:=q;exact h2 pins s1 O' H' D I' q
 |ret v=>exact q|brk=>exact q|cont=>exact q
def G1(h1:PS X st t):PSs X [st] t:=by
 intro pins s O H D I h;refine wpAny_execs_cons (thn (h1 pins s O H D I h) λf s1 q=>?_);cases f with
 |next=>exact wpAny_execs_nil q|ret v=>exact q|brk=>exact q|cont=>exact q
def Inv.quiet{pins:List (Addr×Obj)}{O:St}{H:Hp}{s:Shared}(I:Inv X pins O H s):interactive X.env=false:=by simp[interactive,I.ok.kind]
def tDrop(te:TE):TS:=λD O H=>te O H λ_ H1=>D.nx O H1
def G2(he:PE X e te)(hs:swapsWith e none pos.line X.env=pure false:=by rfl):PS X (.Expr e pos) (tDrop te):=by
 intro pins s O H D I h;exact wpAny_Expr_any (thn (he pins s O H _ I h) λv s1 ⟨x,H1,I1,r1,q1⟩=>⟨O,H1,I1,q1⟩) I.quiet hs
def tRet(te:TE):TS:=λD O H=>te O H D.rt
def ps_ret(he:PE X e te):PS X (.Return (some e) pos) (tRet te):=by
 intro pins s O H D I h;exact wpAny_Return_some (thn (he pins s O H _ I h) λv s1 ⟨x,H1,I1,r1,q1⟩=>⟨x,O,H1,I1,r1,q1⟩)
def tIfS(c:TT)(t u:TS):TS:=λD O H=>c O H λb H1=>if b=true then t D O H1 else u D O H1
def ps_if{c:Expr}{a b:List Stmt}{tc:TT}(hc:PT X c tc)(ha:PSs X a t)(hb:PSs X b u):PS X (.If c a b pos) (tIfS tc t u):=by
 intro pins s O H D I h;refine wpAny_If (thn (hc pins s O H _ I h) λd s1 ⟨H1,I1,q1⟩=>?_);cases d with
 |true=>exact ha pins s1 O H1 D I1 q1|false=>exact hb pins s1 O H1 D I1 q1
def tNever:TS:=λ_ _ _=>False
def zDu:PS X st tNever:=λ_ _ _ _ _ _ h=>h.elim
end
abbrev TG:=V->St->Hp->(St->Hp->Prop)->Prop
abbrev TGs:=List V->St->Hp->(St->Hp->Prop)->Prop
def PG(X:Cx)(target:Expr)(t:TG):Prop :=
 ∀(pins:List (Addr×Obj)) (s:Shared) (O:St) (H:Hp) (v:V) (u:Value) (Q:St->Hp->Prop),Inv X pins O H s->yL v u->t v O H Q ->
  wpAny (model X.prog X.w) X.A (assign target X.env u) (λ_ s'=>∃O' H',Inv X pins O' H' s'/\Q O' H') X.xe s
def PGs(X:Cx)(ts:List Expr)(t:TGs):Prop :=
 ∀(pins:List (Addr×Obj)) (s:Shared) (O:St) (H:Hp) (vs:List V) (us:List Value) (Q:St->Hp->Prop),Inv X pins O H s->yc vs us->t vs O H Q ->
  wpAny (model X.prog X.w) X.A (assignInOrder ((assignEach ts X.env).map (·.2)) us) (λ_ s'=>∃O' H',Inv X pins O' H' s'/\Q O' H') X.xe s
abbrev TSet:=V->V->V->Hp->(Hp->Prop)->Prop
def PSet(X:Cx)(t:TSet):Prop :=
 ∀(pins:List (Addr×Obj)) (s:Shared) (O:St) (H:Hp) (o i v:V) (ov iv u:Value) (Q:Hp->Prop),Inv X pins O H s->yL o ov->yL i iv->yL v u->t o i v H Q ->
  wpAny (model X.prog X.w) X.A (setItem ov iv u) (λ_ s'=>∃H',Inv X pins O H' s'/\Q H') X.xe s
abbrev TIp:=V->V->Hp->VK->Prop
def PIp(X:Cx)(op:Operator)(t:TIp):Prop :=
 ∀(pins:List (Addr×Obj)) (s:Shared) (O:St) (H:Hp) (x y:V) (v u:Value) (Q:VK),Inv X pins O H s->yL x v->yL y u->t x y H Q ->
  wpAny (model X.prog X.w) X.A (inplaceOp op v u) (EP X pins O Q) X.xe s
section
variable{X:Cx}{pos:Pos}
def ud(i:Nat):TG:=λv O H Q=>Q (O.set i (some v)) H
def zBP{i:Nat}{x:Str}(hN:X.N.Nodup)(hi:X.N[i]?=some x)(hx:Loc X.env.scope x)(hf:X.fn x=true\/X.env.scope.names.lookup x=some .local:=by first|exact .inl rfl|exact .inr rfl|assumption):PG X (.Name x pos) (ud i):=by
 intro pins s O H v u Q I r h;exact wpAny_assign_Name (wj I hN hi hx r (λs' I'=>⟨_,H,I',h⟩) hf)
def gNil:TGs:=λvs O H Q=>vs=[]/\Q O H
def gCons(t:TG)(u:TGs):TGs:=λvs O H Q=>∃v r,vs=v::r/\t v O H λO' H'=>u r O' H' Q
def pgs_nil:PGs X [] gNil:=by
 intro pins s O H vs us Q I r h;obtain⟨e,h⟩:=h;subst e;cases r;exact assignInOrder_nil ⟨O,H,I,h⟩
def zDv{e:Expr}{es:List Expr}{t:TG}{u:TGs}(h1:PG X e t)(h2:PGs X es u)
  (hs:(assignEach (e::es) X.env).map (·.2)=assign e X.env::(assignEach es X.env).map (·.2):=by rfl):PGs X (e::es) (gCons t u):=by
 intro pins s O H vs us Q I r h;obtain⟨v,vr,e1,h⟩:=h;subst e1;cases r with
 |cons r rr =>
  rw[hs];refine assignInOrder_cons (thn (h1 pins s O H _ _ _ I r h) λ_ s1 ⟨O1,H1,I1,q1⟩=>?_);exact h2 pins s1 O1 H1 _ _ Q I1 rr q1
def gTup(K:qH)(n:Nat)(t:TGs):TG:=λv O H Q=>∃a xs,v=.ref a/\SqT K H a xs/\xs.length=n/\t xs O H Q
def pg_tup{es:List Expr}{k:Nat}{t:TGs}{n:Nat}(hc:X.calm=true)(h:PGs X es t)
  (hn:(assignEach es X.env).length=n:=by rfl) (hst:(assignEach es X.env).findIdx? (·.1)=none:=by rfl):PG X (.Tuple es k pos) (gTup X.K n t):=by
 intro pins s O H v u Q I r hw;obtain⟨a,xs,e1,hq,hl,hw⟩:=hw;subst e1;cases r;obtain⟨its,rv,ht,hz⟩:=I.tuple hq;refine assign_Tuple_tuple (I.ok.hd hc) ht (by simp[hn,<- hl,rv.length]) hst λh' hx=>?_
 have I1:Inv X pins O H {s with heap:=h'}:=I.kept (t':=s.toks) λb o e=>hx b o (ne_of_lt (lt_size e)) e
 exact h pins _ O H xs _ Q I1 (by simpa using rv) hw
def gSub(to ti:TE)(t:TSet):TG:=λv O H Q=>to O H λo H1=>ti O H1 λi H2=>t o i v H2 λH3=>Q O H3
def pg_sub{o i:Expr}{to ti:TE}{t:TSet}(ho:PE X o to)(hi:PE X i ti)(hs:PSet X t)
  (ha:∀v,assign (.Subscript o i pos) X.env v=(do
   let ov <- holding [v] (eval o X.env)
   let iv <- holding [v,ov] (eval i X.env)
   standAt pos
   holding [v,ov,iv] (setItem ov iv v)
   release [v,ov,iv] []):=by intro _;rfl):PG X (.Subscript o i pos) (gSub to ti t):=by
 intro pins s O H v u Q I r h;rw[ha];refine qB (wpAny_holding (thn (ho pins s O H _ I h) λov s1 ⟨x,H1,I1,r1,q1⟩=>?_));refine qB (wpAny_holding (thn (hi pins s1 O H1 _ I1 q1) λiv s2 ⟨y,H2,I2,r2,q2⟩=>?_));refine qB (wpAny_standAt (qB (wpAny_holding (thn (hs pins s2 O H2 x y v ov iv u _ I2 r1 r2 r q2) λ_ s3 ⟨H3,I3,q3⟩=>?_))));exact wpAny_release ⟨O,H3,I3,q3⟩
def tAsg(te:TE)(g:TG):TS:=λD O H=>te O H λx H1=>g x O H1 D.nx
def ps_asg{tg e:Expr}{te:TE}{g:TG}(he:PE X e te)(hg:PG X tg g)(hs:swapsWithSole [tg] e pos.line X.env=pure false:=by rfl)(hw:swappedStores [tg] e X.env=pure none:=by rfl)
  (h1:(assignEach [tg] X.env).map (·.2)=[assign tg X.env]:=by rfl):PS X (.Assign [tg] e pos) (tAsg te g):=by
 intro pins s O H D I h;refine wpAny_Assign_stores (thn (he pins s O H _ I h) λv s1 ⟨x,H1,I1,r1,q1⟩=>?_) hs hw;rw[h1];exact thn (hg pins s1 O H1 x v _ I1 r1 q1) λ_ s2 q=>q
def ps_set{i:Nat}{x:Str}{e:Expr}{te:TE}{pos':Pos}(hN:X.N.Nodup)(hi:X.N[i]?=some x)(hx:Loc X.env.scope x)(he:PE X e te)(hs:swapsWith e (some (.Name x pos')) pos.line X.env=pure false:=by rfl)(hf:X.fn x=true\/X.env.scope.names.lookup x=some .local:=by first|exact .inl rfl|exact .inr rfl|assumption) :
  PS X (.Assign [.Name x pos'] e pos) (tAsg te (ud i)):=by
 intro pins s O H D I h;refine wpAny_Assign_Name (thn (he pins s O H _ I h) λv s1 ⟨y,H1,I1,r1,q1⟩=>?_) hs;exact wj I1 hN hi hx r1 (λs2 I2=>⟨_,H1,I2,q1⟩) hf
def tPar(i j:Nat)(ta:TA):TS:=λD O H=>ta O H λvs H1=>∃v w,vs=[v,w]/\D.nx ((O.set i (some v)).set j (some w)) H1
def ps_par{i j:Nat}{x y:Str}{a b:Expr}{ta:TA}{px py pt:Pos}{kt k2 pt2}(hc:X.calm=true)(hN:X.N.Nodup)(hi:X.N[i]?=some x)(hj:X.N[j]?=some y)(hij:i≠j)
  (hx:X.env.scope.names.lookup x=some .local) (hy:X.env.scope.names.lookup y=some .local) (ha:PA X [a,b] ta)
  (hw:swappedStores [.Tuple [.Name x px,.Name y py] kt pt] (.Tuple [a,b] k2 pt2) X.env=pure (some [x,y]))
  (hs:swapsWithSole [.Tuple [.Name x px,.Name y py] kt pt] (.Tuple [a,b] k2 pt2) pos.line X.env=pure false:=by rfl) :
  PS X (.Assign [.Tuple [.Name x px,.Name y py] kt pt] (.Tuple [a,b] k2 pt2) pos) (tPar i j ta):=by
 intro pins s O H D I h;rw[exec_Assign_arm];refine qB (wpAny_standAt ?_);rw[hs];refine qB (qC ?_);rw[if_neg (by decide)];refine qB (Tuple_ (thn (ha _ pins s O H _ I h) λus s1 ⟨vs,H1,I1,r1,q1⟩=>?_));obtain⟨v,w,e1,q1⟩:=q1;subst e1;obtain⟨u1,u2,rfl,rv,rw'⟩:∃u1 u2,us=[u1,u2]/\yL v u1/\yL w u2:=by
  cases r1 with
  |cons p q =>
   cases q with
   |cons p' q' =>
    cases q';exact⟨_,_,rfl,p,p'⟩
 refine wpAny_newObj_type ?_ (by show 2<=sizeLine;decide);have I2:Inv X pins O H1 {s1 with heap:=s1.heap.push {cls:=.type "tuple",data:=.seq [u1,u2].toArray}}:=I1.kept (t':=s1.toks) λb o e=>qA _ e
 rw[hw];refine qB (qC ?_);show wpAny (model X.prog X.w) X.A (do rule "assign.swapped-stores";let items <- unpackItems (.ref s1.heap.objs.size) 2 none;assignInOrder [λv=>bindName X.env y v,λv=>bindName X.env x v] items.reverse;pure Flow.next) _ _ _;refine qB (wpAny_rule (qB (unpackItems_tuple (items:=#[u1,u2]) (I.ok.hd hc) (IsTup.new s1.heap _) λh' hx'=>?_)));have I3:=I2.kept (h':=h') (t':=s1.toks) λb o e=>hx' b o (ne_of_lt (lt_size e)) e
 show wpAny _ _ (assignInOrder [λv=>bindName X.env y v,λv=>bindName X.env x v] [u2,u1] >>= λ_=>pure Flow.next) _ _ _
 refine qB (assignInOrder_cons (wpAny_bindName (wj I3 hN hj (.inl hy) rw' (λs2 I4=>?_) (.inr hy))));refine assignInOrder_cons (wpAny_bindName (wj I4 hN hi (.inl hx) rv (λs3 I5=>assignInOrder_nil (qC ?_)) (.inr hx)));rw[List.set_comm _ _ (Ne.symm hij)]at I5;exact⟨_,H1,I5,q1⟩
def tAug(i:Nat)(te:TE)(ti:TIp):TS:=λD O H=>∃x,O[i]?=some (some x)/\te O H λy H1=>ti x y H1 λz H2=>D.nx (O.set i (some z)) H2
def zBQ{i:Nat}{x:Str}{e:Expr}{te:TE}{op:Operator}{ti:TIp}{pos':Pos}(hN:X.N.Nodup)(hi:X.N[i]?=some x)(hx:Loc X.env.scope x)(he:PE X e te)(ho:PIp X op ti)(hf:X.fn x=true\/X.env.scope.names.lookup x=some .local:=by first|exact .inl rfl|exact .inr rfl|assumption) :
  PS X (.AugAssign (.Name x pos') op e pos) (tAug i te ti):=by
 intro pins s O H D I h;obtain⟨v,e1,h⟩:=h;obtain⟨m,hn,hl⟩:=I.loc;have vis:Vis X.env.scope x:=by rcases hx with k|k;exact .inl k;exact .inr (.inl k)
 obtain⟨u,r,l⟩:=hl i x v hi e1 vis;refine wpAny_AugAssign_Name ?_;have go:wpAny (model X.prog X.w) X.A (eval e X.env) (λw s₂=>wpAny (model X.prog X.w) X.A (inplaceOp op u w) (λr s₃=>wpAny (model X.prog X.w) X.A (storeName X.env x r) (λ_=>SP X pins D .next) X.xe s₃) X.xe s₂) X.xe s:=by
  refine thn (he pins s O H _ I h) λw s1 ⟨y,H1,I1,r1,q1⟩=>?_
  refine thn (ho pins s1 O H1 v y u w _ I1 r r1 q1) λz s2 ⟨zv,H2,I2,r2,q2⟩=>?_
  exact wj I2 hN hi hx r2 (λs3 I3=>⟨_,H2,I3,q2⟩) hf
 rcases l with⟨hk,hm⟩|⟨hk,c,hc,hcell⟩
 ·exact wpAny_loadName_local I.ok.kind hk hn hm go
 ·rcases hk with hk|hk
  ·exact wpAny_loadName_cell I.ok.kind hk hc hcell go
  ·rcases hx with k|k
   ·have:X.env.scope.names.lookup x=some .free:=hk
    rw[k]at this;cases this
   ·have:X.env.scope.names.lookup x=some .free:=hk
    rw[k]at this;cases this
def ipI(f:Int->Int->Int):TIp:=λx y H Q=>∃i j,x=.int i/\y=.int j/\Q (.int (f i j)) H
def ip_add:PIp X .Add (ipI λi j=>i+j):=by
 intro pins s O H x y v u Q I r1 r2 h;obtain⟨i,j,e1,e2,q⟩:=h;subst e1;subst e2;obtain⟨t,rfl⟩:=r1;obtain⟨t',rfl⟩:=r2;exact iadd_int ⟨.int _,H,I.tok _,⟨_,rfl⟩,q⟩
def ip_sub:PIp X .Sub (ipI λi j=>i-j):=by
 intro pins s O H x y v u Q I r1 r2 h;obtain⟨i,j,e1,e2,q⟩:=h;subst e1;subst e2;obtain⟨t,rfl⟩:=r1;obtain⟨t',rfl⟩:=r2;exact isub_int ⟨.int _,H,I.tok _,⟨_,rfl⟩,q⟩
end
section
variable{X:Cx}{pos:Pos}
def zFf(c:TT)(tb:TS):TS:=λD O H=>∃W:Nat->St->Hp->Prop,(∃m,W m O H)/\∀m O H,W m O H ->
 c O H λb H1=>if b=true then ∃N:St->Hp->Prop,(∀O' H',N O' H'->∃m',m'<m/\W m' O' H')/\tb {D with nx:=N,ct:=N,bk:=D.nx} O H1 else D.nx O H1
def zDw{c:Expr}{body:List Stmt}{tc:TT}{tb:TS}(hp:PassesOwn (model X.prog X.w) X.A X.env X.xe)(hc:PT X c tc)(hb:PSs X body tb):PS X (.While c body [] pos) (zFf tc tb):=by
 intro pins s O H D I h;obtain⟨W,⟨m0,w0⟩,turn⟩:=h;refine wpAny_While (codeAny_whileLoop (λn s'=>∃O' H',Inv X pins O' H' s'/\W n O' H') ?_ m0 ⟨O,H,I,w0⟩)
 rintro n s1 ⟨O1,H1,I1,w1⟩
 refine wpAny_passesOwn hp (thn (hc pins s1 O1 H1 _ I1 (turn n O1 H1 w1)) λb s2 ⟨H2,I2,q2⟩=>?_);cases b with
 |true =>
  obtain⟨N,hN,q2⟩:=q2;rw[if_pos rfl];refine wpAny_passesOwn hp (thn (hb pins s2 O1 H2 _ I2 q2) λf s3 q3=>?_);cases f with
  |next =>
   obtain⟨O3,H3,I3,n3⟩:=q3;obtain⟨m',hm,w3⟩:=hN O3 H3 n3;exact⟨m',hm,O3,H3,I3,w3⟩
  |cont =>
   obtain⟨O3,H3,I3,n3⟩:=q3;obtain⟨m',hm,w3⟩:=hN O3 H3 n3;exact⟨m',hm,O3,H3,I3,w3⟩
  |brk=>exact q3|ret v=>exact q3
 |false =>
  rw[if_neg qF];exact wpAny_execs_nil ⟨O1,H2,I2,q2⟩
end
structure It where
 go:Nat->Hp->Prop
 yld:Nat->Hp->V->Hp->Prop
 stop:Nat->Hp->Prop
def G3(X:Cx)(pins:List (Addr×Obj))(H:Hp)(b:Addr):Prop :=
 H b=none/\b≠X.env.locals/\b∉X.fs/\(b∈X.ex\/X.s₀.heap.objs.size<=b)/\(∀x c,X.env.cells.lookup x=some c->c≠b)/\∀p∈X.pn++pins,p.1≠b
def Inv.fpOk{X:Cx}{pins:List (Addr×Obj)}{O:St}{H H':Hp}{s:Shared}{b:Addr}(I:Inv X pins O H s)(hb:s.heap.objs.size<=b)(hn:H' b=none):G3 X pins H' b:=by
 refine⟨hn,ne_of_gt (lt_of_lt_of_le I.lt hb),I.nofs hb,.inr (le_trans I.sz hb),λx c e z=>?_,λp hp z=>?_⟩
 ·obtain⟨v,q⟩:=I.cell x c e
  exact absurd (lt_of_lt_of_le q.lt (by rw[z];exact hb)) (lt_irrefl _)
 ·exact absurd (lt_of_lt_of_le (lt_size (I.pin p hp).1) (by rw[z];exact hb)) (lt_irrefl _)
structure Turn(P:Program)(w:World)(K:qH)(tg:Expr)(J:It)(fp:List Addr)(it:Addr)(tn:Nat->Heap->Prop):Prop where
 mem:it∈fp
 obj:∀i h,tn i h->∀b∈fp,∃o,h.get? b=some o/\∀v,o.data≠.cell v
 keep:∀i h h',tn i h->(∀b∈fp,∀o,h.get? b=some o->h'.get? b=some o)->tn i h'
 item:∀(X:Cx),X.prog=P->X.w=w->X.K=K->X.calm=true->∀(i:Nat) (pins:List (Addr×Obj)) (s:Shared) (O:St) (H:Hp) (E:Value->Shared->Prop),Inv X pins O H s->(∀b∈fp,G3 X pins H b)->tn i s.heap->J.go i H ->
  wpAny (model P w) X.A (pyNext (.ref it)) (λr s1=>∃u,r=some u /\
   wpAny (model P w) X.A (letOwnedTupleGo tg (.ref it) u) (λ_ s2=>∃x H',Inv X pins O H' s2/\yL x u/\J.yld i H x H'/\tn (i+1) s2.heap/\∀b∈fp,H' b=none) E s1) E s
 done:∀(X:Cx),X.prog=P->X.w=w->X.K=K->X.calm=true->∀(i:Nat) (pins:List (Addr×Obj)) (s:Shared) (O:St) (H:Hp) (E:Value->Shared->Prop),Inv X pins O H s->(∀b∈fp,G3 X pins H b)->tn i s.heap->J.stop i H ->
  wpAny (model P w) X.A (pyNext (.ref it)) (λr s1=>r=none/\Inv X pins O H s1) E s
 self:∀(A:Around) (i:Nat) (s:Shared) (Q:Value->Shared->Prop) (E:Value->Shared->Prop),tn i s.heap->Q (.ref it) s->wpAny (model P w) A (pyIter (.ref it)) Q E s
abbrev TI:=St->Hp->(It->Hp->Prop)->Prop
def PIE(X:Cx)(pins:List (Addr×Obj))(O:St)(tg:Expr)(R:It->Hp->Prop)(itv:Value)(s2:Shared):Prop :=
 ∃(it:Addr) (fp:List Addr) (tn:Nat->Heap->Prop) (J:It) (H':Hp),itv=.ref it/\Inv X pins O H' s2/\Turn X.prog X.w X.K tg J fp it tn/\tn 0 s2.heap/\(∀b∈fp,G3 X pins H' b)/\R J H'
def PI(X:Cx)(tg iter:Expr)(wi:TI):Prop :=
 ∀(pins:List (Addr×Obj)) (s:Shared) (O:St) (H:Hp) (R:It->Hp->Prop),Inv X pins O H s->wi O H R ->
  wpAny (model X.prog X.w) X.A (eval iter X.env) (λv s1=>wpAny (model X.prog X.w) X.A (pyIter v) (PIE X pins O tg R) X.xe s1) X.xe s
def YN{M:Model}{A:Around}{E:Value->Shared->Prop}{s:Shared}{tg:Expr}{it:Addr}{u:Value}{o:Obj}{n:String}{vs:Array Value}{Q:Unit->Shared->Prop}(ho:s.heap.get? it=some o)(hc:o.cls=.type n)(hd:o.data=.fields vs)
  (hn:["enumerate","zip","dict_itemiterator","dict_reverseitemiterator","odict_iterator","itertools.zip_longest","itertools.pairwise"].contains n=false) (hQ:Q () s):wpAny M A (letOwnedTupleGo tg (.ref it) u) Q E s:=by
 unfold letOwnedTupleGo
 cases tg<;>first
  |exact qC hQ
  | (cases u<;>first
    |exact qC hQ
    | (refine qB (wpAny_load ho ?_)
       rw[hc,hd];show wpAny M A (if(["enumerate","zip","dict_itemiterator","dict_reverseitemiterator","odict_iterator","itertools.zip_longest","itertools.pairwise"].contains n&&vs[0]?==some (rawInt _))=true then _ else _) Q E s;rw[if_neg (by intro h;rw[hn,Bool.false_and]at h;cases h)];exact qC hQ))
def Itl(K:qH)(a:Addr):It :=
 ⟨λi H=>∃xs x,SqL K H a xs/\xs[i]?=some x,λi H x H'=>H'=H/\∀xs,SqL K H a xs->xs[i]?=some x,λi H=>∃xs,SqL K H a xs/\xs.length<=i⟩
def Itt(K:qH)(a:Addr):It :=
 ⟨λi H=>∃xs x,SqT K H a xs/\xs[i]?=some x,λi H x H'=>H'=H/\∀xs,SqT K H a xs->xs[i]?=some x,λi H=>∃xs,SqT K H a xs/\xs.length<=i⟩
def Itr(lo:Int)(n:Nat):It:=⟨λi _=>i<n,λi H x H'=>H'=H/\x=.int (lo+i),λi _=>n<=i⟩
def zBR{P:Program}{w:World}{K:qH}{tg:Expr}(a it:Addr):Turn P w K tg (Itl K a) [it] it (λi h=>h.IsListIter it a i) where
 mem:=by simp
 obj:=λi h st b hb=>by
  have e:b=it:=by simpa using hb
  subst e;obtain⟨o,e,c,d⟩:=st;exact⟨o,e,λv z=>by rw[d]at z;cases z⟩
 keep:=λi h h' st k=>st.at λo e=>k it (by simp) o e
 item:=by
  intro X hP hw hK hc i pins s O H E I hf st hg;subst hP hw hK;obtain⟨xs,x,hq,hx⟩:=hg;obtain⟨its,rv,p,hz⟩:=I.list hq;obtain⟨u,hu,ru⟩:=rv.get hx;obtain⟨f0,f1,f2,f3,f4,f5⟩:=hf it (by simp);refine wpAny_pyNext_list_item st p.isList (x:=u) (by simpa using hu) λh' st' sb=>?_
  have I1:Inv X pins O H {s with heap:=h'}:=I.turned (t':=s.toks) (λb o hb e=>(sb.2 b hb).trans e) f0 f1 f3 f4 f5
  obtain⟨o,e,c,d⟩:=id st';exact⟨u,rfl,YN (s:={s with heap:=h'}) e c d (by decide) ⟨x,H,I1,ru,⟨rfl,λys hy=>by rw[I.list_inj hy hq];exact hx⟩,st',λb hb=>(hf b hb).1⟩⟩
 done:=by
  intro X hP hw hK hc i pins s O H E I hf st hg;subst hP hw hK;obtain⟨xs,hq,hx⟩:=hg;obtain⟨its,rv,p,hz⟩:=I.list hq;obtain⟨f0,f1,f2,f3,f4,f5⟩:=hf it (by simp);have hl:=rv.length;exact wpAny_pyNext_list_end (I.ok.hd hc) st p.isList (by simp;omega) λh' eb=>⟨rfl,I.turned (t':=s.toks) (λb o hb e=>eb b o hb e) f0 f1 f3 f4 f5⟩
 self:=λ_ _ _ _ _ st h=>wpAny_pyIter_listiter st h
def zAj{P:Program}{w:World}{K:qH}{tg:Expr}(a it:Addr):Turn P w K tg (Itt K a) [it] it (λi h=>h.IsTupleIter it a i) where
 mem:=by simp
 obj:=λi h st b hb=>by
  have e:b=it:=by simpa using hb
  subst e;obtain⟨o,e,c,d⟩:=st;exact⟨o,e,λv z=>by rw[d]at z;cases z⟩
 keep:=λi h h' st k=>st.at λo e=>k it (by simp) o e
 item:=by
  intro X hP hw hK hc i pins s O H E I hf st hg;subst hP hw hK;obtain⟨xs,x,hq,hx⟩:=hg;obtain⟨its,rv,p,hz⟩:=I.tuple hq;obtain⟨u,hu,ru⟩:=rv.get hx;obtain⟨f0,f1,f2,f3,f4,f5⟩:=hf it (by simp);refine wpAny_pyNext_tuple_item st (show s.heap.IsTuple a its.toArray from p) (x:=u) (by simpa using hu) λh' st' sb=>?_
  have I1:Inv X pins O H {s with heap:=h'}:=I.turned (t':=s.toks) (λb o hb e=>(sb.2 b hb).trans e) f0 f1 f3 f4 f5
  obtain⟨o,e,c,d⟩:=id st';exact⟨u,rfl,YN (s:={s with heap:=h'}) e c d (by decide) ⟨x,H,I1,ru,⟨rfl,λys hy=>by rw[I.tuple_inj hy hq];exact hx⟩,st',λb hb=>(hf b hb).1⟩⟩
 done:=by
  intro X hP hw hK hc i pins s O H E I hf st hg;subst hP hw hK;obtain⟨xs,hq,hx⟩:=hg;obtain⟨its,rv,p,hz⟩:=I.tuple hq;obtain⟨f0,f1,f2,f3,f4,f5⟩:=hf it (by simp);have hl:=rv.length;exact wpAny_pyNext_tuple_end (I.ok.hd hc) st (show s.heap.IsTuple a its.toArray from p) (by simp;omega) λh' eb=>⟨rfl,I.turned (t':=s.toks) (λb o hb e=>eb b o hb e) f0 f1 f3 f4 f5⟩
 self:=λ_ _ _ _ _ st h=>wpAny_pyIter_tupleiter st h
def zAk{P:Program}{w:World}{K:qH}{tg:Expr}(it:Addr)(lo:Int)(n:Nat):Turn P w K tg (Itr lo n) [it] it (λi h=>IsRangeIter h it (lo+(i:Nat)*1) ((n:Int)-(i:Nat)) 1) where
 mem:=by simp
 obj:=λi h st b hb=>by
  have e:b=it:=by simpa using hb
  subst e;exact⟨_,st,λv z=>by
   have z':Data.fields _=Data.cell v:=z;cases z'⟩
 keep:=λi h h' st k=>k it (by simp) _ st
 item:=by
  intro X hP hw hK hc i pins s O H E I hf st hg;subst hP hw hK;obtain⟨f0,f1,f2,f3,f4,f5⟩:=hf it (by simp);have W:=Walks.range (prog:=X.prog) (w:=X.w) (I.ok.hd hc) it lo 1 n;refine W.item i s _ _ hg st λv h' tk hv st' kk=>?_
  obtain⟨t,rfl⟩:=hv;have I1:Inv X pins O H {s with heap:=h',toks:=tk}:=I.turned (λb o hb e=>kk b o (by simpa using hb) e) f0 f1 f3 f4 f5
  refine⟨_,rfl,YN (s:={s with heap:=h',toks:=tk}) (n:="range_iterator") st' rfl rfl (by decide) ⟨.int (lo+i),H,I1,⟨t,?_⟩,⟨rfl,rfl⟩,st',λb hb=>(hf b hb).1⟩⟩
  rw[Int.mul_one]
 done:=by
  intro X hP hw hK hc i pins s O H E I hf st hg;subst hP hw hK;obtain⟨f0,f1,f2,f3,f4,f5⟩:=hf it (by simp);exact wpAny_pyNext_range_end (I.ok.hd hc) st (by have:n<=i:=hg;omega) λh' eb=>⟨rfl,I.turned (t':=s.toks) (λb o hb e=>eb b o hb e) f0 f1 f3 f4 f5⟩
 self:=λ_ _ _ _ _ st h=>wpAny_pyIter_rangeiter st h
section
variable{X:Cx}{tg:Expr}
def iList(K:qH)(tl:TE):TI:=λO H R=>tl O H λx H1=>∃a,x=.ref a/\(∃xs,SqL K H1 a xs)/\R (Itl K a) H1
def iTup(K:qH)(tl:TE):TI:=λO H R=>tl O H λx H1=>∃a,x=.ref a/\(∃xs,SqT K H1 a xs)/\R (Itt K a) H1
def zBS{l:Expr}{tl:TE}(hl:PE X l tl):PI X tg l (iList X.K tl):=by
 intro pins s O H R I h;refine thn (hl pins s O H _ I h) λv s1 ⟨x,H1,I1,r1,q1⟩=>?_
 obtain⟨a,e,⟨xs,hq⟩,q⟩:=q1;subst e;cases r1;obtain⟨its,rv,p,hz⟩:=I1.list hq;refine wpAny_pyIter_list p.isList ?_;refine⟨s1.heap.objs.size,[s1.heap.objs.size],_,_,H1,rfl,I1.kept (t':=s1.toks) λb o e=>qA _ e,zBR a _,⟨_,get?_push_size _ rfl,rfl,rfl⟩,λb hb=>?_,q⟩;have e:b=s1.heap.objs.size:=by simpa using hb
 subst e;exact I1.fpOk (le_refl _) (I1.hok.fresh (le_refl _))
def pi_tup{l:Expr}{tl:TE}(hl:PE X l tl):PI X tg l (iTup X.K tl):=by
 intro pins s O H R I h;refine thn (hl pins s O H _ I h) λv s1 ⟨x,H1,I1,r1,q1⟩=>?_
 obtain⟨a,e,⟨xs,hq⟩,q⟩:=q1;subst e;cases r1;obtain⟨its,rv,p,hz⟩:=I1.tuple hq;refine wpAny_pyIter_tuple (show s1.heap.IsTuple a its.toArray from p) ?_;refine⟨s1.heap.objs.size,[s1.heap.objs.size],_,_,H1,rfl,I1.kept (t':=s1.toks) λb o e=>qA _ e,zAj a _,⟨_,get?_push_size _ rfl,rfl,rfl⟩,λb hb=>?_,q⟩;have e:b=s1.heap.objs.size:=by simpa using hb
 subst e;exact I1.fpOk (le_refl _) (I1.hok.fresh (le_refl _))
def Qg{pins:List (Addr×Obj)}{O:St}{H:Hp}{s:Shared}{R:It->Hp->Prop}{E:Value->Shared->Prop}{lo hi:Int}{t u v:Tok}{tk:Nat}(I:Inv X pins O H s)(h1:-(2^62)<=lo)(h2:lo<2^62)(h3:-(2^62)<=hi)(h4:hi<2^62)
  (q:R (Itr lo (hi-lo).toNat) H):wpAny (model X.prog X.w) X.A (pyIter (.ref s.heap.objs.size)) (PIE X pins O tg R) E {s with heap:=s.heap.push {cls:=.type "range",data:=.fields #[.int lo t,.int hi u,.int 1 v]},toks:=tk}:=by
 refine wpAny_pyIter_range (IsRange.new ..) (small_one h1 h2 h3 h4) ?_;have I1:Inv X pins O H {s with heap:=s.heap.push {cls:=.type "range",data:=.fields #[.int lo t,.int hi u,.int 1 v]},toks:=tk}:=I.kept λb o e=>qA _ e
 refine⟨(s.heap.push {cls:=.type "range",data:=.fields #[.int lo t,.int hi u,.int 1 v]}).objs.size,[(s.heap.push {cls:=.type "range",data:=.fields #[.int lo t,.int hi u,.int 1 v]}).objs.size],_,_,H,rfl,
  I1.kept (t':=tk) λb o e=>qA _ e,zAk _ lo (hi-lo).toNat,?_,λb hb=>?_,q⟩
 ·have e1:lo+((0:Nat):Int)*1=lo:=by simp
  have e2:(((hi-lo).toNat:Nat):Int)-((0:Nat):Int)=Builtin.Range.rangeSize lo hi 1:=by rw[rangeSize_one];split<;>omega
  show IsRangeIter _ _ (lo+((0:Nat):Int)*1) ((((hi-lo).toNat:Nat):Int)-((0:Nat):Int)) 1
  rw[e1,e2];exact get?_push_size _ rfl
 ·have e:b=(s.heap.push {cls:=.type "range",data:=.fields #[.int lo t,.int hi u,.int 1 v]}).objs.size:=by simpa using hb
  subst e;exact I1.fpOk (le_refl _) (I1.hok.fresh (le_refl _))
def iRng1(ta:TA):TI:=λO H R=>ta O H λvs H1=>∃j:Int,vs=[.int j]/\-(2^62)<=j/\j<2^62/\R (Itr 0 j.toNat) H1
def iRng2(ta:TA):TI:=λO H R=>ta O H λvs H1=>∃i j:Int,vs=[.int i,.int j]/\(-(2^62)<=i/\i<2^62/\-(2^62)<=j/\j<2^62)/\R (Itr i (j-i).toNat) H1
def ue{a:Expr}{ta:TA}{p pos:Pos}(hg:Gl X "range")(hm:X.mg "range"=none)(ha:PA X [a] ta)(hs:starEach [a] X.env=[(false,eval a X.env)]:=by rfl):PI X tg (.Call (.Name "range" p) [a] [] pos) (iRng1 ta):=by
 intro pins s O H R I h;refine Call_ (Ym I hg hm boot_range (PyProof.Rows.callWith_type1 (thn (ha pos pins s O H _ I h) λus s1 ⟨vs,H1,I1,r1,q1⟩=>?_) hs rfl));obtain⟨j,e,q1,q2,q⟩:=q1;subst e;cases r1 with
 |cons r rr =>
  cases rr;obtain⟨t,rfl⟩:=r;exact call_range_1 (Qg I1 (by omega) (by omega) q1 q2 (by simpa using q))
def zBT{a b:Expr}{ta:TA}{p pos:Pos}(hg:Gl X "range")(hm:X.mg "range"=none)(ha:PA X [a,b] ta)(hs:starEach [a,b] X.env=[(false,eval a X.env),(false,eval b X.env)]:=by rfl)(hs2:starEach [b] X.env=[(false,eval b X.env)]:=by rfl) :
  PI X tg (.Call (.Name "range" p) [a,b] [] pos) (iRng2 ta):=by
 intro pins s O H R I h;refine Call_ (Ym I hg hm boot_range (PyProof.Rows.callWith_type1 (thn (ha pos pins s O H _ I h) λus s1 ⟨vs,H1,I1,r1,q1⟩=>?_) (by rw[hs,hs2]) (by rw[hs2];rfl)));obtain⟨i,j,e,⟨q1,q2,q3,q4⟩,q⟩:=q1;subst e;cases r1 with
 |cons r rr =>
  cases rr with
  |cons r' rr =>
   cases rr;obtain⟨t,rfl⟩:=r;obtain⟨t',rfl⟩:=r';exact call_range_2 (Qg I1 q1 q2 q3 q4 q)
def tFor(wi:TI)(g:TG)(tb:TS):TS:=λD O H=>wi O H λJ H1=>∃W:Nat->Nat->St->Hp->Prop,(∃m,W 0 m O H1)/\∀i m O H,W i m O H ->
 (J.stop i H/\D.nx O H)\/(J.go i H/\∃N:St->Hp->Prop,(∀O' H',N O' H'->∃m',m'<m/\W (i+1) m' O' H')/\∀x H',J.yld i H x H'->g x O H' λO2 H2=>tb {D with nx:=N,ct:=N,bk:=D.nx} O2 H2)
def Z3(fp:List Addr)(h:Heap):List (Addr×Obj):=fp.filterMap λb=>(h.get? b).map λo=>(b,o)
def yx{fp:List Addr}{h:Heap}{b:Addr}{o:Obj}(hb:b∈fp)(e:h.get? b=some o):(b,o)∈Z3 fp h:=mem_filterMap.mpr ⟨b,hb,by rw[e];rfl⟩
def zBU{fp:List Addr}{h:Heap}{p:Addr×Obj}(hp:p∈Z3 fp h):p.1∈fp/\h.get? p.1=some p.2:=by
 obtain⟨b,hb,e⟩:=mem_filterMap.mp hp;cases q:h.get? b with
 |none=>rw[q]at e;cases e
 |some o =>
  rw[q]at e;have e':(b,o)=p:=qJ e;subst e';exact⟨hb,q⟩
def Inv.pinned{pins:List (Addr×Obj)}{O:St}{H:Hp}{s:Shared}{fp:List Addr}(I:Inv X pins O H s)(hf:∀b∈fp,G3 X pins H b)(ho:∀b∈fp,∃o,s.heap.get? b=some o/\∀v,o.data≠.cell v):Inv X (pins++Z3 fp s.heap) O H s :=
 I.pins_of λp hp=>(mem_append.mp hp).elim (λz=>I.pin p (qK _ z)) λz=>by
  obtain⟨hb,e⟩:=zBU z;obtain⟨f0,f1,f2,_⟩:=hf p.1 hb;obtain⟨o,e',d⟩:=ho p.1 hb;rw[e]at e';cases e';exact⟨e,f0,f1,f2,d⟩
def Inv.unpinned{pins pl:List (Addr×Obj)}{O:St}{H:Hp}{s:Shared}(I:Inv X (pins++pl) O H s):Inv X pins O H s:=I.pins_of λp hp=>I.pin p (qK _ (mem_append_left _ hp))
def Qh{iter:Expr}{body:List Stmt}{wi:TI}{g:TG}{tb:TS}{pos:Pos}(hp:PassesOwn (model X.prog X.w) X.A X.env X.xe)(hc:X.calm=true)(hi:PI X tg iter wi)(hg:PG X tg g)(hb:PSs X body tb)
  (hs:∀x,foldedSetIterable iter X.env x=pure x:=by intro _;rfl):PS X (.For tg iter body [] pos) (tFor wi g tb):=by
 intro pins s O H D I h;refine wpAny_For (thn (hi pins s O H _ I h) λv s1 h1=>thn h1 λitv s2 h2=>?_) hs;obtain⟨it,fp,tn,J,H2,e,I2,T,st2,f2,W,⟨m0,w0⟩,turn⟩:=h2;subst e
 -- what stays true of the iterator's objects through the loop
 have stat:∀{H':Hp},(∀b∈fp,H' b=none)->∀b∈fp,G3 X pins H' b:=λhn b hb=>⟨hn b hb,(f2 b hb).2⟩
 refine codeAny_forLoop_any (λn s'=>∃i O' H',Inv X pins O' H' s'/\tn i s'.heap/\(∀b∈fp,H' b=none)/\W i n O' H') ?_ m0 ⟨0,O,H2,I2,st2,λb hb=>(f2 b hb).1,w0⟩
 rintro n s3 ⟨i,O3,H3,I3,st3,fr3,w3⟩
 rcases turn i n O3 H3 w3 with⟨stop,qn⟩|⟨go,N,hN,step⟩
 ·refine wpAny_passesOwn hp (thn (T.done X rfl rfl rfl hc i pins s3 O3 H3 X.xe I3 (stat fr3) st3 stop) λr s4 ⟨hr,I4⟩=>?_)
  subst hr;exact wpAny_execs_nil ⟨O3,H3,I4,qn⟩
 ·refine wpAny_passesOwn hp (thn (T.item X rfl rfl rfl hc i pins s3 O3 H3 X.xe I3 (stat fr3) st3 go) λr s4 ⟨u,hr,h4⟩=>?_)
  subst hr;refine wpAny_passesOwn hp (thn h4 λ_ s5 ⟨x,H5,I5,r5,y5,st5,fr5⟩=>?_);have I5':=I5.pinned (stat fr5) (T.obj _ _ st5);refine wpAny_passesOwn hp (thn (hg _ s5 O3 H5 x u _ I5' r5 (step x H5 y5)) λ_ s6 ⟨O6,H6,I6,q6⟩=>?_);refine wpAny_passesOwn hp (thn (hb _ s6 O6 H6 _ I6 q6) λf s7 q7=>?_);have again:∀{O7:St} {H7:Hp},Inv X (pins++Z3 fp s5.heap) O7 H7 s7->N O7 H7->∃m,m<n/\∃i O' H',Inv X pins O' H' s7/\tn i s7.heap/\(∀b∈fp,H' b=none)/\W i m O' H':=λ{O7 H7} I7 n7=>by
   obtain⟨m',hm,w7⟩:=hN O7 H7 n7;refine⟨m',hm,i+1,O7,H7,I7.unpinned,T.keep _ _ _ st5 λb hb o e=>(I7.pin (b,o) (qK _ (qK _ (yx hb e)))).1,λb hb=>?_,w7⟩;obtain⟨o,e,d⟩:=T.obj _ _ st5 b hb;exact(I7.pin (b,o) (qK _ (qK _ (yx hb e)))).2.1
  cases f with
  |next=>obtain⟨O7,H7,I7,n7⟩:=q7;exact again I7 n7|cont=>obtain⟨O7,H7,I7,n7⟩:=q7;exact again I7 n7|brk=>obtain⟨O7,H7,I7,q7⟩:=q7;exact⟨O7,H7,I7.unpinned,q7⟩|ret v=>obtain⟨x7,O7,H7,I7,r7,q7⟩:=q7;exact⟨x7,O7,H7,I7.unpinned,r7,q7⟩
end
def zDx{K:qH}{a:Addr}{xs:List V}{g:TG}{tb:TS}{D:Ends}{O:St}{H:Hp}(Pv:Nat->St->Hp->Prop)(h0:Pv 0 O H)(hl:∀i O H,i<=xs.length->Pv i O H->SqL K H a xs)
  (hs:∀i x O H,xs[i]?=some x->Pv i O H->g x O H λO2 H2=>tb {D with nx:=Pv (i+1),ct:=Pv (i+1),bk:=D.nx} O2 H2) (hd:∀O H,Pv xs.length O H->D.nx O H) :
  ∃W:Nat->Nat->St->Hp->Prop,(∃m,W 0 m O H)/\∀i m O H,W i m O H ->
   ((Itl K a).stop i H/\D.nx O H)\/((Itl K a).go i H/\∃N:St->Hp->Prop,(∀O' H',N O' H'->∃m',m'<m/\W (i+1) m' O' H')/\∀x H',(Itl K a).yld i H x H'->g x O H' λO2 H2=>tb {D with nx:=N,ct:=N,bk:=D.nx} O2 H2):=by
 refine⟨λi m O H=>m=xs.length-i/\i<=xs.length/\Pv i O H,⟨xs.length,by simp,zero_le _,h0⟩,?_⟩
 rintro i m O H ⟨rfl,hi,p⟩
 have q:=hl i O H hi p;by_cases hlt:i<xs.length
 ·refine .inr ⟨⟨xs,xs[i],q,by simp[hlt]⟩,Pv (i+1),λO' H' p'=>⟨xs.length-(i+1),by omega,rfl,hlt,p'⟩,λx H' y=>?_⟩
  obtain⟨e,y⟩:=y;subst e;exact hs i x O _ (y xs q) p
 ·have e:i=xs.length:=by omega
  subst e;exact .inl ⟨⟨xs,q,le_refl _⟩,hd O H p⟩
def zBV{lo:Int}{n:Nat}{g:TG}{tb:TS}{D:Ends}{O:St}{H:Hp}(Pv:Nat->St->Hp->Prop)(h0:Pv 0 O H)
  (hs:∀i O H,i<n->Pv i O H->g (.int (lo+i)) O H λO2 H2=>tb {D with nx:=Pv (i+1),ct:=Pv (i+1),bk:=D.nx} O2 H2) (hd:∀O H,Pv n O H->D.nx O H) :
  ∃W:Nat->Nat->St->Hp->Prop,(∃m,W 0 m O H)/\∀i m O H,W i m O H ->
   ((Itr lo n).stop i H/\D.nx O H)\/((Itr lo n).go i H/\∃N:St->Hp->Prop,(∀O' H',N O' H'->∃m',m'<m/\W (i+1) m' O' H')/\∀x H',(Itr lo n).yld i H x H'->g x O H' λO2 H2=>tb {D with nx:=N,ct:=N,bk:=D.nx} O2 H2):=by
 refine⟨λi m O H=>m=n-i/\i<=n/\Pv i O H,⟨n,by simp,zero_le _,h0⟩,?_⟩
 rintro i m O H ⟨rfl,hi,p⟩
 by_cases hlt:i<n
 ·refine .inr ⟨hlt,Pv (i+1),λO' H' p'=>⟨n-(i+1),by omega,rfl,hlt,p'⟩,λx H' y=>?_⟩
  obtain⟨e,y⟩:=y;subst e y;exact hs i O _ hlt p
 ·have e:i=n:=by omega
  subst e;exact .inl ⟨le_refl _,hd O H p⟩
abbrev R2:=V->V->Hp->VK->Prop
def OpR(X:Cx)(f:Value->Value->Sem Value)(r:R2):Prop :=
 ∀(pins:List (Addr×Obj)) (s:Shared) (O:St) (H:Hp) (x y:V) (v u:Value) (Q:VK),Inv X pins O H s->yL x v->yL y u->r x y H Q ->
  wpAny (model X.prog X.w) X.A (f v u) (EP X pins O Q) X.xe s
def UnR(X:Cx)(f:Value->Sem Value)(r:V->Hp->VK->Prop):Prop :=
 ∀(pins:List (Addr×Obj)) (s:Shared) (O:St) (H:Hp) (x:V) (v:Value) (Q:VK),Inv X pins O H s->yL x v->r x H Q ->
  wpAny (model X.prog X.w) X.A (f v) (EP X pins O Q) X.xe s
def JO(X:Cx)(f:Value)(r:List V->Hp->VK->Prop):Prop :=
 ∀(pins:List (Addr×Obj)) (s:Shared) (O:St) (H:Hp) (xs:List V) (us:List Value) (Q:VK),Inv X pins O H s->yc xs us->r xs H Q ->
  wpAny (model X.prog X.w) X.A (call f us) (EP X pins O Q) X.xe s
def tOp(r:R2)(ta tb:TE):TE:=λO H Q=>ta O H λx H1=>tb O H1 λy H2=>r x y H2 Q
def tUn(r:V->Hp->VK->Prop)(ta:TE):TE:=λO H Q=>ta O H λx H1=>r x H1 Q
def rI(C:Int->Int->Prop)(g:Int->Int->V):R2:=λx y H Q=>∃i j,x=.int i/\y=.int j/\C i j/\Q (g i j) H
def rI0(g:Int->Int->V):R2:=λx y H Q=>∃i j,x=.int i/\y=.int j/\Q (g i j) H
def rU(g:Int->V):V->Hp->VK->Prop:=λx H Q=>∃i,x=.int i/\Q (g i) H
section
variable{X:Cx}{a b c:Expr}{ta tb tc:TE}{pos:Pos}
def binT(ha:PE X a ta)(hb:PE X b tb){pins:List (Addr×Obj)}{s:Shared}{O:St}{H:Hp}{R:V->V->Hp->Prop}(I:Inv X pins O H s)
  (h:ta O H λx H1=>tb O H1 λy H2=>R x y H2) {Q:Value->Shared->Prop} {f:Value->Value->Sem Value}
  (hf:∀v u s2 x y H2,Inv X pins O H2 s2->yL x v->yL y u->R x y H2->wpAny (model X.prog X.w) X.A (f v u) Q X.xe s2) :
  wpAny (model X.prog X.w) X.A (eval a X.env) (λv s₁=>wpAny (model X.prog X.w) X.A (eval b X.env) (λu s₂=>wpAny (model X.prog X.w) X.A (f v u) Q X.xe s₂) X.xe s₁) X.xe s:=by
 refine thn (ha pins s O H _ I h) λv s1 ⟨x,H1,I1,r1,q1⟩=>?_
 refine thn (hb pins s1 O H1 _ I1 q1) λu s2 ⟨y,H2,I2,r2,q2⟩=>?_
 exact hf v u s2 x y H2 I2 r1 r2 q2
def pe_op{op:Operator}{r:R2}(ho:OpR X (binaryOp op) r)(ha:PE X a ta)(hb:PE X b tb):PE X (.BinOp a op b pos) (tOp r ta tb):=by
 intro pins s O H Q I h;exact wpAny_BinOp (binT ha hb I h λv u s2 x y H2 I2 rx ry q=>ho pins s2 O H2 x y v u Q I2 rx ry q)
def pe_un{op:UnaryOp}{r:V->Hp->VK->Prop}(ho:UnR X (unaryOp op) r)(ha:PE X a ta):PE X (.UnaryOp op a pos) (tUn r ta):=by
 intro pins s O H Q I h;exact UnaryOp_ (thn (ha pins s O H _ I h) λv s1 ⟨x,H1,I1,r1,q1⟩=>ho pins s1 O H1 x v Q I1 r1 q1)
def opI{f:Value->Value->Sem Value}{C:Int->Int->Prop}{g:Int->Int->Int}
  (rule:∀(i j:Int) (t u:Tok) (s:Shared) (Q:Value->Shared->Prop) (E:Value->Shared->Prop),C i j->Q (.int (g i j) s.toks) {s with toks:=s.toks+1}->wpAny (model X.prog X.w) X.A (f (.int i t) (.int j u)) Q E s) :
  OpR X f (rI C λi j=>.int (g i j)):=by
 intro pins s O H x y v u Q I rx ry h;obtain⟨i,j,rfl,rfl,hc,q⟩:=h;obtain⟨t,rfl⟩:=rx;obtain⟨t',rfl⟩:=ry;exact rule i j t t' s _ _ hc ⟨.int (g i j),H,I.tok _,⟨_,rfl⟩,q⟩
def opI0{f:Value->Value->Sem Value}{g:Int->Int->Int}
  (rule:∀(i j:Int) (t u:Tok) (s:Shared) (Q:Value->Shared->Prop) (E:Value->Shared->Prop),Q (.int (g i j) s.toks) {s with toks:=s.toks+1}->wpAny (model X.prog X.w) X.A (f (.int i t) (.int j u)) Q E s) :
  OpR X f (rI0 λi j=>.int (g i j)):=by
 intro pins s O H x y v u Q I rx ry h;obtain⟨i,j,rfl,rfl,q⟩:=h;obtain⟨t,rfl⟩:=rx;obtain⟨t',rfl⟩:=ry;exact rule i j t t' s _ _ ⟨.int (g i j),H,I.tok _,⟨_,rfl⟩,q⟩
def opB0{f:Value->Value->Sem Value}{g:Int->Int->Bool}
  (rule:∀(i j:Int) (t u:Tok) (s:Shared) (Q:Value->Shared->Prop) (E:Value->Shared->Prop),Q (.bool (g i j)) s->wpAny (model X.prog X.w) X.A (f (.int i t) (.int j u)) Q E s) :
  OpR X f (rI0 λi j=>.bl (g i j)):=by
 intro pins s O H x y v u Q I rx ry h;obtain⟨i,j,rfl,rfl,q⟩:=h;obtain⟨t,rfl⟩:=rx;obtain⟨t',rfl⟩:=ry;exact rule i j t t' s _ _ ⟨.bl (g i j),H,I,rfl,q⟩
def CPow(i j:Int):Prop:=0<=j/\j<=1000000/\i.natAbs<2^64
def CMul(i j:Int):Prop:=(-(2^64)<i/\i<2^64)\/(-(2^64)<j/\j<2^64)
def CMul.ok{i j:Int}(h:CMul i j):IntMulOk i j:=by
 rcases h with⟨h1,h2⟩|⟨h1,h2⟩
 ·exact .of_left (intBits_le_64 h1 h2)
 ·exact .of_right (intBits_le_64 h1 h2)
def op_add:OpR X (binaryOp .Add) (rI0 λi j=>.int (i+j)):=opI0 λ_ _ _ _ _ _ _ q=>add_int q
def op_sub:OpR X (binaryOp .Sub) (rI0 λi j=>.int (i-j)):=opI0 λ_ _ _ _ _ _ _ q=>sub_int q
def op_mod:OpR X (binaryOp .Mod) (rI (λ_ j=>0<j) λi j=>.int (i%j)):=opI λi j _ _ _ _ _ hc q=>by
 have h1:(0:Int)<j:=hc;exact mod_int' (by omega) (by rw[Int.fmod_eq_emod_of_nonneg i (by omega)];exact q)
def op_pow:OpR X (binaryOp .Pow) (rI CPow λi j=>.int (i^j.toNat)):=opI λ_ _ _ _ _ _ _ hc q=>pow_int_small hc.1 hc.2.1 hc.2.2 q
def unI{f:Value->Sem Value}{g:Int->Int}
  (rule:∀(i:Int) (t:Tok) (s:Shared) (Q:Value->Shared->Prop) (E:Value->Shared->Prop),Q (.int (g i) s.toks) {s with toks:=s.toks+1}->wpAny (model X.prog X.w) X.A (f (.int i t)) Q E s) :
  UnR X f (rU λi=>.int (g i)):=by
 intro pins s O H x v Q I rx h;obtain⟨i,rfl,q⟩:=h;obtain⟨t,rfl⟩:=rx;exact rule i t s _ _ ⟨.int (g i),H,I.tok _,⟨_,rfl⟩,q⟩
def un_neg:UnR X (unaryOp .USub) (rU λi=>.int (-i)):=unI λ_ _ _ _ _ q=>neg_int q
end
def scal:V->V->Bool
 | .non,.non=>true | .non,.int _=>true | .int _,.non=>true | .non,.bl _=>true | .bl _,.non=>true | .non,.str _=>true | .str _,.non=>true
 | .int _,.int _=>true | .bl _,.bl _=>true | .str _,.str _=>true | .byt _,.byt _=>true
 | .int _,.str _=>true | .str _,.int _=>true | .bl _,.str _=>true | .str _,.bl _=>true
 |_,_=>false
def rEq:R2:=λx y H Q=>scal x y=true/\Q (.bl (decide (x=y))) H
def rNe:R2:=λx y H Q=>scal x y=true/\Q (.bl (!decide (x=y))) H
def zBW{i j:Int}:decide (V.int i=V.int j)=(i==j):=by
 rw[Bool.eq_iff_iff];simp
def zFg{i j:Bool}:decide (V.bl i=V.bl j)=(i==j):=by
 rw[Bool.eq_iff_iff];simp
def zBX{i j:Str}:decide (V.str i=V.str j)=(i==j):=by
 rw[Bool.eq_iff_iff];simp
def zBY{i j:Array UInt8}:decide (V.byt i=V.byt j)=(i.toList==j.toList):=by
 rw[Bool.eq_iff_iff];cases i;cases j;simp
section
variable{X:Cx}{a b c:Expr}{ta tb tc:TE}{pos:Pos}
def yA{pins:List (Addr×Obj)}{O:St}{H:Hp}{s:Shared}{Q:VK}{k k':Bool}(I:Inv X pins O H s)(q:Q (.bl k) H)(e:k=k'):EP X pins O Q (.bool k') s:=by
 subst e;exact⟨.bl k,H,I,rfl,q⟩
def op_eq:OpR X (compareOp .Eq) rEq:=by
 intro pins s O H x y v u Q I rx ry h;obtain⟨hs,q⟩:=h;cases x with
 |non =>
  cases rx;cases y with
  |non=>cases ry;exact PySem.EqNone.eq_none_none (yA I q (by simp))|bl j=>cases ry;exact PySem.EqNone.eq_none_bool (yA I q (by simp))|int j=>obtain⟨t',rfl⟩:=ry;exact PySem.EqNone.eq_none_int (yA I q (by simp))|str j=>obtain⟨t',rfl⟩:=ry;exact PySem.EqNone.eq_none_str (yA I q (by simp))|_=>exact absurd (show false=true from hs) qF
 |bl i =>
  cases rx;cases y with
  |non=>cases ry;exact PySem.EqNone.eq_bool_none (yA I q (by simp))|bl j=>cases ry;exact eq_bool (yA I q zFg)|str j=>obtain⟨t',rfl⟩:=ry;exact PySem.EqMixed.eq_bool_str (yA I q (by simp))|_=>exact absurd (show false=true from hs) qF
 |int i =>
  obtain⟨t,rfl⟩:=rx;cases y with
  |non=>cases ry;exact PySem.EqNone.eq_int_none (yA I q (by simp))|int j=>obtain⟨t',rfl⟩:=ry;exact eq_int (yA I q zBW)|str j=>obtain⟨t',rfl⟩:=ry;exact PySem.EqMixed.eq_int_str (yA I q (by simp))|_=>exact absurd (show false=true from hs) qF
 |str i =>
  obtain⟨t,rfl⟩:=rx;cases y with
  |non=>cases ry;exact PySem.EqNone.eq_str_none (yA I q (by simp))|bl j=>cases ry;exact PySem.EqMixed.eq_str_bool (yA I q (by simp))|int j=>obtain⟨t',rfl⟩:=ry;exact PySem.EqMixed.eq_str_int (yA I q (by simp))|str j=>obtain⟨t',rfl⟩:=ry;exact eq_str (yA I q zBX)|_=>exact absurd (show false=true from hs) qF
 |byt i =>
  obtain⟨t,rfl⟩:=rx;cases y with
  |byt j=>obtain⟨t',rfl⟩:=ry;exact PySem.W.eq_bytes (yA I q zBY)|_=>exact absurd (show false=true from hs) qF
 |_=>cases y<;>exact absurd (show false=true from hs) qF
def op_ne:OpR X (compareOp .NotEq) rNe:=by
 intro pins s O H x y v u Q I rx ry h;obtain⟨hs,q⟩:=h;cases x with
 |non =>
  cases rx;cases y with
  |non=>cases ry;exact PySem.EqNone.ne_none_none (yA I q (by simp))|bl j=>cases ry;exact PySem.EqNone.ne_none_bool (yA I q (by simp))|int j=>obtain⟨t',rfl⟩:=ry;exact PySem.EqNone.ne_none_int (yA I q (by simp))|str j=>obtain⟨t',rfl⟩:=ry;exact PySem.EqNone.ne_none_str (yA I q (by simp))|_=>exact absurd (show false=true from hs) qF
 |bl i =>
  cases rx;cases y with
  |non=>cases ry;exact PySem.EqNone.ne_bool_none (yA I q (by simp))|bl j=>cases ry;exact ne_bool (yA I q (congrArg not zFg))|str j=>obtain⟨t',rfl⟩:=ry;exact PySem.EqMixed.ne_bool_str (yA I q (by simp))|_=>exact absurd (show false=true from hs) qF
 |int i =>
  obtain⟨t,rfl⟩:=rx;cases y with
  |non=>cases ry;exact PySem.EqNone.ne_int_none (yA I q (by simp))|int j=>obtain⟨t',rfl⟩:=ry;exact ne_int (yA I q (congrArg not zBW))|str j=>obtain⟨t',rfl⟩:=ry;exact PySem.EqMixed.ne_int_str (yA I q (by simp))|_=>exact absurd (show false=true from hs) qF
 |str i =>
  obtain⟨t,rfl⟩:=rx;cases y with
  |non=>cases ry;exact PySem.EqNone.ne_str_none (yA I q (by simp))|bl j=>cases ry;exact PySem.EqMixed.ne_str_bool (yA I q (by simp))|int j=>obtain⟨t',rfl⟩:=ry;exact PySem.EqMixed.ne_str_int (yA I q (by simp))|str j=>obtain⟨t',rfl⟩:=ry;exact ne_str (yA I q (congrArg not zBX))|_=>exact absurd (show false=true from hs) qF
 |byt i =>
  obtain⟨t,rfl⟩:=rx;cases y with
  |byt j=>obtain⟨t',rfl⟩:=ry;exact PySem.W.ne_bytes (yA I q (congrArg not zBY))|_=>exact absurd (show false=true from hs) qF
 |_=>cases y<;>exact absurd (show false=true from hs) qF
def op_lt:OpR X (compareOp .Lt) (rI0 λi j=>.bl (decide (i<j))):=opB0 λ_ _ _ _ _ _ _ q=>lt_int q
def op_le:OpR X (compareOp .LtE) (rI0 λi j=>.bl (decide (i<=j))):=opB0 λ_ _ _ _ _ _ _ q=>le_int q
def op_gt:OpR X (compareOp .Gt) (rI0 λi j=>.bl (decide (j<i))):=opB0 λ_ _ _ _ _ _ _ q=>gt_int q
def op_ge:OpR X (compareOp .GtE) (rI0 λi j=>.bl (decide (j<=i))):=opB0 λ_ _ _ _ _ _ _ q=>ge_int q
def OpR.or{f:Value->Value->Sem Value}{r r':R2}(h:OpR X f r)(h':OpR X f r'):OpR X f (λx y H Q=>r x y H Q\/r' x y H Q):=by
 intro pins s O H x y v u Q I rx ry q;rcases q with q|q
 ·exact h pins s O H x y v u Q I rx ry q
 ·exact h' pins s O H x y v u Q I rx ry q
def pe_cmpR{op:CmpOp}{r:R2}(ho:OpR X (compareOp op) r)(ha:PE X a ta)(hb:PE X b tb)(hm:behindInMarks op b=false):PE X (.Compare a [op] [b] pos) (tOp r ta tb):=by
 intro pins s O H Q I h;exact wpAny_Compare1 (binT ha hb I h λv u s2 x y H2 I2 rx ry q=>ho pins s2 O H2 x y v u Q I2 rx ry q) hm
def tTest(t:TE):TT:=λO H Q=>t O H λx H'=>∃k,x=.bl k/\Q k H'
def pt_cmpR{op:CmpOp}{r:R2}(ho:OpR X (compareOp op) r)(ha:PE X a ta)(hb:PE X b tb)(hm:behindInMarks op b=false):PT X (.Compare a [op] [b] pos) (tTest (tOp r ta tb)):=by
 intro pins s O H Q I h;refine wpAny_isTrue_Compare1 (thn (ha pins s O H _ I h) λv s1 ⟨x,H1,I1,r1,q1⟩=>thn (hb pins s1 O H1 _ I1 q1) λu s2 ⟨y,H2,I2,r2,q2⟩ =>
  thn (ho pins s2 O H2 x y v u _ I2 r1 r2 q2) λc s3 ⟨z,H3,I3,r3,k,e,q3⟩=>?_) hm
 subst e;cases r3;exact wpAny_truthy_bool ⟨H3,I3,q3⟩
def zBZ(r r':R2)(ta tb tc:TE):TE:=λO H Q=>ta O H λx H1=>tb O H1 λy H2=>r x y H2 λz H3=>∃k,z=.bl k /\
 (if k=true then tc O H3 λw' H4=>r' y w' H4 Q else Q (.bl false) H3)
def zDy{op op':CmpOp}{r r':R2}(ho:OpR X (compareOp op) r)(ho':OpR X (compareOp op') r')(ha:PE X a ta)(hb:PE X b tb)(hc:PE X c tc)
  (hm:lastMarks [op,op'] [b,c]=false:=by with_unfolding_all rfl):PE X (.Compare a [op,op'] [b,c] pos) (zBZ r r' ta tb tc):=by
 intro pins s O H Q I h;refine Compare_chain (thn (ha pins s O H _ I h) λv s1 ⟨x,H1,I1,r1,q1⟩=>chain_link (thn (hb pins s1 O H1 _ I1 q1) λu s2 ⟨y,H2,I2,r2,q2⟩ =>
  thn (ho pins s2 O H2 x y v u _ I2 r1 r2 q2) λd s3 ⟨z,H3,I3,r3,k,e,q3⟩=>?_)) hm
 subst e;cases r3;refine wpAny_truthy_bool ?_;cases k with
 |false=>exact ite_ff ⟨.bl false,H3,I3,rfl,q3⟩|true=>exact ite_tt (chain_last (thn (hc pins s3 O H3 _ I3 q3) λw' s4 ⟨z',H4,I4,r4,q4⟩=>ho' pins s4 O H4 y z' u w' Q I4 r2 r4 q4))
def zDz{op op':CmpOp}{r r':R2}(ho:OpR X (compareOp op) r)(ho':OpR X (compareOp op') r')(ha:PE X a ta)(hb:PE X b tb)(hc:PE X c tc)
  (hm:lastMarks [op,op'] [b,c]=false:=by with_unfolding_all rfl):PT X (.Compare a [op,op'] [b,c] pos) (tTest (zBZ r r' ta tb tc)):=by
 intro pins s O H Q I h;refine isTrue_chain (thn (ha pins s O H _ I h) λv s1 ⟨x,H1,I1,r1,q1⟩=>test_link (thn (hb pins s1 O H1 _ I1 q1) λu s2 ⟨y,H2,I2,r2,q2⟩ =>
  thn (ho pins s2 O H2 x y v u _ I2 r1 r2 q2) λd s3 ⟨z,H3,I3,r3,k,e,q3⟩=>?_)) hm
 subst e;cases r3;refine wpAny_truthy_bool ?_;cases k with
 |false =>
  obtain⟨k',e',q'⟩:=q3;cases e';exact ite_ff ⟨H3,I3,q'⟩
 |true =>
  refine ite_tt (test_last (thn (hc pins s3 O H3 _ I3 q3) λw' s4 ⟨z',H4,I4,r4,q4⟩=>thn (ho' pins s4 O H4 y z' u w' _ I4 r2 r4 q4) λd' s5 ⟨z2,H5,I5,r5,k2,e2,q5⟩=>?_));subst e2;cases r5;exact wpAny_truthy_bool ⟨H5,I5,q5⟩
def Qi:(sizeLine:Nat)<2^63:=by rw[sizeLine_eq];decide
def uf{x:V}{us:List Value}(r:yc [x] us):∃u,us=[u]/\yL x u:=by
 cases r with
 |cons r1 r2=>cases r2;exact⟨_,rfl,r1⟩
def vals2{x y:V}{us:List Value}(r:yc [x,y] us):∃u w',us=[u,w']/\yL x u/\yL y w':=by
 cases r with
 |cons r1 r2 =>
  cases r2 with
  |cons r3 r4=>cases r4;exact⟨_,_,rfl,r1,r3⟩
def zBa(hc:X.calm=true):JO X (.builtin "max") (λxs H Q=>∃i j,xs=[.int i,.int j]/\Q (.int (if j > i then j else i)) H):=by
 intro pins s O H xs us Q I r h;obtain⟨i,j,rfl,q⟩:=h;obtain⟨u,w',rfl,⟨t,rfl⟩,⟨t',rfl⟩⟩:=vals2 r;refine max_two_ints (I.ok.hd hc) λh' tk k=>⟨_,H,I.kept k,?_,q⟩
 by_cases hj:j > i
 ·rw[if_pos hj,if_pos hj];exact⟨_,rfl⟩
 ·rw[if_neg hj,if_neg hj];exact⟨_,rfl⟩
def zBb:JO X (.type "int") (λxs H Q=>(∃i,xs=[.int i]/\Q (.int i) H)\/∃k,xs=[.bl k]/\Q (.int (if k then 1 else 0)) H):=by
 intro pins s O H xs us Q I r h;rcases h with⟨i,rfl,q⟩|⟨k,rfl,q⟩
 ·obtain⟨u,rfl,t,rfl⟩:=uf r
  exact call_int_int ⟨.int i,H,I,⟨_,rfl⟩,q⟩
 ·obtain⟨u,rfl,r1⟩:=uf r
  cases r1;exact call_int_bool ⟨.int (if k then 1 else 0),H,I.tok _,⟨_,rfl⟩,q⟩
end
section
variable{X:Cx}{pins:List (Addr×Obj)}{O:St}{H:Hp}{s:Shared}{a C dx:Addr}{fs:List (Str×V)}{f:Str}{v:V}{A:Around}{E:Value->Shared->Prop}
def attr_of{prog:Program}{w:World}{env:Env}{e:Expr}{f:Str}{pos:Pos}{s:Shared}{Q:Value->Shared->Prop}(hb:attributeBase e f env (eval e env)=eval e env)
  (h:wpAny (model prog w) A (eval e env) (λo s₁=>wpAny (model prog w) A (getAttr o f true) Q E s₁) E s):wpAny (model prog w) A (eval (.Attribute e f pos) env) Q E s :=
 Attribute_any_ h (by rw[arm_eval_Attribute,hb])
end
structure Room(k:Nat)(A:Around):Prop where
 hd:A.handled=none
 gd:A.guards=some []
 dp:A.depth+3*k+5<recursionLimit
 un:A.units+16*k+200<cLine
def Room.mono{j k:Nat}{A:Around}(r:Room k A)(h:j<=k):Room j A:=⟨r.hd,r.gd,by have:=r.dp;omega,by have:=r.un;omega⟩
def zAl{A:Around}{C:Addr}{us:List Value}{kw:List (Str×Value)}:(A.under (.builtin "type.__call__" ⟨.ref C::us,kw⟩)).depth=A.depth+1:=by
 first|rfl|simp[Around.under,Code.weight,Code.isCreation,Code.isGuard,Code.isCaller,Code.frames,Code.isFrame,guardIds]
def zAm{A:Around}{C:Addr}{us:List Value}{kw:List (Str×Value)}:(A.under (.builtin "type.__call__" ⟨.ref C::us,kw⟩)).units=A.units+1:=by
 first|rfl|simp[Around.under,Code.cUnits,Code.frames,Code.isFrame]
def Room.make{k:Nat}{A:Around}(r:Room (k+1) A)(C:Addr)(us:List Value)(kw:List (Str×Value)):Room k (A.under (.builtin "type.__call__" ⟨.ref C::us,kw⟩)) :=
 ⟨r.hd,(by first|exact r.gd|simpa[Around.under,Code.guards,pushGuards]using r.gd),by have:=r.dp;rw[zAl];omega,by have:=r.un;rw[zAm];omega⟩
def tNil:TA:=λ_ H Q=>Q [] H
def zAn(ta:TE)(tr:TA):TA:=λO H Q=>ta O H λx H1=>tr O H1 λxs H2=>Q (x::xs) H2
section
variable{X:Cx}{e:Expr}{es:List Expr}{te:TE}{t:TA}{pos:Pos}
def YA:PA X [] tNil:=λ_ _ _ _ H Q I h=>Calls.spliced_nil ⟨[],H,I,.nil,h⟩
def jC(ha:PE X e te)(hr:PA X es t)(hs:starEach (e::es) X.env=(false,eval e X.env)::starEach es X.env:=by rfl):PA X (e::es) (zAn te t):=by
 intro pos pins s O H Q I h;rw[hs];show wpAny _ _ (spliced ((false,eval e X.env)::backTo pos (starEach es X.env))) _ _ s;refine Calls.spliced_cons (thn (ha pins s O H _ I h) λu s1 ⟨x,H1,I1,r1,q1⟩=>?_);exact thn (hr pos pins s1 O H1 _ I1 q1) λus s2 ⟨xs,H2,I2,r2,q2⟩=>⟨x::xs,H2,I2,.cons r1 r2,q2⟩
def tTup(t:TA):TE:=λO H Q=>t O H λxs H1=>xs.length<=sizeLine/\∀p,H1 p=none->Q (.ref p) (upd H1 p (.t xs))
def tLst(t:TA):TE:=λO H Q=>t O H λxs H1=>xs.length<=sizeLine/\∀p,H1 p=none->Q (.ref p) (upd H1 p (.l xs))
def pe_tup{x1}(h:PA X es t):PE X (.Tuple es x1 pos) (tTup t):=by
 intro pins s O H Q I hq;refine wpAny_Tuple_spliced (thn (h pos pins s O H _ I hq) λus s1 ⟨xs,H1,I1,r,z,q⟩=>⟨by rw[<- r.length];exact z,?_⟩);have hf:H1 s1.heap.objs.size=none:=I1.hok.fresh (le_refl _);refine⟨.ref s1.heap.objs.size,upd H1 s1.heap.objs.size (.t xs),I1.laid (t':=s1.toks) (λb u e=>qA _ e) (le_refl _) ?_,rfl,q _ hf⟩;exact⟨z,us,r,⟨_,get?_push_size _ rfl,rfl,_,rfl⟩⟩
def pe_lst(h:PA X es t):PE X (.List es pos) (tLst t):=by
 intro pins s O H Q I hq;refine wpAny_List_spliced (thn (h pos pins s O H _ I hq) λus s1 ⟨xs,H1,I1,r,z,q⟩=>⟨by rw[<- r.length];exact z,?_⟩);have hf:H1 s1.heap.objs.size=none:=I1.hok.fresh (le_refl _);refine⟨.ref s1.heap.objs.size,upd H1 s1.heap.objs.size (.l xs),I1.laid (t':=s1.toks) (λb u e=>qA _ e) (le_refl _) ?_,rfl,q _ hf⟩;exact⟨z,us,0,r,get?_push_size _ rfl⟩
end
abbrev Sp:=List V->Hp->VK->XK->Prop
abbrev CXT:=List Env->Hp->Shared->XK->Value->Shared->Prop
structure Env0(P:Program)(w:World)(K:qH)(mg:Str->Option Value)(base:Heap)(A:Around)(outer:List Env)(s:Shared)(H:Hp):Prop where
 frames:A.frames=some outer
 mod:Mod K mg base
 bs:∀b o,base.get? b=some o->s.heap.get? b=some o/\H b=none
 bsz:base.objs.size<=s.heap.objs.size
 funs:s.heap.FunFrames base outer
 frf:∀b∈frs outer,H b=none
 hok:HOk P w H s.heap
 bare:AllBare s.gens
def CE(outer:List Env)(P:Program)(w:World)(H:Hp)(s:Shared)(Q:VK)(u:Value)(s':Shared):Prop :=
 ∃v H',s'.os=s.os/\AllBare s'.gens/\Un (frs outer) [] H H' s.heap s'.heap/\HOk P w H' s'.heap/\yL v u/\Q v H'
def CR(CX:CXT)(outer:List Env)(P:Program)(w:World)(H:Hp)(s:Shared)(Q:VK)(E:XK)(r:Result)(s':Shared):Prop :=
 match r with
 | .ok (.ret u)=>CE outer P w H s Q u s'| .ok _=>False| .error e=>CX outer H s E e s'
structure FnOk(P:Program)(w:World)(K:qH)(mg:Str->Option Value)(base:Heap)(CX:CXT)(k:Nat)(f:Addr)(fd:FuncData)(ps:List Str)(sp:Sp):Prop where
 len:∀vs H Q E,sp vs H Q E->vs.length=ps.length
 run:∀(A:Around) (outer:List Env) (s:Shared) (H:Hp) (args:Args) (us:List Value) (vs:List V) (Q:VK) (E:XK),Room k A->Env0 P w K mg base A outer s H->BindsTo s fd args (ps.zip us)->yc vs us->sp vs H Q E ->
  codeAny (model P w) A (.call (.ref f) args) (CR CX outer P w H s Q E) s
theorem FnOk.mono{P:Program}{w:World}{K:qH}{mg:Str->Option Value}{base:Heap}{CX:CXT}{j k:Nat}{f:Addr}{fd:FuncData}{ps:List Str}{sp:Sp}(F:FnOk P w K mg base CX j f fd ps sp)(h:j<=k) :
  FnOk P w K mg base CX k f fd ps sp:=⟨F.len,λA outer s H args us vs Q E hr=>F.run A outer s H args us vs Q E (hr.mono h)⟩
def FnOk.imp{P:Program}{w:World}{K:qH}{mg:Str->Option Value}{base:Heap}{CX:CXT}{k:Nat}{f:Addr}{fd:FuncData}{ps:List Str}{sp sp':Sp}(F:FnOk P w K mg base CX k f fd ps sp)
  (h:∀vs H Q E,sp' vs H Q E->sp vs H Q E):FnOk P w K mg base CX k f fd ps sp' :=
 ⟨λvs H Q E q=>F.len vs H Q E (h _ _ _ _ q),λA outer s H args us vs Q E hr he hb hv hs=>F.run A outer s H args us vs Q E hr he hb hv (h _ _ _ _ hs)⟩
def Env0.make{P:Program}{w:World}{K:qH}{mg:Str->Option Value}{base:Heap}{A:Around}{outer:List Env}{s:Shared}{H:Hp}(e:Env0 P w K mg base A outer s H)(C:Addr)(us:List Value)(kw:List (Str×Value)) :
  Env0 P w K mg base (A.under (.builtin "type.__call__" ⟨.ref C::us,kw⟩)) outer s H:=⟨by first|exact e.frames|(simpa[Around.under,Code.envs,Code.isFrame,pushEnvs]using e.frames),e.mod,e.bs,e.bsz,e.funs,e.frf,e.hok,e.bare⟩
section
variable{X:Cx}{pins:List (Addr×Obj)}{O:St}{H:Hp}{s s':Shared}
def Inv.env0(I:Inv X pins O H s):Env0 X.prog X.w X.K X.mg X.base X.A X.stack s H :=
 ⟨I.ok.frames,I.ok.mod,I.bs,le_trans I.ok.bsz I.sz,I.stack,I.stkFree,I.hok,I.bare⟩
def Inv.after{Q:VK}{u:Value}(I:Inv X pins O H s)(h:CE X.stack X.prog X.w H s Q u s'):EP X pins O Q u s':=by
 obtain⟨v,H',os,bare,un,hok,r,q⟩:=h;obtain⟨hh,g,d,t,os'⟩:=s';obtain rfl:os'=s.os:=os;exact⟨v,H',I.call (h':=hh) (g':=g) (d':=d) (t':=t) (ch:=[]) un hok bare (λb z=>absurd z (by simp)),r,q⟩
end
def JP(K:qH)(fd:FuncData)(ps:List Str)(ds:List Value):Prop :=
 ∀(s:Shared) (us:List Value),K.In s.heap->(us++ds).length=ps.length->BindsTo s fd ⟨us,[]⟩ (ps.zip (us++ds))
def JP.all{K:qH}{fd:FuncData}{ps:List Str}(h:∀us:List Value,us.length=ps.length->bindArgs fd ⟨us,[]⟩=pure (ps.zip us)):JP K fd ps []:=λs us _ hl=>by
 rw[append_nil]at hl ⊢;exact .of_eq (h us hl)
structure FnScope(N P:List Str)(sc:Scope):Prop where
 kind:sc.kind=.function
 co:sc.isCoroutine=false
 gen:sc.isGenerator=false
 nd:N.Nodup
 pre:N.take P.length=P
 par:∀x∈P,sc.names.lookup x=some .local\/sc.names.lookup x=some .cell
 nofree:∀y∈sc.names,y.2≠.free
theorem ug{kindOf:Str->Option NameKind}{x:Str}:∀{binds:List (Str×Value)} {m:Str->Option Value},(∀v,(x,v)∉binds)->bindL kindOf binds m x=m x
 | [],_,_=>rfl
 | (n,v)::r,m,h=>by
  unfold bindL;rw[ug λw hw=>h w (qD _ hw)];split
  ·have:x≠n:=by rintro rfl;exact h v qE
   simp[this]
  ·rfl
theorem uh{kindOf:Str->Option NameKind}{x:Str}:∀{binds:List (Str×Value)} {m:Str->Option Value},(∀v,(x,v)∉binds)->bindC kindOf binds m x=m x
 | [],_,_=>rfl
 | (n,v)::r,m,h=>by
  unfold bindC;rw[uh λw hw=>h w (qD _ hw)];split
  ·rfl
  ·have:x≠n:=by rintro rfl;exact h v qE
   simp[this]
theorem ui{kindOf:Str->Option NameKind}{x:Str}{v:Value}:∀{P:List Str} {vs:List Value} {i:Nat} {m:Str->Option Value},P.Nodup->P[i]?=some x->vs[i]?=some v->kindOf x=some .local ->
  bindL kindOf (P.zip vs) m x=some v
 | [],_,_,_,_,h,_,_=>by simp at h|_::_,[],_,_,_,_,h,_=>by simp at h
 |p::P,w::vs,0,m,nd,h1,h2,hk=>by
  simp at h1 h2;subst h1;subst h2
  show bindL kindOf ((p,w)::P.zip vs) m p=_
  unfold bindL;rw[ug λv hv=>(nodup_cons.mp nd).1 (of_mem_zip hv).1,if_pos hk];simp
 |p::P,w::vs,i+1,m,nd,h1,h2,hk=>by
  show bindL kindOf ((p,w)::P.zip vs) m x=_
  unfold bindL;exact ui (i:=i) (nodup_cons.mp nd).2 (by simpa using h1) (by simpa using h2) hk
theorem uj{kindOf:Str->Option NameKind}{x:Str}{v:Value}:∀{P:List Str} {vs:List Value} {i:Nat} {m:Str->Option Value},P.Nodup->P[i]?=some x->vs[i]?=some v->kindOf x≠some .local ->
  bindC kindOf (P.zip vs) m x=some v
 | [],_,_,_,_,h,_,_=>by simp at h|_::_,[],_,_,_,_,h,_=>by simp at h
 |p::P,w::vs,0,m,nd,h1,h2,hk=>by
  simp at h1 h2;subst h1;subst h2
  show bindC kindOf ((p,w)::P.zip vs) m p=_
  unfold bindC;rw[uh λv hv=>(nodup_cons.mp nd).1 (of_mem_zip hv).1,if_neg hk];simp
 |p::P,w::vs,i+1,m,nd,h1,h2,hk=>by
  show bindC kindOf ((p,w)::P.zip vs) m x=_
  unfold bindC;exact uj (i:=i) (nodup_cons.mp nd).2 (by simpa using h1) (by simpa using h2) hk
def wk(N:List Str)(vs:List V):St:=vs.map some++replicate (N.length-vs.length) none
def cxOf(CX:CXT)(P:Program)(w:World)(K:qH)(mg:Str->Option Value)(base:Heap)(N:List Str)(qual:Str)(scope:Scope)(f:Addr)(cd:Value)(A:Around)(outer:List Env)(s:Shared)(H:Hp)(E:XK):Cx where
 prog:=P
 w:=w
 K:=K
 mg:=mg
 base:=base
 A:=A.deeper (envOfC qual scope s.heap.objs.size f cd)
 N:=N
 s₀:=s
 H₀:=H
 env:=envOfC qual scope s.heap.objs.size f cd
 outer:=outer
 stack:=envOfC qual scope s.heap.objs.size f cd::outer
 ex:=[]
 calm:=true
 fn:=λ_=>true
 pn:=[]
 xe:=λe s'=>wpAny (model P w) (A.deeper (envOfC qual scope s.heap.objs.size f cd)) (leaving (envOfC qual scope s.heap.objs.size f cd) e) (λ_ s''=>CX outer H s E e s'') (λe' s''=>CX outer H s E e' s'') s'
def Qj{sc:Scope}{n:Nat}{x:Str}(h:sc.names.lookup x=some .cell):∃c,(cellsFrom n sc.names []).lookup x=some c:=by
 have q:=cellsFrom_some sc.names n [] (.inl h);exact Option.isSome_iff_exists.mp q
def zBc{CX:CXT}{P:Program}{w:World}{K:qH}{mg:Str->Option Value}{base:Heap}{N ps:List Str}{qual:Str}{scope:Scope}{f:Addr}{cd:Value}{A:Around}{outer:List Env}{s s1:Shared}{H:Hp}{E:XK}{us:List Value}{vs:List V}
  (S:FnScope N ps scope) (hd:A.handled=none) (e0:Env0 P w K mg base A outer s H) (hl:vs.length=ps.length) (r:yc vs us)
  (x:InCallC s s.heap.objs.size (bindL (envOfC qual scope s.heap.objs.size f cd).kindOf (ps.zip us) λ_=>none) (cellsFrom (s.heap.objs.size+1) scope.names []) (bindC (envOfC qual scope s.heap.objs.size f cd).kindOf (ps.zip us) λ_=>none) s1) :
  Inv (cxOf CX P w K mg base N qual scope f cd A outer s H E) [] (wk N vs) H s1:=by
 have hpl:ps.length<=N.length:=by have:=congrArg length S.pre;rw[length_take]at this;omega
 obtain⟨h1,tk,rfl,hk⟩:=x.done;have noA:∀b:Addr,b∉(cxOf CX P w K mg base N qual scope f cd A outer s H E).ex:=λb z=>absurd (show b∈([]:List Addr)from z) (by simp)
 refine⟨⟨e0.mod,S.kind,rfl,rfl,le_refl _,λy z c h1 h2=>?_,λy hy=>?_,λy c _ h=>?_,λ_=>hd,Around.frames_deeper e0.frames,.inr ⟨rfl,rfl⟩,λb z=>absurd z (noA b),e0.bs,e0.bsz,λb _ _=>noA b,λb z=>absurd z (noA b),e0.funs,e0.frf⟩,
  rfl,e0.bare,Un.kept hk,⟨_,x.toInCall.ns,λi y v h1 h2 h3=>?_⟩,λy c h=>⟨_,x.cell y c h⟩,e0.hok.fresh (le_refl _),λy c h=>?_,λp hp=>absurd (show p∈([]:List (Addr×Obj))from hp) (by simp),e0.hok.kept hk,?_⟩
 ·exact name_of_addr x.apart (PySem.mem_of_lookup h1) (PySem.mem_of_lookup h2)
 ·have hy:scope.names.lookup y=some .cell\/scope.names.lookup y=some .free:=hy
  rcases hy with hy|hy
  ·exact Qj hy
  ·exact absurd rfl (S.nofree _ (PySem.mem_of_lookup hy))
 ·exact Nat.le_of_lt (x.above y c (PySem.mem_of_lookup h))
 ·have hi:i<vs.length:=by
   unfold wk at h2;by_cases hi:i<vs.length
   ·exact hi
   ·rw[getElem?_append_right (by simpa using hi)]at h2
    rw[List.getElem?_replicate]at h2;split at h2<;>cases h2
  have ha:vs[i]?=some v:=by
   unfold wk at h2;rw[getElem?_append_left (by simpa using hi),getElem?_map]at h2;cases e:vs[i]? with
   |none=>rw[e]at h2;cases h2|some a=>rw[e]at h2;cases h2;rfl
  obtain⟨u,hu,rv⟩:=r.get ha;have hp:ps[i]?=some y:=by
   rw[<- S.pre,List.getElem?_take_of_lt (by omega)];exact h1
  have ndP:ps.Nodup:=by rw[<- S.pre];exact S.nd.sublist (List.take_sublist _ _)
  refine⟨u,rv,?_⟩;rcases S.par y (mem_of_getElem? hp)with k|k
  ·exact .inl ⟨k,ui ndP hp hu k⟩
  ·obtain⟨c,e⟩:=Qj (n:=s.heap.objs.size+1) k
   refine .inr ⟨.inl k,c,e,?_⟩;have q:=x.cell y c e;rw[uj ndP hp hu (by show scope.names.lookup y≠_;rw[k];decide)]at q;exact q
 ·exact e0.hok.fresh (Nat.le_of_lt (x.above y c (PySem.mem_of_lookup h)))
 ·unfold wk
  show _=N.length
  rw[length_append,length_map,length_replicate];omega
section
variable{X:Cx}{x:Str}{p pos:Pos}{e:Expr}{es:List Expr}{t:TA}{id T:String}{r:List V->Hp->VK->Prop}
def tCB(r:List V->Hp->VK->Prop)(t:TA):TE:=λO H Q=>t O H λvs H1=>r vs H1 Q
def Yn(hc:JO X (.builtin id) r)(hg:Gl X x)(hm:X.mg x=none)(hv:bootBuiltins x=some (.builtin id))(ha:PA X (e::es) t)(hn:x≠"__name__":=by decide)(hdb:(x==("__debug__":Str))=false:=by decide)
  (he:starEach (e::es) X.env=(false,eval e X.env)::starEach es X.env:=by rfl) (hpl:(backTo pos (starEach es X.env)).any (·.1)=false:=by rfl):PE X (.Call (.Name x p) (e::es) [] pos) (tCB r t):=by
 intro pins s O H Q I h;refine wpAny_Call_Name_kw (Ym I hg hm hv ?_ hn hdb);exact PyProof.Rows.callWith_builtin1 (thn (ha pos pins s O H _ I h) λus s1 ⟨vs,H1,I1,r1,q1⟩=>hc pins s1 O H1 vs us Q I1 r1 q1) he hpl
def zBd(hc:JO X (.type T) r)(hg:Gl X x)(hm:X.mg x=none)(hv:bootBuiltins x=some (.type T))(ha:PA X (e::es) t)(hn:x≠"__name__":=by decide)(hdb:(x==("__debug__":Str))=false:=by decide)
  (he:starEach (e::es) X.env=(false,eval e X.env)::starEach es X.env:=by rfl) (hpl:(backTo pos (starEach es X.env)).any (·.1)=false:=by rfl):PE X (.Call (.Name x p) (e::es) [] pos) (tCB r t):=by
 intro pins s O H Q I h;refine wpAny_Call_Name_kw (Ym I hg hm hv ?_ hn hdb);exact PyProof.Rows.callWith_type1 (thn (ha pos pins s O H _ I h) λus s1 ⟨vs,H1,I1,r1,q1⟩=>hc pins s1 O H1 vs us Q I1 r1 q1) he hpl
end
end L2
namespace HT
open PySem PyProof.Rows
section
variable{prog:Program}{w:World}{A:Around}{E:Value->Shared->Prop}{s:Shared}
def cat_tup{t b:Addr}{vs ws:List Value}{Q:Value->Shared->Prop}(ht:IsTup s.heap t vs.toArray)(hb:IsTup s.heap b ws.toArray)(hv:vs≠[])
  (h1:ws=[]->Q (.ref t) s) (h2:ws≠[]->Q (.ref s.heap.objs.size) {s with heap:=s.heap.push {cls:=.type "tuple",data:=.seq (vs++ws).toArray}})
  (hsz:vs.length+ws.length<=sizeLine):wpAny (model prog w) A (binaryOp .Add (.ref t) (.ref b)) Q E s:=by
 obtain⟨⟨cls,dd,data,sl⟩,ho,hc,n,hd⟩:=id ht;obtain⟨⟨cls2,dd2,data2,sl2⟩,ho2,hc2,n2,hd2⟩:=id hb;simp only at hc hd hc2 hd2;subst hc hd hc2 hd2;have e:vs.toArray++ws.toArray=(vs++ws).toArray:=by simp
 by_cases hw:ws=[]
 ·exact concat_meets ⟨_,ho,rfl⟩ ⟨_,ho2,rfl⟩ noFill_tuple_add seq_tuple_add PySem.F.slot_tuple_add PySem.F.entry_tuple_add (PySem.F.args_tuple_add_2 _ _)
   (tuple_addW1 t b vs.toArray ws.toArray n n2 dd dd2 sl sl2 (by simpa using hv) (by simp[hw])) ⟨ho,ho2,h1 hw⟩
 ·refine concat_meets ⟨_,ho,rfl⟩ ⟨_,ho2,rfl⟩ noFill_tuple_add seq_tuple_add PySem.F.slot_tuple_add PySem.F.entry_tuple_add (PySem.F.args_tuple_add_2 _ _)
   (tuple_addW2 t b vs.toArray ws.toArray n n2 dd dd2 sl sl2 (by simpa using hv) (by simpa using hw) (by rw[size_toArray,size_toArray];exact hsz)) ⟨ho,ho2,?_⟩
  rw[e];exact h2 hw
def sIx(n d:Nat):Option Int->Nat
 |none=>d|some v=>if v<0 then(v+(n:Int)).toNat else min v.toNat n
def sIx_nat(n d k:Nat):sIx n d (some (k:Int))=min k n:=by
 show(if(k:Int)<0 then((k:Int)+(n:Int)).toNat else min (k:Int).toNat n)=min k n
 rw[if_neg (by omega),Int.toNat_natCast]
def sIx_le(n d:Nat)(hd:d<=n)(o:Option Int):sIx n d o<=n:=by
 cases o with
 |none=>exact hd
 |some v =>
  show(if v<0 then(v+(n:Int)).toNat else min v.toNat n)<=n
  by_cases hv:v<0
  ·rw[if_pos hv];omega
  ·rw[if_neg hv];exact Nat.min_le_right _ _
def zBe(v:Int)(n d:Nat):(if v<0 then max (v+(n:Int)) 0 else min v (n:Int))=((sIx n d (some v):Nat):Int):=by
 show(if v<0 then max (v+(n:Int)) 0 else min v (n:Int))=(((if v<0 then(v+(n:Int)).toNat else min v.toNat n):Nat):Int)
 by_cases hv:v<0
 ·simp only[if_pos hv];omega
 ·simp only[if_neg hv];omega
def zAo(lo hi:Option Int)(n:Nat):Builtin.Slice.sliceAdjust lo hi 1 (n:Int)=(((sIx n 0 lo:Nat):Int),((sIx n n hi:Nat):Int)):=by
 have h1:¬((1:Int)<0):=by omega
 unfold Builtin.Slice.sliceAdjust;simp only[h1,if_false];refine Prod.ext ?_ ?_
 ·cases lo with
  |none=>rfl|some v=>exact zBe v n 0
 ·cases hi with
  |none=>rfl|some v=>exact zBe v n n
def zAp(i j:Nat):Builtin.Slice.slicePlaces (i:Int) (j:Int) 1=j-i:=by
 unfold Builtin.Slice.slicePlaces;have h1:(1:Int) > 0:=by omega
 simp only[h1,if_true,Int.ediv_one];split<;>omega
def vI{v:Value}{o:Option Int}{Q:Option Int->Shared->Prop}(p:IsPart v o)(h:Q o s):wpAny (model prog w) A (Builtin.Slice.slicePartIndex v) Q E s:=by
 cases p with
 |none=>exact slicePart_none h|int i t=>exact slicePart_int h
def sliceApplied_gen{sl:Addr}{vl vu:Value}{lo hi:Option Int}{n:Nat}{Q:Int×Int×Nat->Shared->Prop}(hs:s.heap.IsSliceOf sl vl vu .none)(pl:IsPart vl lo)(pu:IsPart vu hi)
  (h:Q (((sIx n 0 lo:Nat):Int),1,sIx n n hi-sIx n 0 lo) s):wpAny (model prog w) A (Builtin.Slice.sliceApplied (.ref sl) (pure (n:Int))) Q E s:=by
 obtain⟨os,hos,hcs,hds⟩:=id hs;unfold Builtin.Slice.sliceApplied Builtin.Slice.sliceFields;refine qB (qB (wpAny_field hos hds (x:=vl) rfl (qB (wpAny_field hos hds (x:=vu) rfl (qB (wpAny_field hos hds (x:=.none) rfl (qC ?_)))))));refine qB (slicePart_none ?_);show wpAny _ _ (if((1:Int)==0)=true then _ else _) _ _ s;rw[if_neg (by decide)];refine qB (vI pl (qB (vI pu (qB (qC ?_)))));show wpAny _ _ (match Builtin.Slice.sliceAdjust lo hi 1 (n:Int)with|(lo,hi)=>pure (lo,(1:Int),Builtin.Slice.slicePlaces lo hi 1)) _ _ s
 rw[zAo lo hi n];show wpAny _ _ (pure (((sIx n 0 lo:Nat):Int),(1:Int),Builtin.Slice.slicePlaces ((sIx n 0 lo:Nat):Int) ((sIx n n hi:Nat):Int) 1)) _ _ s;rw[zAp];exact qC h
def zD0(xs:Array Value)(i k:Nat):((List.range k).filterMap λ(m:Nat)=>xs[((i:Int)+(m:Int)*1).toNat]?).toArray=((xs.toList.drop i).take k).toArray:=by
 have e:(λ(m:Nat)=>xs[((i:Int)+(m:Int)*1).toNat]?)=λm=>xs[i+m]?:=by
  funext m
  have:((i:Int)+(m:Int)*1).toNat=i+m:=by omega
  rw[this]
 rw[e];have:=pick_run xs i k;rw[List.filterMap_map]at this;have e2:((λx=>xs[x]?) ∘ λx=>i+x)=λm=>xs[i+m]?:=rfl
 rw[e2]at this;rw[this]
def getItem_tuple_cut{t sl:Addr}{items:Array Value}{vl vu:Value}{lo hi:Option Int}{Q:Value->Shared->Prop}(ht:IsTup s.heap t items)(hs:s.heap.IsSliceOf sl vl vu .none)(pl:IsPart vl lo)(pu:IsPart vu hi)
  (hw:¬(sIx items.size 0 lo=0/\sIx items.size items.size hi=items.size))
  (h:Q (.ref s.heap.objs.size) {s with heap:=s.heap.push {cls:=.type "tuple",data:=.seq ((items.toList.drop (sIx items.size 0 lo)).take (sIx items.size items.size hi-sIx items.size 0 lo)).toArray}})
  (hsz:items.size<=sizeLine):wpAny (model prog w) A (getItem (.ref t) (.ref sl)) Q E s:=by
 have htake:sizeOk (.seq ((items.toList.drop (sIx items.size 0 lo)).take (sIx items.size items.size hi-sIx items.size 0 lo)).toArray):=by
  show((items.toList.drop (sIx items.size 0 lo)).take (sIx items.size items.size hi-sIx items.size 0 lo)).toArray.size<=sizeLine
  rw[size_toArray,length_take,length_drop,Array.length_toList];omega
 have hj:sIx items.size items.size hi<=items.size:=sIx_le _ _ (le_refl _) hi;obtain⟨os,hos,hcs,hds⟩:=id hs;have hTs:s.TypeIs (.ref sl) "slice":=⟨os,hos,hcs⟩;unfold getItem
 try with_reducible refine wpAny_holding ?_
 first|refine qB (qC ?_)|skip
 refine qB (wpAny_sequenceKey ht.typeIs (by decide) ?_);refine qB (wpAny_callSpecial?_slot (name:=Str.ofString "__getitem__") ht.typeIs PyProof.Rows.slot_tuple_getitem
  (wpAny_call_entry PyProof.Rows.slot_tuple_getitem ht.typeIs entry_tuple_getitem ?_ (args_tuple_getitem _ _)))
 show wpAny _ _ (Builtin.Tuple.tupleItemsOf (.ref t) >>= _) _ _ s
 refine qB (tupleItemsOf_ ht ?_);refine qB (wpAny_typeOf hTs ?_);rw[if_pos (by decide)];refine qB (sliceApplied_gen hs pl pu ?_);have hno:¬((((sIx items.size 0 lo:Nat):Int)==0&&(1:Int)==1&&(sIx items.size items.size hi-sIx items.size 0 lo)==items.size)=true):=by
  intro q;rw[Bool.and_eq_true,Bool.and_eq_true]at q;have q1:((sIx items.size 0 lo:Nat):Int)=0:=eq_of_beq q.1.1;have q2:sIx items.size items.size hi-sIx items.size 0 lo=items.size:=eq_of_beq q.2;exact hw ⟨by omega,by omega⟩
 show wpAny _ _ (if(((sIx items.size 0 lo:Nat):Int)==0&&(1:Int)==1&&(sIx items.size items.size hi-sIx items.size 0 lo)==items.size)=true then _ else _) _ _ s
 rw[if_neg hno,zD0]
 first
  |exact qB (m:=Builtin.Tuple.tupleExact _) (wpAny_newObj_type (qC ⟨_,rfl,qC h⟩) htake)
  |exact qB (m:=Builtin.Tuple.tupleExact _) (wpAny_newObj_type (qB (qC (qC ⟨_,rfl,qC h⟩))) htake)
  |exact qB (qB (m:=Builtin.Tuple.tupleExact _) (wpAny_newObj_type (qC (qC ⟨_,rfl,qC h⟩)) htake))
  |exact qB (qB (m:=Builtin.Tuple.tupleExact _) (wpAny_newObj_type (qC ⟨_,rfl,qC h⟩) htake))
end
end HT
namespace L2
open PySem PySem.Spec PyProof.Rows
abbrev TO:=St->Hp->(Option Int->Hp->Prop)->Prop
def PO(X:Cx)(e:Option Expr)(t:TO):Prop :=
 ∀(pins:List (Addr×Obj)) (s:Shared) (O:St) (H:Hp) (Q:Option Int->Hp->Prop),Inv X pins O H s->t O H Q ->
  wpAny (model X.prog X.w) X.A (evalPart e X.env) (λu s'=>∃o H',Inv X pins O H' s'/\IsPart u o/\Q o H') X.xe s
def tNoPart:TO:=λ_ H Q=>Q none H
def tPart(t:TE):TO:=λO H Q=>t O H λx H1=>∃i,x=.int i/\Q (some i) H1
section
variable{X:Cx}{e:Expr}{te:TE}{lo hi:Option Expr}{tl th:TO}{pos p2:Pos}
def po_none:PO X none tNoPart:=by
 intro pins s O H Q I h;rw[evalPart_none];exact qC ⟨none,H,I,.none,h⟩
def po_some(h:PE X e te):PO X (some e) (tPart te):=by
 intro pins s O H Q I hw;rw[evalPart_some];refine thn (h pins s O H _ I hw) λu s1 ⟨x,H1,I1,r1,q1⟩=>?_
 obtain⟨i,rfl,q⟩:=q1;obtain⟨t,rfl⟩:=r1;exact⟨some i,H1,I1,.int i t,q⟩
def SlR(X:Cx)(r:V->Option Int->Option Int->Hp->VK->Prop):Prop :=
 ∀(pins:List (Addr×Obj)) (s:Shared) (O:St) (H:Hp) (x:V) (v vl vu:Value) (lo hi:Option Int) (sl:Addr) (Q:VK),Inv X pins O H s->yL x v->s.heap.IsSliceOf sl vl vu .none->IsPart vl lo->IsPart vu hi->r x lo hi H Q ->
  ∃T id,typeLookup (.type T) "__getitem__"=pure (some (.builtin id))/\s.TypeIs v T/\wpAny (model X.prog X.w) X.A (getItem v (.ref sl)) (EP X pins O Q) X.xe s
def SlR.or{r r':V->Option Int->Option Int->Hp->VK->Prop}(h:SlR X r)(h':SlR X r'):SlR X (λx lo hi H Q=>r x lo hi H Q\/r' x lo hi H Q):=by
 intro pins s O H x v vl vu lo hi sl Q I rx hs pl pu q;rcases q with q|q
 ·exact h pins s O H x v vl vu lo hi sl Q I rx hs pl pu q
 ·exact h' pins s O H x v vl vu lo hi sl Q I rx hs pl pu q
def tSl(r:V->Option Int->Option Int->Hp->VK->Prop)(te:TE)(tl th:TO):TE:=λO H Q=>te O H λx H1=>tl O H1 λl H2=>th O H2 λu H3=>r x l u H3 Q
def zD1{r:V->Option Int->Option Int->Hp->VK->Prop}(hr:SlR X r)(he:PE X e te)(hl:PO X lo tl)(hu:PO X hi th):PE X (.Subscript e (.Slice lo hi none p2) pos) (tSl r te tl th):=by
 intro pins s O H Q I h;refine Subscript_ (thn (he pins s O H _ I h) λv s1 ⟨x,H1,I1,r1,q1⟩=>?_);refine wpAny_Slice (thn (hl pins s1 O H1 _ I1 q1) λvl s2 ⟨l,H2,I2,pl,q2⟩=>thn (hu pins s2 O H2 _ I2 q2) λvu s3 ⟨u,H3,I3,pu,q3⟩=>?_);rw[evalPart_none];refine qC ?_;have I4:Inv X pins O H3 {s3 with heap:=s3.heap.push {cls:=.type "slice",data:=.fields #[vl,vu,.none]}}:=I3.kept (t':=s3.toks) λb ob q=>qA _ q
 obtain⟨T,id,hT,ht,hg⟩:=hr pins {s3 with heap:=s3.heap.push {cls:=.type "slice",data:=.fields #[vl,vu,.none]}} O H3 x v vl vu l u s3.heap.objs.size Q I4 r1 (Heap.IsSliceOf.new ..) pl pu q3
 show wpAny (model X.prog X.w) X.A (subscriptTail e (.Slice lo hi none p2) v (.ref s3.heap.objs.size)) (EP X pins O Q) X.xe {s3 with heap:=s3.heap.push {cls:=.type "slice",data:=.fields #[vl,vu,.none]}}
 exact tail_any (ops:=[.ref s3.heap.objs.size,v]) ht hT hg (by with_unfolding_all rfl)
def zD2(xs:List V)(lo hi:Option Int):List V:=(xs.drop (HT.sIx xs.length 0 lo)).take (HT.sIx xs.length xs.length hi-HT.sIx xs.length 0 lo)
def Z4(xs:List V)(lo hi:Option Int):(zD2 xs lo hi).length<=xs.length:=by
 unfold zD2;rw[length_take,length_drop];omega
def rSlT(K:qH):V->Option Int->Option Int->Hp->VK->Prop:=λx lo hi H Q=>∃a xs,x=.ref a/\SqT K H a xs /\
 ¬(HT.sIx xs.length 0 lo=0/\HT.sIx xs.length xs.length hi=xs.length)/\∀p,H p=none->Q (.ref p) (upd H p (.t (zD2 xs lo hi)))
def sl_tup:SlR X (rSlT X.K):=by
 intro pins s O H x v vl vu lo hi sl Q I rx hs pl pu h;obtain⟨a,xs,rfl,hx,hw,q⟩:=h;cases rx;obtain⟨its,r,ht,hz⟩:=I.tuple hx;have hlen:its.toArray.size=xs.length:=by rw[size_toArray];exact r.length.symm
 refine⟨"tuple",_,PyProof.Rows.slot_tuple_getitem.lookup,ht.typeIs,?_⟩;refine HT.getItem_tuple_cut ht hs pl pu (by rw[hlen];exact hw) ?_ (by rw[hlen];exact hz);rw[hlen];refine⟨.ref s.heap.objs.size,_,I.laid (t':=s.toks) (o:=.t (zD2 xs lo hi)) (λb ob q=>qA _ q) (le_refl _) ?_,rfl,q _ (I.hok.fresh (le_refl _))⟩;exact⟨le_trans (Z4 xs lo hi) hz,_,(r.drop (HT.sIx xs.length 0 lo)).take (HT.sIx xs.length xs.length hi-HT.sIx xs.length 0 lo),IsTup.new _ _⟩
def rCatT(K:qH):R2:=λx y H Q=>∃a b xs ys,x=.ref a/\y=.ref b/\SqT K H a xs/\SqT K H b ys/\xs≠[]/\xs.length+ys.length<=sizeLine /\
 (ys=[]->Q (.ref a) H)/\(ys≠[]->∀p,H p=none->Q (.ref p) (upd H p (.t (xs++ys))))
def yc.nil_iff{xs:List V}{us:List Value}(r:yc xs us):us=[]↔xs=[]:=by
 cases r with
 |nil=>simp|cons _ _=>simp
def op_catT:OpR X (binaryOp .Add) (rCatT X.K):=by
 intro pins s O H x y v u Q I rx ry h;obtain⟨a,b,xs,ys,rfl,rfl,ha,hb,hx,hz,q1,q2⟩:=h;cases rx;cases ry;obtain⟨its,r1,p1,_⟩:=I.tuple ha;obtain⟨its2,r2,p2,_⟩:=I.tuple hb;refine HT.cat_tup p1 p2 (λz=>hx (r1.nil_iff.mp z)) (λz=>⟨.ref a,H,I,rfl,q1 (r2.nil_iff.mp z)⟩) (λz=>?_) (by rw[<- r1.length,<- r2.length];exact hz);refine⟨.ref s.heap.objs.size,_,I.laid (t':=s.toks) (o:=.t (xs++ys)) (λb ob q=>qA _ q) (le_refl _) ?_,rfl,q2 (λw=>z (r2.nil_iff.mpr w)) _ (I.hok.fresh (le_refl _))⟩;exact⟨by rw[length_append];exact hz,_,r1.append r2,IsTup.new _ _⟩
end
def ixN(n:Nat)(i:Int):Option Nat:=if 0<=i then(if i<n then some i.toNat else none)else if -(n:Int)<=i then some (i+n).toNat else none
def atI{α:Type}(xs:List α)(i:Int):Option α:=(ixN xs.length i).bind λj=>xs[j]?
def zBf{n:Nat}{i:Int}{j:Nat}(h:ixN n i=some j):seqIndex? i n=some j/\j<n/\-(n:Int)<=i/\i<n:=by
 unfold ixN at h;by_cases h0:0<=i
 ·rw[if_pos h0]at h
  by_cases h1:i<n
  ·rw[if_pos h1]at h
   have e:i.toNat=j:=qJ h;exact⟨by rw[seqIndex_of h0 h1,e],by omega,by omega,h1⟩
  ·rw[if_neg h1]at h;cases h
 ·rw[if_neg h0]at h
  by_cases h1:-(n:Int)<=i
  ·rw[if_pos h1]at h
   have e:(i+n).toNat=j:=qJ h;exact⟨by rw[seqIndex_neg (by omega) h1,e],by omega,h1,by omega⟩
  ·rw[if_neg h1]at h;cases h
def zBg{α:Type}{xs:List α}{i:Int}{v:α}(h:atI xs i=some v):∃j,seqIndex? i xs.length=some j/\xs[j]?=some v/\j<xs.length/\-(xs.length:Int)<=i/\i<xs.length:=by
 unfold atI at h;cases e:ixN xs.length i with
 |none=>rw[e]at h;cases h
 |some j =>
  rw[e]at h;obtain⟨h1,h2,h3,h4⟩:=zBf e;exact⟨j,h1,h,h2,h3,h4⟩
def ve(b:Expr):Prop:=∀o i,subscripted b false o i=operate [o,i] (getItem o i)
def IxR(X:Cx)(r:R2):Prop :=
 ∀(value slice:Expr) (pins:List (Addr×Obj)) (s:Shared) (O:St) (H:Hp) (x y:V) (v u:Value) (Q:VK),Inv X pins O H s->yL x v->yL y u->r x y H Q ->
  subscripted slice false v u=operate [v,u] (getItem v u)->wpAny (model X.prog X.w) X.A (subscriptTail value slice v u) (EP X pins O Q) X.xe s
def MtR(X:Cx)(id:String)(r:V->List V->Hp->VK->Prop):Prop :=
 ∀(pins:List (Addr×Obj)) (s:Shared) (O:St) (H:Hp) (x:V) (xs:List V) (v:Value) (us:List Value) (Q:VK),Inv X pins O H s->yL x v->yc xs us->r x xs H Q ->
  wpAny (model X.prog X.w) X.A (call (.builtin id) (v::us)) (EP X pins O Q) X.xe s
section
variable{X:Cx}{a b:Expr}{ta tb:TE}{pos:Pos}
def IxR.or{r r':R2}(h:IxR X r)(h':IxR X r'):IxR X (λx y H Q=>r x y H Q\/r' x y H Q):=by
 intro value slice pins s O H x y v u Q I rx ry q hs;rcases q with q|q
 ·exact h value slice pins s O H x y v u Q I rx ry q hs
 ·exact h' value slice pins s O H x y v u Q I rx ry q hs
def pe_ix{r:R2}(hr:IxR X r)(ha:PE X a ta)(hb:PE X b tb)(hs:ve b):PE X (.Subscript a b pos) (tOp r ta tb):=by
 intro pins s O H Q I h;exact Subscript_ (binT ha hb I h λv u s2 x y H2 I2 rx ry q=>hr a b pins s2 O H2 x y v u Q I2 rx ry q (hs _ _))
def rIxL(K:qH):R2:=λx y H Q=>∃p xs i v,x=.ref p/\y=.int i/\SqL K H p xs/\atI xs i=some v/\Q v H
def rIxT(K:qH):R2:=λx y H Q=>∃p xs i v,x=.ref p/\y=.int i/\SqT K H p xs/\atI xs i=some v/\Q v H
def zBh:IxR X (rIxL X.K):=by
 intro value slice pins s O H x y v u Q I rx ry h hs;obtain⟨p,xs,i,z,rfl,rfl,hq,he,q⟩:=h;cases rx;obtain⟨t,rfl⟩:=ry;obtain⟨its,r,pl,hz⟩:=I.list hq;obtain⟨j,h1,h2,h3,h4,h5⟩:=zBg he;obtain⟨w,ew,rw'⟩:=r.get h2;have hl:=r.length;have hn:=Qi;have fin:EP X pins O Q w s:=⟨z,H,I,rw',q⟩;by_cases h0:0<=i
 ·have hj:i.toNat=j:=by
   rw[seqIndex_of h0 h5]at h1;exact qJ h1
  exact item_listR pl.isList h0 (by omega) (by rw[hj];simpa using ew) fin hs
 ·have hj:(i+(its.toArray.size:Int)).toNat=j:=by
   rw[seqIndex_neg (by omega) h4]at h1;rw[size_toArray,<- hl];exact qJ h1
  exact subscriptTail_builtinR (x:=w) pl.isList.typeIs slot_list_getitem.lookup
   (wpAny_getItem_list_neg (Q:=λr s'=>r=w/\EP X pins O Q r s') pl.isList (by omega) (by rw[size_toArray]<;>omega) (by omega) (by rw[hj];simpa using ew) ⟨rfl,fin⟩) hs
def zFh:IxR X (rIxT X.K):=by
 intro value slice pins s O H x y v u Q I rx ry h hs;obtain⟨p,xs,i,z,rfl,rfl,hq,he,q⟩:=h;cases rx;obtain⟨t,rfl⟩:=ry;obtain⟨its,r,pl,hz⟩:=I.tuple hq;obtain⟨j,h1,h2,h3,h4,h5⟩:=zBg he;obtain⟨w,ew,rw'⟩:=r.get h2;have hl:=r.length;have hn:=Qi;have fin:EP X pins O Q w s:=⟨z,H,I,rw',q⟩;exact subscriptTail_builtinR (x:=w) pl.typeIs slot_tuple_getitem.lookup
  (getItem_tuple (j:=j) (Q:=λr s'=>r=w/\EP X pins O Q r s') pl (by omega) (by omega) (by rw[size_toArray,<- hl];exact h1) (by simpa using ew) ⟨rfl,fin⟩) hs
def zAq(its:List Value)(n j:Nat)(u:Value):Obj.mapSeq (·.setIfInBounds j u) {cls:=.type "list",data:=.seq its.toArray n}={cls:=.type "list",data:=.seq (its.set j u).toArray n}:=by
 simp[Obj.mapSeq]
theorem Inv.lst{pins:List (Addr×Obj)}{O:St}{H:Hp}{s:Shared}{p:Addr}{xs:List V}(I:Inv X pins O H s)(h:H p=some (.l xs)) :
  ∃(its:List Value) (n:Nat),yc xs its/\s.heap.get? p=some {cls:=.type "list",data:=.seq its.toArray n}/\xs.length<=sizeLine:=by
 obtain⟨z,its,n,r,e⟩:=I.hok p _ h;exact⟨its,n,r,e,z⟩
def Inv.lstUpd{pins:List (Addr×Obj)}{O:St}{H:Hp}{s:Shared}{p:Addr}{xs ys:List V}{its its':List Value}{n n':Nat}{f:Obj->Obj}(I:Inv X pins O H s)(h:H p=some (.l xs))
  (ho:s.heap.get? p=some {cls:=.type "list",data:=.seq its.toArray n}) (hf:f {cls:=.type "list",data:=.seq its.toArray n}={cls:=.type "list",data:=.seq its'.toArray n'}) (r:yc ys its') (hz:ys.length<=sizeLine) (t:Nat) :
  Inv X pins O (upd H p (.l ys)) {s with heap:=s.heap.update p f,toks:=t}:=by
 have e:(s.heap.update p f).get? p=some {cls:=.type "list",data:=.seq its'.toArray n'}:=by
  rw[get?_update_self f ho (by rw[hf]<;>rfl),hf]
 refine I.write (x:=p) (e:=p) (by rw[h];trivial) (.inl rfl) (λb u hb q=>(get?_update_other _ _ (Ne.symm hb)).trans q) ⟨_,e⟩ ?_;exact⟨hz,its',n',r,e⟩
def rSetL:V->V->V->Hp->(Hp->Prop)->Prop:=λo i v H Q=>∃p xs k j,o=.ref p/\i=.int k/\H p=some (.l xs)/\ixN xs.length k=some j/\Q (upd H p (.l (xs.set j v)))
def zD3:PSet X rSetL:=by
 intro pins s O H o i v ov iv u Q I ro ri rv h;obtain⟨p,xs,k,j,rfl,rfl,hp,hj,q⟩:=h;cases ro;obtain⟨t,rfl⟩:=ri;obtain⟨its,n,r,ho,hz⟩:=I.lst hp;obtain⟨h1,h2,h3,h4⟩:=zBf hj;have hl:=r.length;have hn:=Qi;have I':Inv X pins O (upd H p (.l (xs.set j v))) {s with heap:=s.heap.update p (Obj.mapSeq (·.setIfInBounds j u))} :=
  I.lstUpd hp ho (zAq its n j u) (r.set rv j) (by rw[List.length_set];exact hz) s.toks
 by_cases h0:0<=k
 ·have hk:k.toNat=j:=by
   rw[seqIndex_of h0 h4]at h1;exact qJ h1
  exact PySem.W.ki_setAt ho h0 (by omega) (by rw[size_toArray,<- hl];exact h4) (by rw[hk];exact⟨_,I',q⟩)
 ·have hk:(k+(its.toArray.size:Int)).toNat=j:=by
   rw[seqIndex_neg (by omega) h3]at h1;rw[size_toArray,<- hl];exact qJ h1
  exact PySem.W.ki_setBack ho (by omega) (by rw[size_toArray,<- hl];exact h3) (by omega) (by rw[hk];exact⟨_,I',q⟩)
def uk(lo hi:Option Int)(n:Nat):(sliceBounds lo hi none n).1=((HT.sIx n 0 lo:Nat):Int)/\(sliceBounds lo hi none n).2.1=((HT.sIx n n hi:Nat):Int)/\(sliceBounds lo hi none n).2.2=1:=by
 refine⟨?_,?_,rfl⟩
 ·cases lo with
  |none=>simp[sliceBounds,HT.sIx]
  |some i =>
   simp only[sliceBounds,HT.sIx,Option.getD_none,show(1:Int) > 0 by decide,if_true];by_cases h:i<0
   ·simp only[h,if_true]<;>omega
   ·simp only[h,if_false]<;>omega
 ·cases hi with
  |none=>simp[sliceBounds,HT.sIx]
  |some i =>
   simp only[sliceBounds,HT.sIx,Option.getD_none,show(1:Int) > 0 by decide,if_true];by_cases h:i<0
   ·simp only[h,if_true]<;>omega
   ·simp only[h,if_false]<;>omega
def vf(its:List Value)(lo hi:Option Int):slicePick its.toArray lo hi none=((its.drop (HT.sIx its.length 0 lo)).take (HT.sIx its.length its.length hi-HT.sIx its.length 0 lo)).toArray:=by
 obtain⟨h1,h2,h3⟩:=uk lo hi its.toArray.size;unfold slicePick;rw[h1,h2,h3];simp only[sliceRange_one,pick_run,size_toArray]<;>rfl
def rSlL(K:qH):V->Option Int->Option Int->Hp->VK->Prop:=λx lo hi H Q=>∃a xs,x=.ref a/\SqL K H a xs/\∀p,H p=none->Q (.ref p) (upd H p (.l (zD2 xs lo hi)))
def sl_list:SlR X (rSlL X.K):=by
 intro pins s O H x v vl vu lo hi sl Q I rx hs pl pu h;obtain⟨a,xs,rfl,hx,q⟩:=h;cases rx;obtain⟨its,r,ht,hz⟩:=I.list hx;have hlen:=r.length;refine⟨"list",_,slot_list_getitem.lookup,ht.isList.typeIs,?_⟩;refine wpAny_getItem_list_slice ht.isList hs pl pu .none (by simp) ?_ (by rw[size_toArray]<;>omega);rw[vf,<- hlen];refine⟨.ref s.heap.objs.size,_,I.laid (t':=s.toks) (o:=.l (zD2 xs lo hi)) (λb ob q=>qA _ q) (le_refl _) ?_,rfl,q _ (I.hok.fresh (le_refl _))⟩;exact⟨le_trans (Z4 xs lo hi) hz,_,0,(r.drop (HT.sIx xs.length 0 lo)).take (HT.sIx xs.length xs.length hi-HT.sIx xs.length 0 lo),get?_push_size _ rfl⟩
def vg:V->Bool
 | .non=>true| .bl _=>true| .int _=>true| .str _=>true|_=>false
def eqV:V->V->Bool
 | .non,.non=>true| .bl a,.bl b=>a==b| .bl a,.int b=>(if a then 1 else 0)==b| .int a,.bl b=>a==(if b then 1 else 0)| .int a,.int b=>a==b| .str a,.str b=>a==b|_,_=>false
def zFi{A:Around}{s:Shared}{y x:V}{u v:Value}(ry:yL y u)(rx:yL x v)(fy:vg y=true)(fx:vg x=true):SeqAt.EqAt A s u v (eqV y x):=by
 cases y with
 |non =>
  cases ry;cases x with
  |non=>cases rx;exact SeqAt.EqAt.same _|bl b=>cases rx;exact SeqAt.EqAt.none_bool b|int b=>obtain⟨t,rfl⟩:=rx;exact SeqAt.EqAt.none_int b t|str b=>obtain⟨t,rfl⟩:=rx;exact SeqAt.EqAt.none_str b t|_=>exact absurd (show false=true from fx) qF
 |bl a =>
  cases ry;cases x with
  |non=>cases rx;exact SeqAt.EqAt.bool_none a|bl b=>cases rx;exact SeqAt.EqAt.bool_bool a b|int b=>obtain⟨t,rfl⟩:=rx;exact SeqAt.EqAt.bool_int a b t|str b=>obtain⟨t,rfl⟩:=rx;exact SeqAt.EqAt.bool_str a b t|_=>exact absurd (show false=true from fx) qF
 |int a =>
  obtain⟨t',rfl⟩:=ry;cases x with
  |non=>cases rx;exact SeqAt.EqAt.int_none a t'|bl b=>cases rx;exact SeqAt.EqAt.int_bool a t' b|int b=>obtain⟨t,rfl⟩:=rx;exact SeqAt.EqAt.int_int a t' b t|str b=>obtain⟨t,rfl⟩:=rx;exact SeqAt.EqAt.int_str a t' b t|_=>exact absurd (show false=true from fx) qF
 |str a =>
  obtain⟨t',rfl⟩:=ry;cases x with
  |non=>cases rx;exact SeqAt.EqAt.str_none a t'|bl b=>cases rx;exact SeqAt.EqAt.str_bool a t' b|int b=>obtain⟨t,rfl⟩:=rx;exact SeqAt.EqAt.str_int a t' b t|str b=>obtain⟨t,rfl⟩:=rx;exact SeqAt.EqAt.str_str a t' b t|_=>exact absurd (show false=true from fx) qF
 |_=>exact absurd (show false=true from fy) qF
def ul:JO X (.builtin "len") (λxs H Q=>∃p ys,xs=[.ref p]/\(SqL X.K H p ys\/SqT X.K H p ys)/\Q (.int ys.length) H):=by
 intro pins s O H xs us Q I r h;obtain⟨p,ys,rfl,hq,q⟩:=h;obtain⟨u,rfl,rx⟩:=uf r;cases rx;have hn:=Qi;rcases hq with hq|hq
 ·obtain⟨its,r',pl,hz⟩:=I.list hq
  have hlen:=r'.length;exact Calls.call_len_list pl.isList (by simp only[size_toArray]<;>omega) ⟨.int ys.length,H,I.tok _,⟨s.toks+1,by rw[size_toArray,hlen]⟩,q⟩
 ·obtain⟨its,r',pl,hz⟩:=I.tuple hq
  have hlen:=r'.length;exact len_tuple pl (by simp only[size_toArray]<;>omega) ⟨.int ys.length,H,I.tok _,⟨s.toks+1,by rw[size_toArray,hlen]⟩,q⟩
def vh:JO X (.type "tuple") (λxs H Q=>∃p ys,xs=[.ref p]/\((SqL X.K H p ys/\∀l,H l=none->Q (.ref l) (upd H l (.t ys)))\/(SqT X.K H p ys/\Q (.ref p) H))):=by
 intro pins s O H xs us Q I r h;obtain⟨p,ys,rfl,h⟩:=h;obtain⟨u,rfl,rx⟩:=uf r;cases rx;rcases h with⟨hq,q⟩|⟨hq,q⟩
 ·obtain⟨its,r',pl,hz⟩:=I.list hq
  have hlen:=r'.length;refine call_tuple_list pl.isList (λh' kp=>?_) (by simp only[size_toArray]<;>omega);have I1:Inv X pins O H {s with heap:=h'}:=I.kept (t':=s.toks) kp
  have I2:Inv X pins O (upd H h'.objs.size (.t ys)) {s with heap:=h'.push {cls:=.type "tuple",data:=.seq its.toArray}} :=
   I1.laid (t':=s.toks) (λb o e=>qA _ e) (le_refl _) (show yd X.prog X.w _ _ _ (.t ys)from⟨hz,its,r',IsTup.new _ _⟩)
  exact⟨.ref h'.objs.size,_,I2,rfl,q _ (I1.hok.fresh (le_refl _))⟩
 ·obtain⟨its,r',pl,hz⟩:=I.tuple hq
  exact call_tuple_same pl ⟨.ref p,H,I,rfl,q⟩
def tyV(K:qH)(T:String)(x:V)(H:Hp):Prop:=match x with
 | .str _=>T="str"| .int _=>T="int"
 | .ref p=>(T="list"/\∃xs,SqL K H p xs)\/(T="tuple"/\∃o,K.lookup p=some o/\o.cls=.type "tuple"/\o.dict=none) \/
   (T="dict"/\((∃kvs,H p=some (.dK kvs))\/∃kvs,H p=some (.dT kvs)))\/(T="set"/\∃S n,H p=some (.set S n))
 |_=>False
def tyV_is{pins:List (Addr×Obj)}{O:St}{H:Hp}{s:Shared}{T:String}{x:V}{v:Value}(I:Inv X pins O H s)(r:yL x v)(ty:tyV X.K T x H) :
  s.TypeIs v T/\∀a,v=.ref a->∃ob,s.heap.get? a=some ob/\ob.dict=none:=by
 cases x with
 |str z =>
  obtain⟨t,rfl⟩:=r;cases (show T="str" from ty);exact⟨typeIs_str s z t,λ_ e=>nomatch e⟩
 |int i =>
  obtain⟨t,rfl⟩:=r;cases (show T="int" from ty);exact⟨typeIs_int s i t,λ_ e=>nomatch e⟩
 |ref p =>
  cases r;rcases ty with⟨rfl,xs,hq⟩|⟨rfl,o,hk,hc,hd⟩|⟨rfl,hk⟩|⟨rfl,S,n,hk⟩
  ·obtain⟨its,_,pl,_⟩:=I.list hq
   refine⟨pl.isList.typeIs,λa e=>?_⟩;cases e;obtain⟨o,n,e,c,hd,_⟩:=pl;exact⟨o,e,hd⟩
  ·refine⟨⟨o,I.kIn p o hk,hc⟩,λa e=>?_⟩
   cases e;exact⟨o,I.kIn _ o hk,hd⟩
  ·have z:∃o,s.heap.get? p=some o/\o.ExactDict:=by
    rcases hk with⟨kvs,hk⟩|⟨kvs,hk⟩
    ·obtain⟨_,_,_,_,o,_,_,e,ex,_⟩:=I.hok p _ hk
     exact⟨o,e,ex⟩
    ·obtain⟨_,_,_,_,o,_,_,e,ex,_⟩:=I.hok p _ hk
     exact⟨o,e,ex⟩
   obtain⟨o,e,ex⟩:=z;refine⟨⟨o,e,ex.1⟩,λa e2=>?_⟩;cases e2;exact⟨o,e,ex.2.1⟩
  ·obtain⟨o,_,_,_,e,ex,_⟩:=I.hok p _ hk
   refine⟨⟨o,e,ex.1⟩,λa e2=>?_⟩;cases e2;exact⟨o,e,ex.2.1⟩
 |_=>exact False.elim ty
def tBM(K:qH)(T:String)(r:V->List V->Hp->VK->Prop)(to:TE)(t:TA):TE:=λO H Q=>to O H λx H1=>tyV K T x H1/\t O H1 λxs H2=>r x xs H2 Q
variable{o e:Expr}{es:List Expr}{to:TE}{t:TA}{name:Str}{apos cpos:Pos}{T id:String}{r:V->List V->Hp->VK->Prop}
def pe_bm(pa:PlainAttrs T)(slot:Slot T name id)(hty:typeOf (.builtin id)=pure (.type "method_descriptor"))(hm:MtR X id r)(ho:PE X o to)(ha:PA X (e::es) t)
  (hbase:attributeBase o name X.env (eval o X.env)=eval o X.env:=by rfl)
  (hfew:((backTo cpos (starEach (e::es) X.env)).all (λx=>!x.1)&&(backToKw cpos (keywordEach [] X.env)).all (λx=>x.1.isSome)
   && decide ((e::es).length+([]:List Keyword).length+(if([]:List Keyword).isEmpty then 0 else 1)<30))=true:=by rfl)
  (hline:(apos.endLine==cpos.line)=true:=by rfl) (hs:starEach (e::es) X.env=(false,eval e X.env)::starEach es X.env:=by rfl) (hplain:(backTo cpos (starEach es X.env)).any (·.1)=false:=by rfl) :
  PE X (.Call (.Attribute o name apos) (e::es) [] cpos) (tBM X.K T r to t):=by
 intro pins s O H Q I h;refine wpAny_Call_method_late hbase hfew hline rfl (thn (ho pins s O H _ I h) λv s1 ⟨x,H1,I1,r1,ty,q1⟩=>?_);obtain⟨h1,h2⟩:=tyV_is I1 r1 ty;refine⟨T,id,pa,slot,hty,h1,h2,?_⟩;have hA:=ha cpos pins s1 O H1 _ I1 q1;rw[hs]at hA ⊢;refine Calls.callWith_builtin (by show(false||(backTo cpos (starEach es X.env)).any (·.1))=false;rw[hplain]<;>rfl) (Calls.evalArgs_plain ?_);exact thn hA λus s2 ⟨vs,H2,I2,r2,q2⟩=>hm pins s2 O H2 x vs v us Q I2 r1 r2 q2
end
def MtM(X:Cx)(id:String)(r:V->List V->Hp->VK->Prop):Prop :=
 ∀(pins:List (Addr×Obj)) (s:Shared) (O:St) (H:Hp) (x:V) (xs:List V) (v:Value) (us:List Value) (Q:VK),Inv X pins O H s->yL x v->yc xs us->r x xs H Q ->
  wpAny (model X.prog X.w) X.A (call (.builtin id) (v::us)) (EP X pins O Q) X.xe s
def yc.one:∀{x:V} {us:List Value},yc [x] us->∃u,us=[u]/\yL x u
 |_,_,.cons r .nil=>⟨_,rfl,r⟩
theorem yc.rep{xs:List V}{us:List Value}(h:yc xs us):∀k:Nat,yc (replicate k xs).flatten (replicate k us).flatten
 |0=>.nil
 |k+1=>by
  rw[replicate_succ,replicate_succ,flatten_cons,flatten_cons];exact yc.append h (yc.rep h k)
theorem Z5(its:List Value):∀(k:Nat) (acc:List Value),
  foldl (λx1 x2=>x1++x2) acc.toArray (replicate k its.toArray)=(acc++(replicate k its).flatten).toArray
 |0,acc=>by simp
 |k+1,acc=>by
  have e:acc.toArray++its.toArray=(acc++its).toArray:=by simp
  have e2:(acc++its)++(replicate k its).flatten=acc++(replicate (k+1) its).flatten:=by
   rw[replicate_succ,flatten_cons,append_assoc]
  rw[<- e2,<- Z5 its k (acc++its),<- e,replicate_succ,List.foldl_cons]
section
variable{X:Cx}{pins:List (Addr×Obj)}{O:St}{H:Hp}{s:Shared}{l b:Addr}{xs ys zs:List V}
def Inv.lset{its its':List Value}{n:Nat}{f:Array Value->Array Value}{t':Nat}(I:Inv X pins O H s)(hH:H l=some (.l xs))
  (e:s.heap.get? l=some {cls:=.type "list",data:=.seq its.toArray n}) (hf:f its.toArray=its'.toArray) (hv:yc ys its') (hz:ys.length<=sizeLine) :
  Inv X pins O (upd H l (.l ys)) {s with heap:=s.heap.update l (Obj.mapSeq f),toks:=t'}:=by
 have q:=PySem.IsL.update e f;rw[hf]at q;refine I.write (x:=l) (e:=l) (by rw[hH];exact trivial) (.inl rfl) (λb' u hb hu=>(get?_update_other s.heap (Obj.mapSeq f) (Ne.symm hb)).trans hu) ⟨_,q⟩ ?_;exact⟨hz,its',_,hv,q⟩
def Inv.lnew{its:List Value}{t':Nat}(I:Inv X pins O H s)(hv:yc ys its)(hz:ys.length<=sizeLine) :
  Inv X pins O (upd H s.heap.objs.size (.l ys)) {s with heap:=s.heap.push {cls:=.type "list",data:=.seq its.toArray},toks:=t'} :=
 I.laid (λ_ _ q=>qA _ q) (le_refl _) ⟨hz,its,0,hv,get?_push_size _ rfl⟩
theorem Inv.fresh(I:Inv X pins O H s):H s.heap.objs.size=none:=I.hok.fresh (le_refl _)
def Inv.lstM(I:Inv X pins O H s)(hH:H l=some (.l xs)):xs.length<=sizeLine/\∃(its:List Value) (n:Nat),yc xs its/\xs.length=its.length/\s.heap.get? l=some {cls:=.type "list",data:=.seq its.toArray n}:=by
 obtain⟨z,its,n,r,e⟩:=I.hok l _ hH;exact⟨z,its,n,r,r.length,e⟩
def zD4{n:Nat}(h:n<=sizeLine):Builtin.List.listTooLong n=false:=by
 unfold Builtin.List.listTooLong;exact decide_eq_false (by omega)
end
section
variable{X:Cx}
def zBi:V->List V->Hp->VK->Prop:=λx vs H Q=>∃l xs y,x=.ref l/\vs=[y]/\H l=some (.l xs)/\xs.length<sizeLine/\Q .non (upd H l (.l (xs++[y])))
def Z6:MtM X "list.append" zBi:=by
 intro pins s O H x vs v us Q I rx rv h;obtain⟨l,xs,y,rfl,rfl,hH,hz,q⟩:=h;cases rx;obtain⟨u,rfl,ru⟩:=rv.one;obtain⟨z,its,n,r,hl,e⟩:=I.lstM hH;refine call_meets F.slot_list_append ⟨_,e,rfl⟩ F.entry_list_append (F.args_list_append_2 _ _) (PySem.list_append l its.toArray n u (by rw[size_toArray];omega)) ⟨e,?_⟩;refine⟨.non,_,I.lset (its':=its++[u]) hH e (by simp) (r.append (.cons ru .nil)) ?_,rfl,q⟩;rw[length_append,List.length_singleton];omega
def G4{α:Type}(xs:List α)(k:Nat):(replicate k xs).flatten.length=k*xs.length:=by
 induction k with
 |zero=>simp|succ k ih=>rw[replicate_succ,flatten_cons,length_append,ih,succ_mul,Nat.add_comm]
end
end L2
namespace Att
open PySem PySem.W PySem.Calls PyProof.Rows
def Z7{P:Params}{h:Heap}:∀(ns:List Int) (vs:List Value),WellAll P h vs (ns.map WData.int)->IntsAre vs ns:=by
 intro ns
 induction ns with
 |nil =>
  intro vs w;rw[map_nil]at w;cases w;exact .nil
 |cons n ns ih =>
  intro vs w;rw[map_cons]at w;cases w with
  |cons a b =>
   cases a;exact .cons _ _ (ih _ b)
def zBj{l:OpenLaw}{n:Nat}(hn:l.most=some n){P:Params}{h:Heap}{args:List WData}{vals:List Value}
  (hpre:l.row.toRowW.claim.pre args=true) (hwl:WellAll P h vals args) :
  ∃a vs ns,vals=[Value.ref a]/\args=[WData.list (ns.map WData.int)]/\h.get? a=some {cls:=.type "list",data:=.seq vs.toArray}/\IntsAre vs ns/\ns.length<=n:=by
 have hsh:WShape.hasAll [] args [.list .int]=true:=(pre_splitW hpre).1;have hc:l.pre.holds [] {args:=args}=true:=(pre_splitW hpre).2;obtain⟨d,r,rfl,h1,h2⟩:=hasAllW_cons hsh;obtain rfl:=hasAllW_nil h2;obtain⟨xs,rfl,h3⟩:=hasW_list h1;obtain⟨ns,rfl⟩:=items_int h3;have hlen:ns.length<=n:=by
  unfold OpenLaw.pre at hc;have h4:(WTm.not (.lt (.lit (.int (n:Int))) (.len (.arg 0)))).holds [] {args:=[.list (ns.map .int)]}=true:=by
   have h4:=(holds_andW hc).1;rw[hn]at h4;exact h4
  have h5:=condW_of h4 (w_not (w_lt w_lit (w_len_list (w_arg rfl))));rw[length_map]at h5;refine Nat.le_of_not_lt λq=>?_
  have q':(n:Int)<((ns.length:Nat):Int):=by omega
  first
   | (rw[decide_eq_true q']at h5;exact absurd h5 (by decide))
   | (simp at h5;omega)
 cases hwl with
 |cons w1 w2 =>
  cases w2;cases w1 with
  |list ho hall=>exact⟨_,_,ns,rfl,rfl,ho,Z7 ns _ hall,hlen⟩
def zBk(l:OpenLaw)(args:List WData):l.row.toRowW.claim.post args (.bool true) args=true :=
 postW_of (r:=l.row.toRowW) (X:=(true==true))
  (show WShape.has [] (.bool true) .bool=true by first|rfl|decide|simp[WShape.has,WShape.arms,WShape.armsAll])
  (show(WTm.eq .res (.lit (.bool true))).value [] {args:=args,res:=some (.bool true),after:=args}=some (.bool (true==true))from w_eq_bool (w_res rfl) w_lit) rfl
def attach_call{l:OpenLaw}{n:Nat}{q:Program}{loose:List Str}{XP:(Str->Option Value)->Heap->Prop}{YP:World->Heap->Prop}{d:DefRec}
  (hn:l.most=some n) (hdf:d.params.defaults=[])
  (call:∀(w:World) (s₀ s₁:Shared) (mg mb:Str->Option Value) (fa:Addr) (o:Obj) (pm cd doc:Value) (a:Addr) (vs:List Value) (ns:List Int),
   Ground q loose [] XP w s₀ mg mb s₁.heap->YP w s₁.heap ->
   s₁.heap.get? fa=some o->o.data=.func (docDef d.name d.params d.body d.scope pm cd doc)->s₁.heap.CodeRec cd d.name->mg d.name=some (.ref fa) ->
   s₁.heap.get? a=some {cls:=.type "list",data:=.seq vs.toArray}->IntsAre vs ns->ns.length<=n->s₁.gens=#[] ->
   codeAny (model l.prog w) callerA (.call (.ref fa) ⟨[.ref a],[]⟩) (λr s'=>r=.ok (.ret (.bool true))/\OldK s₁.heap s'.heap/\s'.os=s₁.os/\AllBare s'.gens) s₁) :
  WalkO q loose XP YP l.row.toRowW d [] (λf vs=>PySem.call f vs):=by
 intro w s₀ s₁ mg mb G Y fa o pm cd doc dV kV ho hd hcd hD hmg hg args vals as hpre hlay hrd hwl hlo;obtain rfl:dV=.none:=Dflts.none hD hdf;obtain rfl:kV=.none:=Dflts.noKw hD;obtain⟨a,vs,ns,rfl,rfl,hobj,hints,hlen⟩:=zBj hn hpre hwl;refine enter_call (codeAny_mono (call w s₀ s₁ mg mb fa o pm cd doc a vs ns G Y ho (fd_plain hd) hcd hmg hobj hints hlen hg) λr s' hq=>?_);obtain⟨rfl,h2,h3,h4⟩:=hq;exact⟨.inl ⟨.bool true,.bool true,[],rfl,λ_=>rfl,.bool true,zBk l _,λ_=>⟨List.Pairwise.nil,λ_ hm=>(nomatch hm)⟩⟩,h2,h3,h4⟩
end Att
namespace L2
open PySem PySem.Spec PyProof.Rows
theorem um:∀{vs:List Value} {ns:List Int},IntsAre vs ns->yc (ns.map V.int) vs
 |_,_,.nil=>.nil|_,_,.cons n t h=>.cons ⟨t,rfl⟩ (um h)
def Only(H:Hp):Prop:=∀b,H b=none\/∃o xs,H b=some (.frz o (.l xs))
def zD5{P:Program}{w:World}{K:qH}{mg mb:Str->Option Value}{CX:CXT}{k:Nat}{fa a:Addr}{fd:FuncData}{x:Str}{sp:Sp}{s₁:Shared}{vs:List Value}{ns:List Int}
  (KX:K.In s₁.heap) (hns:s₁.heap.Ns mainGlobals mg) (hb:s₁.heap.Ns builtinsNs mb) (hbb:∀x:Str,x≠"__name__"->mb x=bootBuiltins x) (hlim:s₁.heap.NoLimit) (hg:s₁.gens=#[])
  (ha:s₁.heap.get? a=some {cls:=.type "list",data:=.seq vs.toArray}) (hi:IntsAre vs ns) (hl:ns.length<=sizeLine) (hr:Room k callerA)
  (F:∀base:Heap,K.In base->base.Ns mainGlobals mg->FnOk P w K mg base CX k fa fd [x] sp) (hbind:∀(s:Shared) (u:Value),BindsTo s fd ⟨[u],[]⟩ [(x,u)])
  (hsp:∀H:Hp,Only H->SqL K H a (ns.map V.int)->sp [.ref a] H (λv _=>v=.bl true) λ_ _ _=>False)
  (hCX:∀H e s',CX [] H s₁ (λ_ _ _=>False) e s'->False) :
  codeAny (model P w) callerA (.call (.ref fa) ⟨[.ref a],[]⟩) (λr s'=>r=.ok (.ret (.bool true))/\OldK s₁.heap s'.heap/\s'.os=s₁.os/\AllBare s'.gens) s₁:=by
 have rv:=um hi;have lenV:=hi.length
 -- from an abstract heap in which nothing but the script may be tracked
 have core:∀H:Hp,Only H->SqL K H a (ns.map V.int)->HOk P w H s₁.heap->(∀b,H b≠none->b=a)->(H a≠none->K.lookup a=none) ->
   codeAny (model P w) callerA (.call (.ref fa) ⟨[.ref a],[]⟩) (λr s'=>r=.ok (.ret (.bool true))/\OldK s₁.heap s'.heap/\s'.os=s₁.os/\AllBare s'.gens) s₁:=by
  intro H hO hS hok hA hK;have base_of:∀{b:Addr} {o:Obj},s₁.heap.get? b=some o->H b=none->(zDs s₁.heap H).get? b=some o:=λe n=>zDt e n
  have noA:∀{b:Addr} {o:Obj} {es:Array DictEntry} {ep:Nat},s₁.heap.get? b=some o->o.data=.dict es ep->H b=none:=λ{b o es ep} e d=>by
   cases q:H b with
   |none=>rfl
   |some u =>
    have e':b=a:=hA b (by rw[q];simp);subst e';rw[ha]at e;cases e;have d':Data.seq vs.toArray _=Data.dict es ep:=d;cases d'
  have nsK:∀{b:Addr} {m:Str->Option Value},s₁.heap.Ns b m->(zDs s₁.heap H).Ns b m:=λ{b m} ⟨o,es,ep,e,d,r⟩=>⟨o,es,ep,base_of e (noA e d),d,r⟩
  have hKb:K.In (zDs s₁.heap H):=λb o e=>base_of (KX b o e) (by
   cases q:H b with
   |none=>rfl
   |some u =>
    have e':b=a:=hA b (by rw[q];simp);subst e';rw[hK (by rw[q];simp)]at e;cases e)
  have hM:Mod K mg (zDs s₁.heap H):=⟨hKb,nsK hns,⟨mb,nsK hb,hbb⟩,let ⟨mc,h1,h2⟩:=hlim;⟨mc,nsK h1,h2⟩⟩;have e0:Env0 P w K mg (zDs s₁.heap H) callerA [] s₁ H:=⟨rfl,hM,λb o e=>of_hidT e,Nat.le_of_eq (zBN _ _),trivial,λb hb=>absurd (show b∈([]:List Addr)from hb) (by simp),hok,.of_eq hg⟩;refine codeAny_mono ((F _ hKb (nsK hns)).run callerA [] s₁ H ⟨[.ref a],[]⟩ [.ref a] [.ref a] _ _ hr e0 (hbind s₁ (.ref a)) (.cons rfl .nil) (hsp H hO hS)) λr s' h=>?_
  cases r with
  |error e=>exact(hCX H e s' h).elim
  |ok fl =>
   cases fl with
   |next=>exact False.elim h|brk=>exact False.elim h|cont=>exact False.elim h
   |ret u =>
    obtain⟨v,H',os,bare,un,hok',r',q⟩:=h;have q':v=.bl true:=q;subst q';obtain rfl:u=Value.bool true:=r';refine⟨rfl,OldK.of_keep λb o e=>?_,os,bare⟩;cases q:H b with
    |none=>exact un.keep b o e q (by intro z;exact absurd (show b∈([]:List Addr)from z) (by simp)) (by simp)
    |some u =>
     rcases hO b with z|⟨ob,xs,z⟩
     ·rw[q]at z;cases z
     ·have z2:=un.frzs b ob _ z
      obtain⟨e1,_⟩:=hok b _ z;obtain⟨e2,_⟩:=hok' b _ z2;rw[e]at e1;cases e1;exact e2
 cases hk:K.lookup a with
 |some o =>
  -- the script is one of the module's own objects
  have e:=KX a o hk;rw[ha]at e;cases e;refine core (λ_=>none) (λ_=>.inl rfl) (.inr ⟨_,vs.toArray,_,hk,rfl,rfl,rfl,by rw[size_toArray,lenV];exact hl,by simpa using rv⟩) (λb u z=>by have z':(none:Option HO)=some u:=z;cases z') (λb z=>absurd rfl z) λz=>absurd rfl z
 |none =>
  refine core (λb=>if b=a then some (.frz {cls:=.type "list",data:=.seq vs.toArray} (.l (ns.map V.int)))else none) (λb=>?_) (.inl (.inr ⟨{cls:=.type "list",data:=.seq vs.toArray},if_pos rfl⟩)) (λb u z=>?_) (λb z=>?_) λ_=>hk
  ·by_cases hb:b=a
   ·exact .inr ⟨_,_,if_pos hb⟩
   ·exact .inl (if_neg hb)
  ·by_cases hb:b=a
   ·have z':=(if_pos hb).symm.trans z
    cases z';subst hb;exact⟨ha,by rw[length_map];exact hl,vs,_,rv,ha⟩
   ·have z':=(if_neg hb).symm.trans z
    cases z'
  ·by_cases hb:b=a
   ·exact hb
   ·exact absurd (if_neg hb) z
abbrev E0:XK:=λ_ _ _=>False
structure Fun(K:qH)(x qual:Str)(st:Stmt)(f:Addr)(fd:FuncData):Prop where
 ex:∃(oc:Value) (od:Option Addr) (kV doc pm:Value) (an:Option Addr) (cdv ct:Value) (osl:Array (Option Value)),
  fd=fnOf x qual (wg st) (yu st) (zZ st) .none kV doc pm an cdv ct/\K.lookup f=some ⟨oc,od,.func fd,osl⟩/\codeIn K cdv qual=true
 kp:keepIn K (.ref f)=true
section
variable{P:Program}{w:World}{K:qH}{mg:Str->Option Value}{base:Heap}
def Fun.binds{x qual:Str}{st:Stmt}{f:Addr}{fd:FuncData}{ps:List Str}(F:Fun K x qual st f fd)
  (h:∀(kV doc pm:Value) (an:Option Addr) (cdv ct:Value) (us:List Value),us.length=ps.length->bindArgs (fnOf x qual (wg st) (yu st) (zZ st) .none kV doc pm an cdv ct) ⟨us,[]⟩=pure (ps.zip us)):JP K fd ps []:=by
 obtain⟨oc,od,kV,doc,pm,an,cdv,ct,osl,rfl,lk,hcd⟩:=F.ex;exact .all (h kV doc pm an cdv ct)
def Ql{x qual:Str}{st:Stmt}{f:Addr}{oc:Value}{od an:Option Addr}{osl:Array (Option Value)}{kV doc pm cdv ct:Value}(l:K.lookup f=some ⟨oc,od,.func (fnOf x qual (wg st) (yu st) (zZ st) .none kV doc pm an cdv ct),osl⟩)
  (c:codeIn K cdv qual=true) (k:keepIn K (.ref f)=true):Fun K x qual st f (fnOf x qual (wg st) (yu st) (zZ st) .none kV doc pm an cdv ct):=⟨⟨oc,od,kV,doc,pm,an,cdv,ct,osl,rfl,l,c⟩,k⟩
end
def zFj{A B:Prop}(h:B):if false=true then A else B:=by
 rw[if_neg qF];exact h
def zFk{A B:Prop}(h:A):if true=true then A else B:=by
 rw[if_pos rfl];exact h
def Za(H H':Hp):Prop:=∀b o,H b=some o->H' b=some o
def Za.refl(H:Hp):Za H H:=λ_ _ h=>h
def Za.trans{H H1 H2:Hp}(a:Za H H1)(b:Za H1 H2):Za H H2:=λc o h=>b c o (a c o h)
def Za.seq{K:qH}{H H':Hp}{a:Addr}{xs:List V}(e:Za H H')(h:SqL K H a xs):SqL K H' a xs:=by
 rcases h with(h|⟨o,h⟩)|h
 ·exact .inl (.inl (e _ _ h))
 ·exact .inl (.inr ⟨o,e _ _ h⟩)
 ·exact .inr h
end L2
namespace DV
open PySem L2
def wm(h h':Heap):Prop:=∀b o,h.get? b=some o->∃o',h'.get? b=some o'/\o'.dict=o.dict
def wm.refl(h:Heap):wm h h:=λ_ o e=>⟨o,e,rfl⟩
theorem wm.trans{h1 h2 h3:Heap}(a:wm h1 h2)(b:wm h2 h3):wm h1 h3:=λc o e=>by
 obtain⟨o1,e1,d1⟩:=a c o e;obtain⟨o2,e2,d2⟩:=b c o1 e1;exact⟨o2,e2,d2.trans d1⟩
def wm.of_keeps{h h':Heap}(k:∀b o,h.get? b=some o->h'.get? b=some o):wm h h':=λb o e=>⟨o,k b o e,rfl⟩
def wm.upd{h:Heap}{a:Addr}{f:Obj->Obj}(hf:∀o,(f o).dict=o.dict/\(o.isFreed=false->(f o).isFreed=false)):wm h (h.update a f):=λb o e=>by
 by_cases hb:a=b
 ·subst hb
  exact⟨f o,get?_update_self _ e ((hf o).2 (Heap.get?_some_iff.mp e).2),(hf o).1⟩
 ·exact⟨o,(get?_update_other _ _ hb).trans e,rfl⟩
def jr{α:Type}:Sem α->Prop
 | .pure _=>True| .raise _=>True| .unsupported _=>True| .finish _=>True| .rule _ k=>jr (k ())| .at _ k=>jr (k ())| .load _ _ k=>∀o,jr (k o)| .update _ _ f k=>(∀o,(f o).dict=o.dict/\(o.isFreed=false->(f o).isFreed=false))/\jr (k ())| .alloc _ k=>∀a,jr (k a)| .stack k=>∀l,jr (k l)|_=>False
theorem jr.bind{α β:Type}{f:α->Sem β}(hf:∀a,jr (f a)){t:Sem α}(ht:jr t):jr (t >>= f):=by
 show jr (t.bind f)
 induction t with
 |pure a=>exact hf a|raise _=>trivial|unsupported _=>trivial|finish _=>trivial|rule _ k ih=>exact ih () ht| «at» _ k ih=>exact ih () ht|load _ _ k ih=>exact λo=>ih o (ht o)|update _ _ _ k ih=>exact⟨ht.1,ih () ht.2⟩|alloc _ k ih=>exact λa=>ih a (ht a)|stack k ih=>exact λl=>ih l (ht l)|_=>exact False.elim ht
def tame_wp{α:Type}(M:Model)(Γ:Ctx)(h0:Heap)(Q:α->Pos->Shared->Prop)(E:Value->Pos->Shared->Prop)(t:Sem α):∀(p:Pos) (s:Shared),jr t->wm h0 s.heap->Sem.wp M Γ t Q E p s ->
  Sem.wp M Γ t (λa p' s'=>Q a p' s'/\wm h0 s'.heap) (λe p' s'=>E e p' s'/\wm h0 s'.heap) p s:=by
 induction t with
 |pure a=>intro p s _ k h;rw[Sem.wp]at h ⊢;exact⟨h,k⟩|raise a=>intro p s _ k h;rw[Sem.wp]at h ⊢;exact⟨h,k⟩|unsupported _=>intro p s _ k h;rw[Sem.wp]at h;exact h.elim|finish _=>intro p s _ k h;rw[Sem.wp]at h;exact h.elim|rule _ f ih=>intro p s t k h;rw[Sem.wp]at h ⊢;exact ih () p s t k h| «at» _ f ih=>intro p s t k h;rw[Sem.wp]at h ⊢;exact ih () _ s t k h
 |load a _ f ih =>
  intro p s t k h;rw[Sem.wp]at h ⊢;obtain⟨o,e,h⟩:=h;exact⟨o,e,ih o p s (t o) k h⟩
 |update a _ g f ih =>
  intro p s t k h;rw[Sem.wp]at h ⊢;exact⟨h.1,ih () p _ t.2 (k.trans (wm.upd t.1)) h.2⟩
 |alloc o f ih =>
  intro p s t k h;rw[Sem.wp]at h ⊢;exact ih _ p _ (t _) (k.trans (wm.of_keeps λb o e=>qA _ e)) h
 |stack f ih=>intro p s t k h;rw[Sem.wp]at h ⊢;exact ih _ p s (t _) k h|_=>intro p s t;exact False.elim t
def wa{α:Type}{M:Model}{A:Around}{t:Sem α}{Q:α->Shared->Prop}{E:Value->Shared->Prop}{s:Shared}(ht:jr t)(h:wpAny M A t Q E s) :
  wpAny M A t (λa s'=>Q a s'/\wm s.heap s'.heap) (λe s'=>E e s'/\wm s.heap s'.heap) s:=λΓ p hΓ =>
 tame_wp M Γ s.heap _ _ t p s ht (wm.refl _) (h Γ p hΓ)
def ju{α:Type}{c:Prop}[Decidable c]{a b:Sem α}(ha:jr a)(hb:jr b):jr (if c then a else b):=by split<;>assumption
def mapF_ok(f:Array Value->Array Value)(o:Obj):(Obj.mapFields f o).dict=o.dict/\(o.isFreed=false->(Obj.mapFields f o).isFreed=false):=by
 obtain⟨c,d,dt,sl⟩:=o;cases dt<;>exact⟨rfl,λh=>h⟩
def Z8(a:Addr):jr (load a):=λ_=>trivial
def Qm{a:Addr}{f:Obj->Obj}(h:∀o,(f o).dict=o.dict/\(o.isFreed=false->(f o).isFreed=false)):jr (update a f):=⟨h,trivial⟩
def Jm(v:Value)(i:Nat):jr (field v i):=by
 unfold field fieldsOf;refine jr.bind (λa=>?_) ?_
 ·cases a[i]?<;>trivial
 ·cases v<;>first|trivial|skip
  refine jr.bind (λo=>?_) (Z8 _);cases o.data<;>trivial
def wn(v:Value)(i:Nat)(x:Value):jr (setField v i x):=by
 unfold setField updateField;cases v with
 |ref a =>
  refine jr.bind (λo=>?_) (Z8 _);cases o.data<;>first|trivial|skip;exact ju (Qm (mapF_ok _)) trivial
 |_=>trivial
def Y6:jr stack:=λ_=>trivial
def wR(v:Value)(f:Option Addr):jr (setFlight v f):=by
 unfold setFlight;refine jr.bind (λtb=>ju (wn _ _ _) ?_) (Jm v 1);exact trivial
theorem vJ:∀l:List Env,jr (readyFrames l)
 | []=>trivial
 |env::outer=>by
  unfold readyFrames;cases env.frame with
  |none=>trivial
  |some f =>
   refine jr.bind (λo=>ju ?_ ?_) (Z8 f)
   ·exact trivial
   refine jr.bind (λim=>?_) ?_
   ·refine jr.bind (λbk=>?_) ?_
    ·refine jr.bind (λ_=>vJ outer) (Qm λo=>⟨rfl,?_⟩)
     obtain⟨c,d,dt,sl⟩:=o;cases dt<;>exact λh=>h
    ·cases outer with
     |nil =>
      refine ju ?_ (jr.bind (λb=>?_) (jr.bind (λ_=>?_) Y6))
      all_goals exact trivial
     |cons c r=>exact trivial
   ·unfold behindIsImport
    refine ju ?_ (ju ?_ (jr.bind (λ_=>?_) (Jm _ _)))
    all_goals exact trivial
def uo(v:Value)(env:Env):jr (noteFrame v env):=by
 unfold noteFrame;cases env.frame with
 |none=>trivial
 |some f =>
  have hN:∀head:Value,jr (do setField v 1 (<- EntryCells.newEntry head (<- frameOf env) .none (rawInt f) .none (<- entryPlaceOf f (head != .none)))):=λhead=>by
   refine jr.bind (λfr=>?_) ?_
   ·refine jr.bind (λpl=>?_) ?_
    ·refine jr.bind (λx=>wn _ _ _) ?_
     unfold EntryCells.newEntry newFields newObj;refine ju ?_ ?_
     ·exact trivial
     ·exact λa=>trivial
    ·unfold entryPlaceOf
     refine jr.bind (λacts=>?_) Y6;split<;>exact trivial
   ·unfold frameOf frameObject
    refine jr.bind (λe=>?_) (jr.bind (λ_=>?_) Y6)
    ·refine jr.bind (λo=>?_) ?_
     ·cases o<;>exact trivial
     ·split
      ·exact trivial
      ·refine jr.bind (λ_=>?_) (vJ _)
       exact trivial
    ·exact trivial
  refine jr.bind (λhead=>ju ?_ (hN head)) (Jm v 1);refine jr.bind (λx=>ju ?_ ?_) (Jm _ _)
  ·exact trivial
  ·exact jr.bind (λ_=>hN head) (wn _ _ _)
def ZO(env:Env)(v:Value):jr (leaving env v):=jr.bind (λ_=>wR v none) (uo v env)
end DV
namespace DV
open PySem L2 PyProof.Rows
def ExO(C a:Addr):HO:=.ext λh=>∃o,h.get? a=some o/\o.cls=.ref C
def zBl{P:Program}{w:World}{H:Hp}{h:Heap}{C a:Addr}{o:Obj}(e:h.get? a=some o)(c:o.cls=.ref C):yd P w H h a (ExO C a) :=
 ⟨⟨o,e,c⟩,⟨o,e⟩,λh1 h2 ⟨o1,e1,c1⟩ k=>⟨o1,k o1 e1,c1⟩⟩
def ExA(C d a:Addr):HO:=.ext λh=>∃o,h.get? a=some o/\o.cls=.ref C/\o.dict=some d/\∃vs,o.data=.fields vs
def zBm{P:Program}{w:World}{H:Hp}{h:Heap}{C d a:Addr}{o:Obj}(e:h.get? a=some o)(c:o.cls=.ref C)(k:o.dict=some d){vs:Array Value}(dt:o.data=.fields vs):yd P w H h a (ExA C d a) :=
 ⟨⟨o,e,c,k,vs,dt⟩,⟨o,e⟩,λh1 h2 ⟨o1,e1,c1,d1⟩ k=>⟨o1,k o1 e1,c1,d1⟩⟩
def XD(d:Addr)(fs:List (Str×V)):HO:=.ext λh=>∃mA,h.Ns1 d mA/\∀f,RelO (fs.lookup f) (mA f)
def XD_ne{H:Hp}{d:Addr}{fs:List (Str×V)}{xs:List V}(h:H d=some (XD d fs))(q:H d=some (.l xs)):False:=by
 rw[h]at q;unfold XD at q;cases q
def uq(a:Addr)(od:Option Addr)(h:Heap):Prop:=∀d,od=some d->∃o,h.get? a=some o/\o.dict=some d
def uq.on{a:Addr}{od:Option Addr}{h h':Heap}(l:uq a od h)(k:wm h h'):uq a od h':=λd e=>by
 obtain⟨o,e1,d1⟩:=l d e;obtain⟨o',e2,d2⟩:=k a o e1;exact⟨o',e2,d2.trans d1⟩
structure MadeD(h h':Heap)(a:Addr)(C:Value)(od:Option Addr):Prop where
 keeps:∀b o,h.get? b=some o->h'.get? b=some o
 new:h.get? a=none
 there:∃oe vs t,h'.get? a=some oe/\oe.cls=C/\(∀d,od=some d->oe.dict=some d)/\oe.data=.fields vs/\vs[1]?=some .none/\vs[0]?=some (.ref t)
def MadeD.of{h h':Heap}{a:Addr}{C:Value}{args:List Value}(x:Heap.MadeExcOf h h' a C args):MadeD h h' a C none :=
 ⟨x.keeps,x.new,let ⟨t,e,_⟩:=x.there;⟨_,_,t,e,rfl,λ_ z=>(by cases z),rfl,rfl,rfl⟩⟩
def MadeD.link{h h':Heap}{a:Addr}{C:Value}{od:Option Addr}(x:MadeD h h' a C od):uq a od h':=λd e=>by
 obtain⟨oe,_,_,h1,_,h2,_⟩:=x.there;exact⟨oe,h1,h2 d e⟩
def Qn{P:Program}{w:World}{H:Hp}{h:Heap}{a:Addr}{o:HO}(x:yd P w H h a o):∃u,h.get? a=some u:=by
 cases o with
 |l xs=>obtain⟨_,_,_,_,e⟩:=x;exact⟨_,e⟩|t xs=>obtain⟨_,_,_,o,e,_⟩:=x;exact⟨_,e⟩|dK kvs=>obtain⟨_,_,_,_,o,_,_,e,_⟩:=x;exact⟨_,e⟩|dT kvs=>obtain⟨_,_,_,_,o,_,_,e,_⟩:=x;exact⟨_,e⟩|set S n=>obtain⟨o,_,_,_,e,_⟩:=x;exact⟨_,e⟩|ins C dx fs=>obtain⟨_,_,_,e,_⟩:=x;exact⟨_,e⟩|own y=>exact x|xd fs=>obtain⟨_,⟨_,_,_,e,_⟩,_⟩:=x;exact⟨_,e⟩|rng lo hi=>obtain⟨_,_,_,e⟩:=x;exact⟨_,e⟩|frz ob u=>obtain⟨e,_⟩:=x;exact⟨_,e⟩|tbl ps=>exact⟨_,(show h.get? a=some _ from x)⟩|met f y=>exact⟨_,(show h.get? a=some _ from x)⟩|ext φ=>obtain⟨_,e,_⟩:=x;exact e
def zDq(B:Heap)(H:Hp)(g:Heap)(fs:List Addr)(h:Heap):Prop:=∀b o,h.get? b=some o->((∃o',g.get? b=some o')\/H b≠none)->b∉fs->B.get? b=some o
def Flies(l:List Env)(H:Hp)(g:Heap)(a C:Addr)(h:Heap):Prop:=∃B t,Heap.FlyingW B l a (.ref C) (.ref t) h/\zDq B H g (frs l) h
def CXx(P:Program)(w:World):CXT:=λouter H s E e s'=>∃a C od H',e=.ref a/\s'.os=s.os/\AllBare s'.gens/\Un (frs outer) [] H H' s.heap s'.heap/\HOk P w H' s'.heap/\H' a=none/\Flies outer H' s.heap a C s'.heap/\uq a od s'.heap/\E (.ref C) od H'
section
variable{P:Program}{w:World}{fs:List Addr}{H H':Hp}{g h h' B:Heap}{L:Addr}
def un_on(u:Un fs [] H H' g h)(ok:HOk P w H' h)(kb:zDq B H' g (L::fs) h)(st:B.StaysIn h')(hL:g.get? L=none)(hf:∀b∈fs,∀o,h.get? b=some o->∃sl,h'.get? b=some {o with slots:=sl}):Un fs [] H H' g h' where
 keep:=λb o e n hb hx=>st b o (kb b o (u.keep b o e n hb hx) (.inl ⟨o,e⟩) λz=>by
  rcases mem_cons.mp z with rfl|z
  ·rw[hL]at e;cases e
  ·exact hb z)
 slot:=λb o e n hb hx=>by
  obtain⟨sl,q⟩:=u.slot b o e n hb hx;obtain⟨sl',q'⟩:=hf b hb _ q;exact⟨sl',q'⟩
 free:=u.free
 there:=λb o e hx=>by
  obtain⟨o',q⟩:=u.there b o e hx;by_cases hb:b∈fs
  ·obtain⟨sl,q'⟩:=hf b hb _ q;exact⟨_,q'⟩
  ·exact⟨o',st b o' (kb b o' q (.inl ⟨o,e⟩) λz=>by
    rcases mem_cons.mp z with rfl|z
    ·rw[hL]at e;cases e
    ·exact hb z)⟩
 tups:=u.tups
 frzs:=u.frzs
 tbls:=u.tbls
def zBn(ok:HOk P w H' h)(kb:zDq B H' g (L::fs) h)(st:B.StaysIn h')(hn:∀b∈L::fs,H' b=none):HOk P w H' h':=λa o e=>by
 refine(ok a o e).stay (λb u hb q=>?_) (λ_ q=>q) λ_ _ q=>q
 have ht:H' b≠none:=by
  rcases hb with rfl|hb
  ·rw[e];exact λz=>by cases z
  ·rw[hb];exact λz=>by cases z
 exact st b u (kb b u q (.inr ht) λz=>ht (hn b z))
def zBo(u:Un fs [] H H' g h)(ok:HOk P w H' h)(kb:zDq B H' g (L::fs) h)(st:B.StaysIn h')(hL:g.get? L=none)(hn:∀b∈L::fs,H' b=none):zDq B H' g fs h':=λb o e hb nf=>by
 have nL:b∉L::fs:=λz=>by
  rcases mem_cons.mp z with rfl|z
  ·rcases hb with⟨o',q⟩|q
   ·rw[hL]at q;cases q
   ·exact q (hn _ (qE))
  ·exact nf z
 have:∃o1,h.get? b=some o1:=by
  rcases hb with⟨o',q⟩|q
  ·exact u.there b o' q (by simp)
  ·obtain⟨x,hx⟩:=Option.ne_none_iff_exists'.mp q
   exact Qn (ok b x hx)
 obtain⟨o1,q1⟩:=this;have q2:=kb b o1 q1 hb nL;have q3:=st b o1 q2;rw[e]at q3;cases q3;exact q2
end
section
variable{P:Program}{w:World}{K:qH}{mg:Str->Option Value}{base:Heap}{N:List Str}{qual:Str}{scope:Scope}{f:Addr}{cd:Value}{A:Around}{outer:List Env}{s:Shared}{H:Hp}{E:XK}
abbrev cxC(c:Bool)(P:Program)(w:World)(K:qH)(mg:Str->Option Value)(base:Heap)(N:List Str)(qual:Str)(scope:Scope)(f:Addr)(cd:Value)(A:Around)(outer:List Env)(s:Shared)(H:Hp)(E:XK):Cx :=
 {cxOf (CXx P w) P w K mg base N qual scope f cd A outer s H E with calm:=c}
variable{c:Bool}
abbrev cxX(P:Program)(w:World)(K:qH)(mg:Str->Option Value)(base:Heap)(N:List Str)(qual:Str)(scope:Scope)(f:Addr)(cd:Value)(A:Around)(outer:List Env)(s:Shared)(H:Hp)(E:XK):Cx :=
 cxOf (CXx P w) P w K mg base N qual scope f cd A outer s H E
variable{pins:List (Addr×Obj)}{O:L2.St}{H':Hp}{s' s1:Shared}{a C:Addr}
def G5:frs (envOfC qual scope s.heap.objs.size f cd::outer)=s.heap.objs.size::frs outer:=rfl
def zAr(I:Inv (cxC c P w K mg base N qual scope f cd A outer s H E) pins O H' s')(u:Un (frs outer) [] H H' s.heap s'.heap)(hn:H' a=none)
  (hf:∃B t,Heap.FlyingW B (cxC c P w K mg base N qual scope f cd A outer s H E).stack a (.ref C) (.ref t) s'.heap/\zDq B H' s.heap (frs (cxC c P w K mg base N qual scope f cd A outer s H E).stack) s'.heap) {od:Option Addr} (dl:uq a od s'.heap) (hE:E (.ref C) od H') :
  (cxC c P w K mg base N qual scope f cd A outer s H E).xe (.ref a) s':=by
 obtain⟨B,t,fl,kb⟩:=hf;have hL:s.heap.get? s.heap.objs.size=none:=Heap.get?_none_of_le (le_refl _);have hN:∀b∈s.heap.objs.size::frs outer,H' b=none:=λb hb=>I.stkFree b (by show b∈frs (envOfC qual scope s.heap.objs.size f cd::outer);rw[G5];exact hb)
 have kb':zDq B H' s.heap (s.heap.objs.size::frs outer) s'.heap:=kb;refine wpAny_mono (wa (ZO _ _) (wpAny_leaves_onW (base:=B) (E:=λ_ _=>False) (Q:=λ_ z=>∃h',z={s' with heap:=h'}/\Heap.FlyingW B outer a (.ref C) (.ref t) h'/\s'.heap.UpToSlots h') I.ok.frames rfl fl λh' fl' sl=>⟨h',rfl,fl',sl⟩)) (λ_ z ⟨⟨h',ez,fl',sl⟩,kd⟩=>?_) λ_ _ z=>z.1.elim
 subst ez;have st:B.StaysIn h':=fl'.1;have hfs:∀b∈frs outer,∀o,s'.heap.get? b=some o->∃sl,h'.get? b=some {o with slots:=sl}:=λb hb o e=>by
  obtain⟨_,o',q,nd⟩:=I.funs.mem hb;rw[e]at q;cases q;exact sl b o e nd
 exact⟨a,C,od,H',rfl,I.os,I.bare,un_on u I.hok kb' st hL hfs,zBn I.hok kb' st hN,hn,⟨B,t,fl',zBo u I.hok kb' st hL hN⟩,dl.on kd,hE⟩
def G6(I:Inv (cxC c P w K mg base N qual scope f cd A outer s H E) pins O H' s1){od:Option Addr}(hx:MadeD s1.heap s'.heap a (.ref C) od)(hs:s'={s1 with heap:=s'.heap})(hn:H' a=none)(hE:E (.ref C) od H') :
  (cxC c P w K mg base N qual scope f cd A outer s H E).xe (.ref a) s':=by
 have u:Un (frs outer) [] H H' s.heap s1.heap:=I.base;have hL:s.heap.get? s.heap.objs.size=none:=Heap.get?_none_of_le (le_refl _);have hN:∀b∈s.heap.objs.size::frs outer,H' b=none:=λb hb=>I.stkFree b (by show b∈frs (envOfC qual scope s.heap.objs.size f cd::outer);rw[G5];exact hb)
 have kb:zDq (hideAll s1.heap (s.heap.objs.size::frs outer)) H' s.heap (s.heap.objs.size::frs outer) s1.heap:=λb o e _ nf=>hideAll_get _ e nf
 have hin:∀env∈(envOfC qual scope s.heap.objs.size f cd::outer),∀b,env.frame=some b->b∈s.heap.objs.size::frs outer:=λenv he b hb=>by
  rw[<- G5 (qual:=qual) (scope:=scope) (f:=f) (cd:=cd)];exact mem_filterMap.mpr ⟨env,he,hb⟩
 have hstk:s1.heap.FunFrames base (envOfC qual scope s.heap.objs.size f cd::outer):=I.stack;obtain⟨oe,vs,t,e1,e2,e3,e4,e5,e6⟩:=hx.there;have fresh:(hideAll s1.heap (s.heap.objs.size::frs outer)).get? a=none:=by
  cases q:(hideAll s1.heap (s.heap.objs.size::frs outer)).get? a with
  |none=>rfl|some o'=>have:=of_hideAll _ q;rw[hx.new]at this;cases this
 have hfun:s'.heap.FunFrames (hideAll s1.heap (s.heap.objs.size::frs outer)) (envOfC qual scope s.heap.objs.size f cd::outer):=(PySem.W.funFrames_hide hstk hin).of_keeps λb o hb _=>⟨o,hx.keeps b o hb,rfl⟩
 refine wpAny_mono (wa (ZO _ _) (wpAny_leaving_firstW (base:=hideAll s1.heap (s.heap.objs.size::frs outer)) (a0:=.ref t) (E:=λ_ _=>False) (Q:=λ_ z=>∃h',z={s' with heap:=h'}/\Heap.LeftW (hideAll s1.heap (s.heap.objs.size::frs outer)) (envOfC qual scope s.heap.objs.size f cd::outer) a oe.cls (.ref t) s'.heap h') I.ok.frames hfun rfl e1 (λb o q=>hx.keeps b o (of_hideAll _ q)) fresh e4 e5 e6 λh' hL=>⟨h',rfl,hL⟩)) (λ_ z ⟨⟨h',ez,k1,⟨_,_,k2⟩,k3,x4⟩,kd⟩=>?_) λ_ _ z=>z.1.elim
 subst ez;rw[e2]at k3;have x1:Heap.FlyingW (hideAll s1.heap (s.heap.objs.size::frs outer)) outer a (.ref C) (.ref t) h':=⟨k1,fresh,k2,k3⟩;have st:=x1.1;have hfs:∀b∈frs outer,∀o,s1.heap.get? b=some o->∃sl,h'.get? b=some {o with slots:=sl}:=λb hb o e=>by
  obtain⟨_,o',q,nd⟩:=I.funs.mem hb;rw[e]at q;cases q;exact x4 b o (hx.keeps b o e) nd
 have os:s'.os=s1.os:=by rw[hs]
 have ge:s'.gens=s1.gens:=by rw[hs]
 refine⟨a,C,od,H',rfl,os.trans I.os,?_,un_on u I.hok kb st hL hfs,zBn I.hok kb st hN,hn,⟨_,t,x1,zBo u I.hok kb st hL hN⟩,hx.link.on kd,hE⟩;show AllBare s'.gens;rw[ge];exact I.bare
end
structure RoomN(k:Nat)(A:Around):Prop where
 gd:A.guards=some []
 dp:A.depth+3*k+5<recursionLimit
 un:A.units+16*k+200<cLine
def RoomN.mono{j k:Nat}{A:Around}(r:RoomN k A)(h:j<=k):RoomN j A:=⟨r.gd,by have:=r.dp;omega,by have:=r.un;omega⟩
theorem RoomN.deeper{k:Nat}{A:Around}(r:RoomN (k+1) A)(env:Env):RoomN k (A.deeper env) :=
 ⟨r.gd,by have:=r.dp;show A.depth+1+3*k+5<_;omega,by have:=r.un;show A.units+3+16*k+200<_;omega⟩
theorem RoomN.depth{k:Nat}{A:Around}(r:RoomN k A):A.depth<recursionLimit:=by have:=r.dp;omega
def RoomN.room{k:Nat}{A:Around}(r:RoomN k A)(h:A.handled=none):Room k A:=⟨h,r.gd,r.dp,r.un⟩
def Qo{k:Nat}{A:Around}(r:Room k A):RoomN k A:=⟨r.gd,r.dp,r.un⟩
section
variable{X:Cx}{pins:List (Addr×Obj)}{O:L2.St}{H:Hp}{s:Shared}
def Y7(I:Inv X pins O H s)(A':Around)(c:Bool)(E:Value->Shared->Prop)(hd:c=true->A'.handled=none)(fr:A'.frames=some X.stack):Inv {X with A:=A',calm:=c,xe:=E} pins O H s :=
 ⟨⟨I.ok.mod,I.ok.kind,I.ok.glob,I.ok.blt,I.ok.above,I.ok.inj,I.ok.has,I.ok.cab,hd,fr,I.ok.stk,I.ok.exf,I.ok.bs,I.ok.bsz,I.ok.noex,I.ok.exfs,I.ok.funs,I.ok.frf⟩,I.os,I.bare,I.base,I.loc,I.cell,I.free,I.freeC,I.pin,I.hok,I.len⟩
end
abbrev cxN(c:Bool)(P:Program)(w:World)(K:qH)(mg:Str->Option Value)(base:Heap)(N:List Str)(qual:Str)(scope:Scope)(f:Addr)(cd:Value)(A:Around)(outer:List Env)(s:Shared)(H:Hp)(E:XK):Cx :=
 cxC c P w K mg base N qual scope f cd A outer s H E
structure FnOkN(c:Bool)(P:Program)(w:World)(K:qH)(mg:Str->Option Value)(base:Heap)(k:Nat)(f:Addr)(fd:FuncData)(ps:List Str)(sp:Sp):Prop where
 len:∀vs H Q E,sp vs H Q E->vs.length=ps.length
 run:∀(A:Around) (outer:List Env) (s:Shared) (H:Hp) (args:Args) (us:List Value) (vs:List V) (Q:VK) (E:XK),(c=true->A.handled=none)->RoomN k A->Env0 P w K mg base A outer s H->BindsTo s fd args (ps.zip us)->yc vs us->sp vs H Q E ->
  codeAny (model P w) A (.call (.ref f) args) (CR (CXx P w) outer P w H s Q E) s
section
variable{c:Bool}{P:Program}{w:World}{K:qH}{mg:Str->Option Value}{base:Heap}
def FnOkN.fn{k:Nat}{f:Addr}{fd:FuncData}{ps:List Str}{sp:Sp}(F:FnOkN c P w K mg base k f fd ps sp):FnOk P w K mg base (CXx P w) k f fd ps sp :=
 ⟨F.len,λA outer s H args us vs Q E hr=>F.run A outer s H args us vs Q E (λ_=>hr.hd) (Qo hr)⟩
def zFl{k:Nat}{f:Addr}{name qual:Str}{params:Arguments}{body:List Stmt}{scope:Scope}{dV kV doc pm cdv ct oc:Value}{an od:Option Addr}
  {osl:Array (Option Value)} {N ps:List Str} {sp:Sp} (lk:K.lookup f=some ⟨oc,od,.func (fnOf name qual params body scope dV kV doc pm an cdv ct),osl⟩) (hcd:codeIn K cdv qual=true) (S:FnScope N ps scope)
  (len:∀vs H Q E,sp vs H Q E->vs.length=ps.length)
  (hbody:∀(A:Around) (outer:List Env) (s:Shared) (H:Hp) (vs:List V) (Q:VK) (E:XK),(c=true->A.handled=none)->RoomN k (A.deeper (envOfC qual scope s.heap.objs.size f cdv))->sp vs H Q E ->
   ∃t,PSs (cxN c P w K mg base N qual scope f cdv A outer s H E) body t/\t {nx:=λ_ H'=>Q .non H',rt:=Q} (wk N vs) H) :
  FnOkN c P w K mg base (k+1) f (fnOf name qual params body scope dV kV doc pm an cdv ct) ps sp:=by
 refine⟨len,λA outer s H args us vs Q E hd hr e0 hb r hsp=>?_⟩;have hl:=len _ _ _ _ hsp;have KX:K.In s.heap:=e0.mod.kin.keeps λb o e=>(e0.bs b o e).1
 have lim:s.heap.NoLimit:=e0.mod.nolimit.keeps λb o e=>(e0.bs b o e).1
 have hkind:∀y∈ps.zip us,scope.names.lookup y.1=some .local\/(scope.names.lookup y.1=some .cell/\((cellsFrom (s.heap.objs.size+1) scope.names []).lookup y.1).isSome=true):=λ⟨n,v⟩ hy=>by
  rcases S.par n (of_mem_zip hy).1 with q|q
  ·exact .inl q
  ·exact .inr ⟨q,cellsFrom_some _ _ _ (.inl q)⟩
 refine codeAny_call_function hr.depth (KX _ _ lk) rfl S.co S.gen rfl (PySem.W.codeRec_of KX hcd) (hb _ _ _ _ ?_);refine wpAny_newFunctionEnv_cells S.kind hkind λenv he s1 x=>?_
 subst he;refine⟨lim.keeps x.toInCall.keep,codeAny_func ?_⟩;obtain⟨t,ht,hq⟩:=hbody A outer s H vs Q E hd (hr.deeper _) hsp;have e1:Env0 P w K mg base {A with handled:=none} outer s H:=⟨e0.frames,e0.mod,e0.bs,e0.bsz,e0.funs,e0.frf,e0.hok,e0.bare⟩
 have I0:Inv (cxOf (CXx P w) P w K mg base N qual scope f cdv {A with handled:=none} outer s H E) [] (wk N vs) H s1:=zBc S rfl e1 hl r x
 have I:Inv (cxN c P w K mg base N qual scope f cdv A outer s H E) [] (wk N vs) H s1:=Y7 I0 (A.deeper (envOfC qual scope s.heap.objs.size f cdv)) c _ hd (Around.frames_deeper e0.frames);refine wpAny_mono (ht [] s1 (wk N vs) H _ I hq) (λfl s' hs=>?_) λe s' hs=>hs
 have fin:∀{O':L2.St} {H':Hp} {v:V} {u:Value},Inv (cxN c P w K mg base N qual scope f cdv A outer s H E) [] O' H' s'->yL v u->Q v H'->CE outer P w H s Q u s' :=
  λ{O' H' v u} J rv q=>⟨v,H',J.os,J.bare,J.base,J.hok,rv,q⟩
 cases fl with
 |ret u =>
  obtain⟨v,O',H',J,rv,q⟩:=hs;exact fin J rv q
 |next =>
  obtain⟨O',H',J,q⟩:=hs;exact fin (v:=V.non) (u:=Value.none) J rfl q
 |brk =>
  obtain⟨_,_,_,q⟩:=hs;exact False.elim q
 |cont =>
  obtain⟨_,_,_,q⟩:=hs;exact False.elim q
end
structure Exn where
 cls:Str
 made:Bool
 vs:List Int
 deriving Inhabited
def fsV(c:Str)(vs:List Int):List (Str×V):=(jS c).zip (vs.map V.int)
def Fs(od:Option Addr)(H:Hp)(c:Str)(vs:List Int):Prop:=vs=[]\/∃d,od=some d/\H d=some (XD d (fsV c vs))
def RelX(X:Cx)(pins:List (Addr×Obj))(O:L2.St)(x:Exn)(H:Hp)(e:Value)(s:Shared):Prop:=∃a C od,e=.ref a/\X.mg x.cls=some (.ref C)/\H a=none/\Fs od H x.cls x.vs /\
 ((x.made=true/\∃s1,Inv X pins O H s1/\s={s1 with heap:=s.heap}/\MadeD s1.heap s.heap a (.ref C) od) \/
  (x.made=false/\∃sc Hc,Inv X pins O Hc sc/\Un (frs X.stack) [] Hc H sc.heap s.heap/\Flies X.stack H sc.heap a C s.heap/\uq a od s.heap))
def XE(X:Cx)(O:L2.St)(H:Hp)(x:Exn):Prop:=∀(pins:List (Addr×Obj)) (s:Shared) (e:Value),Inv X pins O H s->RelX X pins O x H e s->X.xe e s
def EX(X:Cx)(O:L2.St):XK:=λc od H'=>∃x C,c=.ref C/\X.mg x.cls=some (.ref C)/\x.made=false/\Fs od H' x.cls x.vs/\XE X O H' x
section
variable{X:Cx}{pins:List (Addr×Obj)}{O:L2.St}{H:Hp}{s s':Shared}{e:Value}
def pass_x(I:Inv X pins O H s)(h:CXx X.prog X.w X.stack H s (EX X O) e s'):X.xe e s':=by
 obtain⟨a,C,od,H',rfl,os,bare,un,hok,hn,fl,dl,x,C',ec,hm,hmd,hf,k⟩:=h;cases ec;have I':Inv X pins O H' s':=I.call' (ch:=[]) os un hok bare (λb z=>absurd z (by simp));exact k pins s' _ I' ⟨a,C,od,rfl,hm,hn,hf,.inr ⟨hmd,s,H,I,un,fl,dl⟩⟩
def zBp{c:Bool}{k:Nat}{f:Addr}{fd:FuncData}{ps:List Str}{sp:Sp}{Q:VK}{us:List Value}{vs:List V}(F:FnOkN c X.prog X.w X.K X.mg X.base k f fd ps sp)(hd:c=true->X.A.handled=none)(hr:RoomN k X.A)(hb:JP X.K fd ps [])
  (I:Inv X pins O H s) (r:yc vs us) (h:sp vs H Q (EX X O)):wpAny (model X.prog X.w) X.A (call (.ref f) us) (EP X pins O Q) X.xe s:=by
 have hl:us.length=ps.length:=by rw[<- r.length];exact F.len _ _ _ _ h
 have hbd:=hb s us I.kIn (by rw[append_nil];exact hl);rw[append_nil]at hbd;refine wpAny_call (codeAny_mono (F.run X.A X.stack s H ⟨us,[]⟩ us vs Q (EX X O) hd hr I.env0 hbd r h) λr s' hq=>?_);cases r with
 |error e=>exact pass_x I hq
 |ok fl =>
  cases fl with
  |ret u=>exact I.after hq|next=>exact False.elim hq|brk=>exact False.elim hq|cont=>exact False.elim hq
end
section
variable{X:Cx}{c:Bool}{k:Nat}{f:Addr}{fd:FuncData}{ps:List Str}{sp:Sp}{x:Str}{p pos:Pos}{e:Expr}{es:List Expr}{t:TA}
def zD6(F:FnOkN c X.prog X.w X.K X.mg X.base k f fd ps sp)(hdl:c=true->X.A.handled=none)(hr:RoomN k X.A)(hg:Gl X x)(hm:X.mg x=some (.ref f))(hk:keepIn X.K (.ref f)=true)(hb:JP X.K fd ps [])
  (ha:PA X (e::es) t) (hdb:(x==("__debug__":Str))=false:=by decide) (he:starEach (e::es) X.env=(false,eval e X.env)::starEach es X.env:=by rfl) (hpl:(backTo pos (starEach es X.env)).any (·.1)=false:=by rfl) :
  PE X (.Call (.Name x p) (e::es) [] pos) (λO H Q=>t O H λvs H1=>sp vs H1 Q (EX X O)):=by
 intro pins s O H Q I h;refine wpAny_Call_Name_kw (Y5 I hg hm ?_ hdb);refine callWith_K (h₀:=X.base) I.ok.mod.kin hk (thn (ha pos pins s O H _ I h) λus s1 ⟨vs,H1,I1,r,q⟩=>⟨I1.kIn,?_⟩) he hpl;exact zBp F hdl hr hb I1 r q
end
def zD7{c:Bool}{P:Program}{w:World}{K:qH}{mg:Str->Option Value}{base:Heap}{N:List Str}{qual:Str}{scope:Scope}{f:Addr}{cd:Value}{A:Around}{outer:List Env}{s:Shared}{H H':Hp}{E:XK}{O:L2.St}{x:Exn}
  (hE:∀C od,mg x.cls=some (.ref C)->Fs od H' x.cls x.vs->E (.ref C) od H'):XE (cxN c P w K mg base N qual scope f cd A outer s H E) O H' x:=by
 intro pins s' e I ⟨a,C,od,he,hm,hn,hf,h⟩;subst he;have sw:∀{H1:Hp} {s1:Shared},Inv (cxN c P w K mg base N qual scope f cd A outer s H E) pins O H1 s1->Inv (cxX P w K mg base N qual scope f cd {A with handled:=none} outer s H E) pins O H1 s1:=λJ=>Y7 J _ true _ (λ_=>rfl) J.ok.frames
 rcases h with⟨_,s1,I1,hs,hx⟩|⟨_,sc,Hc,Ic,un,fl,dl⟩
 ·exact G6 I1 hx hs hn (hE C od hm hf)
 ·obtain⟨B,t,f1,f2⟩:=fl
  refine zAr I I.base hn ⟨B,t,f1,λb o q z nf=>f2 b o q ?_ nf⟩ dl (hE C od hm hf);rcases z with⟨o',z⟩|z
  ·exact .inl (Ic.base.there b o' z (by show b∉([]:List Addr);simp))
  ·exact .inr z
end DV
namespace DV
open PySem L2 PyProof.Rows PySem.Spec
open PySem.W (Frag Looks)
structure XCls(K:Frag)(c:Str)(C T:Addr):Prop where
 cd:∃cd,clsIn K C=some cd/\cd.name=c/\cd.mro=[.ref C,.ref T,.type "ValueError",.type "Exception",.type "BaseException",.type "object"]
 ty:typeIn K (.ref C)=some (.type "type")
 ga:findIn K (.ref C) "__getattribute__"=some (some (.builtin "BaseException.__getattribute__"))
 gn:findIn K (.ref C) "__getattr__"=some none
 gc:findIn K (.ref C) "__class__"=some (some (.builtin "object.__class__"))
 sp:specialIn K (.builtin "object.__class__") "__get__"=some (some (.builtin "getset_descriptor.__get__"))
 tk:takesIn K (.builtin "object.__class__")=some true
section
open Builtin Builtin.ObjectAttr Builtin.Getset_descriptor
variable{K:Frag}{c:Str}{C T x:Addr}{h:Heap}{ox:Obj}{M:Model}
def XCls.mro(F:XCls K c C T)(b:Value):mroIn K C b=some ([Value.ref C,.ref T,.type "ValueError",.type "Exception",.type "BaseException",.type "object"].contains b):=by
 obtain⟨cd,h1,_,h3⟩:=F.cd;unfold mroIn;rw[h1,Option.bind_some,h3];rfl
def typ(e:h.get? x=some ox)(ec:ox.cls=.ref C):Looks M h (typeOf (.ref x)) (.ref C):=ec▸(Looks.ld e).andThen .now
def zD8(F:XCls K c C T)(X:K.In h):Looks M h (find (.ref x) (.ref C) "__class__") (.bind (.builtin "getset_descriptor.__get__") (.builtin "object.__class__")):=by
 have l3:Looks M h (takesStores (.builtin "object.__class__")) true:=PySem.W.looks_takesIn X F.tk;have l4:Looks M h (dataDescriptor? (some (.builtin "object.__class__")) (some (.builtin "getset_descriptor.__get__"))) (some (.builtin "getset_descriptor.__get__",.builtin "object.__class__")):=l3.andThen .now;exact(looks_findIn X F.gc).andThen ((PySem.W.looks_specialIn X F.sp).andThen (l4.andThen (Looks.tag .now)))
end
section
open Builtin Builtin.ObjectAttr Builtin.Getset_descriptor
variable{K:Frag}{c:Str}{C T x:Addr}{ox:Obj}{prog:Program}{w:World}{A:Around}{E:Value->Shared->Prop}{s:Shared}
def cls_get{R:Result->Shared->Prop}(F:XCls K c C T)(X:K.In s.heap)(e:s.heap.get? x=some ox)(ec:ox.cls=.ref C)(hq:R (.ok (.ret (.ref C))) s) :
  codeAny (model prog w) A (.call (.builtin "getset_descriptor.__get__") ⟨[.builtin "object.__class__",.ref x,.ref C],[]⟩) R s:=by
 obtain⟨hh,gs,dr,tt,os⟩:=s;have ty:Looks (model prog w) hh (typeOf (.ref x)) (.ref C):=typ e ec;have sb:Looks (model prog w) hh (isSubtype (.ref C) (.type "object")) true:=looks_mroIn X (by rw[F.mro];rfl);refine codeAny_call_builtin PySem.W.KF.slot_gs.plain PySem.W.KF.entry_gs (PySem.W.KF.slot_gs.check _ _ _ _ _ _ _ _ PySem.W.KF.type_class (PySem.W.KF.args_gs _ _ _) ?_);unfold Builtin.«getset_descriptor.__get__»;unfold descrGet;rw[PySem.W.dga_obj];refine qB (qC ?_);unfold descrGetter descrCheckInstance descrNameAndClass isInstance;simp only[PySem.W.KF.owner_class]
 repeat lk
 refine⟨Code.quiet_builtin _ (by decide +kernel),?_⟩;refine codeAny_builtin PySem.W.KF.entry_class ?_;unfold Builtin.«object.__class__»;unfold shownTypeOf
 repeat lk
 exact hq
def zBq{tk:Tok}{Q:Fin->Shared->Prop}(F:XCls K c C T)(X:K.In s.heap)(e:s.heap.get? x=some ox)(ec:ox.cls=.ref C)(hq:Q (.done (.ret (.ref C))) s) :
  wpAny (model prog w) A (Builtin.«object.__getattribute__» ⟨[.ref x,.str "__class__" tk],[]⟩) Q E s:=by
 obtain⟨hh,gs,dr,tt,os⟩:=s;have ty:Looks (model prog w) hh (typeOf (.ref x)) (.ref C):=typ e ec;have fd:Looks (model prog w) hh (find (.ref x) (.ref C) "__class__") _:=zD8 F X;have go:∀Q',Q' (.done (.ret (.ref C))) (⟨hh,gs,dr,tt,os⟩:Shared)->wpAny (model prog w) A (bindTo (.builtin "getset_descriptor.__get__") (.builtin "object.__class__") (.ref x) (.ref C)) Q' E ⟨hh,gs,dr,tt,os⟩:=λQ' q=>by
  unfold bindTo;refine qB (wpAny_call (cls_get F X e ec ?_));exact qC q
 refine qB (qC ?_);refine qB (qC ?_);refine qB (ty.at ?_);refine qB (fd.at ?_);exact go _ hq
def ur{nameV:Value}{M:Model}{Q:Unit->Shared->Prop}(F:XCls K c C T)(X:K.In s.heap)(e:s.heap.get? x=some ox)(ec:ox.cls=.ref C)(hq:Q () s) :
  wpAny M A (checkBuiltinCall "BaseException.__getattribute__" ⟨[.ref x,nameV],[]⟩) Q E s:=by
 obtain⟨hh,gs,dr,tt,os⟩:=s;have ty:Looks M hh (typeOf (.ref x)) (.ref C):=typ e ec;have sb:Looks M hh (isSubtype (.ref C) (.type "BaseException")) true:=looks_mroIn X (by rw[F.mro];rfl);have inst:Looks M hh (isInstance (.ref x) (.type "BaseException")) true:=ty.andThen sb;have k1:builtinKind "BaseException.__getattribute__"=some .slot:=by decide +kernel
 have k2:splitId "BaseException.__getattribute__"=some ("BaseException","__getattribute__"):=by decide +kernel
 have k3:=PySem.F.args_bexc_ga (.ref x) nameV;simp only[checkBuiltinCall,k1,k2];refine qB (inst.at ?_)
 repeat (any_goals (first|assumption|wp_step))
def zD9{tk:Tok}{R:Result->Shared->Prop}(F:XCls K c C T)(X:K.In s.heap)(e:s.heap.get? x=some ox)(ec:ox.cls=.ref C)(hq:R (.ok (.ret (.ref C))) s) :
  codeAny (model prog w) A (.call (.builtin "BaseException.__getattribute__") ⟨[.ref x,.str "__class__" tk],[]⟩) R s :=
 codeAny_call_builtin PySem.F.attr_ValueError.ga.plain PySem.F.entry_bexc_ga (ur F X e ec (zBq F X e ec hq))
def zEA{Q:Option Value->Shared->Prop}(F:XCls K c C T)(X:K.In s.heap)(e:s.heap.get? x=some ox)(ec:ox.cls=.ref C)(hq:Q (some (.ref C)) {s with toks:=s.toks+1}) :
  wpAny (model prog w) A (getAttr? (.ref x) "__class__") Q E s:=by
 obtain⟨hh,gs,dr,tt,os⟩:=s;have ty:Looks (model prog w) hh (typeOf (.ref x)) (.ref C):=typ e ec;have l1:Looks (model prog w) hh (typeLookup (.ref C) "__getattribute__") _:=looks_findIn X F.ga;have l2:Looks (model prog w) hh (typeLookup (.ref C) "__getattr__") _:=looks_findIn X F.gn;have b1:=PySem.F.attr_ValueError.ga.bind (.ref x);unfold getAttr? getAttrBy?;refine qB (wpAny_mkText (qB (wpAny_attempt ?_)));unfold getAttrBy;refine wpAny_holding (qB (ty.at (qB (l1.at ?_))));have ne:(Value.builtin "BaseException.__getattribute__" == Value.builtin "object.__getattribute__")=false:=by decide +kernel
 dsimp only;rw[ne,Bool.and_false,if_neg (by decide)];unfold getAttrByItsOwn hookBefore;refine qB (l2.at ?_);refine qB (wpAny_attempt (wpAny_holding ?_));unfold callGetattribute;rw[if_neg (by decide +kernel)];unfold boundAndCalled;rw[b1];refine qB (qC (wpAny_call (zD9 F X e ec ?_)));exact qC (qC hq)
end
structure TCls(K:Frag)(T:Addr):Prop where
 cd:∃cd,clsIn K T=some cd/\cd.mro=.ref T::VB
 ty:typeIn K (.ref T)=some (.type "type")
section
variable{K:Frag}{c y:Str}{C Y T x:Addr}{h:Heap}{ox:Obj}{M:Model}
def TCls.mro(F:TCls K T)(b:Value):mroIn K T b=some ((Value.ref T::VB).contains b):=by
 obtain⟨cd,h1,h3⟩:=F.cd;unfold mroIn;rw[h1,Option.bind_some,h3];rfl
def zBr{cd:ClassData}(X:K.In h)(e:clsIn K C=some cd):Looks M h (isType (.ref C)) true:=by
 unfold clsIn at e;split at e
 ·rename_i ho
  intro A Q E s k q;unfold isType loadHead;exact qB (wpAny_loadPart (k _ _ (X _ _ ho)) (qC q))
 ·cases e
def not_tup{cd:ClassData}{tp:Addr}{dd:Option Addr}{its:List Value}{n:Nat}{sl:Array (Option Value)}(X:K.In h)(e:clsIn K C=some cd)(ht:h.get? tp=some ⟨.type "tuple",dd,.seq its.toArray n,sl⟩):(Value.ref C==.ref tp)=false:=by
 refine Bool.eq_false_iff.mpr λq=>?_
 obtain rfl:C=tp:=Value.ref.inj (beq_iff_eq.mp q);unfold clsIn at e;split at e
 ·rename_i ho;have z:=(X _ _ ho).symm.trans ht;cases z
 ·cases e
def kit_exc(F:XCls K c C T):PySem.W.KitX K (.ref x) (.ref C) (λh=>∃o,h.get? x=some o/\o.cls=.ref C) where
 ty:=λM h X ⟨o,e,ec⟩=>typ e ec
 it:=λM h X _=>let ⟨_,e,_⟩:=F.cd;zBr X e
 ne:=λh tp dd its n sl X ht=>let ⟨_,e,_⟩:=F.cd;not_tup X e ht
 ca:=λX ⟨o,e,ec⟩ q=>zEA F X e ec q
def kit_own(F:XCls K c C T)(G:XCls K y Y T)(hY:Y≠T)(he:c=y->C=Y):kitOne K (.ref C) (.ref Y)=some (c==y):=by
 obtain⟨cd,h1,h2,h3⟩:=F.cd;obtain⟨cy,g1,g2,g3⟩:=G.cd;unfold kitOne;by_cases e:C=Y
 ·subst e
  rw[h1]at g1;cases g1;rw[if_pos (by simp),<- h2,<- g2];simp
 ·have ne:(c==y)=false:=by
   cases q:c==y with
   |false=>rfl|true=>exact absurd (he (by simpa using q)) e
  rw[if_neg (by simpa using e),ne];unfold kitCls;dsimp only;rw[if_pos (by rw[g1,G.ty];rfl)];show mroIn K C (.ref Y)=_;rw[F.mro];have e1:(Value.ref Y==Value.ref C)=false:=by simpa using λz:Y=C=>e z.symm
  have e2:(Value.ref Y==Value.ref T)=false:=by simpa using hY
  simp only[List.contains_cons,e1,e2];rfl
def kit_val(F:XCls K c C T):kitOne K (.ref C) (.type "ValueError")=some true:=by
 unfold kitOne;rw[if_neg (by simp)];unfold kitCls;dsimp only;rw[if_pos (by decide +kernel)];show mroIn K C _=_;rw[F.mro];rfl
def G7{A:Around}{E:Value->Shared->Prop}{s:Shared}{Q:Bool->Shared->Prop}(F:XCls K c C T)(G:TCls K T)(X:K.In s.heap)(e:s.heap.get? x=some ox)(ec:ox.cls=.ref C)(hq:Q true s):wpAny M A (excMatches (.ref x) (.ref T)) Q E s:=by
 obtain⟨hh,gs,dr,tt,os⟩:=s;obtain⟨cd,g1,g2⟩:=G.cd;have ty:Looks M hh (typeOf (.ref x)) (.ref C):=typ e ec;have tT:Looks M hh (typeOf (.ref T)) (.type "type"):=PySem.W.looks_typeIn X G.ty;have nt:Looks M hh (isInstance (.ref T) (.type "tuple")) false:=tT.andThen (Looks.of_pure tc_notTuple);have iT:Looks M hh (isType (.ref T)) true:=zBr X g1;have sT:Looks M hh (isSubtype (.ref T) (.type "BaseException")) true:=looks_mroIn X (by rw[G.mro];rfl);have sC:Looks M hh (isSubtype (.ref C) (.ref T)) true:=looks_mroIn X (by rw[F.mro];simp);unfold excMatches isExcClass;refine qB (nt.at ?_);refine qB (qC ?_);refine qB ?_;rw[forIn_cons];refine qB (qB (qB (iT.at ?_)));refine sT.at ?_;refine qC ?_;refine qC ?_;refine qB (ty.at ?_);refine qB ?_;rw[forIn_cons];refine qB (qB (sC.at ?_));refine qC (qC ?_);exact qC hq
def own_at{newId:String}{bmB:List Value}(X:K.In h)(q:excIn K C bmB newId=true) :
  ∃bm N nm q bs hdct sn sub ab col dd k0 k1 k2 k3 k5 mN,h.get? C=some (excClassObj nm q C N bs bm hdct sn sub ab col dd k0 k1 k2 k3 k5 newId)/\h.Ns N mN/\mN "__init__"=none/\OwnTail h bmB bm:=by
 unfold excIn at q;split at q
 ·rename_i dd cd sl ho
  split at q
  ·rename_i C' bm a0 a1 a2 a3 id a5 hm hs
   simp only[Bool.and_eq_true,beq_iff_eq,Bool.not_eq_true']at q;obtain⟨⟨⟨⟨⟨q1,q2⟩,q3⟩,q4⟩,q5⟩,q6⟩:=q;subst q1 q2;obtain⟨l⟩:=sl;have hs':l=[a0,a1,a2,a3,some (.builtin id),a5]:=hs;subst hs';obtain⟨nm,bs,mro,ns,qn,hd,sn,sub,ab,col,del⟩:=cd;cases hm;cases q3;exact⟨bm,ns,nm,qn,bs,hd,sn,sub,ab,col,dd,a0,a1,a2,a3,a5,_,X _ _ ho,.of_isNs (isNs_of_in X q5),PySem.W.nsMap_none_of_in X q5 q6,tail_of_in X q4⟩
  ·cases q
 ·cases q
end
end DV
namespace DV
open PySem L2 PyProof.Rows PySem.Spec
open PySem.W (Looks)
structure XSet(K:qH)(C T:Addr):Prop where
 cd:∃cd,clsIn K C=some cd/\cd.mro=.ref C::.ref T::VB/\cd.hasDict=true
 sa:findIn K (.ref C) "__setattr__"=some (some (.builtin "object.__setattr__"))
section
open Builtin Builtin.ObjectAttr
variable{K:qH}{C T x:Addr}{ox:Obj}{prog:Program}{w:World}{A:Around}{E:Value->Shared->Prop}{h:Heap}{g:Array GenState}{d:Drawn}{t:Nat}{os:OsState}{name:Str}{v:Value}
def zBs{M:Model}{cd:ClassData}(X:K.In h)(e:clsIn K C=some cd):Looks M h (mroOf (.ref C)) cd.mro:=(looks_clsIn X e).andThen .now
def zEB{M:Model}{nameV:Value}{Q:Unit->Shared->Prop}(F:XSet K C T)(X:K.In h)(e:h.get? x=some ox)(ec:ox.cls=.ref C)(hq:Q () ⟨h,g,d,t,os⟩) :
  wpAny M A (checkBuiltinCall "object.__setattr__" ⟨[.ref x,nameV,v],[]⟩) Q E ⟨h,g,d,t,os⟩:=by
 obtain⟨cd,c1,c2,c3⟩:=F.cd;have ty:Looks M h (typeOf (.ref x)) (.ref C):=typ e ec;have sb:Looks M h (isSubtype (.ref C) (.type "object")) true:=looks_mroIn X (by unfold mroIn;rw[c1,Option.bind_some,c2];rfl);have inst:Looks M h (isInstance (.ref x) (.type "object")) true:=ty.andThen sb;have k1:=PySem.F.store_ValueError.kind;have k2:=PySem.F.store_ValueError.split;have k3:=PySem.F.store_ValueError.args (.ref x) nameV v;simp only[checkBuiltinCall,k1,k2];refine qB (inst.at ?_)
 repeat (any_goals (first|assumption|wp_step))
def zEC{tk:Tok}{Q:Fin->Shared->Prop}{vs:Array Value}(F:XSet K C T)(hna:findIn K (.ref C) name=some none)(X:K.In h)(e:h.get? x=some ox)(ec:ox.cls=.ref C)(hdt:ox.data=.fields vs)
  (hq:(ox.dict=none->∀h' tk',(∀b o,b≠x->h.get? b=some o->h'.get? b=some o)->h'.Ns1 h.objs.size (λy=>if y=name then some v else none)->h'.get? x=some {ox with dict:=some h.objs.size}->Q (.done (.ret .none)) ⟨h',g,d,tk',os⟩) /\
   (∀dx,ox.dict=some dx->∃mA ns,h.Ns1 dx mA/\Within mA ns/\ns.length<=100/\∀h' tk',(∀b o,b≠dx->h.get? b=some o->h'.get? b=some o)->h'.Ns1 dx (λy=>if y=name then some v else mA y)->Q (.done (.ret .none)) ⟨h',g,d,tk',os⟩)) :
  wpAny (model prog w) A (Builtin.«object.__setattr__» ⟨[.ref x,.str name tk,v],[]⟩) Q E ⟨h,g,d,t,os⟩:=by
 obtain⟨cd,c1,c2,c3⟩:=F.cd;have ty:Looks (model prog w) h (typeOf (.ref x)) (.ref C):=typ e ec;have mr:Looks (model prog w) h (mroOf (.ref C)) cd.mro:=zBs X c1;have fd:Looks (model prog w) h (typeLookup (.ref C) name) none:=looks_findIn X hna;have hpass:=PySem.F.store_ValueError.passes (.ref x);unfold Builtin.«object.__setattr__»;refine qB ?_;rw[refuse_eq];refine qB (ty.at (qB (mr.at ?_)));rw[c2,refuseLoop_ref,refuseLoop_ref,hpass];refine qC ?_;refine qB (m:=attrName (.str name tk)) (qC ?_);refine qB (ty.at (qB (fd.at ?_)));refine qB (qC ?_);have cl:Looks (model prog w) h (classData C) cd:=looks_clsIn X c1;refine qB (m:=ownStreamTells (.ref x) (.ref C)) (qC ?_);have hxs:x≠h.objs.size:=ne_of_lt (lt_size e);have sz:∀n:Nat,n<=101->n<=sizeLine:=λn hn=>le_trans hn (by decide +kernel)
 refine qB (m:=instanceDict x true) ?_;unfold instanceDict;refine qB (wpAny_loadPart e ?_);rw[ec];refine qB (cl.at ?_);rw[c3,hdt];cases hd:ox.dict with
 |none =>
  have e1:(h.push {cls:=.type "dict",data:=.dict #[]}).get? x=some ox:=qA _ e;refine qB (wpAny_alloc' ?_);refine qB (wpAny_update' e1 ?_);refine qC ?_;have gd:((h.push {cls:=.type "dict",data:=.dict #[]}).update x λo=>{cls:=o.cls,dict:=some h.objs.size,data:=o.data,slots:=o.slots}).get? h.objs.size=some {cls:=.type "dict",data:=.dict #[]} :=
   (Heap.get?_update_ne _ _ _ _ hxs.symm).trans (Heap.get?_push_at rfl rfl)
  have nd:((h.push {cls:=.type "dict",data:=.dict #[]}).update x λo=>{cls:=o.cls,dict:=some h.objs.size,data:=o.data,slots:=o.slots}).Ns h.objs.size (λ_=>none) :=
   ⟨_,#[],_,gd,rfl,λq he=>absurd he (by simp),λ_=>rfl⟩
  show wpAny _ _ (storeInDict h.objs.size (.str name tk) name v) _ _ _
  unfold storeInDict newKeyGuard;refine qB (qC (qB (wpAny_nsSet1 (Heap.Ns1.of_empty nd) λh' hn' hs=>?_)));obtain⟨oD,esD,epD,hoD,hdD,hcD⟩:=hn'.count (Within.cons name v Within.nil);refine qB (wpAny_lookBehind hoD (by rw[hdD];exact pastItsLine_dict (le_trans hcD (Nat.le_succ_of_le (sz _ (by show 0+1<=101;omega))))) (qC ?_));refine hq.1 hd h' _ (λb ob hb q=>(hs.2 b (ne_of_lt (lt_size q))).trans ((Heap.get?_update_ne _ _ _ _ hb).trans (qA _ q))) hn' ((hs.2 x hxs).trans ?_);refine get?_update_self _ e1 ?_;have hfr:=(Heap.get?_some_iff.mp e).2;obtain⟨oc,od,odt,osl⟩:=ox;cases odt<;>first|rfl|exact hfr
 |some dx =>
  obtain⟨mA,ns,n1,hw,hl,hq⟩:=hq.2 dx hd;refine qC ?_;show wpAny _ _ (storeInDict dx (.str name tk) name v) _ _ _;unfold storeInDict newKeyGuard;refine qB (qC (qB (wpAny_nsSet1 n1 λh' hn' hs=>?_)));obtain⟨oD,esD,epD,hoD,hdD,hcD⟩:=hn'.count (Within.cons name v hw);refine qB (wpAny_lookBehind hoD (by rw[hdD];exact pastItsLine_dict (le_trans hcD (Nat.le_succ_of_le (sz _ (by show ns.length+1<=101;omega))))) (qC ?_));exact hq h' _ (λb ob hb q=>(hs.2 b hb).trans q) hn'
def zBt{Q:Unit->Shared->Prop}{vs:Array Value}(F:XSet K C T)(hna:findIn K (.ref C) name=some none)(X:K.In h)(e:h.get? x=some ox)(ec:ox.cls=.ref C)(hdt:ox.data=.fields vs)
  (hq:(ox.dict=none->∀h' tk',(∀b o,b≠x->h.get? b=some o->h'.get? b=some o)->h'.Ns1 h.objs.size (λy=>if y=name then some v else none)->h'.get? x=some {ox with dict:=some h.objs.size}->Q () ⟨h',g,d,tk',os⟩) /\
   (∀dx,ox.dict=some dx->∃mA ns,h.Ns1 dx mA/\Within mA ns/\ns.length<=100/\∀h' tk',(∀b o,b≠dx->h.get? b=some o->h'.get? b=some o)->h'.Ns1 dx (λy=>if y=name then some v else mA y)->Q () ⟨h',g,d,tk',os⟩)) :
  wpAny (model prog w) A (setAttr (.ref x) name v) Q E ⟨h,g,d,t,os⟩:=by
 have ty:Looks (model prog w) h (typeOf (.ref x)) (.ref C):=typ e ec;have sp:Looks (model prog w) h (specialOf (.ref x) "__setattr__") (some (.builtin "object.__setattr__")):=ty.andThen (looks_findIn X F.sa);unfold setAttr;refine qB (wpAny_mkText (qB ?_));unfold callSpecial?;refine qB (sp.at (wpAny_holding ?_));rw[PySem.F.store_ValueError.slot.bind];refine qB (qC (qB (wpAny_call (codeAny_call_builtin PySem.F.store_ValueError.slot.plain PySem.F.store_ValueError.entry (zEB F X e ec (zEC F hna X e ec hdt ?_))))));exact⟨λhd h' tk' a b c=>qC (qC (hq.1 hd h' tk' a b c)),λdx hd=>let ⟨mA,ns,n1,hw,hl,q⟩:=hq.2 dx hd;⟨mA,ns,n1,hw,hl,λh' tk' a b=>qC (qC (q h' tk' a b))⟩⟩
end
section
open Builtin Builtin.ObjectAttr
variable{K:qH}{c:Str}{C T x dx:Addr}{ox:Obj}{prog:Program}{w:World}{A:Around}{E:Value->Shared->Prop}{s:Shared}{name:Str}{v:Value}{mA:Str->Option Value}
def zED{tk:Tok}{Q:Fin->Shared->Prop}(F:XCls K c C T)(S:XSet K C T)(hna:findIn K (.ref C) name=some none)(X:K.In s.heap)(e:s.heap.get? x=some ox)(ec:ox.cls=.ref C){vs:Array Value}(hdt:ox.data=.fields vs)(ed:ox.dict=some dx)(hn:s.heap.Ns1 dx mA)(hv:mA name=some v)(hq:Q (.done (.ret v)) s) :
  wpAny (model prog w) A (Builtin.«object.__getattribute__» ⟨[.ref x,.str name tk],[]⟩) Q E s:=by
 obtain⟨hh,gs,dr,tt,os⟩:=s;obtain⟨cd,c1,c2,c3⟩:=S.cd;have ty:Looks (model prog w) hh (typeOf (.ref x)) (.ref C):=typ e ec;have fd:Looks (model prog w) hh (typeLookup (.ref C) name) none:=looks_findIn X hna;have cl:Looks (model prog w) hh (classData C) cd:=looks_clsIn X c1;refine qB (qC ?_);refine qB (qC ?_);refine qB (ty.at ?_);refine qB ?_;unfold find;refine qB (fd.at ?_);refine qB (m:=getOf none) (qC ?_);refine qB (m:=dataDescriptor? none none) (qC ?_);unfold ownThenClass;refine qB (m:=inOwnDict name (.ref x)) ?_;unfold inOwnDict;refine qB (m:=ownDict x) ?_;unfold ownDict loadHead;refine qB (wpAny_loadPart e ?_);rw[hdt];dsimp only;unfold instanceDict;refine qB (wpAny_loadPart e ?_);rw[ec];refine qB (cl.at ?_);rw[c3,ed];refine qC ?_;refine wpAny_nsGet hn.ns ?_;rw[hv];exact qB (wpAny_rule (qC (qC hq)))
def ga_call{tk:Tok}{R:Result->Shared->Prop}{vs:Array Value}(F:XCls K c C T)(S:XSet K C T)(hna:findIn K (.ref C) name=some none)(X:K.In s.heap)(e:s.heap.get? x=some ox)(ec:ox.cls=.ref C)(hdt:ox.data=.fields vs)(ed:ox.dict=some dx)(hn:s.heap.Ns1 dx mA)(hv:mA name=some v)(hq:R (.ok (.ret v)) s) :
  codeAny (model prog w) A (.call (.builtin "BaseException.__getattribute__") ⟨[.ref x,.str name tk],[]⟩) R s :=
 codeAny_call_builtin PySem.F.attr_ValueError.ga.plain PySem.F.entry_bexc_ga (ur F X e ec (zED F S hna X e ec hdt ed hn hv hq))
def ga_attr{Q:Value->Shared->Prop}{vs:Array Value}{expr:Bool}(F:XCls K c C T)(S:XSet K C T)(hna:findIn K (.ref C) name=some none)(X:K.In s.heap)(e:s.heap.get? x=some ox)(ec:ox.cls=.ref C)(hdt:ox.data=.fields vs)(ed:ox.dict=some dx)(hn:s.heap.Ns1 dx mA)(hv:mA name=some v)(hh:PySem.W.handedIn v=true)(hq:Q v {s with toks:=s.toks+1}) :
  wpAny (model prog w) A (getAttr (.ref x) name expr) Q E s:=by
 obtain⟨h0,gs,dr,tt,os⟩:=s;have ty:Looks (model prog w) h0 (typeOf (.ref x)) (.ref C):=typ e ec;have l1:Looks (model prog w) h0 (typeLookup (.ref C) "__getattribute__") _:=looks_findIn X F.ga;have l2:Looks (model prog w) h0 (typeLookup (.ref C) "__getattr__") _:=looks_findIn X F.gn;have b1:=PySem.F.attr_ValueError.ga.bind (.ref x);unfold getAttr;refine qB (wpAny_mkText ?_);unfold getAttrBy;refine wpAny_holding (qB (ty.at (qB (l1.at ?_))));have ne:(Value.builtin "BaseException.__getattribute__" == Value.builtin "object.__getattribute__")=false:=by decide +kernel
 dsimp only;rw[ne,Bool.and_false,if_neg (by decide)];unfold getAttrByItsOwn hookBefore;refine qB (l2.at ?_);refine qB (wpAny_attempt (wpAny_holding ?_));unfold callGetattribute;have oh:onTheHeap (Value.builtin "BaseException.__getattribute__")=false:=rfl;rw[oh,Bool.and_false,if_neg (by decide)];unfold boundAndCalled;rw[b1];refine qB (qC (wpAny_call (ga_call F S hna X e ec hdt ed hn hv ?_)));show wpAny _ _ (handedOut v) _ _ _;rw[PySem.W.handedOut_of hh];exact qC hq
end
section
variable{prog:Program}{w:World}{A:Around}{E:Value->Shared->Prop}{h:Heap}{g:Array GenState}{d:Drawn}{t:Nat}{os:OsState}
variable{nm q:Str}{C N f:Addr}{bs bm:List Value}{hdct:Bool}{sn:List Str}{sub:List Value}{ab:Bool}{col:Option Bool}{dd:Option Addr}{k0 k1 k2 k3 k5:Option Value}{mN:Str->Option Value}{j9:List Value}{of:Obj}
abbrev zBu(h:Heap)(C:Addr)(j9:List Value):Heap:=(h.push {cls:=.type "tuple",data:=.seq j9.toArray}).push {cls:=.ref C,data:=.fields #[.ref h.objs.size,.none,.none,.none,.bool false,.none]}
def InitR(Q:Value->Shared->Prop)(E:Value->Shared->Prop)(a:Addr):Result->Shared->Prop
 | .ok (.ret v),s=>v=.none/\Q (.ref a) s| .error e,s=>E e s|_,_=>False
def make_x{Q:Value->Shared->Prop}(T:OwnTail h VB bm)(hC:h.get? C=some (excClassObj nm q C N bs bm hdct sn sub ab col dd k0 k1 k2 k3 k5 "ValueError.__new__"))(hn:h.Ns N mN)(hi:mN "__init__"=some (.ref f))(hf:h.get? f=some of)(hfc:of.cls=.type "function")(hrest:j9.length<=sizeLine)
  (hcall:codeAny (model prog w) (A.under (.builtin "type.__call__" ⟨.ref C::j9,[]⟩)) (.call (.ref f) ⟨.ref (h.objs.size+1)::j9,[]⟩) (InitR Q E (h.objs.size+1)) ⟨zBu h C j9,g,d,t,os⟩) :
  wpAny (model prog w) A (call (.ref C) j9) Q E ⟨h,g,d,t,os⟩:=by
 have F:=PySem.F.excBase_ValueError;have f1:=tc_lookup;have f2:=tc_bind (.ref C);have hT:(⟨h,g,d,t,os⟩:Shared).TypeIs (.ref C) "type":=⟨_,hC,rfl⟩;refine wpAny_call (codeAny_of_tree ?_);show wpAny _ _ (callAny (.ref C) _) _ _ _
 repeat (any_goals (first|assumption|with_reducible refine wpAny_loadPart_at hC ?_|wp_step))
 refine⟨rfl,?_⟩;refine codeAny_call_builtin_at (Code.quiet_builtin _ (by decide +kernel)) entry_typeCall (wpAny_check_type_call_sub hC ?_);have hget:(zBu h C j9).get? (h.objs.size+1)=some {cls:=.ref C,data:=.fields #[.ref h.objs.size,.none,.none,.none,.bool false,.none]}:=by heap_get
 have kp:∀b o,h.get? b=some o->(zBu h C j9).get? b=some o:=λb o e=>qA _ (qA _ e)
 have hC1:=kp _ _ hC;have hn1:=hn.keeps kp;have T1:=T.keeps kp;have hf1:=kp _ _ hf;have hcC:(Value.ref C::bm).contains (.ref C)=true:=by simp
 repeat (first|with_reducible refine wpAny_loadPart_at hC ?_|with_reducible refine wpAny_madeBy_exc hC ?_|wp_step)
 refine codeAny_call_builtin_code (Code.quiet_builtin _ F.quiet) (wpAny_check_new_subT F T hC ?_);refine codeAny_exc_new_subT F T hC ?_ hrest;show wpAny _ _ (isInstance (.ref (h.objs.size+1)) (.ref C) >>= _) _ _ ⟨zBu h C j9,g,d,t,os⟩;refine qB ?_;unfold isInstance;refine qB ((typ (M:=model prog w) hget rfl).at ?_);refine wpAny_isSubtype_exc hC1 ?_;rw[hcC];show wpAny _ _ (holding _ (callSpecial? (.ref (h.objs.size+1)) (Str.ofString "__init__") j9 []) >>= _) _ _ _;refine qB (wpAny_holding ?_);unfold callSpecial? specialOf;refine qB (qB ((typ (M:=model prog w) hget rfl).at ?_));refine wpAny_typeLookup_tail hC1 hn1 T1 F.mroIs F.init.lookup ?_;rw[hi];refine wpAny_holding (qB (wpAny_bindSpecial_def (s:=⟨zBu h C j9,g,d,t,os⟩) hf1 hfc ?_));refine qB (wpAny_call (codeAny_mono hcall λr s' hr=>?_));cases r with
 |error e=>exact hr
 |ok fl =>
  cases fl with
  |ret v =>
   obtain⟨rfl,hr⟩:=hr;exact qC (qC hr)
  |next=>exact hr.elim|brk=>exact hr.elim|cont=>exact hr.elim
end
end DV
namespace DV
open PySem L2
set_option genInjectivity true in
inductive D where
 |non
 |bl (b:Bool)
 |int (i:Int)
 |str (x:Str)
 |t (ds:List D)
 |l (ds:List D)
 |fn (x:Str)
 |dic
 |exn (c:Str) (vs:List Int)
 deriving Inhabited
mutual
def Rep(K:qH)(mg:Str->Option Value)(H:Hp):D->V->Prop
 | .non,v=>v=.non| .bl b,v=>v=.bl b| .int i,v=>v=.int i| .str x,v=>v=.str x| .t ds,v=>∃a xs,v=.ref a/\SqT K H a xs/\Reps K mg H ds xs| .l ds,v=>∃a xs,v=.ref a/\SqL K H a xs/\Reps K mg H ds xs| .fn x,v=>∃f,v=.ref f/\mg x=some (.ref f)| .dic,v=>∃a,v=.ref a/\H a=some (.dK [])| .exn c vs,v=>∃a C,v=.ref a/\mg c=some (.ref C)/\((vs=[]/\H a=some (ExO C a))\/∃d,H a=some (ExA C d a)/\H d=some (XD d (fsV c vs)))
def Reps(K:qH)(mg:Str->Option Value)(H:Hp):List D->List V->Prop
 | [],vs=>vs=[]|d::ds,vs=>∃v r,vs=v::r/\Rep K mg H d v/\Reps K mg H ds r
end
section
variable{K:qH}{mg:Str->Option Value}{H H':Hp}
def yH{a:Addr}{xs:List V}(e:Za H H')(h:SqT K H a xs):SqT K H' a xs:=by
 rcases h with(h|⟨o,h⟩)|h
 ·exact .inl (.inl (e _ _ h))
 ·exact .inl (.inr ⟨o,e _ _ h⟩)
 ·exact .inr h
mutual
theorem Rep.mono(e:Za H H'):∀{d:D} {v:V},Rep K mg H d v->Rep K mg H' d v
 | .non,_,h=>by simpa only[Rep]using h| .bl _,_,h=>by simpa only[Rep]using h| .int _,_,h=>by simpa only[Rep]using h| .str _,_,h=>by simpa only[Rep]using h
 | .t ds,_,h=>by
  simp only[Rep]at h ⊢;obtain⟨a,xs,h1,h2,h3⟩:=h;exact⟨a,xs,h1,yH e h2,Reps.mono e h3⟩
 | .l ds,_,h=>by
  simp only[Rep]at h ⊢;obtain⟨a,xs,h1,h2,h3⟩:=h;exact⟨a,xs,h1,e.seq h2,Reps.mono e h3⟩
 | .fn _,_,h=>by simpa only[Rep]using h
 | .dic,_,h=>by
  simp only[Rep]at h ⊢;obtain⟨a,h1,h2⟩:=h;exact⟨a,h1,e _ _ h2⟩
 | .exn _ _,_,h=>by
  simp only[Rep]at h ⊢;obtain⟨a,C,h1,h2,h3⟩:=h;refine⟨a,C,h1,h2,?_⟩;rcases h3 with⟨hv,h3⟩|⟨d,h3,h4⟩
  ·exact .inl ⟨hv,e _ _ h3⟩
  ·exact .inr ⟨d,e _ _ h3,e _ _ h4⟩
theorem Reps.mono(e:Za H H'):∀{ds:List D} {vs:List V},Reps K mg H ds vs->Reps K mg H' ds vs
 | [],_,h=>by simpa only[Reps]using h
 |d::ds,_,h=>by
  simp only[Reps]at h ⊢;obtain⟨v,r,h1,h2,h3⟩:=h;exact⟨v,r,h1,Rep.mono e h2,Reps.mono e h3⟩
end
theorem Reps.length:∀{ds:List D} {vs:List V},Reps K mg H ds vs->vs.length=ds.length
 | [],_,h=>by simp only[Reps]at h;subst h;rfl
 |d::ds,_,h=>by
  simp only[Reps]at h;obtain⟨v,r,rfl,h2,h3⟩:=h;simp[Reps.length h3]
def Reps.nil:Reps K mg H [] []:=by simp only[Reps]
def Reps.cons{d:D}{v:V}{ds:List D}{vs:List V}(h:Rep K mg H d v)(t:Reps K mg H ds vs):Reps K mg H (d::ds) (v::vs):=by
 simp only[Reps];exact⟨v,vs,rfl,h,t⟩
theorem Reps.get:∀{ds:List D} {vs:List V} {i:Nat} {v:V},Reps K mg H ds vs->vs[i]?=some v->∃d,ds[i]?=some d/\Rep K mg H d v
 | [],_,_,_,h,e=>by simp only[Reps]at h;subst h;simp at e
 |d::ds,_,i,v,h,e=>by
  simp only[Reps]at h;obtain⟨v',r,rfl,h2,h3⟩:=h;cases i with
  |zero=>simp at e;subst e;exact⟨d,rfl,h2⟩|succ i=>simp at e;obtain⟨d',q1,q2⟩:=Reps.get h3 e;exact⟨d',by simpa using q1,q2⟩
theorem Reps.get':∀{ds:List D} {vs:List V} {i:Nat} {d:D},Reps K mg H ds vs->ds[i]?=some d->∃v,vs[i]?=some v/\Rep K mg H d v
 | [],_,_,_,h,e=>by simp at e
 |d::ds,_,i,d',h,e=>by
  simp only[Reps]at h;obtain⟨v',r,rfl,h2,h3⟩:=h;cases i with
  |zero=>simp at e;subst e;exact⟨v',rfl,h2⟩|succ i=>simp at e;obtain⟨v,q1,q2⟩:=Reps.get' h3 e;exact⟨v,by simpa using q1,q2⟩
theorem Reps.append:∀{ds es:List D} {vs ws:List V},Reps K mg H ds vs->Reps K mg H es ws->Reps K mg H (ds++es) (vs++ws)
 | [],_,_,_,h,g=>by simp only[Reps]at h;subst h;exact g
 |d::ds,_,_,_,h,g=>by
  simp only[Reps]at h;obtain⟨v',r,rfl,h2,h3⟩:=h;exact Reps.cons h2 (Reps.append h3 g)
theorem Reps.set:∀{ds:List D} {vs:List V} (i:Nat) {d:D} {v:V},Reps K mg H ds vs->Rep K mg H d v->Reps K mg H (ds.set i d) (vs.set i v)
 | [],_,_,_,_,h,g=>by simp only[Reps]at h;subst h;exact Reps.nil
 |d::ds,_,i,_,_,h,g=>by
  simp only[Reps]at h;obtain⟨v',r,rfl,h2,h3⟩:=h;cases i with
  |zero=>exact Reps.cons g h3|succ i=>exact Reps.cons h2 (Reps.set i h3 g)
theorem Reps.take:∀{ds:List D} {vs:List V} (n:Nat),Reps K mg H ds vs->Reps K mg H (ds.take n) (vs.take n)
 | [],_,_,h=>by simp only[Reps]at h;subst h;simp[Reps.nil]
 |d::ds,_,n,h=>by
  simp only[Reps]at h;obtain⟨v',r,rfl,h2,h3⟩:=h;cases n with
  |zero=>exact Reps.nil|succ n=>exact Reps.cons h2 (Reps.take n h3)
theorem Reps.drop:∀{ds:List D} {vs:List V} (n:Nat),Reps K mg H ds vs->Reps K mg H (ds.drop n) (vs.drop n)
 | [],_,_,h=>by simp only[Reps]at h;subst h;simp[Reps.nil]
 |d::ds,_,n,h=>by
  simp only[Reps]at h;obtain⟨v',r,rfl,h2,h3⟩:=h;cases n with
  |zero=>exact Reps.cons h2 h3|succ n=>exact Reps.drop n h3
theorem Reps.flatten{ds:List D}{vs:List V}(h:Reps K mg H ds vs):∀n:Nat,Reps K mg H (replicate n ds).flatten (replicate n vs).flatten
 |0=>Reps.nil|n+1=>by simp only[replicate_succ,flatten_cons];exact h.append (Reps.flatten h n)
end
open Classical in
def Hm(M:Addr->Prop)(H:Hp):Hp:=λb=>if M b then none else H b
section
variable{M M':Addr->Prop}{H H':Hp}{b:Addr}{o:HO}
def zz:Hm M H b=some o↔¬M b/\H b=some o:=by
 unfold Hm;by_cases h:M b
 ·simp[h]
 ·simp[h]
def zK:Za (Hm M H) H:=λb o h=>(zz.mp h).2
def j5(h:∀b,M' b->M b):Za (Hm M H) (Hm M' H):=λb o e=>zz.mpr ⟨λx=>(zz.mp e).1 (h b x),(zz.mp e).2⟩
end
inductive Slot where
 |e
 |v (d:D)
 |own (ds:List D)
 |par (ds:List D)
 deriving Inhabited
abbrev zN:=List Slot
set_option genInjectivity true in
inductive R where
 |v (d:D)
 |own (ds:List D)
 deriving Inhabited
def R.slot:R->Slot
 | .v d=>.v d| .own ds=>.own ds
def R.d:R->D
 | .v d=>d| .own ds=>.l ds
def Slot.list?:Slot->Option (List D)
 | .own ds=>some ds| .par ds=>some ds|_=>none
abbrev Fz:=List (Option V×Slot)
def G8:Option V×Slot->Option Addr
 | (some (.ref a),.own _)=>some a| (some (.ref a),.par _)=>some a|_=>none
def yM(Z:Fz):List Addr:=Z.filterMap G8
def Mo(M:Addr->Prop)(Z:Fz):Addr->Prop:=λb=>M b\/b∈yM Z
def zW(Z T:Fz):yM (Z++T)=yM Z++yM T:=List.filterMap_append
def zy(o:Option V)(d:D)(Z:Fz):yM ((o,.v d)::Z)=yM Z:=by
 unfold yM;rw[List.filterMap_cons_none];cases o with
 |none=>rfl
 |some v=>cases v<;>rfl
def Yo(a:Addr)(ds:List D)(Z:Fz):yM ((some (.ref a),.own ds)::Z)=a::yM Z:=rfl
def yQ(o:Option V)(Z:Fz):yM ((o,.e)::Z)=yM Z:=by
 unfold yM;rw[List.filterMap_cons_none];cases o with
 |none=>rfl
 |some v=>cases v<;>rfl
def jD(M:Addr->Prop)(T Z:Fz):Mo M (T++Z)=Mo (Mo M T) Z:=by
 funext b
 apply propext;simp only[Mo,zW,mem_append];constructor
 ·rintro (h|h|h)
  ·exact .inl (.inl h)
  ·exact .inl (.inr h)
  ·exact .inr h
 ·rintro ((h|h)|h)
  ·exact .inl h
  ·exact .inr (.inl h)
  ·exact .inr (.inr h)
def G9{M:Addr->Prop}{T Z:Fz}(p:T.Perm Z):Mo M T=Mo M Z:=by
 funext b
 apply propext;simp only[Mo,yM];rw[(p.filterMap G8).mem_iff]
def YB(M:Addr->Prop)(o:Option V)(d:D)(Z:Fz):Mo M ((o,.v d)::Z)=Mo M Z:=by unfold Mo;rw[zy]
def zBv(M:Addr->Prop)(o:Option V)(Z:Fz):Mo M ((o,.e)::Z)=Mo M Z:=by unfold Mo;rw[yQ]
structure FR(K:qH)(mg:Str->Option Value)(M:Addr->Prop)(H:Hp)(Z:Fz):Prop where
 val:∀o d,(o,Slot.v d)∈Z->∃v,o=some v/\Rep K mg (Hm (Mo M Z) H) d v
 own:∀o s ds,(o,s)∈Z->s.list?=some ds->∃a xs,o=some (.ref a)/\H a=some (.l xs)/\¬M a/\Reps K mg (Hm (Mo M Z) H) ds xs
 nd:(yM Z).Nodup
 mal:∀b,M b->∃xs,H b=some (.l xs)
structure Step(M:Addr->Prop)(H:Hp)(Z:Fz)(H':Hp)(Z':Fz):Prop where
 same:Za (Hm (Mo M Z) H) (Hm (Mo M Z') H')
 keep:∀b o,M b->H b=some o->H' b=some o
section
variable{K:qH}{mg:Str->Option Value}{M:Addr->Prop}{H H' H1 H2:Hp}{Z Z' T Z1 Z2:Fz}
theorem Step.refl:Step M H Z H Z:=⟨Za.refl _,λ_ _ _ h=>h⟩
theorem Step.trans(a:Step M H Z H1 Z1)(b:Step M H1 Z1 H2 Z2):Step M H Z H2 Z2 :=
 ⟨a.same.trans b.same,λx o m h=>b.keep x o m (a.keep x o m h)⟩
def Yp(h:∀b,b∈yM Z->b∈yM Z'):∀b,Mo M Z b->Mo M Z' b:=λb q=>q.elim .inl λq=>.inr (h b q)
def Step.weak(a:Step M H Z H' Z')(h:∀b,b∈yM T->b∈yM Z'):Step M H Z H' T :=
 ⟨a.same.trans (j5 (Yp h)),a.keep⟩
def Step.left(a:Step M H Z H' Z')(h:∀b,b∈yM Z->b∈yM T):Step M H T H' Z' :=
 ⟨(j5 (Yp h)).trans a.same,a.keep⟩
def zC(h:T.Sublist Z):∀b,b∈yM T->b∈yM Z:=λb q=>(h.filterMap G8).subset q
def zD(h:T.Perm Z):∀b,b∈yM T->b∈yM Z:=λb q=>(h.filterMap G8).subset q
def FR.perm(h:FR K mg M H Z)(p:Z.Perm T):FR K mg M H T where
 val:=λo d q=>by rw[<- G9 p];exact h.val o d (p.mem_iff.mpr q)
 own:=λo s ds q e=>by rw[<- G9 p];exact h.own o s ds (p.mem_iff.mpr q) e
 nd:=(p.filterMap G8).nodup_iff.mp h.nd
 mal:=h.mal
def FR.sub(h:FR K mg M H Z)(p:T.Sublist Z):FR K mg M H T where
 val:=λo d q=>by
  obtain⟨v,e,r⟩:=h.val o d (p.subset q);exact⟨v,e,r.mono (j5 (Yp (zC p)))⟩
 own:=λo s ds q e=>by
  obtain⟨a,xs,e1,e2,e3,r⟩:=h.own o s ds (p.subset q) e;exact⟨a,xs,e1,e2,e3,r.mono (j5 (Yp (zC p)))⟩
 nd:=h.nd.sublist (p.filterMap G8)
 mal:=h.mal
def FR.tail{x:Option V×Slot}(h:FR K mg M H (x::Z)):FR K mg M H Z:=h.sub (sublist_cons_self _ _)
def wo{o:Option V}{s:Slot}{ds:List D}{a:Addr}(h:(o,s)∈Z)(e:s.list?=some ds)(ho:o=some (.ref a)):a∈yM Z:=by
 subst ho;refine mem_filterMap.mpr ⟨_,h,?_⟩;cases s<;>simp[Slot.list?]at e<;>rfl
def QA{a:Addr}(h:a∈yM Z):∃s ds,(some (V.ref a),s)∈Z/\Slot.list? s=some ds:=by
 obtain⟨⟨o,s⟩,h1,h2⟩:=mem_filterMap.mp h;unfold G8 at h2;split at h2
 ·rename_i e;cases e;cases h2;exact⟨_,_,h1,rfl⟩
 ·rename_i e;cases e;cases h2;exact⟨_,_,h1,rfl⟩
 ·cases h2
def FR.ownAt(h:FR K mg M H Z){a:Addr}(e:a∈yM Z):∃xs,H a=some (.l xs)/\¬M a:=by
 obtain⟨s,ds,h1,h2⟩:=QA e;obtain⟨a',xs,e1,e2,e3,_⟩:=h.own _ s ds h1 h2;cases e1;exact⟨xs,e2,e3⟩
def FR.moAl(h:FR K mg M H Z)(b:Addr)(e:Mo M Z b):∃xs,H b=some (.l xs):=by
 rcases e with e|e
 ·exact h.mal b e
 ·obtain⟨xs,q,_⟩:=h.ownAt e
  exact⟨_,q⟩
def FR.inner(h:FR K mg M H (T++Z)):FR K mg (Mo M T) H Z where
 val:=λo d q=>by rw[<- jD];exact h.val o d (qK _ q)
 own:=λo s ds q e=>by
  obtain⟨a,xs,e1,e2,e3,r⟩:=h.own o s ds (qK _ q) e;refine⟨a,xs,e1,e2,λm=>?_,by rw[<- jD];exact r⟩;rcases m with m|m
  ·exact e3 m
  ·have nd:=h.nd
   rw[zW]at nd;exact(nodup_append.mp nd).2.2 a m a (wo q e e1) rfl
 nd:=by
  have nd:=h.nd;rw[zW]at nd;exact(nodup_append.mp nd).2.1
 mal:=λb q=>by
  rcases q with q|q
  ·exact h.mal b q
  ·obtain⟨xs,q,_⟩:=h.ownAt (a:=b) (by rw[zW];exact mem_append_left _ q)
   exact⟨_,q⟩
def FR.outer(h:FR K mg M H (T++Z))(g:FR K mg (Mo M T) H' Z')(st:Step (Mo M T) H Z H' Z'):FR K mg M H' (T++Z') where
 val:=λo d q=>by
  rw[jD];rcases mem_append.mp q with q|q
  ·obtain⟨v,e,r⟩:=h.val o d (mem_append_left _ q)
   rw[jD]at r;exact⟨v,e,r.mono st.same⟩
  ·exact g.val o d q
 own:=λo s ds q e=>by
  rw[jD];rcases mem_append.mp q with q|q
  ·obtain⟨a,xs,e1,e2,e3,r⟩:=h.own o s ds (mem_append_left _ q) e
   rw[jD]at r;exact⟨a,xs,e1,st.keep a _ (.inr (wo q e e1)) e2,e3,r.mono st.same⟩
  ·obtain⟨a,xs,e1,e2,e3,r⟩:=g.own o s ds q e
   exact⟨a,xs,e1,e2,λm=>e3 (.inl m),r⟩
 nd:=by
  rw[zW];have nd:=h.nd;rw[zW]at nd;refine nodup_append.mpr ⟨(nodup_append.mp nd).1,g.nd,λa ha b hb e=>?_⟩;subst e;obtain⟨xs,_,q⟩:=g.ownAt hb;exact q (.inr ha)
 mal:=λb q=>g.mal b (.inl q)
def Step.outer(st:Step (Mo M T) H Z H' Z'):Step M H (T++Z) H' (T++Z') :=
 ⟨by rw[jD,jD];exact st.same,λb o m h=>st.keep b o (.inl m) h⟩
def jE{p:Addr}{o:HO}(hp:H p=none):Za H (upd H p o):=λb u e=>by
 rw[zG (λq=>by subst q;rw[hp]at e;cases e)];exact e
def FR.grow(h:FR K mg M H Z){p:Addr}{o:HO}(hp:H p=none):FR K mg M (upd H p o) Z where
 val:=λo' d q=>by
  obtain⟨v,e,r⟩:=h.val o' d q;exact⟨v,e,r.mono λb u x=>zz.mpr ⟨(zz.mp x).1,jE hp b u (zz.mp x).2⟩⟩
 own:=λo' s ds q e=>by
  obtain⟨a,xs,e1,e2,e3,r⟩:=h.own o' s ds q e;exact⟨a,xs,e1,jE hp _ _ e2,e3,r.mono λb u x=>zz.mpr ⟨(zz.mp x).1,jE hp b u (zz.mp x).2⟩⟩
 nd:=h.nd
 mal:=λb q=>by obtain⟨u,e⟩:=h.mal b q;exact⟨u,jE hp _ _ e⟩
def Step.grow{p:Addr}{o:HO}(hp:H p=none):Step M H Z (upd H p o) Z :=
 ⟨λb u x=>zz.mpr ⟨(zz.mp x).1,jE hp b u (zz.mp x).2⟩,λb u _ e=>jE hp b u e⟩
def FR.add(h:FR K mg M H Z){v:V}{d:D}(r:Rep K mg (Hm (Mo M Z) H) d v):FR K mg M H ((some v,.v d)::Z) where
 val:=λo d' q=>by
  rw[YB];rcases mem_cons.mp q with q|q
  ·cases q;exact⟨v,rfl,r⟩
  ·exact h.val o d' q
 own:=λo s ds q e=>by
  rw[YB];rcases mem_cons.mp q with q|q
  ·cases q;cases e
  ·exact h.own o s ds q e
 nd:=by rw[zy];exact h.nd
 mal:=h.mal
def Step.add{v:Option V}{d:D}(st:Step M H Z H' Z'):Step M H Z H' ((v,.v d)::Z'):=by
 refine⟨?_,st.keep⟩;rw[YB];exact st.same
def Zf(h:FR K mg M H Z){p:Addr}(hp:H p=none):¬Mo M Z p:=λq=>by
 obtain⟨o,e⟩:=h.moAl p q;rw[hp]at e;cases e
def wq(h:FR K mg M H Z){p:Addr}{ds:List D}{xs:List V}(hp:H p=none):Za (Hm (Mo M Z) H) (Hm (Mo M ((some (.ref p),.own ds)::Z)) (upd H p (.l xs))):=λb u x=>by
 obtain⟨h1,h2⟩:=zz.mp x;refine zz.mpr ⟨λq=>?_,jE hp _ _ h2⟩;rcases q with q|q
 ·exact h1 (.inl q)
 ·rw[Yo]at q
  rcases mem_cons.mp q with q|q
  ·subst q;rw[hp]at h2;cases h2
  ·exact h1 (.inr q)
def FR.newOwn(h:FR K mg M H Z){p:Addr}{ds:List D}{xs:List V}(hp:H p=none)(r:Reps K mg (Hm (Mo M Z) H) ds xs):FR K mg M (upd H p (.l xs)) ((some (.ref p),.own ds)::Z) where
 val:=λo d q=>by
  rcases mem_cons.mp q with q|q
  ·cases q
  ·obtain⟨v,e,r⟩:=h.val o d q
   exact⟨v,e,r.mono (wq h hp)⟩
 own:=λo s ds' q e=>by
  rcases mem_cons.mp q with q|q
  ·cases q;cases e
   exact⟨p,xs,rfl,zY,λm=>Zf h hp (.inl m),r.mono (wq h hp)⟩
  ·obtain⟨a,ys,e1,e2,e3,r⟩:=h.own o s ds' q e
   exact⟨a,ys,e1,jE hp _ _ e2,e3,r.mono (wq h hp)⟩
 nd:=by
  rw[Yo];exact nodup_cons.mpr ⟨λq=>Zf h hp (.inr q),h.nd⟩
 mal:=λb q=>by obtain⟨u,e⟩:=h.mal b q;exact⟨u,jE hp _ _ e⟩
def Step.newOwn(h:FR K mg M H Z){p:Addr}{ds:List D}{xs:List V}(hp:H p=none):Step M H Z (upd H p (.l xs)) ((some (.ref p),.own ds)::Z) :=
 ⟨wq h hp,λb u _ e=>jE hp b u e⟩
def FR.newTup(h:FR K mg M H Z){p:Addr}{ds:List D}{xs:List V}(hp:H p=none)(r:Reps K mg (Hm (Mo M Z) H) ds xs):FR K mg M (upd H p (.t xs)) ((some (.ref p),.v (.t ds))::Z):=by
 refine(h.grow hp).add ?_;simp only[Rep];refine⟨p,xs,rfl,SqT.of (zz.mpr ⟨Zf h hp,zY⟩),r.mono λb u x=>zz.mpr ⟨(zz.mp x).1,jE hp b u (zz.mp x).2⟩⟩
def Step.newVal{p:Addr}{o:HO}{v:Option V}{d:D}(hp:H p=none):Step M H Z (upd H p o) ((v,.v d)::Z):=(Step.grow hp).add
def FR.frz{o:Option V}{r:R}(h:FR K mg M H ((o,r.slot)::Z)):FR K mg M H ((o,.v r.d)::Z):=by
 cases r with
 |v d=>exact h
 |own ds =>
  obtain⟨a,xs,e1,e2,e3,rr⟩:=h.own o (.own ds) ds qE rfl;subst e1;have hn:¬Mo M Z a:=λq=>by
   rcases q with q|q
   ·exact e3 q
   ·exact(nodup_cons.mp h.nd).1 q
  refine h.tail.add ?_;simp only[R.d,Rep];exact⟨a,xs,rfl,SqL.of (zz.mpr ⟨hn,e2⟩),rr.mono (j5 (Yp (zC (sublist_cons_self _ _))))⟩
def Step.frz{o:Option V}{r:R}(h:Step M H Z H' ((o,r.slot)::Z')):Step M H Z H' ((o,.v r.d)::Z'):=by
 cases r with
 |v d=>exact h
 |own ds =>
  refine h.weak λb q=>?_
  rw[zy]at q;exact(zC (sublist_cons_self _ _)) b q
theorem vi:∀(O:St) (E:zN) (i:Nat) (o:Option V) (s:Slot),(O.set i o).zip (E.set i s)=(O.zip E).set i (o,s)
 | [],_,_,_,_=>by simp|_::_,[],_,_,_=>by simp|x::O,y::E,0,o,s=>by simp|x::O,y::E,i+1,o,s=>by simp[vi O E i o s]
theorem yF{α:Type}(x:α):∀(l:List α) (i:Nat),i<l.length->(l.set i x).Perm (x::l.eraseIdx i)
 | [],_,h=>by simp at h|y::l,0,_=>List.Perm.refl _
 |y::l,i+1,h=>by
  have ih:=yF x l i (by simpa using h);simp only[List.set_cons_succ,List.eraseIdx_cons_succ];exact(ih.cons y).trans (List.Perm.swap x y _)
def FR.put(h:FR K mg M H (((o:Option V),s)::Z)){i:Nat}(hi:i<Z.length):FR K mg M H (Z.set i (o,s)) :=
 (h.sub ((List.eraseIdx_sublist Z i).cons_cons (o,s))).perm (yF _ _ _ hi).symm
def Step.put{o:Option V}{s:Slot}(h:Step M H Z H' ((o,s)::Z')){i:Nat}(hi:i<Z'.length):Step M H Z H' (Z'.set i (o,s)):=by
 refine h.weak λb q=>?_
 exact zC ((List.eraseIdx_sublist Z' i).cons_cons (o,s)) b (zD (yF _ _ _ hi) b q)
end
inductive Out(α:Type) where
 |z
 |ok (a:α)
 |exc (x:Exn) (E:zN)
 deriving Inhabited
abbrev ME:=zN->Out (R×zN)
abbrev MA:=zN->Out (List R×zN)
abbrev MT:=zN->Out (Bool×zN)
def PKp(O:St)(E:zN)(O':St)(E':zN):Prop:=∀(i:Nat) ds,E[i]?=some (.par ds)->(∃ds',E'[i]?=some (.par ds'))/\O'[i]?=O[i]?
def PKp.refl{O:St}{E:zN}:PKp O E O E:=λi ds h=>⟨⟨ds,h⟩,rfl⟩
theorem PKp.trans{O O1 O2:St}{E E1 E2:zN}(a:PKp O E O1 E1)(b:PKp O1 E1 O2 E2):PKp O E O2 E2:=λi ds h=>by
 obtain⟨⟨ds1,h1⟩,e1⟩:=a i ds h;obtain⟨h2,e2⟩:=b i ds1 h1;exact⟨h2,e2.trans e1⟩
structure Got(K:qH)(mg:Str->Option Value)(M:Addr->Prop)(O:St)(E:zN)(H:Hp)(T0:Fz)(O':St)(E':zN)(H':Hp)(T:Fz):Prop where
 len:E'.length=O'.length
 fr:FR K mg M H' (T++(T0++O'.zip E'))
 st:Step M H (T0++O.zip E) H' (T++(T0++O'.zip E'))
 pk:PKp O E O' E'
def zBw(vs:List V)(rs:List R):Fz:=(vs.zip rs).map λp=>(some p.1,p.2.slot)
def KM(X:Cx)(M:Addr->Prop)(O:St)(E:zN)(H:Hp)(T0:Fz)(Q:VK):Out (R×zN)->Prop
 | .z=>False| .ok (r,E')=>∀v H',Got X.K X.mg M O E H T0 O E' H' [(some v,r.slot)]->Q v H'| .exc x E'=>∀H',Got X.K X.mg M O E H T0 O E' H' []->XE X O H' x
def KT(X:Cx)(M:Addr->Prop)(O:St)(E:zN)(H:Hp)(T0:Fz)(Q:Bool->Hp->Prop):Out (Bool×zN)->Prop
 | .z=>False| .ok (b,E')=>∀H',Got X.K X.mg M O E H T0 O E' H' []->Q b H'| .exc x E'=>∀H',Got X.K X.mg M O E H T0 O E' H' []->XE X O H' x
def KA(X:Cx)(M:Addr->Prop)(O:St)(E:zN)(H:Hp)(T0:Fz)(Q:List V->Hp->Prop):Out (List R×zN)->Prop
 | .z=>False| .ok (rs,E')=>∀vs H',vs.length=rs.length->Got X.K X.mg M O E H T0 O E' H' (zBw vs rs)->Q vs H'| .exc x E'=>∀H',Got X.K X.mg M O E H T0 O E' H' []->XE X O H' x
def tM(X:Cx)(m:ME):TE:=λO H Q=>∃M E,E.length=O.length/\FR X.K X.mg M H (O.zip E)/\KM X M O E H [] Q (m E)
def tMT(X:Cx)(m:MT):TT:=λO H Q=>∃M E,E.length=O.length/\FR X.K X.mg M H (O.zip E)/\KT X M O E H [] Q (m E)
def tMA(X:Cx)(m:MA):TA:=λO H Q=>∃M E,E.length=O.length/\FR X.K X.mg M H (O.zip E)/\KA X M O E H [] Q (m E)
abbrev EOk(X:Cx)(e:Expr)(m:ME):Prop:=PE X e (tM X m)
abbrev TOk(X:Cx)(e:Expr)(m:MT):Prop:=PT X e (tMT X m)
abbrev AOk(X:Cx)(es:List Expr)(m:MA):Prop:=PA X es (tMA X m)
def zq{X:Cx}{e:Expr}{t t':TE}(h:PE X e t)(i:∀O H Q,t' O H Q->t O H Q):PE X e t':=λpins s O H Q I q=>h pins s O H Q I (i O H Q q)
def Qp{X:Cx}{e:Expr}{t t':TT}(h:PT X e t)(i:∀O H Q,t' O H Q->t O H Q):PT X e t':=λpins s O H Q I q=>h pins s O H Q I (i O H Q q)
def zFm{X:Cx}{e:Expr}{t t':TT}(h:PW X e t)(i:∀O H Q,t' O H Q->t O H Q):PW X e t':=λwh pins s O H Q I q=>h wh pins s O H Q I (i O H Q q)
def ut{X:Cx}{e:List Expr}{t t':TA}(h:PA X e t)(i:∀O H Q,t' O H Q->t O H Q):PA X e t':=λp pins s O H Q I q=>h p pins s O H Q I (i O H Q q)
def yy{X:Cx}{e:Stmt}{t t':TS}(h:PS X e t)(i:∀D O H,t' D O H->t D O H):PS X e t':=λpins s O H D I q=>h pins s O H D I (i D O H q)
def zBx{X:Cx}{e:List Stmt}{t t':TS}(h:PSs X e t)(i:∀D O H,t' D O H->t D O H):PSs X e t':=λpins s O H D I q=>h pins s O H D I (i D O H q)
section
variable{X:Cx}{K:qH}{mg:Str->Option Value}{M:Addr->Prop}{O O' O1 O2:St}{E E' E1 E2:zN}{H H' H1 H2:Hp}{T0 T T1 T2:Fz}{Q:VK}
def swapP{α:Type}(A B C:List α):(A++(B++([]++C))).Perm (B++(A++C)):=by
 rw[nil_append,<- append_assoc,<- append_assoc];exact(perm_append_comm).append_right _
def Zg{α:Type}{l:List α}{i:Nat}{x:α}(h:l[i]?=some x):l.set i x=l:=by
 obtain⟨hi,rfl⟩:=qG.mp h;exact List.set_getElem_self hi
theorem Got.outer(h:FR K mg M H (T0++O.zip E))(g:Got K mg (Mo M T0) O E H [] O' E' H' T):Got K mg M O E H T0 O' E' H' T where
 len:=g.len
 fr:=by
  have q:=FR.outer h g.fr g.st;exact q.perm (swapP _ _ _)
 st:=by
  have q:=Step.outer g.st;refine q.weak λb hb=>?_
  exact zD (swapP _ _ _).symm b hb
 pk:=g.pk
theorem Got.trans(a:Got K mg M O E H T0 O1 E1 H1 T1)(b:Got K mg M O1 E1 H1 (T1++T0) O2 E2 H2 T2):Got K mg M O E H T0 O2 E2 H2 (T2++T1) where
 len:=b.len
 fr:=by
  have q:=b.fr;rw[append_assoc]at q;rw[append_assoc];exact q
 st:=by
  have q:=b.st;rw[append_assoc,append_assoc]at q;rw[append_assoc];exact a.st.trans q
 pk:=a.pk.trans b.pk
def Got.dropAll(a:Got K mg M O E H T0 O1 E1 H1 T1):Got K mg M O E H T0 O1 E1 H1 [] where
 len:=a.len
 fr:=a.fr.sub (sublist_append_right _ _)
 st:=a.st.weak (zC (sublist_append_right _ _))
 pk:=a.pk
def Got.trans'(a:Got K mg M O E H [] O1 E1 H1 T1)(b:Got K mg M O1 E1 H1 T1 O2 E2 H2 T2):Got K mg M O E H [] O2 E2 H2 (T2++T1):=a.trans (by rw[append_nil];exact b)
theorem Got.refl(hl:E.length=O.length)(h:FR K mg M H (T0++O.zip E)):Got K mg M O E H T0 O E H []:=⟨hl,h,Step.refl,PKp.refl⟩
def Got.more(a:Got K mg M O E H [] O1 E1 H1 T1)(f:FR K mg M H2 (T++O1.zip E1))(s:Step M H1 (O1.zip E1) H2 (T++O1.zip E1)):Got K mg M O E H [] O1 E1 H2 T where
 len:=a.len
 fr:=f
 st:=(a.st.weak (zC (sublist_append_right _ _))).trans s
 pk:=a.pk
def Got.frame(a:Got K mg M O E H [] O1 E1 H1 T1):FR K mg M H1 (O1.zip E1):=a.fr.sub (sublist_append_right _ _)
def vK(v:V)(r:R)(vs:List V)(rs:List R):zBw (v::vs) (r::rs)=(some v,r.slot)::zBw vs rs:=rfl
theorem zBy:∀{vs:List V} {rs:List R} {Z:Fz},vs.length=rs.length->FR K mg M H (zBw vs rs++Z)->Reps K mg (Hm (Mo M Z) H) (rs.map R.d) vs
 | [],[],Z,_,h=>Reps.nil
 |v::vs,r::rs,Z,hl,h=>by
  rw[vK,cons_append]at h;refine Reps.cons ?_ (zBy (by simpa using hl) h.tail);obtain⟨v',e,q⟩:=h.frz.val (some v) r.d qE;cases e;refine q.mono (j5 (Yp λb hb=>?_));rw[zy,zW];exact qK _ hb
def Got.reps{vs:List V}{rs:List R}(hl:vs.length=rs.length)(a:Got K mg M O E H [] O1 E1 H1 (zBw vs rs)):Reps K mg (Hm (Mo M (O1.zip E1)) H1) (rs.map R.d) vs:=zBy hl a.fr
def Got.rep{v:V}{r:R}(a:Got K mg M O E H [] O1 E1 H1 [(some v,r.slot)]):Rep K mg (Hm (Mo M (O1.zip E1)) H1) r.d v:=by
 have q:=Got.reps (vs:=[v]) (rs:=[r]) rfl a;simp only[List.map,Reps]at q;obtain⟨v',r',e,h,_⟩:=q;cases e;exact h
def z0{m:ME}(hl:E.length=O.length)(h:FR X.K X.mg M H (T0++O.zip E))
  (k:KM X M O E H T0 Q (m E)):tM X m O H Q:=by
 refine⟨Mo M T0,E,hl,h.inner,?_⟩;cases e:m E with
 |z=>rw[e]at k;exact k|ok a=>rw[e]at k;exact λv H' g=>k v H' (g.outer h)|exc x E'=>rw[e]at k;exact λH' g=>k H' (g.outer h)
def YO{m:MT}{Q:Bool->Hp->Prop}(hl:E.length=O.length)(h:FR X.K X.mg M H (T0++O.zip E))
  (k:KT X M O E H T0 Q (m E)):tMT X m O H Q:=by
 refine⟨Mo M T0,E,hl,h.inner,?_⟩;cases e:m E with
 |z=>rw[e]at k;exact k|ok a=>rw[e]at k;exact λH' g=>k H' (g.outer h)|exc x E'=>rw[e]at k;exact λH' g=>k H' (g.outer h)
def wt{m:MA}{Q:List V->Hp->Prop}(hl:E.length=O.length)(h:FR X.K X.mg M H (T0++O.zip E))
  (k:KA X M O E H T0 Q (m E)):tMA X m O H Q:=by
 refine⟨Mo M T0,E,hl,h.inner,?_⟩;cases e:m E with
 |z=>rw[e]at k;exact k|ok a=>rw[e]at k;exact λvs H' hv g=>k vs H' hv (g.outer h)|exc x E'=>rw[e]at k;exact λH' g=>k H' (g.outer h)
def eC(d:D):ME:=λE=>.ok (.v d,E)
def flat:D->Bool
 | .non | .bl _ | .int _ | .str _=>true
 |_=>false
def flV:D->V
 | .bl b=>.bl b| .int i=>.int i| .str x=>.str x|_=>.non
def Qq{d:D}(h:flat d=true):Rep K mg H d (flV d):=by
 cases d<;>simp[flat]at h<;>simp[Rep,flV]
theorem Got.flat(a:Got K mg M O E H [] O1 E1 H1 T1){d:D}(h:flat d=true):Got K mg M O E H [] O1 E1 H1 [(some (flV d),.v d)] :=
 a.more (a.frame.add (Qq h)) Step.refl.add
def ok_c{e:Expr}{d:D}(h:PE X e (tC (flV d)))(hf:flat d=true:=by rfl):EOk X e (eC d):=zq h λO H Q ⟨M,E,hl,f,k⟩ =>
 k (flV d) H ((Got.refl (T0:=[]) hl f).flat hf)
def ok_int{i j pos}:EOk X (.Constant (.int i) j pos) (eC (.int i)):=ok_c pe_int
def ok_bl{b j pos}:EOk X (.Constant (.bool b) j pos) (eC (.bl b)):=ok_c pe_bl
def ok_non{j pos}:EOk X (.Constant .none j pos) (eC .non):=ok_c pe_non
def ok_str{x j pos}:EOk X (.Constant (.str x) j pos) (eC (.str x)):=ok_c zFe
def ok_fn{x:Str}{f:Addr}{pos:Pos}(hg:Gl X x)(hm:X.mg x=some (.ref f))(hd:(x==("__debug__":Str))=false:=by decide):EOk X (.Name x pos) (eC (.fn x)) :=
 zq (G0 (v:=.ref f) hg hm rfl hd) λO H Q ⟨M,E,hl,fr,k⟩=>k _ H ((Got.refl (T0:=[]) hl fr).more (T:=[(some (.ref f),.v (.fn x))]) (FR.add fr (by simp only[Rep];exact⟨f,rfl,hm⟩)) Step.refl.add)
def vL(i:Nat):ME:=λE=>match E[i]? with
 |some (.v d)=>.ok (.v d,E)|some (.own ds)=>.ok (.v (.l ds),E.set i (.v (.l ds)))|_=>.z
def Y8{i:Nat}{s:Slot}(hl:E.length=O.length)(h:E[i]?=some s):∃o,O[i]?=some o/\(O.zip E)[i]?=some (o,s):=by
 have hi:i<E.length:=(qG.mp h).1;have:i<O.length:=hl▸hi;refine⟨O[i],by simp[this],?_⟩;rw[List.getElem?_zip_eq_some];exact⟨by simp[this],h⟩
def wS{i:Nat}{s:Slot}(hl:E.length=O.length)(h:E[i]?=some s):∃o,O[i]?=some o/\(o,s)∈O.zip E:=by
 obtain⟨o,h1,h2⟩:=Y8 hl h;exact⟨o,h1,mem_of_getElem? h2⟩
def ye{i:Nat}{o:Option V}(s:Slot)(h:O[i]?=some o):O.zip (E.set i s)=(O.zip E).set i (o,s):=by
 rw[<- vi];congr 1;have hi:i<O.length:=(qG.mp h).1;apply List.ext_getElem?;intro j;by_cases e:i=j
 ·subst e;rw[getElem?_set_self hi,h]
 ·rw[getElem?_set_ne e]
def zFn{i:Nat}{s:Slot}{ds0:List D}(h:E[i]?=some s)(hs:∀ds,s≠.par ds)(o:Slot):PKp O E O (E.set i o):=λj ds e=>by
 have ne:i≠j:=λq=>by subst q;rw[h]at e;exact hs ds (qJ e)
 exact⟨⟨ds,by rw[getElem?_set_ne ne];exact e⟩,rfl⟩
def ok_var(i:Nat){x:Str}{pos:Pos}(h:PE X (.Name x pos) (Z0 i)):EOk X (.Name x pos) (vL i):=zq h λO H Q ⟨M,E,hl,f,k⟩=>by
 unfold vL at k;cases e:E[i]? with
 |none=>rw[e]at k;exact k.elim
 |some sl =>
 rw[e]at k;cases sl with
 |e=>exact k.elim|par ds=>exact k.elim
 |v d =>
  obtain⟨o,h1,h2⟩:=wS hl e;obtain⟨v,rfl,r⟩:=f.val o d h2;exact⟨v,h1,k v H ⟨hl,f.add r,Step.refl.add,PKp.refl⟩⟩
 |own ds =>
  obtain⟨o,h1,h2⟩:=Y8 hl e;obtain⟨a,xs,rfl,q1,q2,q3⟩:=f.own o (.own ds) ds (mem_of_getElem? h2) rfl;refine⟨.ref a,h1,k _ H ?_⟩;have hlt:i<(O.zip E).length:=(qG.mp h2).1;have p:(O.zip E).Perm ((some (.ref a),R.slot (.own ds))::(O.zip E).eraseIdx i):=by
   have:=yF (some (V.ref a),Slot.own ds) (O.zip E) i hlt;rw[Zg h2]at this;exact this
  have f1:=(f.perm p).frz;have f2:FR X.K X.mg M H ((O.zip E).set i (some (.ref a),.v (.l ds))):=f1.perm (yF _ _ _ hlt).symm;rw[<- ye (.v (.l ds)) h1]at f2;have r:=f1.val _ _ qE;obtain⟨v,ev,rr⟩:=r;cases ev;have em:Mo M ((some (V.ref a),Slot.v (R.own ds).d)::(O.zip E).eraseIdx i)=Mo M (O.zip (E.set i (.v (.l ds)))):=by
   rw[ye (.v (.l ds)) h1];exact(G9 (yF _ _ _ hlt)).symm
  rw[em]at rr;refine⟨by simp[hl],f2.add rr,?_,?_⟩
  ·refine Step.add ?_
   refine Step.weak Step.refl λb hb=>?_
   refine zD p.symm b ?_;rw[nil_append,ye (.v (.l ds)) h1]at hb;have hb':=zD (yF _ _ _ hlt) b hb;rw[zy]at hb';exact zC (sublist_cons_self _ _) b hb'
  ·exact zFn (ds0:=[]) e (λds' q=>by cases q) _
end
def zH:Expr->Bool
 | .Starred _ _=>true|_=>false
def yG:List Expr->Bool
 | []=>true|e::es=>!zH e&&yG es
def zL{e:Expr}{es:List Expr}{env:Env}(h:zH e=false):starEach (e::es) env=(false,eval e env)::starEach es env:=by
 cases e<;>first|rfl|(cases h)
def star2{a b:Expr}{env:Env}(ha:zH a=false)(hb:zH b=false):starEach [a,b] env=[(false,eval a env),(false,eval b env)]:=by
 rw[zL ha,zL hb];rfl
def zAs{a:Expr}{env:Env}(ha:zH a=false):starEach [a] env=[(false,eval a env)]:=by
 rw[zL ha];rfl
def yZ:Expr->Bool
 | .Set _ _ _=>false|_=>true
def yf{e:Expr}{env:Env}(h:yZ e=true):∀x,foldedSetIterable e env x=pure x:=by
 intro x;cases e<;>first|rfl|(cases h)
def YQ:Expr->Bool
 | .ListComp _ _ _ _=>false| .SetComp _ _ _ _=>false| .DictComp _ _ _ _ _=>false|_=>true
def vj{e:Expr}{t:Option Expr}{l:Nat}{env:Env}(h:YQ e=true):swapsWith e t l env=pure false:=by
 cases e<;>first|rfl|(cases h)
def zFo:Expr->Bool
 | .UnaryOp .Not _ _=>false| .BoolOp _ _ _=>false| .IfExp _ _ _ _=>false| .Compare _ _ _ _=>false|_=>true
def test_of{e:Expr}{env:Env}(h:zFo e=true):∀whole,isTrue e env whole=(do let v <- whole;standAt e.pos;holding [v] (truthy v)):=by
 intro x;cases e<;>first|rfl|(cases h)|skip;rename_i op _ _;cases op<;>first|rfl|(cases h)
def uu:Expr->Bool
 | .Slice _ _ _ _=>false|_=>true
def QB:Expr->Bool
 | .Attribute _ _ _=>false|_=>true
def call_of{fe:Expr}{args:List Expr}{pos:Pos}{env:Env}(h:QB fe=true):eval (.Call fe args [] pos) env=(do callWith pos (<- eval fe env) [] (backTo pos (starEach args env)) (backToKw pos (keywordEach [] env))):=by
 cases fe<;>first|rfl|(cases h)
theorem uv{env:Env}:∀{es:List Expr},yG es=true->(starEach es env).any (·.1)=false
 | [],_=>rfl
 |e::es,h=>by
  simp only[yG,Bool.and_eq_true,Bool.not_eq_true']at h;rw[zL h.1];simp[uv h.2]
def zEE(pos:Pos)(l:List (Bool×Sem Value)):(backTo pos l).any (·.1)=l.any (·.1):=by
 unfold backTo;rw[List.any_map];rfl
def jF{env:Env}{es:List Expr}{pos:Pos}(h:yG es=true):(backTo pos (starEach es env)).any (·.1)=false:=by
 rw[zEE,uv h]
end DV
namespace L2
open PySem PySem.Spec PyProof.Rows
section
variable{X:Cx}
def zFp(K:qH):R2:=λx y H Q=>∃a b xs ys,x=.ref a/\y=.ref b/\SqT K H a xs/\SqT K H b ys/\xs.length+ys.length<=sizeLine /\
 (xs=[]->Q (.ref b) H)/\(xs≠[]->ys=[]->Q (.ref a) H)/\(xs≠[]->ys≠[]->∀p,H p=none->Q (.ref p) (upd H p (.t (xs++ys))))
def zEF:OpR X (binaryOp .Add) (zFp X.K):=by
 intro pins s O H x y v u Q I rx ry h;obtain⟨a,b,xs,ys,rfl,rfl,ha,hb,hz,q0,q1,q2⟩:=h;cases rx;cases ry;obtain⟨its,r1,p1,_⟩:=I.tuple ha;obtain⟨its2,r2,p2,_⟩:=I.tuple hb;by_cases hx:xs=[]
 ·have hi:its=[]:=r1.nil_iff.mpr hx
  obtain⟨⟨cls,dd,data,sl⟩,ho,hc,n,hd⟩:=id p1;obtain⟨⟨cls2,dd2,data2,sl2⟩,ho2,hc2,n2,hd2⟩:=id p2;simp only at hc hd hc2 hd2;subst hc hd hc2 hd2;exact concat_meets ⟨_,ho,rfl⟩ ⟨_,ho2,rfl⟩ noFill_tuple_add seq_tuple_add PySem.F.slot_tuple_add PySem.F.entry_tuple_add (PySem.F.args_tuple_add_2 _ _)
   (tuple_addW0 a b its.toArray its2.toArray n n2 dd dd2 sl sl2 (by simp[hi])) ⟨ho,ho2,⟨.ref b,H,I,rfl,q0 hx⟩⟩
 ·exact op_catT pins s O H (.ref a) (.ref b) (.ref a) (.ref b) Q I rfl rfl ⟨a,b,xs,ys,rfl,rfl,ha,hb,hx,hz,q1 hx,q2 hx⟩
def rCatL(K:qH):R2:=λx y H Q=>∃l b xs zs,x=.ref l/\y=.ref b/\SqL K H l xs/\SqL K H b zs/\xs.length+zs.length<=sizeLine/\∀p,H p=none->Q (.ref p) (upd H p (.l (xs++zs)))
def op_catL:OpR X (binaryOp .Add) (rCatL X.K):=by
 intro pins s O H x y v u Q I rx ry h;obtain⟨l,b,xs,zs,rfl,rfl,hH,hB,hz,q⟩:=h;cases rx;cases ry;obtain⟨its,r,pl,_⟩:=I.list hH;obtain⟨its2,r2,pl2,_⟩:=I.list hB;have hl:=r.length;have hl2:=r2.length;obtain⟨⟨cls,dd,data,sl⟩,n,ho,hc,hdd,hd⟩:=pl;obtain⟨⟨cls2,dd2,data2,sl2⟩,n2,ho2,hc2,hdd2,hd2⟩:=pl2;simp only at hc hd hc2 hd2;subst hc hd hc2 hd2;refine concat_meets ⟨_,ho,rfl⟩ ⟨_,ho2,rfl⟩ noFill_list_add seq_list_add PySem.F.slot_list_add PySem.F.entry_list_add (PySem.F.args_list_add_2 _ _) (list_addW l b its.toArray its2.toArray n n2 dd dd2 sl sl2 (by rw[size_toArray,size_toArray];omega)) ⟨ho,ho2,?_⟩;have ea:its.toArray++its2.toArray=(its++its2).toArray:=by simp
 rw[ea];exact⟨.ref _,_,I.lnew (t':=s.toks) (r.append r2) (by rw[length_append];omega),rfl,q _ I.fresh⟩
def YR{prog:Program}{w:World}{A:Around}{E:Value->Shared->Prop}{s:Shared}{t sl:Addr}{items:Array Value}{vl vu:Value}{lo hi:Option Int}{Q:Value->Shared->Prop}(ht:IsTup s.heap t items)(hs:s.heap.IsSliceOf sl vl vu .none)(pl:IsPart vl lo)(pu:IsPart vu hi)
  (h1:HT.sIx items.size 0 lo=0) (h2:HT.sIx items.size items.size hi=items.size)
  (h:Q (.ref t) s):wpAny (model prog w) A (getItem (.ref t) (.ref sl)) Q E s:=by
 obtain⟨os,hos,hcs,hds⟩:=id hs;have hTs:s.TypeIs (.ref sl) "slice":=⟨os,hos,hcs⟩;unfold getItem
 try with_reducible refine wpAny_holding ?_
 first|refine qB (qC ?_)|skip
 refine qB (wpAny_sequenceKey ht.typeIs (by decide) ?_);refine qB (wpAny_callSpecial?_slot (name:=Str.ofString "__getitem__") ht.typeIs PyProof.Rows.slot_tuple_getitem
  (wpAny_call_entry PyProof.Rows.slot_tuple_getitem ht.typeIs entry_tuple_getitem ?_ (args_tuple_getitem _ _)))
 show wpAny _ _ (Builtin.Tuple.tupleItemsOf (.ref t) >>= _) _ _ s
 refine qB (tupleItemsOf_ ht ?_);refine qB (wpAny_typeOf hTs ?_);rw[if_pos (by decide)];refine qB (HT.sliceApplied_gen hs pl pu ?_);have hyes:(((HT.sIx items.size 0 lo:Nat):Int)==0&&(1:Int)==1&&(HT.sIx items.size items.size hi-HT.sIx items.size 0 lo)==items.size)=true:=by
  rw[h1,h2];simp
 show wpAny _ _ (if(((HT.sIx items.size 0 lo:Nat):Int)==0&&(1:Int)==1&&(HT.sIx items.size items.size hi-HT.sIx items.size 0 lo)==items.size)=true then _ else _) _ _ s
 rw[if_pos hyes];unfold Builtin.Tuple.tupleIsExact;refine qB (qB (wpAny_typeOf ht.typeIs (qC ?_)));rw[if_pos (by decide)];exact qB (wpAny_rule (qC ⟨_,rfl,qC h⟩))
def rSlTT(K:qH):V->Option Int->Option Int->Hp->VK->Prop:=λx lo hi H Q=>∃a xs,x=.ref a/\SqT K H a xs /\
 ((HT.sIx xs.length 0 lo=0/\HT.sIx xs.length xs.length hi=xs.length)->Q (.ref a) H) /\
 (¬(HT.sIx xs.length 0 lo=0/\HT.sIx xs.length xs.length hi=xs.length)->∀p,H p=none->Q (.ref p) (upd H p (.t (zD2 xs lo hi))))
def sl_tupT:SlR X (rSlTT X.K):=by
 intro pins s O H x v vl vu lo hi sl Q I rx hs pl pu h;obtain⟨a,xs,rfl,hx,q1,q2⟩:=h;by_cases hw:HT.sIx xs.length 0 lo=0/\HT.sIx xs.length xs.length hi=xs.length
 ·cases rx
  obtain⟨its,r,ht,hz⟩:=I.tuple hx;have hlen:its.toArray.size=xs.length:=by rw[size_toArray];exact r.length.symm
  refine⟨"tuple",_,PyProof.Rows.slot_tuple_getitem.lookup,ht.typeIs,?_⟩;exact YR ht hs pl pu (by rw[hlen];exact hw.1) (by rw[hlen];exact hw.2) ⟨.ref a,H,I,rfl,q1 hw⟩
 ·exact sl_tup pins s O H (.ref a) v vl vu lo hi sl Q I rx hs pl pu ⟨a,xs,rfl,hx,hw,q2 hw⟩
theorem uw:∀bs:List Bool,(List.range bs.length).all (λi=>bs.getD i false)=bs.all id
 | []=>rfl
 |b::bs=>by
  rw[length_cons,List.range_succ_eq_map,all_cons,all_cons,List.all_map,<- uw bs];rfl
def zEG(hc:X.calm=true):JO X (.builtin "all") (λxs H Q=>∃(p:Addr) (bs:List Bool),xs=[.ref p]/\SqL X.K H p (bs.map V.bl)/\Q (.bl (bs.all id)) H):=by
 intro pins s O H xs us Q I r h;obtain⟨p,bs,rfl,hq,q⟩:=h;obtain⟨u,rfl,rx⟩:=uf r;cases rx;obtain⟨its,rv,pl,hz⟩:=I.list hq;have hlen:=rv.length;refine call_all_walk (wpAny_pyIter_list pl.isList ?_);have hp:p<s.heap.objs.size:=by obtain⟨o,n,e,_⟩:=pl;exact lt_size e
 have hk:∀b o,s.heap.get? b=some o->(s.heap.push {cls:=.type "list_iterator",data:=.fields #[.ref p,.int 0 0]}).get? b=some o:=λb o e=>qA _ e
 have htr:∀(i:Nat) (v:Value),its.toArray[i]?=some v->v=Value.bool (bs.getD i false):=λi v hv=>by
  have hv':its[i]?=some v:=by simpa using hv
  have hi:i<its.length:=(qG.mp hv').1;have hx:i<(bs.map V.bl).length:=by rw[hlen];exact hi
  obtain⟨u',e1,e2⟩:=rv.get (i:=i) (x:=(bs.map V.bl)[i]) (by simp[hx]);rw[hv']at e1;cases e1;rw[length_map]at hx;rw[List.getElem_map]at e2;have:v=.bool (bs[i]):=e2;rw[this];simp[hx]
 refine⟨s.heap.objs.size,[s.heap.objs.size,p],[s.heap.objs.size],its.toArray.size,_,_,λi=>bs.getD i false,rfl,
  Walks.list (by show X.A.handled=none;exact I.ok.hd hc) _ p (ne_of_lt hp) its.toArray,⟨⟨_,get?_push_size _ rfl,rfl,rfl⟩,?_⟩,?_,?_⟩
 ·obtain⟨o,e,c⟩:=pl.isList
  exact⟨o,hk _ _ e,c⟩
 ·intro i v s' Q' E' hv hQ
  rw[htr i v hv];exact wpAny_truthy_bool hQ
 ·intro h' tk kp
  have e:(List.range its.toArray.size).all (λi=>bs.getD i false)=bs.all id:=by
   rw[size_toArray,<- hlen,length_map,uw]
  rw[e];exact⟨.bl (bs.all id),H,I.kept (t':=tk) λb o eb=>kp b o (λm=>by
   have:b=s.heap.objs.size:=by simpa using m
   subst this;exact absurd (lt_size eb) (lt_irrefl _)) (hk b o eb),rfl,q⟩
def Zb:fillsNumberSlot (.type "tuple") "mul"=pure false :=
 PySem.fillsNumberSlot_seq (id:="tuple.__mul__") (r:=some (.builtin "tuple.__rmul__")) F.slot_tuple_mul.lookup (by decide +kernel) F.slot_tuple_rmul.lookup (by decide +kernel)
def ux:seqRepeat? (.type "tuple")=pure (some (.builtin "tuple.__mul__")):=by
 unfold seqRepeat?;rw[PySem.seqSlot_of (T:="tuple") (name:="__mul__") (id:="tuple.__mul__") F.slot_tuple_mul.lookup (by decide +kernel),PySem.seqSlot_of (T:="tuple") (name:="__rmul__") (id:="tuple.__rmul__") F.slot_tuple_rmul.lookup (by decide +kernel)];rfl
def Ww(a:Int)(t:Tok)(l:Addr)(items:Array Value)(n:Nat)(dd:Option Addr)(sl:Array (Option Value)) :
  Meets (Builtin.«int.__rmul__» ⟨[.int a t,.ref l],[]⟩) (λ_ R s=>s.heap.get? l=some {cls:=.type "tuple",dict:=dd,data:=.seq items n,slots:=sl}/\R (.ok (.ret Value.notImplemented)) s) :=
 .of_wp λprog w A R s h=>by obtain⟨hp,g,d,tk,os⟩:=s;obtain⟨hl,h⟩:=h;wp_walk;exact⟨_,rfl,h⟩
def Wx{prog:Program}{w:World}{A:Around}{E:Value->Shared->Prop}{s:Shared}{l:Addr}{items:Array Value}{k:Int}{t:Tok}{Q:Value->Shared->Prop}(hl:IsTup s.heap l items)(h1:-(2^63)<=k)(h2:k<2^63)
  (hz:(items.size:Int)*k<=sizeLine) (q0:items.isEmpty=true\/k=1->Q (.ref l) s)
  (q1:k<=0->Q (.ref s.heap.objs.size) {s with heap:=s.heap.push {cls:=.type "tuple",data:=.seq #[]}})
  (q2:Q (.ref s.heap.objs.size) {s with heap:=s.heap.push {cls:=.type "tuple",data:=.seq ((replicate k.toNat items).foldl (·++·) #[])}})
  (hfit:sizeOk (.seq ((replicate k.toNat items).foldl (·++·) #[]))) :
  wpAny (model prog w) A (call (.builtin "tuple.__mul__") [.ref l,.int k t]) Q E s:=by
 refine wpAny_call_entry F.slot_tuple_mul hl.typeIs F.entry_tuple_mul ?_ (F.args_tuple_mul_2 _ _);show wpAny _ _ (asIndex (.int k t) >>= _) _ _ s;refine qB (wpAny_of_eq (a:=k) rfl ?_);dsimp only;rw[if_neg (by simp only[Bool.or_eq_true,decide_eq_true_eq];omega)];refine qB (tupleItemsOf_ hl ?_);by_cases e1:(items.isEmpty||k==1)=true
 ·rw[if_pos e1]
  unfold Builtin.Tuple.tupleIsExact;refine qB (qB (wpAny_typeOf hl.typeIs (qC ?_)));rw[if_pos (by decide)];refine qB (wpAny_rule (qC ⟨_,rfl,q0 ?_⟩));rw[Bool.or_eq_true,beq_iff_eq]at e1;exact e1
 ·rw[if_neg e1]
  by_cases e2:(decide (k<=0)||items.isEmpty)=true
  ·rw[if_pos e2]
   have hk:k<=0:=by
    simp only[Bool.or_eq_true,decide_eq_true_eq,beq_iff_eq,not_or]at e1 e2;rcases e2 with e2|e2
    ·exact e2
    ·exact absurd e2 e1.1
   exact qB (m:=Builtin.Tuple.tupleExact _) (wpAny_newObj_type (qC ⟨_,rfl,q1 hk⟩) (by show(#[]:Array Value).size<=sizeLine;simp))
  ·rw[if_neg e2]
   have hs:sizeLine=16777216:=sizeLine_eq;rw[if_neg (by rw[hs]at hz;omega),if_neg (by unfold Builtin.Tuple.tupleTooMany;simp only[decide_eq_true_eq];omega)];exact qB (m:=Builtin.Tuple.tupleExact _) (wpAny_newObj_type (qC ⟨_,rfl,q2⟩) hfit)
def rRepT(K:qH):R2:=λx y H Q=>∃l k xs,x=.ref l/\y=.int k/\SqT K H l xs/\-(2^63)<=k/\k<2^63/\xs.length*k.toNat<=sizeLine /\
 (xs=[]\/k=1->Q (.ref l) H)/\(∀p,H p=none->Q (.ref p) (upd H p (.t (replicate k.toNat xs).flatten)))
def op_repT:OpR X (binaryOp .Mult) (rRepT X.K):=by
 intro pins s O H x y v u Q I rx ry h;obtain⟨l,k,xs,rfl,rfl,hH,h1,h2,hz,q0,q⟩:=h;cases rx;obtain⟨t,rfl⟩:=ry;obtain⟨its,r,pt,_⟩:=I.tuple hH;have hl:=r.length;obtain⟨⟨cls,dd,data,sl⟩,ho,hc,n,hd⟩:=id pt;simp only at hc hd;subst hc hd;have hnew:foldl (λx1 x2=>x1++x2) #[] (replicate k.toNat its.toArray)=(replicate k.toNat its).flatten.toArray:=by
  have:=Z5 its k.toNat [];rw[nil_append]at this;exact this
 have hlen:(replicate k.toNat its).flatten.length<=sizeLine:=by rw[G4,Nat.mul_comm,<- hl];exact hz
 have hzz:((its.toArray.size:Nat):Int)*k<=(sizeLine:Nat):=by
  rw[size_toArray,<- hl];by_cases hk:0<=k
  ·obtain⟨m,rfl⟩:=Int.eq_ofNat_of_zero_le hk
   have:xs.length*m<=sizeLine:=by simpa using hz
   exact_mod_cast this
  ·have:(xs.length:Int)*k<=0:=Int.mul_nonpos_of_nonneg_of_nonpos (Int.natCast_nonneg _) (by omega)
   omega
 refine wpAny_binaryOp_repeat_ref (T:="tuple") (U:="int") (by decide) ⟨_,ho,rfl⟩ (λs'=>typeIs_int s' k t) Zb F.fills_int_mul F.slot_int_rmul ux F.slot_int_index.lookup
  (call_meets F.slot_int_rmul (typeIs_int s k t) F.entry_int_rmul (F.args_int_rmul_2 _ _) (Ww k t l its.toArray n dd sl) ⟨ho,rfl,⟨_,ho,rfl⟩,?_⟩)
 refine Wx pt h1 h2 hzz (λe=>⟨.ref l,H,I,rfl,q0 ?_⟩) (λe=>?_) ?_ ?_
 ·rcases e with e|e
  ·left
   have:its=[]:=by simpa using e
   exact r.nil_iff.mp this
  ·right;exact e
 ·have ek:k.toNat=0:=by omega
  have q':=q s.heap.objs.size I.fresh;rw[ek]at q';exact⟨.ref s.heap.objs.size,_,I.laid (t':=s.toks) (o:=.t []) (λb ob q=>qA _ q) (le_refl _) ⟨zero_le _,[],.nil,IsTup.new _ _⟩,rfl,q'⟩
 ·rw[hnew]
  exact⟨.ref s.heap.objs.size,_,I.laid (t':=s.toks) (o:=.t (replicate k.toNat xs).flatten) (λb ob q=>qA _ q) (le_refl _) ⟨by rw[G4,Nat.mul_comm];exact hz,_,r.rep k.toNat,IsTup.new _ _⟩,rfl,q _ I.fresh⟩
 ·rw[hnew]
  show(replicate k.toNat its).flatten.toArray.size<=sizeLine
  rw[size_toArray];exact hlen
end
end L2
namespace DV
open PySem L2
def cap:Nat:=1000000
def wb{n:Nat}(h:n<=cap):n<=sizeLine:=le_trans h (by rw[sizeLine_eq];decide)
abbrev Kt(K:qH)(mg:Str->Option Value)(M:Addr->Prop)(H:Hp)(Z:Fz)(res:R)(Q:VK):Prop :=
 ∀v H',FR K mg M H' ((some v,res.slot)::Z)->Step M H Z H' ((some v,res.slot)::Z)->Q v H'
def ROk(K:qH)(mg:Str->Option Value)(rel:R2)(f:D->D->Option R):Prop :=
 ∀(M:Addr->Prop) (H:Hp) (Z:Fz) (x y:V) (d1 d2:D) (res:R) (Q:VK),FR K mg M H Z->Rep K mg (Hm (Mo M Z) H) d1 x->Rep K mg (Hm (Mo M Z) H) d2 y->f d1 d2=some res->Kt K mg M H Z res Q->rel x y H Q
def COk(K:qH)(mg:Str->Option Value)(rel:List V->Hp->VK->Prop)(f:List D->Option R):Prop :=
 ∀(M:Addr->Prop) (H:Hp) (Z:Fz) (xs:List V) (ds:List D) (res:R) (Q:VK),FR K mg M H Z->Reps K mg (Hm (Mo M Z) H) ds xs->f ds=some res->Kt K mg M H Z res Q->rel xs H Q
section
variable{X:Cx}{K:qH}{mg:Str->Option Value}{M:Addr->Prop}{H H':Hp}{Z:Fz}{Q:VK}{O:St}
theorem Kt.flat{d:D}(k:Kt K mg M H Z (.v d) Q)(f:FR K mg M H Z)(h:flat d=true):Q (flV d) H:=k _ _ (f.add (Qq h)) Step.refl.add
def Kt.rep{d:D}{v:V}(k:Kt K mg M H Z (.v d) Q)(f:FR K mg M H Z)(h:Rep K mg (Hm (Mo M Z) H) d v):Q v H:=k _ _ (f.add h) Step.refl.add
theorem Kt.tup{ds:List D}{xs:List V}{p:Addr}(k:Kt K mg M H Z (.v (.t ds)) Q)(f:FR K mg M H Z)(hp:H p=none)(h:Reps K mg (Hm (Mo M Z) H) ds xs):Q (.ref p) (upd H p (.t xs)):=k _ _ (f.newTup hp h) (Step.newVal hp)
theorem Kt.own{ds:List D}{xs:List V}{p:Addr}(k:Kt K mg M H Z (.own ds) Q)(f:FR K mg M H Z)(hp:H p=none)(h:Reps K mg (Hm (Mo M Z) H) ds xs):Q (.ref p) (upd H p (.l xs)):=k _ _ (f.newOwn hp h) (Step.newOwn f hp)
def Jo(f:D->D->Option R)(a b:ME):ME:=λE=>match a E with
 | .z=>.z| .exc x E1=>.exc x E1
 | .ok (r1,E1)=>match b E1 with
  | .z=>.z| .exc x E2=>.exc x E2
  | .ok (r2,E2)=>match f r1.d r2.d with
   |some r=>.ok (r,E2)|none=>.z
def Z9{rel:R2}{f:D->D->Option R}{a b:ME}(hr:ROk X.K X.mg rel f){H:Hp}{Q:VK}(h:tM X (Jo f a b) O H Q):tOp rel (tM X a) (tM X b) O H Q:=by
 obtain⟨M,E,hl,fr,k⟩:=h;unfold Jo at k;refine z0 (T0:=[]) hl fr ?_;cases ea:a E with
 |z=>rw[ea]at k;exact k|exc x E1=>rw[ea]at k;exact λH' g=>k H' g
 |ok p =>
  obtain⟨r1,E1⟩:=p;rw[ea]at k;intro x H1 g1;refine z0 (T0:=[(some x,r1.slot)]) g1.len g1.fr ?_;dsimp only at k;cases eb:b E1 with
  |z=>rw[eb]at k;exact k|exc x E2=>rw[eb]at k;exact λH' g=>k H' (g1.trans' g).dropAll
  |ok p =>
   obtain⟨r2,E2⟩:=p;rw[eb]at k;intro y H2 g2;have g:=g1.trans' g2;have rp:=Got.reps (vs:=[y,x]) (rs:=[r2,r1]) rfl g;simp only[List.map,Reps]at rp;obtain⟨y',_,e1,ry,x',_,e2,rx,_⟩:=rp;cases e1;cases e2;dsimp only at k;cases ef:f r1.d r2.d with
   |none=>rw[ef]at k;exact k.elim
   |some r =>
    rw[ef]at k;exact hr M H2 _ x y r1.d r2.d r Q g.frame rx ry ef λv H' f' s'=>k v H' (g.more (T:=[(some v,r.slot)]) f' s')
def zAt{op:Operator}{rel:R2}{f:D->D->Option R}{a b:Expr}{ma mb:ME}{pos:Pos}(ho:OpR X (binaryOp op) rel)(hr:ROk X.K X.mg rel f)(ha:EOk X a ma)(hb:EOk X b mb):EOk X (.BinOp a op b pos) (Jo f ma mb) :=
 zq (pe_op ho ha hb) λO H Q h=>Z9 hr h
def WA{op:CmpOp}{rel:R2}{f:D->D->Option R}{a b:Expr}{ma mb:ME}{pos:Pos}(ho:OpR X (compareOp op) rel)(hr:ROk X.K X.mg rel f)(hm:behindInMarks op b=false)(ha:EOk X a ma)(hb:EOk X b mb):EOk X (.Compare a [op] [b] pos) (Jo f ma mb) :=
 zq (pe_cmpR ho ha hb hm) λO H Q h=>Z9 hr h
def ok_ix{rel:R2}{f:D->D->Option R}{a b:Expr}{ma mb:ME}{pos:Pos}(ho:IxR X rel)(hr:ROk X.K X.mg rel f)(hs:ve b)(ha:EOk X a ma)(hb:EOk X b mb):EOk X (.Subscript a b pos) (Jo f ma mb) :=
 zq (pe_ix ho ha hb hs) λO H Q h=>Z9 hr h
def tT(m:ME):MT:=λE=>match m E with
 | .z=>.z| .exc x E1=>.exc x E1| .ok (.v (.bl b),E1)=>.ok (b,E1)|_=>.z
def zBz{m:ME}{H:Hp}{Q:Bool->Hp->Prop}(h:tMT X (tT m) O H Q):tM X m O H λx H'=>∃k,x=.bl k/\Q k H':=by
 obtain⟨M,E,hl,fr,k⟩:=h;refine⟨M,E,hl,fr,?_⟩;unfold tT at k;cases e:m E with
 |z=>rw[e]at k;exact k|exc x E1=>rw[e]at k;exact k
 |ok p =>
  obtain⟨r,E1⟩:=p;rw[e]at k;cases r with
  |own ds=>exact k.elim
  |v d =>
   cases d with
   |bl b =>
    intro v H' g;have rp:=g.rep;simp only[R.d,Rep]at rp;exact⟨b,rp,k H' g.dropAll⟩
   |_=>exact k.elim
def ok_test{e:Expr}{m:ME}(h:EOk X e m)(he:∀whole,isTrue e X.env whole=(do let v <- whole;standAt e.pos;holding [v] (truthy v)):=by intro _;rfl):TOk X e (tT m) :=
 Qp (pt_val h he) λO H Q q=>zBz q
def YS{op:CmpOp}{rel:R2}{f:D->D->Option R}{a b:Expr}{ma mb:ME}{pos:Pos}(ho:OpR X (compareOp op) rel)(hr:ROk X.K X.mg rel f)(hm:behindInMarks op b=false)(ha:EOk X a ma)(hb:EOk X b mb):TOk X (.Compare a [op] [b] pos) (tT (Jo f ma mb)) :=
 Qp (pt_cmpR ho ha hb hm) λO H Q h=>Z9 hr (zBz h)
def wu(a b:MT):MT:=λE=>match a E with
 | .ok (true,E1)=>b E1|o=>o
def vk(a b:MT):MT:=λE=>match a E with
 | .ok (false,E1)=>b E1|o=>o
def JJ(a:MT):MT:=λE=>match a E with
 | .z=>.z| .exc x E1=>.exc x E1| .ok (b,E1)=>.ok (!b,E1)
def and_run{a b:MT}{H:Hp}{Q:Bool->Hp->Prop}(h:tMT X (wu a b) O H Q):tAnd (tMT X a) (tMT X b) O H Q:=by
 obtain⟨M,E,hl,fr,k⟩:=h;unfold wu at k;refine YO (T0:=[]) hl fr ?_;cases ea:a E with
 |z=>rw[ea]at k;exact k|exc x E1=>rw[ea]at k;exact k
 |ok p =>
  obtain⟨c,E1⟩:=p;rw[ea]at k;intro H1 g1;cases c with
  |false=>exact zFj (k H1 g1)
  |true =>
   refine zFk ?_;refine YO (T0:=[]) g1.len g1.fr ?_;dsimp only at k;cases eb:b E1 with
   |z=>rw[eb]at k;exact k|exc x E2=>rw[eb]at k;exact λH' g=>k H' (g1.trans' g)|ok p=>rw[eb]at k;exact λH' g=>k H' (g1.trans' g)
def or_run{a b:MT}{H:Hp}{Q:Bool->Hp->Prop}(h:tMT X (vk a b) O H Q):tOr (tMT X a) (tMT X b) O H Q:=by
 obtain⟨M,E,hl,fr,k⟩:=h;unfold vk at k;refine YO (T0:=[]) hl fr ?_;cases ea:a E with
 |z=>rw[ea]at k;exact k|exc x E1=>rw[ea]at k;exact k
 |ok p =>
  obtain⟨c,E1⟩:=p;rw[ea]at k;intro H1 g1;cases c with
  |true=>exact zFk (k H1 g1)
  |false =>
   refine zFj ?_;refine YO (T0:=[]) g1.len g1.fr ?_;dsimp only at k;cases eb:b E1 with
   |z=>rw[eb]at k;exact k|exc x E2=>rw[eb]at k;exact λH' g=>k H' (g1.trans' g)|ok p=>rw[eb]at k;exact λH' g=>k H' (g1.trans' g)
def not_run{a:MT}{H:Hp}{Q:Bool->Hp->Prop}(h:tMT X (JJ a) O H Q):tNot (tMT X a) O H Q:=by
 obtain⟨M,E,hl,fr,k⟩:=h;unfold JJ at k;refine YO (T0:=[]) hl fr ?_;cases ea:a E with
 |z=>rw[ea]at k;exact k|exc x E1=>rw[ea]at k;exact k|ok p=>rw[ea]at k;exact k
abbrev WOk(X:Cx)(e:Expr)(m:MT):Prop:=PW X e (tMT X m)
def wk_and1{a:Expr}{m:MT}{pos:Pos}(h:TOk X a m):WOk X (.BoolOp .And [a] pos) m:=pw_and1 h
def wk_or1{a:Expr}{m:MT}{pos:Pos}(h:TOk X a m):WOk X (.BoolOp .Or [a] pos) m:=pw_or1 h
def zFq{a b:Expr}{j9:List Expr}{ma mb:MT}{pos:Pos}(ha:TOk X a ma)(hb:WOk X (.BoolOp .And (b::j9) pos) mb):WOk X (.BoolOp .And (a::b::j9) pos) (wu ma mb):=zFm (pw_and ha hb) λO H Q=>and_run
def wk_or{a b:Expr}{j9:List Expr}{ma mb:MT}{pos:Pos}(ha:TOk X a ma)(hb:WOk X (.BoolOp .Or (b::j9) pos) mb):WOk X (.BoolOp .Or (a::b::j9) pos) (vk ma mb):=zFm (pw_or ha hb) λO H Q=>or_run
def tk_w{e:Expr}{m:MT}(h:WOk X e m):TOk X e m:=h.pt
def tk_not{a:Expr}{m:MT}{pos:Pos}(h:TOk X a m):TOk X (.UnaryOp .Not a pos) (JJ m):=Qp (pt_not h) λO H Q=>not_run
def Gq(a:ME):ME:=λE=>match a E with
 | .ok (.v (.bl b),E1)=>.ok (.v (.bl (!b)),E1)| .exc x E1=>.exc x E1|_=>.z
def uy(a b:ME):ME:=λE=>match a E with
 | .ok (.v (.bl true),E1)=>b E1| .ok (.v (.bl false),E1)=>.ok (.v (.bl false),E1)| .exc x E1=>.exc x E1|_=>.z
def eOr(a b:ME):ME:=λE=>match a E with
 | .ok (.v (.bl false),E1)=>b E1| .ok (.v (.bl true),E1)=>.ok (.v (.bl true),E1)| .exc x E1=>.exc x E1|_=>.z
def zEH{a:ME}{H:Hp}{Q:VK}(h:tM X (Gq a) O H Q):tNotV (tM X a) O H Q:=by
 obtain⟨M,E,hl,fr,k⟩:=h;unfold Gq at k;refine z0 (T0:=[]) hl fr ?_;cases ea:a E with
 |z=>rw[ea]at k;exact k|exc x E1=>rw[ea]at k;exact k
 |ok p =>
  obtain⟨r,E1⟩:=p;rw[ea]at k;cases r with
  |own ds=>exact k.elim
  |v d =>
   cases d with
   |bl b =>
    intro v H' g;have rp:=g.rep;simp only[R.d,Rep]at rp;exact⟨b,rp,k _ H' (g.flat (d:=.bl (!b)) rfl)⟩
   |_=>exact k.elim
def zEI{a b:ME}{H:Hp}{Q:VK}(h:tM X (uy a b) O H Q):tAndV (tM X a) (tM X b) O H Q:=by
 obtain⟨M,E,hl,fr,k⟩:=h;unfold uy at k;refine z0 (T0:=[]) hl fr ?_;cases ea:a E with
 |z=>rw[ea]at k;exact k|exc x E1=>rw[ea]at k;exact k
 |ok p =>
  obtain⟨r,E1⟩:=p;rw[ea]at k;cases r with
  |own ds=>exact k.elim
  |v d =>
   cases d with
   |bl c =>
    intro v H' g;have rp:=g.rep;simp only[R.d,Rep]at rp;refine⟨c,rp,?_⟩;cases c with
    |false=>exact zFj (k _ H' (g.flat (d:=.bl false) rfl))
    |true =>
     refine zFk (z0 (T0:=[]) g.len g.frame ?_);dsimp only at k;cases eb:b E1 with
     |z=>rw[eb]at k;exact k|exc x E2=>rw[eb]at k;exact λH'' g'=>k H'' (g.dropAll.trans' g')|ok p=>rw[eb]at k;exact λv'' H'' g'=>k v'' H'' (g.dropAll.trans' g')
   |_=>exact k.elim
def ok_not{a:Expr}{m:ME}{pos:Pos}(h:EOk X a m):EOk X (.UnaryOp .Not a pos) (Gq m):=zq (pe_not h) λO H Q=>zEH
def zFr{a b:Expr}{j9:List Expr}{ma mb:ME}{pos:Pos}(ha:EOk X a ma)(hb:EOk X (.BoolOp .And (b::j9) pos) mb):EOk X (.BoolOp .And (a::b::j9) pos) (uy ma mb):=zq (pe_and ha hb) λO H Q=>zEI
def ok_one{a:Expr}{op:BoolOp}{m:ME}{pos:Pos}(h:EOk X a m):EOk X (.BoolOp op [a] pos) m:=pe_one h
def Gr:MA:=λE=>.ok ([],E)
def JK(a:ME)(m:MA):MA:=λE=>match a E with
 | .z=>.z| .exc x E1=>.exc x E1
 | .ok (r,E1)=>match m E1 with
  | .z=>.z| .exc x E2=>.exc x E2| .ok (rs,E2)=>.ok (r::rs,E2)
def ak_nil:AOk X [] Gr:=ut YA λO H Q ⟨M,E,hl,fr,k⟩=>k [] H rfl (Got.refl (T0:=[]) hl fr)
theorem Got.perm{K:qH}{mg:Str->Option Value}{M:Addr->Prop}{O O1:St}{E E1:zN}{H H1:Hp}{T0 T T':Fz}(a:Got K mg M O E H T0 O1 E1 H1 T)(p:T.Perm T'):Got K mg M O E H T0 O1 E1 H1 T' where
 len:=a.len
 fr:=a.fr.perm (p.append_right _)
 st:=a.st.weak (zD (p.append_right _).symm)
 pk:=a.pk
def zEJ{a:ME}{m:MA}{H:Hp}{Q:List V->Hp->Prop}(h:tMA X (JK a m) O H Q):zAn (tM X a) (tMA X m) O H Q:=by
 obtain⟨M,E,hl,fr,k⟩:=h;unfold JK at k;refine z0 (T0:=[]) hl fr ?_;cases ea:a E with
 |z=>rw[ea]at k;exact k|exc x E1=>rw[ea]at k;exact k
 |ok p =>
  obtain⟨r1,E1⟩:=p;rw[ea]at k;intro x H1 g1;refine wt (T0:=[(some x,r1.slot)]) g1.len g1.fr ?_;dsimp only at k;cases eb:m E1 with
  |z=>rw[eb]at k;exact k|exc x E2=>rw[eb]at k;exact λH' g=>k H' (g1.trans' g).dropAll
  |ok p =>
   obtain⟨rs,E2⟩:=p;rw[eb]at k;intro vs H2 hv g2;refine k (x::vs) H2 (by simp[hv]) ?_;rw[vK];exact(g1.trans' g2).perm (perm_append_comm)
def ak_cons{e:Expr}{es:List Expr}{a:ME}{m:MA}(ha:EOk X e a)(hm:AOk X es m)(hs:zH e=false:=by rfl):AOk X (e::es) (JK a m):=ut (jC ha hm (zL hs)) λO H Q=>zEJ
def eCB(f:List D->Option R)(m:MA):ME:=λE=>match m E with
 | .z=>.z| .exc x E1=>.exc x E1
 | .ok (rs,E1)=>match f (rs.map R.d)with
  |some r=>.ok (r,E1)|none=>.z
def Qs{rel:List V->Hp->VK->Prop}{f:List D->Option R}{m:MA}(hr:COk X.K X.mg rel f){H:Hp}{Q:VK}(h:tM X (eCB f m) O H Q):tCB rel (tMA X m) O H Q:=by
 obtain⟨M,E,hl,fr,k⟩:=h;unfold eCB at k;refine wt (T0:=[]) hl fr ?_;cases ea:m E with
 |z=>rw[ea]at k;exact k|exc x E1=>rw[ea]at k;exact k
 |ok p =>
  obtain⟨rs,E1⟩:=p;rw[ea]at k;intro vs H1 hv g;have rp:=Got.reps hv g;dsimp only at k;cases ef:f (rs.map R.d)with
  |none=>rw[ef]at k;exact k.elim
  |some r =>
   rw[ef]at k;exact hr M H1 _ vs _ r Q g.frame rp ef λv H' f' s'=>k v H' (g.more (T:=[(some v,r.slot)]) f' s')
def Gs(m:MA):ME:=eCB (λds=>if ds.length<=cap then some (.v (.t ds))else none) m
def Gu(m:MA):ME:=eCB (λds=>if ds.length<=cap then some (.own ds)else none) m
def ok_tup{es:List Expr}{m:MA}{x1:Nat}{pos:Pos}(h:AOk X es m):EOk X (.Tuple es x1 pos) (Gs m) :=
 zq (pe_tup h) λO H Q q=>Qs (rel:=λxs H1 Q=>xs.length<=sizeLine/\∀p,H1 p=none->Q (.ref p) (upd H1 p (.t xs))) (λM H Z xs ds res Q f r e k=>by
  split at e
  ·rename_i hc
   cases e;exact⟨by rw[r.length];exact wb hc,λp hp=>k.tup f hp r⟩
  ·cases e) q
def ok_lst{es:List Expr}{m:MA}{pos:Pos}(h:AOk X es m):EOk X (.List es pos) (Gu m) :=
 zq (pe_lst h) λO H Q q=>Qs (rel:=λxs H1 Q=>xs.length<=sizeLine/\∀p,H1 p=none->Q (.ref p) (upd H1 p (.l xs))) (λM H Z xs ds res Q f r e k=>by
  split at e
  ·rename_i hc
   cases e;exact⟨by rw[r.length];exact wb hc,λp hp=>k.own f hp r⟩
  ·cases e) q
def Yq{f:List D->Option R}{m:MA}{rel:List V->Hp->VK->Prop}{id:String}{x:Str}{p pos:Pos}{e:Expr}{es:List Expr}(hc:JO X (.builtin id) rel)(hr:COk X.K X.mg rel f)(hg:Gl X x)(hm:X.mg x=none)(hv:bootBuiltins x=some (.builtin id))(ha:AOk X (e::es) m)(hn:x≠"__name__":=by decide)(hdb:(x==("__debug__":Str))=false:=by decide)
  (he:zH e=false:=by rfl) (hpl:yG es=true:=by rfl):EOk X (.Call (.Name x p) (e::es) [] pos) (eCB f m) :=
 zq (Yn hc hg hm hv ha hn hdb (zL he) (jF hpl)) λO H Q q=>Qs hr q
def uz{f:List D->Option R}{m:MA}{rel:List V->Hp->VK->Prop}{T:String}{x:Str}{p pos:Pos}{e:Expr}{es:List Expr}(hc:JO X (.type T) rel)(hr:COk X.K X.mg rel f)(hg:Gl X x)(hm:X.mg x=none)(hv:bootBuiltins x=some (.type T))(ha:AOk X (e::es) m)(hn:x≠"__name__":=by decide)(hdb:(x==("__debug__":Str))=false:=by decide)
  (he:zH e=false:=by rfl) (hpl:yG es=true:=by rfl):EOk X (.Call (.Name x p) (e::es) [] pos) (eCB f m) :=
 zq (zBd hc hg hm hv ha hn hdb (zL he) (jF hpl)) λO H Q q=>Qs hr q
end
section
variable{X:Cx}{K:qH}{mg:Str->Option Value}
def zM{H:Hp}{i:Int}{v:V}(h:Rep K mg H (.int i) v):v=.int i:=by simpa only[Rep]using h
def yz{H:Hp}{i:Bool}{v:V}(h:Rep K mg H (.bl i) v):v=.bl i:=by simpa only[Rep]using h
def wT{H:Hp}{i:Str}{v:V}(h:Rep K mg H (.str i) v):v=.str i:=by simpa only[Rep]using h
def jl{H:Hp}{v:V}(h:Rep K mg H .non v):v=.non:=by simpa only[Rep]using h
def ze{H:Hp}{ds:List D}{v:V}(h:Rep K mg H (.t ds) v):∃a xs,v=.ref a/\SqT K H a xs/\Reps K mg H ds xs:=by simpa only[Rep]using h
def zT{H:Hp}{ds:List D}{v:V}(h:Rep K mg H (.l ds) v):∃a xs,v=.ref a/\SqL K H a xs/\Reps K mg H ds xs:=by simpa only[Rep]using h
def zd{H:Hp}{d:D}{v:V}(hf:flat d=true)(h:Rep K mg H d v):v=flV d:=by
 cases d<;>simp[flat]at hf<;>simpa only[Rep,flV]using h
def Wt:D->D->Option R
 | .int i,.int j=>some (.v (.int (i+j)))| .t a,.t b=>if a.length+b.length<=cap then some (.v (.t (a++b)))else none| .l a,.l b=>if a.length+b.length<=cap then some (.own (a++b))else none|_,_=>none
def rAddD(K:qH):R2:=λx y H Q=>rI0 (λi j=>.int (i+j)) x y H Q\/(zFp K x y H Q\/rCatL K x y H Q)
def op_addD:OpR X (binaryOp .Add) (rAddD X.K):=op_add.or (zEF.or op_catL)
def ro_add:ROk K mg (rAddD K) Wt:=by
 intro M H Z x y d1 d2 res Q f r1 r2 e k;cases d1 with
 |int i =>
  cases d2 with
  |int j =>
   cases e;exact .inl ⟨i,j,zM r1,zM r2,k.flat f rfl⟩
  |_=>cases e
 |t a =>
  cases d2 with
  |t b =>
   simp only[Wt]at e;split at e
   ·rename_i hc
    cases e;obtain⟨p,xs,rfl,h1,h2⟩:=ze r1;obtain⟨q,ys,rfl,h3,h4⟩:=ze r2;have l1:=h2.length;have l2:=h4.length;refine .inr (.inl ⟨p,q,xs,ys,rfl,rfl,yH zK h1,yH zK h3,by rw[l1,l2];exact wb hc,λe=>?_,λ_ e=>?_,λ_ _ p' hp=>k.tup f hp (h2.append h4)⟩)
    ·subst e
     have:a=[]:=by simpa using l1.symm
     subst this;exact k.rep f (by simpa using r2)
    ·subst e
     have:b=[]:=by simpa using l2.symm
     subst this;exact k.rep f (by simpa using r1)
   ·cases e
  |_=>cases e
 |l a =>
  cases d2 with
  |l b =>
   simp only[Wt]at e;split at e
   ·rename_i hc
    cases e;obtain⟨p,xs,rfl,h1,h2⟩:=zT r1;obtain⟨q,ys,rfl,h3,h4⟩:=zT r2;have l1:=h2.length;have l2:=h4.length;exact .inr (.inr ⟨p,q,xs,ys,rfl,rfl,zK.seq h1,zK.seq h3,by rw[l1,l2];exact wb hc,λp' hp=>k.own f hp (h2.append h4)⟩)
   ·cases e
  |_=>cases e
 |_=>cases e
def zDr(C:Int->Int->Bool)(g:Int->Int->D):D->D->Option R
 | .int i,.int j=>if C i j=true then some (.v (g i j))else none|_,_=>none
def zB0{C:Int->Int->Bool}{P:Int->Int->Prop}{g:Int->Int->D}{gv:Int->Int->V}(hC:∀i j,C i j=true->P i j)(hg:∀i j,flat (g i j)=true/\flV (g i j)=gv i j):ROk K mg (rI P gv) (zDr C g):=by
 intro M H Z x y d1 d2 res Q f r1 r2 e k;cases d1 with
 |int i =>
  cases d2 with
  |int j =>
   simp only[zDr]at e;split at e
   ·rename_i hc
    cases e;refine⟨i,j,zM r1,zM r2,hC i j hc,?_⟩;have:=k.flat f (hg i j).1;rw[(hg i j).2]at this;exact this
   ·cases e
  |_=>cases e
 |_=>cases e
def zB1(g:Int->Int->D):D->D->Option R
 | .int i,.int j=>some (.v (g i j))|_,_=>none
def WB{g:Int->Int->D}{gv:Int->Int->V}(hg:∀i j,flat (g i j)=true/\flV (g i j)=gv i j):ROk K mg (rI0 gv) (zB1 g):=by
 intro M H Z x y d1 d2 res Q f r1 r2 e k;cases d1 with
 |int i =>
  cases d2 with
  |int j =>
   cases e;refine⟨i,j,zM r1,zM r2,?_⟩;have:=k.flat f (hg i j).1;rw[(hg i j).2]at this;exact this
  |_=>cases e
 |_=>cases e
abbrev Qt:=zB1 λi j=>.int (i-j)
def ro_sub:ROk K mg (rI0 λi j=>.int (i-j)) Qt:=WB λ_ _=>⟨rfl,rfl⟩
def Big:Nat:=2^4000
def zB2{n:Nat}(h:n<Big):n.log2<4000:=by
 by_cases h0:n=0
 ·subst h0;decide +kernel
 ·exact(log2_lt h0).mpr h
def Qu{i:Int}(h:i.natAbs<Big):Builtin.Int.intBits i<=4000:=by
 unfold Builtin.Int.intBits;split
 ·exact zero_le _
 ·exact zB2 h
def zB3{i j:Int}(h1:i.natAbs<Big)(h2:j.natAbs<Big):IntMulOk i j:=by
 have b1:=Qu h1;have b2:=Qu h2;unfold IntMulOk;have:Builtin.Int.intTooBig (((Builtin.Int.intBits i:Nat):Int)+(Builtin.Int.intBits j:Nat))=false:=by
  unfold Builtin.Int.intTooBig bitsLine;simp only[decide_eq_false_iff_not];have:(2^27:Nat)=134217728:=by decide
  omega
 rw[this,Bool.and_false];decide
def CDivB(i j:Int):Prop:=0<j/\(j<1073741824\/j.natAbs<Big)
def zEK:OpR X (binaryOp .FloorDiv) (rI CDivB λi j=>.int (i/j)):=opI λi j _ _ _ _ _ hc q=>by
 have h1:(0:Int)<j:=hc.1;refine PyProof.Rows.floordiv_int (by omega) (by rw[Int.fdiv_eq_ediv_of_nonneg i (by omega)];exact q) (.inl ?_);rcases hc.2 with h|h
 ·exact PyProof.noPylong_small (by omega)
 ·exact PyProof.noPylong_of_log2 (lt_of_lt_of_le (zB2 h) (by decide))
def CMulB(i j:Int):Prop:=CMul i j\/(i.natAbs<Big/\j.natAbs<Big)
def op_mulB:OpR X (binaryOp .Mult) (rI CMulB λi j=>.int (i*j)):=opI λ_ _ _ _ _ _ _ hc q=>PyProof.Rows.mul_int q (by
 rcases hc with h|h
 ·exact h.ok
 ·exact zB3 h.1 h.2)
abbrev zEL:=zDr (λ_ j=>decide (0<j/\(j<1073741824\/j.natAbs<Big))) λi j=>.int (i/j)
def ro_fdiv:ROk K mg (rI CDivB λi j=>.int (i/j)) zEL:=zB0 (λi j h=>(of_decide_eq_true h:0<j/\(j<1073741824\/j.natAbs<Big))) λ_ _=>⟨rfl,rfl⟩
abbrev modD:=zDr (λ_ j=>decide (0<j)) λi j=>.int (i%j)
def ro_mod:ROk K mg (rI (λ_ j=>0<j) λi j=>.int (i%j)) modD:=zB0 (λi j h=>of_decide_eq_true h) λ_ _=>⟨rfl,rfl⟩
abbrev powD:=zDr (λi j=>decide (0<=j/\j<=1000000/\i.natAbs<2^64)) λi j=>.int (i^j.toNat)
def ro_pow:ROk K mg (rI CPow λi j=>.int (i^j.toNat)) powD:=zB0 (λi j h=>(of_decide_eq_true h:0<=j/\j<=1000000/\i.natAbs<2^64)) λ_ _=>⟨rfl,rfl⟩
def ZP:D->D->Option R
 | .int i,.int j=>if((-(2^64)<i/\i<2^64)\/(-(2^64)<j/\j<2^64))\/(i.natAbs<Big/\j.natAbs<Big)then some (.v (.int (i*j)))else none| .t a,.int k=>if -(2^63)<=k/\k<2^63/\a.length*k.toNat<=cap then some (.v (.t (replicate k.toNat a).flatten))else none|_,_=>none
def rMulD(K:qH):R2:=λx y H Q=>rI CMulB (λi j=>.int (i*j)) x y H Q\/rRepT K x y H Q
def op_mulD:OpR X (binaryOp .Mult) (rMulD X.K):=op_mulB.or op_repT
def ro_mul:ROk K mg (rMulD K) ZP:=by
 intro M H Z x y d1 d2 res Q f r1 r2 e k;cases d1 with
 |int i =>
  cases d2 with
  |int j =>
   simp only[ZP]at e;split at e
   ·rename_i hc
    cases e;exact .inl ⟨i,j,zM r1,zM r2,hc,k.flat f rfl⟩
   ·cases e
  |_=>cases e
 |t a =>
  cases d2 with
  |int n =>
   simp only[ZP]at e;split at e
   ·rename_i hc
    cases e;obtain⟨p,xs,rfl,h1,h2⟩:=ze r1;have l1:=h2.length;refine .inr ⟨p,n,xs,rfl,zM r2,yH zK h1,hc.1,hc.2.1,by rw[l1];exact wb hc.2.2,λe=>?_,λp' hp=>k.tup f hp (h2.flatten _)⟩;refine k.rep f ?_;rcases e with e|e
    ·subst e
     have:a=[]:=by simpa using l1.symm
     subst this;simpa using r1
    ·subst e
     simpa using r1
   ·cases e
  |_=>cases e
 |_=>cases e
abbrev ltD:=zB1 λi j=>.bl (decide (i<j))
def ro_lt:ROk K mg (rI0 λi j=>.bl (decide (i<j))) ltD:=WB λ_ _=>⟨rfl,rfl⟩
abbrev leD:=zB1 λi j=>.bl (decide (i<=j))
def ro_le:ROk K mg (rI0 λi j=>.bl (decide (i<=j))) leD:=WB λ_ _=>⟨rfl,rfl⟩
abbrev gtD:=zB1 λi j=>.bl (decide (j<i))
def ro_gt:ROk K mg (rI0 λi j=>.bl (decide (j<i))) gtD:=WB λ_ _=>⟨rfl,rfl⟩
abbrev geD:=zB1 λi j=>.bl (decide (j<=i))
def ro_ge:ROk K mg (rI0 λi j=>.bl (decide (j<=i))) geD:=WB λ_ _=>⟨rfl,rfl⟩
def eqF:D->D->Option R
 | .int i,.int j=>some (.v (.bl (decide (i=j))))| .bl i,.bl j=>some (.v (.bl (decide (i=j))))| .str i,.str j=>some (.v (.bl (decide (i=j))))|_,_=>none
def neF:D->D->Option R
 | .int i,.int j=>some (.v (.bl (!decide (i=j))))| .bl i,.bl j=>some (.v (.bl (!decide (i=j))))| .str i,.str j=>some (.v (.bl (!decide (i=j))))|_,_=>none
def vint{i j:Int}:decide (V.int i=V.int j)=decide (i=j):=by simp
def vbl{i j:Bool}:decide (V.bl i=V.bl j)=decide (i=j):=by simp
def vstr{i j:Str}:decide (V.str i=V.str j)=decide (i=j):=by simp
def ro_eq:ROk K mg rEq eqF:=by
 intro M H Z x y d1 d2 res Q f r1 r2 e k;cases d1<;>cases d2<;>cases e
 ·rw[yz r1,yz r2];refine⟨rfl,?_⟩;rw[vbl];exact k.flat f rfl
 ·rw[zM r1,zM r2];refine⟨rfl,?_⟩;rw[vint];exact k.flat f rfl
 ·rw[wT r1,wT r2];refine⟨rfl,?_⟩;rw[vstr];exact k.flat f rfl
def ro_ne:ROk K mg rNe neF:=by
 intro M H Z x y d1 d2 res Q f r1 r2 e k;cases d1<;>cases d2<;>cases e
 ·rw[yz r1,yz r2];refine⟨rfl,?_⟩;rw[vbl];exact k.flat f rfl
 ·rw[zM r1,zM r2];refine⟨rfl,?_⟩;rw[vint];exact k.flat f rfl
 ·rw[wT r1,wT r2];refine⟨rfl,?_⟩;rw[vstr];exact k.flat f rfl
def yq{d:D}(h:flat d=true):vg (flV d)=true:=by cases d<;>simp[flat]at h<;>rfl
def ixD:D->D->Option R
 | .t ds,.int i=>(atI ds i).map .v| .l ds,.int i=>(atI ds i).map .v|_,_=>none
def Zh{H:Hp}{ds:List D}{xs:List V}{i:Int}{d:D}(h:Reps K mg H ds xs)(e:atI ds i=some d):∃v,atI xs i=some v/\Rep K mg H d v:=by
 unfold atI at e ⊢;have hl:=h.length;rw[hl];cases hj:ixN ds.length i with
 |none=>rw[hj]at e;cases e
 |some j =>
  rw[hj]at e;exact h.get' e
def ro_ix:ROk K mg (λx y H Q=>rIxL K x y H Q\/rIxT K x y H Q) ixD:=by
 intro M H Z x y d1 d2 res Q f r1 r2 e k;cases d1 with
 |t ds =>
  cases d2 with
  |int i =>
   simp only[ixD]at e;cases ea:atI ds i with
   |none=>rw[ea]at e;cases e
   |some d =>
    rw[ea]at e;cases e;obtain⟨p,xs,rfl,h1,h2⟩:=ze r1;obtain⟨v,e1,e2⟩:=Zh h2 ea;exact .inr ⟨p,xs,i,v,rfl,zM r2,yH zK h1,e1,k.rep f e2⟩
  |_=>cases e
 |l ds =>
  cases d2 with
  |int i =>
   simp only[ixD]at e;cases ea:atI ds i with
   |none=>rw[ea]at e;cases e
   |some d =>
    rw[ea]at e;cases e;obtain⟨p,xs,rfl,h1,h2⟩:=zT r1;obtain⟨v,e1,e2⟩:=Zh h2 ea;exact .inl ⟨p,xs,i,v,rfl,zM r2,zK.seq h1,e1,k.rep f e2⟩
  |_=>cases e
 |_=>cases e
def ix_both:IxR X (λx y H Q=>rIxL X.K x y H Q\/rIxT X.K x y H Q):=zBh.or zFh
def lenD:List D->Option R
 | [.t ds]=>some (.v (.int ds.length))| [.l ds]=>some (.v (.int ds.length))|_=>none
def Zc{H:Hp}{d:D}{xs:List V}(h:Reps K mg H [d] xs):∃v,xs=[v]/\Rep K mg H d v:=by
 simp only[Reps]at h;obtain⟨v,r,rfl,h1,rfl⟩:=h;exact⟨v,rfl,h1⟩
def reps2{H:Hp}{d e:D}{xs:List V}(h:Reps K mg H [d,e] xs):∃v w,xs=[v,w]/\Rep K mg H d v/\Rep K mg H e w:=by
 simp only[Reps]at h;obtain⟨v,r,rfl,h1,w,r',rfl,h2,rfl⟩:=h;exact⟨v,w,rfl,h1,h2⟩
def co_len:COk K mg (λxs H Q=>∃p ys,xs=[.ref p]/\(SqL K H p ys\/SqT K H p ys)/\Q (.int ys.length) H) lenD:=by
 intro M H Z xs ds res Q f r e k
 match ds,e with
 | [.t ds],e =>
  cases e;obtain⟨v,rfl,h⟩:=Zc r;obtain⟨p,ys,rfl,h1,h2⟩:=ze h;refine⟨p,ys,rfl,.inr (yH zK h1),?_⟩;rw[h2.length];exact k.flat f rfl
 | [.l ds],e =>
  cases e;obtain⟨v,rfl,h⟩:=Zc r;obtain⟨p,ys,rfl,h1,h2⟩:=zT h;refine⟨p,ys,rfl,.inl (zK.seq h1),?_⟩;rw[h2.length];exact k.flat f rfl
def QC:List D->Option R
 | [.int i,.int j]=>some (.v (.int (if j > i then j else i)))|_=>none
def co_max:COk K mg (λxs H Q=>∃i j,xs=[.int i,.int j]/\Q (.int (if j > i then j else i)) H) QC:=by
 intro M H Z xs ds res Q f r e k
 match ds,e with
 | [.int i,.int j],e =>
  cases e;obtain⟨v,w,rfl,h1,h2⟩:=reps2 r;exact⟨i,j,by rw[zM h1,zM h2],k.flat f rfl⟩
def intF:List D->Option R
 | [.int i]=>some (.v (.int i))| [.bl b]=>some (.v (.int (if b then 1 else 0)))|_=>none
def co_int:COk K mg (λxs H Q=>(∃i,xs=[.int i]/\Q (.int i) H)\/∃k,xs=[.bl k]/\Q (.int (if k then 1 else 0)) H) intF:=by
 intro M H Z xs ds res Q f r e k
 match ds,e with
 | [.int i],e =>
  cases e;obtain⟨v,rfl,h1⟩:=Zc r;exact .inl ⟨i,by rw[zM h1],k.flat f rfl⟩
 | [.bl b],e =>
  cases e;obtain⟨v,rfl,h1⟩:=Zc r;exact .inr ⟨b,by rw[yz h1],k.flat f rfl⟩
def zFs:List D->Option R
 | [.l ds]=>some (.v (.t ds))| [.t ds]=>some (.v (.t ds))|_=>none
def zEM:COk K mg (λxs H Q=>∃p ys,xs=[.ref p]/\((SqL K H p ys/\∀l,H l=none->Q (.ref l) (upd H l (.t ys)))\/(SqT K H p ys/\Q (.ref p) H))) zFs:=by
 intro M H Z xs ds res Q f r e k
 match ds,e with
 | [.l ds],e =>
  cases e;obtain⟨v,rfl,h⟩:=Zc r;obtain⟨p,ys,rfl,h1,h2⟩:=zT h;exact⟨p,ys,rfl,.inl ⟨zK.seq h1,λl hl=>k.tup f hl h2⟩⟩
 | [.t ds],e =>
  cases e;obtain⟨v,rfl,h⟩:=Zc r;have h':=h;obtain⟨p,ys,rfl,h1,h2⟩:=ze h;exact⟨p,ys,rfl,.inr ⟨yH zK h1,k.rep f h'⟩⟩
def jG:List D->Option (List Bool)
 | []=>some []| .bl b::ds=>(jG ds).map (b::·)|_=>none
theorem Jp{H:Hp}:∀{ds:List D} {xs:List V} {bs:List Bool},jG ds=some bs->Reps K mg H ds xs->xs=bs.map V.bl
 | [],_,_,e,h=>by cases e;simp only[Reps]at h;subst h;rfl
 |d::ds,_,bs,e,h=>by
  simp only[Reps]at h;obtain⟨v,r,rfl,h1,h2⟩:=h;cases d with
  |bl b =>
   simp only[jG]at e;cases eb:jG ds with
   |none=>rw[eb]at e;cases e
   |some cs =>
    rw[eb]at e;cases e;rw[yz h1,Jp eb h2];rfl
  |_=>cases e
def allD:List D->Option R
 | [.l ds]=>(jG ds).map λbs=>.v (.bl (bs.all id))|_=>none
def co_all:COk K mg (λxs H Q=>∃(p:Addr) (bs:List Bool),xs=[.ref p]/\SqL K H p (bs.map V.bl)/\Q (.bl (bs.all id)) H) allD:=by
 intro M H Z xs ds res Q f r e k
 match ds,e with
 | [.l ds],e =>
  simp only[allD]at e;cases eb:jG ds with
  |none=>rw[eb]at e;cases e
  |some bs =>
   rw[eb]at e;cases e;obtain⟨v,rfl,h⟩:=Zc r;obtain⟨p,ys,rfl,h1,h2⟩:=zT h;have:=Jp eb h2;subst this;exact⟨p,bs,rfl,zK.seq h1,k.flat f rfl⟩
end
abbrev MO:=zN->Out (Option Int×zN)
def tMO(X:Cx)(m:MO):TO:=λO H Q=>∃M E,E.length=O.length/\FR X.K X.mg M H (O.zip E)/\match m E with
 | .z=>False| .ok (b,E')=>∀H',Got X.K X.mg M O E H [] O E' H' []->Q b H'| .exc x E'=>∀H',Got X.K X.mg M O E H [] O E' H' []->XE X O H' x
section
variable{X:Cx}{K:qH}{mg:Str->Option Value}{O:St}{M:Addr->Prop}{E:zN}{H:Hp}{T0:Fz}
def zB4{m:MO}{Q:Option Int->Hp->Prop}(hl:E.length=O.length)(h:FR X.K X.mg M H (T0++O.zip E))
  (k:match m E with | .z=>False | .ok (b,E')=>∀H',Got X.K X.mg M O E H T0 O E' H' []->Q b H' | .exc x E'=>∀H',Got X.K X.mg M O E H T0 O E' H' []->XE X O H' x):tMO X m O H Q:=by
 refine⟨Mo M T0,E,hl,h.inner,?_⟩;cases e:m E with
 |z=>rw[e]at k;exact k|ok a=>rw[e]at k;exact λH' g=>k H' (g.outer h)|exc x E'=>rw[e]at k;exact λH' g=>k H' (g.outer h)
abbrev OOk(X:Cx)(e:Option Expr)(m:MO):Prop:=PO X e (tMO X m)
def zFt{e:Option Expr}{t t':TO}(h:PO X e t)(i:∀O H Q,t' O H Q->t O H Q):PO X e t':=λpins s O H Q I q=>h pins s O H Q I (i O H Q q)
def zEN:MO:=λE=>.ok (none,E)
def zB5(m:ME):MO:=λE=>match m E with
 | .ok (.v (.int i),E1)=>.ok (some i,E1)| .exc x E1=>.exc x E1|_=>.z
def oo_none:OOk X none zEN:=zFt po_none λO H Q ⟨M,E,hl,fr,k⟩=>k H (Got.refl (T0:=[]) hl fr)
def oo_some{e:Expr}{m:ME}(h:EOk X e m):OOk X (some e) (zB5 m):=zFt (po_some h) λO H Q ⟨M,E,hl,fr,k⟩=>by
 unfold zB5 at k;refine z0 (T0:=[]) hl fr ?_;cases ea:m E with
 |z=>rw[ea]at k;exact k|exc x E1=>rw[ea]at k;exact k
 |ok p =>
  obtain⟨r,E1⟩:=p;rw[ea]at k;cases r with
  |own ds=>exact k.elim
  |v d =>
   cases d with
   |int i =>
    intro v H' g;exact⟨i,zM g.rep,k H' g.dropAll⟩
   |_=>exact k.elim
def eSl(f:D->Option Int->Option Int->Option R)(a:ME)(lo hi:MO):ME:=λE=>match a E with
 | .z=>.z| .exc x E1=>.exc x E1
 | .ok (r,E1)=>match lo E1 with
  | .z=>.z| .exc x E2=>.exc x E2
  | .ok (l,E2)=>match hi E2 with
   | .z=>.z| .exc x E3=>.exc x E3
   | .ok (u,E3)=>match f r.d l u with
    |some r=>.ok (r,E3)|none=>.z
def uZ(ds:List D)(lo hi:Option Int):List D:=(ds.drop (HT.sIx ds.length 0 lo)).take (HT.sIx ds.length ds.length hi-HT.sIx ds.length 0 lo)
def slD:D->Option Int->Option Int->Option R
 | .t ds,lo,hi=>some (.v (.t (uZ ds lo hi)))| .l ds,lo,hi=>some (.own (uZ ds lo hi))|_,_,_=>none
def Qv{ds:List D}{xs:List V}(h:Reps K mg H ds xs)(lo hi:Option Int):Reps K mg H (uZ ds lo hi) (zD2 xs lo hi):=by
 unfold uZ zD2;rw[h.length];exact(h.drop _).take _
def sl_run{a:ME}{lo hi:MO}{Q:VK}(h:tM X (eSl slD a lo hi) O H Q):tSl (λx l u H Q=>rSlTT X.K x l u H Q\/rSlL X.K x l u H Q) (tM X a) (tMO X lo) (tMO X hi) O H Q:=by
 obtain⟨M,E,hl,fr,k⟩:=h;unfold eSl at k;refine z0 (T0:=[]) hl fr ?_;cases ea:a E with
 |z=>rw[ea]at k;exact k|exc x E1=>rw[ea]at k;exact λH' g=>k H' g
 |ok p =>
  obtain⟨r1,E1⟩:=p;rw[ea]at k;intro x H1 g1;refine zB4 (T0:=[(some x,r1.slot)]) g1.len g1.fr ?_;dsimp only at k;cases eb:lo E1 with
  |z=>rw[eb]at k;exact k|exc x E2=>rw[eb]at k;exact λH' g=>k H' (g1.trans' g).dropAll
  |ok p =>
   obtain⟨l,E2⟩:=p;rw[eb]at k;intro H2 g2;have g12:=g1.trans' g2;refine zB4 (T0:=[(some x,r1.slot)]) g12.len g12.fr ?_;dsimp only at k;cases ec:hi E2 with
   |z=>rw[ec]at k;exact k|exc x E3=>rw[ec]at k;exact λH' g=>k H' (g12.trans' g).dropAll
   |ok p =>
    obtain⟨u,E3⟩:=p;rw[ec]at k;intro H3 g3;have g:=g12.trans' g3;have rx:=g.rep;dsimp only at k;have f:=g.frame;cases ed:r1.d with
    |t ds =>
     rw[ed]at k rx;have k':Kt X.K X.mg M H3 (O.zip E3) (.v (.t (uZ ds l u))) Q:=λv H' f' s'=>k v H' (g.more (T:=[(some v,_)]) f' s')
     obtain⟨p,xs,rfl,h1,h2⟩:=ze rx;refine .inl ⟨p,xs,rfl,yH zK h1,λhw=>k'.rep f ?_,λ_ p' hp=>k'.tup f hp (Qv h2 l u)⟩;have:uZ ds l u=ds:=by
      have hl:=h2.length;rw[hl]at hw;unfold uZ;rw[hw.1,hw.2];simp
     rw[this];exact rx
    |l ds =>
     rw[ed]at k rx;have k':Kt X.K X.mg M H3 (O.zip E3) (.own (uZ ds l u)) Q:=λv H' f' s'=>k v H' (g.more (T:=[(some v,_)]) f' s')
     obtain⟨p,xs,rfl,h1,h2⟩:=zT rx;exact .inr ⟨p,xs,rfl,zK.seq h1,λp' hp=>k'.own f hp (Qv h2 l u)⟩
    |_=>rw[ed]at k;exact k.elim
def ok_sl{a:Expr}{lo hi:Option Expr}{ma:ME}{ml mh:MO}{p2 pos:Pos}(ha:EOk X a ma)(hl:OOk X lo ml)(hh:OOk X hi mh):EOk X (.Subscript a (.Slice lo hi none p2) pos) (eSl slD ma ml mh) :=
 zq (zD1 (sl_tupT.or sl_list) ha hl hh) λO H Q=>sl_run
def tyD:D->Option String
 | .non=>some "NoneType"| .bl _=>some "bool"| .int _=>some "int"| .str _=>some "str"| .t _=>some "tuple"| .l _=>some "list"| .dic=>some "dict"| .fn _=>none| .exn _ _=>none
def QD(t T:String):Bool:=t==T||(t == "bool"&&T == "int")
def zEO{T:String}(hk:∀t∈["NoneType","bool","int","str","tuple","list","dict"],kitOne X.K (.type t) (.type T)=some (QD t T)) :
  JO X (.builtin "isinstance") (λxs H Q=>∃x d t,xs=[x,.ty T]/\Rep X.K X.mg H d x/\tyD d=some t/\Q (.bl (QD t T)) H):=by
 intro pins s O H xs us Q I r h;obtain⟨x,d,t,rfl,rd,et,q⟩:=h;obtain⟨u,w',rfl,rx,ry⟩:=vals2 r;cases (show w'=Value.type T from ry);have fin:∀tk,EP X pins O Q (.bool (QD t T)) {s with toks:=tk}:=λtk=>⟨.bl _,H,I.tok tk,rfl,q⟩
 cases d with
 |non=>cases et;rw[jl rd]at rx;cases (show u=Value.none from rx);exact kia_one PySem.W.kitx_none I.kIn True.intro (hk _ (by simp)) (λz=>nomatch z) fin|bl b=>cases et;rw[yz rd]at rx;cases (show u=Value.bool b from rx);exact kia_one PySem.W.kitx_bool I.kIn True.intro (hk _ (by simp)) (λz=>nomatch z) fin|int i=>cases et;rw[zM rd]at rx;obtain⟨t,q⟩:=(show ∃t,u=Value.int i t from rx);cases q;exact kia_one PySem.W.kitx_int I.kIn True.intro (hk _ (by simp)) (λz=>nomatch z) fin|str y=>cases et;rw[wT rd]at rx;obtain⟨t,q⟩:=(show ∃t,u=Value.str y t from rx);cases q;exact kia_one PySem.W.kitx_str I.kIn True.intro (hk _ (by simp)) (λz=>nomatch z) fin
 |t ds =>
  cases et;obtain⟨a,xs,rfl,h1,_⟩:=ze rd;cases (show u=Value.ref a from rx);obtain⟨its,_,p,_⟩:=I.tuple h1;obtain⟨o,e1,e2,_⟩:=p;exact kia_one PySem.W.kitx_tuple I.kIn ⟨o,e1,e2⟩ (hk _ (by simp)) (λz=>nomatch z) fin
 |l ds =>
  cases et;obtain⟨a,xs,rfl,h1,_⟩:=zT rd;cases (show u=Value.ref a from rx);obtain⟨its,_,p,_⟩:=I.list h1;obtain⟨o,n,e1,e2,_⟩:=p;exact kia_one PySem.W.kitx_list I.kIn ⟨o,e1,e2⟩ (hk _ (by simp)) (λz=>nomatch z) fin
 |dic =>
  cases et;simp only[Rep]at rd;obtain⟨a,rfl,e⟩:=rd;cases (show u=Value.ref a from rx);obtain⟨_,_,vs,_,p⟩:=(show yd X.prog X.w H s.heap a (.dK [])from I.hok a _ e);obtain⟨o,es,ep,h1,h2,_⟩:=p;exact kia_one PySem.W.kitx_dict I.kIn ⟨o,h1,h2.1⟩ (hk _ (by simp)) (λz=>nomatch z) fin
 |fn x=>cases et|exn x y=>cases et
def eIs(T:String)(m:ME):ME:=λE=>match m E with
 | .z=>.z| .exc x E1=>.exc x E1
 | .ok (r,E1)=>match tyD r.d with
  |some t=>.ok (.v (.bl (QD t T)),E1)|none=>.z
def ok_is{T:String}{a:Expr}{m:ME}{x:Str}{p p1 pos:Pos}(hk:∀t∈["NoneType","bool","int","str","tuple","list","dict"],kitOne X.K (.type t) (.type T)=some (QD t T))(hg:Gl X "isinstance")(hm:X.mg "isinstance"=none)
  (hgT:Gl X x) (hmT:X.mg x=none) (hvT:bootBuiltins x=some (.type T)) (ha:EOk X a m) (hv:bootBuiltins "isinstance"=some (.builtin "isinstance")) (hn:x≠"__name__":=by decide) (hd:(x==("__debug__":Str))=false:=by decide)
  (he:zH a=false:=by rfl) :
  EOk X (.Call (.Name "isinstance" p) [a,.Name x p1] [] pos) (eIs T m):=by
 refine zq (Yn (zEO hk) hg hm hv (jC ha (jC (zBO (v:=.ty T) hgT hmT hvT rfl hn hd) YA (zL rfl)) (zL he)) (by decide) (by decide) (zL he) (jF rfl)) λO H Q ⟨M,E,hl,fr,k⟩=>?_
 unfold eIs at k;refine z0 (T0:=[]) hl fr ?_;cases ea:m E with
 |z=>rw[ea]at k;exact k|exc x E1=>rw[ea]at k;exact k
 |ok pr =>
  obtain⟨r,E1⟩:=pr;rw[ea]at k;intro v H' g;dsimp only at k;cases et:tyD r.d with
  |none=>rw[et]at k;exact k.elim
  |some t =>
   rw[et]at k;exact⟨v,r.d,t,rfl,g.rep.mono zK,et,k _ H' (g.flat (d:=.bl (QD t T)) rfl)⟩
inductive Fl where
 |nx
 |ret (r:R)
 |bk
 |ct
 deriving Inhabited
abbrev MS:=zN->Out (Fl×zN)
def KS(X:Cx)(M:Addr->Prop)(O:St)(E:zN)(H:Hp)(T0:Fz)(D:Ends):Out (Fl×zN)->Prop
 | .z=>False| .ok (.nx,E')=>∀O' H',Got X.K X.mg M O E H T0 O' E' H' []->D.nx O' H'| .ok (.bk,E')=>∀O' H',Got X.K X.mg M O E H T0 O' E' H' []->D.bk O' H'| .ok (.ct,E')=>∀O' H',Got X.K X.mg M O E H T0 O' E' H' []->D.ct O' H'| .ok (.ret r,E')=>∀v O' H',Got X.K X.mg M O E H T0 O' E' H' [(some v,r.slot)]->D.rt v H'| .exc x E'=>∀O' H',Got X.K X.mg M O E H T0 O' E' H' []->XE X O' H' x
def tS(X:Cx)(m:MS):TS:=λD O H=>∃M E,E.length=O.length/\FR X.K X.mg M H (O.zip E)/\KS X M O E H [] D (m E)
abbrev SOk(X:Cx)(st:Stmt)(m:MS):Prop:=PS X st (tS X m)
abbrev QE(X:Cx)(st:List Stmt)(m:MS):Prop:=PSs X st (tS X m)
def WC{m:MS}{D:Ends}(hl:E.length=O.length)(h:FR X.K X.mg M H (T0++O.zip E))
  (k:KS X M O E H T0 D (m E)):tS X m D O H:=by
 refine⟨Mo M T0,E,hl,h.inner,?_⟩;cases e:m E with
 |z=>rw[e]at k;exact k
 |ok a =>
  obtain⟨fl,E'⟩:=a;rw[e]at k;cases fl with
  |nx=>exact λO' H' g=>k O' H' (g.outer h)|bk=>exact λO' H' g=>k O' H' (g.outer h)|ct=>exact λO' H' g=>k O' H' (g.outer h)|ret r=>exact λv O' H' g=>k v O' H' (g.outer h)
 |exc x E'=>rw[e]at k;exact λO' H' g=>k O' H' (g.outer h)
def Gv:MS:=λE=>.ok (.nx,E)
def Wy(a b:MS):MS:=λE=>match a E with
 | .ok (.nx,E1)=>b E1|o=>o
def sk_nil:QE X [] Gv:=zBx pss_nil λD O H ⟨M,E,hl,fr,k⟩=>k O H (Got.refl (T0:=[]) hl fr)
def sk_one{st:Stmt}{m:MS}(h:SOk X st m):QE X [st] m:=G1 h
def seq_run{a b:MS}{D:Ends}(h:tS X (Wy a b) D O H):tSeq (tS X a) (tS X b) D O H:=by
 obtain⟨M,E,hl,fr,k⟩:=h;unfold Wy at k;refine WC (T0:=[]) hl fr ?_;cases ea:a E with
 |z=>rw[ea]at k;exact k|exc x E1=>rw[ea]at k;exact k
 |ok p =>
  obtain⟨fl,E1⟩:=p;rw[ea]at k;cases fl with
  |bk=>exact k|ct=>exact k|ret r=>exact k
  |nx =>
   intro O1 H1 g1;refine WC (T0:=[]) g1.len g1.fr ?_;dsimp only at k;cases eb:b E1 with
   |z=>rw[eb]at k;exact k|exc x E2=>rw[eb]at k;exact λO' H' g=>k O' H' (g1.trans' g)
   |ok p =>
    obtain⟨fl2,E2⟩:=p;rw[eb]at k;cases fl2 with
    |nx=>exact λO' H' g=>k O' H' (g1.trans' g)|bk=>exact λO' H' g=>k O' H' (g1.trans' g)|ct=>exact λO' H' g=>k O' H' (g1.trans' g)|ret r=>exact λv O' H' g=>k v O' H' (g1.trans' g)
def sk_cons{st:Stmt}{j9:List Stmt}{a b:MS}(h1:SOk X st a)(h2:QE X j9 b):QE X (st::j9) (Wy a b):=zBx (Ze h1 h2) λD O H=>seq_run
def sIf(c:MT)(a b:MS):MS:=λE=>match c E with
 | .ok (true,E1)=>a E1| .ok (false,E1)=>b E1| .exc x E1=>.exc x E1| .z=>.z
def tS_go{m:MS}{D:Ends}{O1:St}{E1:zN}{H1:Hp}(g1:Got X.K X.mg M O E H [] O1 E1 H1 [])
  (k:match m E1 with
   | .z=>False| .ok (.nx,E')=>∀O' H',Got X.K X.mg M O E H [] O' E' H' []->D.nx O' H'| .ok (.bk,E')=>∀O' H',Got X.K X.mg M O E H [] O' E' H' []->D.bk O' H'| .ok (.ct,E')=>∀O' H',Got X.K X.mg M O E H [] O' E' H' []->D.ct O' H'| .ok (.ret r,E')=>∀v O' H',Got X.K X.mg M O E H [] O' E' H' [(some v,r.slot)]->D.rt v H'
   | .exc x E'=>∀O' H',Got X.K X.mg M O E H [] O' E' H' []->XE X O' H' x):tS X m D O1 H1:=by
 refine WC (T0:=[]) g1.len g1.fr ?_;cases eb:m E1 with
 |z=>rw[eb]at k;exact k|exc x E2=>rw[eb]at k;exact λO' H' g=>k O' H' (g1.trans' g)
 |ok p =>
  obtain⟨fl2,E2⟩:=p;rw[eb]at k;cases fl2 with
  |nx=>exact λO' H' g=>k O' H' (g1.trans' g)|bk=>exact λO' H' g=>k O' H' (g1.trans' g)|ct=>exact λO' H' g=>k O' H' (g1.trans' g)|ret r=>exact λv O' H' g=>k v O' H' (g1.trans' g)
def sif_run{c:MT}{a b:MS}{D:Ends}(h:tS X (sIf c a b) D O H):tIfS (tMT X c) (tS X a) (tS X b) D O H:=by
 obtain⟨M,E,hl,fr,k⟩:=h;unfold sIf at k;refine YO (T0:=[]) hl fr ?_;cases ea:c E with
 |z=>rw[ea]at k;exact k|exc x E1=>rw[ea]at k;exact λH' g=>k O H' g
 |ok p =>
  obtain⟨t,E1⟩:=p;rw[ea]at k;intro H1 g1;cases t with
  |true=>exact zFk (tS_go g1 k)|false=>exact zFj (tS_go g1 k)
def sk_if{c:Expr}{a b:List Stmt}{mc:MT}{ma mb:MS}{pos:Pos}(hc:TOk X c mc)(ha:QE X a ma)(hb:QE X b mb):SOk X (.If c a b pos) (sIf mc ma mb):=yy (ps_if hc ha hb) λD O H=>sif_run
def Yg(i:Nat)(r:R)(E:zN):Out zN:=match E[i]? with
 |none=>.z|some (.par _)=>.z|some _=>.ok (E.set i r.slot)
def sSet(i:Nat)(m:ME):MS:=λE=>match m E with
 | .z=>.z| .exc x E1=>.exc x E1
 | .ok (r,E1)=>match Yg i r E1 with
  | .ok E2=>.ok (.nx,E2)|_=>.z
def WD{O1:St}{E1 E2:zN}{H1:Hp}{i:Nat}{r:R}{v:V}(g:Got K mg M O E H T0 O1 E1 H1 [(some v,r.slot)])(e:Yg i r E1=.ok E2):Got K mg M O E H T0 (O1.set i (some v)) E2 H1 []:=by
 unfold Yg at e;cases e1:E1[i]? with
 |none=>rw[e1]at e;cases e
 |some sl =>
  rw[e1]at e;have hne:∀ds,sl≠.par ds:=λds q=>by subst q;cases e
  have e2:E2=E1.set i r.slot:=by
   cases sl with
   |par ds=>exact absurd rfl (hne ds)|_=>cases e;rfl
  subst e2;have hi:i<E1.length:=(qG.mp e1).1;have hl:=g.len;have hz:i<(O1.zip E1).length:=by rw[List.length_zip];omega
  have hT:T0++((O1.set i (some v)).zip (E1.set i r.slot))=(T0++O1.zip E1).set (T0.length+i) (some v,r.slot):=by
   rw[vi,List.set_append_right _ _ (by omega)];congr 2;omega
  have hz2:T0.length+i<(T0++O1.zip E1).length:=by rw[length_append];omega
  refine⟨by simp[hl],?_,?_,?_⟩
  ·show FR K mg M H1 (T0++((O1.set i (some v)).zip (E1.set i r.slot)))
   rw[hT];exact FR.put g.fr hz2
  ·show Step M H _ H1 (T0++((O1.set i (some v)).zip (E1.set i r.slot)))
   rw[hT];exact Step.put g.st hz2
  ·refine g.pk.trans λj ds q=>?_
   have ne:i≠j:=λz=>by subst z;rw[e1]at q;exact hne ds (qJ q)
   exact⟨⟨ds,by rw[getElem?_set_ne ne];exact q⟩,by rw[getElem?_set_ne ne]⟩
def QF{i:Nat}{m:ME}{D:Ends}(h:tS X (sSet i m) D O H):tAsg (tM X m) (ud i) D O H:=by
 obtain⟨M,E,hl,fr,k⟩:=h;unfold sSet at k;refine z0 (T0:=[]) hl fr ?_;cases ea:m E with
 |z=>rw[ea]at k;exact k|exc x E1=>rw[ea]at k;exact λH' g=>k O H' g
 |ok p =>
  obtain⟨r,E1⟩:=p;rw[ea]at k;intro v H' g;dsimp only at k;cases ep:Yg i r E1 with
  |z=>rw[ep]at k;exact k.elim|exc _ _=>rw[ep]at k;exact k.elim
  |ok E2 =>
   rw[ep]at k;exact k _ H' (WD g ep)
def zFu{i:Nat}{x:Str}{e:Expr}{m:ME}{pos pos':Pos}(hN:X.N.Nodup)(hi:X.N[i]?=some x)(hx:Loc X.env.scope x)(he:EOk X e m)(hs:swapsWith e (some (.Name x pos')) pos.line X.env=pure false:=by rfl)
  (hf:X.fn x=true\/X.env.scope.names.lookup x=some .local:=by first|exact .inl rfl|exact .inr rfl|assumption):SOk X (.Assign [.Name x pos'] e pos) (sSet i m) :=
 yy (ps_set hN hi hx he hs hf) λD O H=>QF
def sRet(m:ME):MS:=λE=>match m E with
 | .z=>.z| .exc x E1=>.exc x E1| .ok (r,E1)=>.ok (.ret r,E1)
def ret_run{m:ME}{D:Ends}(h:tS X (sRet m) D O H):tRet (tM X m) D O H:=by
 obtain⟨M,E,hl,fr,k⟩:=h;unfold sRet at k;refine z0 (T0:=[]) hl fr ?_;cases ea:m E with
 |z=>rw[ea]at k;exact k|exc x E1=>rw[ea]at k;exact λH' g=>k O H' g|ok p=>rw[ea]at k;exact λv H' g=>k v O H' g
def sk_ret{e:Expr}{m:ME}{pos:Pos}(he:EOk X e m):SOk X (.Return (some e) pos) (sRet m):=yy (ps_ret he) λD O H=>ret_run
def zAu(i:Nat):ME:=λE=>match E[i]? with
 |some (.own ds)=>.ok (.own ds,E.set i .e)|some (.v d)=>.ok (.v d,E)|_=>.z
def ok_move(i:Nat){x:Str}{pos:Pos}(h:PE X (.Name x pos) (Z0 i)):EOk X (.Name x pos) (zAu i):=zq h λO H Q ⟨M,E,hl,f,k⟩=>by
 unfold zAu at k;cases e:E[i]? with
 |none=>rw[e]at k;exact k.elim
 |some sl =>
 rw[e]at k;cases sl with
 |e=>exact k.elim|par ds=>exact k.elim
 |v d =>
  obtain⟨o,h1,h2⟩:=wS hl e;obtain⟨v,rfl,r⟩:=f.val o d h2;exact⟨v,h1,k v H ⟨hl,f.add r,Step.refl.add,PKp.refl⟩⟩
 |own ds =>
  obtain⟨o,h1,h2⟩:=Y8 hl e;obtain⟨a,xs,rfl,q1,q2,q3⟩:=f.own o (.own ds) ds (mem_of_getElem? h2) rfl;refine⟨.ref a,h1,k _ H ?_⟩;have hlt:i<(O.zip E).length:=(qG.mp h2).1;have p:(O.zip E).Perm ((some (.ref a),R.slot (.own ds))::(O.zip E).eraseIdx i):=by
   have:=yF (some (V.ref a),Slot.own ds) (O.zip E) i hlt;rw[Zg h2]at this;exact this
  have ez:O.zip (E.set i .e)=(O.zip E).set i (some (.ref a),.e):=ye .e h1;have p2:((some (V.ref a),R.slot (.own ds))::O.zip (E.set i .e)).Perm ((some (V.ref a),Slot.e)::((some (V.ref a),R.slot (.own ds))::(O.zip E).eraseIdx i)):=by
   rw[ez];exact((yF _ _ _ hlt).cons _).trans (List.Perm.swap _ _ _)
  have f1:=f.perm p;have f2:FR X.K X.mg M H ((some (V.ref a),Slot.e)::((some (V.ref a),R.slot (.own ds))::(O.zip E).eraseIdx i)):={
   val:=λo d q=>by
    rw[zBv];rcases mem_cons.mp q with q|q
    ·cases q
    ·exact f1.val o d q
   own:=λo s ds' q e'=>by
    rw[zBv];rcases mem_cons.mp q with q|q
    ·cases q;cases e'
    ·exact f1.own o s ds' q e'
   nd:=by rw[yQ];exact f1.nd
   mal:=f1.mal}
  refine⟨by simp[hl],f2.perm p2.symm,?_,zFn (ds0:=[]) e (λds' q=>by cases q) _⟩;refine Step.weak Step.refl λb hb=>?_
  have hb':=zD p2 b hb;rw[yQ]at hb';exact zD p.symm b hb'
def sDrop(m:ME):MS:=λE=>match m E with
 | .z=>.z| .exc x E1=>.exc x E1| .ok (_,E1)=>.ok (.nx,E1)
def zEP{m:ME}{D:Ends}(h:tS X (sDrop m) D O H):tDrop (tM X m) D O H:=by
 obtain⟨M,E,hl,fr,k⟩:=h;unfold sDrop at k;refine z0 (T0:=[]) hl fr ?_;cases ea:m E with
 |z=>rw[ea]at k;exact k|exc x E1=>rw[ea]at k;exact λH' g=>k O H' g|ok p=>rw[ea]at k;exact λv H' g=>k O H' g.dropAll
def sk_drop{e:Expr}{m:ME}{pos:Pos}(he:EOk X e m)(hs:swapsWith e none pos.line X.env=pure false:=by rfl):SOk X (.Expr e pos) (sDrop m):=yy (G2 he hs) λD O H=>zEP
end
theorem wG{α β:Type}{f:α->Option β}{x y:α}(h:f y=f x):∀{l:List α} {i:Nat},l[i]?=some x->(l.set i y).filterMap f=l.filterMap f
 | [],_,e=>by simp at e
 |a::l,0,e=>by
  simp at e;subst e
  simp only[List.set_cons_zero,filterMap_cons,h]
 |a::l,i+1,e=>by
  simp at e
  simp only[List.set_cons_succ,filterMap_cons,wG h e]
section
variable{X:Cx}{K:qH}{mg:Str->Option Value}{O:St}{M:Addr->Prop}{E:zN}{H:Hp}{T0 Z:Fz}
def Slot.put:Slot->List D->Slot
 | .own _,es=>.own es| .par _,es=>.par es|s,_=>s
def vm{p:Addr}{s:Slot}{ds es:List D}(hs:s.list?=some ds):G8 (some (.ref p),s.put es)=G8 (some (.ref p),s)/\(s.put es).list?=some es:=by
 cases s<;>simp[Slot.list?]at hs<;>exact⟨rfl,rfl⟩
def FR.mut(h:FR K mg M H Z){i:Nat}{p:Addr}{s:Slot}{ds es:List D}{ys:List V}(hi:Z[i]?=some (some (.ref p),s))(hs:s.list?=some ds)(r:Reps K mg (Hm (Mo M Z) H) es ys) :
  FR K mg M (upd H p (.l ys)) (Z.set i (some (.ref p),s.put es))/\Step M H Z (upd H p (.l ys)) (Z.set i (some (.ref p),s.put es)):=by
 have eo:yM (Z.set i (some (.ref p),s.put es))=yM Z:=wG (vm hs).1 hi;have em:Mo M (Z.set i (some (.ref p),s.put es))=Mo M Z:=by unfold Mo;rw[eo]
 have hp:p∈yM Z:=wo (mem_of_getElem? hi) hs rfl;obtain⟨xs0,hH,hM⟩:=h.ownAt hp;have ehm:Hm (Mo M Z) (upd H p (.l ys))=Hm (Mo M Z) H:=by
  funext b
  unfold Hm;by_cases hb:Mo M Z b
  ·simp[hb]
  ·have:b≠p:=λe=>hb (by subst e;exact .inr hp)
   simp[hb,zG this]
 have mem:∀{q:Option V×Slot},q∈Z.set i (some (.ref p),s.put es)->q=(some (.ref p),s.put es)\/q∈Z:=λ{q} hq=>(List.mem_or_eq_of_mem_set hq).symm
 have hlt:i<Z.length:=(qG.mp hi).1;have nd2:(yM (Z.eraseIdx i)).Nodup/\p∉yM (Z.eraseIdx i):=by
  have pz:Z.Perm ((some (.ref p),s)::Z.eraseIdx i):=by
   have:=yF (some (V.ref p),s) Z i hlt;rw[Zg hi]at this;exact this
  have nd:=(pz.filterMap G8).nodup_iff.mp h.nd;have e:List.filterMap G8 ((some (V.ref p),s)::Z.eraseIdx i)=p::yM (Z.eraseIdx i):=by
   cases s<;>simp[Slot.list?]at hs<;>rfl
  rw[e]at nd;exact⟨(nodup_cons.mp nd).2,(nodup_cons.mp nd).1⟩
 have pz2:(Z.set i (some (.ref p),s.put es)).Perm ((some (.ref p),s.put es)::Z.eraseIdx i):=yF _ _ _ hlt;refine⟨⟨λo d q=>?_,λo s' ds' q e=>?_,by rw[eo];exact h.nd,λb q=>?_⟩,⟨by rw[em,ehm];exact Za.refl _,λb o m e=>?_⟩⟩
 ·rw[em,ehm]
  rcases mem q with q|q
  ·exfalso
   cases s<;>simp[Slot.list?]at hs<;>cases q
  ·exact h.val o d q
 ·rw[em,ehm]
  rcases mem_cons.mp (pz2.mem_iff.mp q)with q'|q'
  ·cases q'
   rw[(vm (p:=p) hs).2]at e;cases e;exact⟨p,ys,rfl,zY,hM,r⟩
  ·have q'':(o,s')∈Z:=(List.eraseIdx_sublist Z i).subset q'
   obtain⟨a,xs,e1,e2,e3,rr⟩:=h.own o s' ds' q'' e;have ne:a≠p:=λz=>by
    subst z;exact nd2.2 (wo q' e e1)
   exact⟨a,xs,e1,by rw[zG ne];exact e2,e3,rr⟩
 ·obtain⟨o,e⟩:=h.mal b q
  by_cases z:b=p
  ·subst z;exact⟨_,zY⟩
  ·exact⟨o,by rw[zG z];exact e⟩
 ·have ne:b≠p:=λz=>hM (by subst z;exact m)
  rw[zG ne];exact e
theorem Got.mut{O1:St}{E1:zN}{H1:Hp}{T:Fz}(g:Got K mg M O E H [] O1 E1 H1 T){i:Nat}{s:Slot}{ds es:List D}{ys:List V}(hi:E1[i]?=some s)(hs:s.list?=some ds)(r:Reps K mg (Hm (Mo M (O1.zip E1)) H1) es ys) :
  ∃p,O1[i]?=some (some (.ref p))/\Got K mg M O E H [] O1 (E1.set i (s.put es)) (upd H1 p (.l ys)) []:=by
 obtain⟨o,h1,h2⟩:=Y8 g.len hi;obtain⟨p,xs,rfl,_⟩:=g.frame.own o s ds (mem_of_getElem? h2) hs;refine⟨p,h1,?_⟩;obtain⟨f,st⟩:=FR.mut g.frame h2 hs r;have e:=ye (E:=E1) (s.put es) h1;rw[<- e]at f st;refine⟨by simp[g.len],f,(g.st.weak (zC (sublist_append_right _ _))).trans st,g.pk.trans λj ds' q=>?_⟩;by_cases ej:i=j
 ·subst ej
  rw[hi]at q;cases q;have hlt:i<E1.length:=(qG.mp hi).1;exact⟨⟨es,by rw[getElem?_set_self hlt];rfl⟩,rfl⟩
 ·exact⟨⟨ds',by rw[getElem?_set_ne ej];exact q⟩,rfl⟩
def zB6{i:Nat}{s:Slot}(hl:E.length=O.length)(f:FR K mg M H (O.zip E))(h:E[i]?=some s)(hs:s≠.e):∃v,O[i]?=some (some v):=by
 obtain⟨o,h1,h2⟩:=wS hl h;cases s with
 |e=>exact absurd rfl hs|v d=>obtain⟨v,rfl,_⟩:=f.val o d h2;exact⟨v,h1⟩|own ds=>obtain⟨a,_,rfl,_⟩:=f.own o _ ds h2 rfl;exact⟨_,h1⟩|par ds=>obtain⟨a,_,rfl,_⟩:=f.own o _ ds h2 rfl;exact⟨_,h1⟩
def Yr:Option Slot->Bool
 |none=>true|some .e=>true|_=>false
def QG{o:Option Slot}(h:Yr o=false):∃s,o=some s/\s≠.e:=by
 cases o with
 |none=>cases h
 |some s=>cases s<;>simp[Yr]at h<;>exact⟨_,rfl,by intro q;cases q⟩
def ixS:Slot->Int->Option D
 | .own ds,i=>atI ds i| .par ds,i=>atI ds i| .v (.l ds),i=>atI ds i|_,_=>none
def zEQ(i:Nat)(m:ME):ME:=λE=>if Yr E[i]?=true then .z else match m E with
 | .z=>.z| .exc x E1=>.exc x E1
 | .ok (.v (.int k),E1)=>match E1[i]? with
  |some s=>match ixS s k with
   |some d=>.ok (.v d,E1)|none=>.z
  |none=>.z
 |_=>.z
def ixO_run{i:Nat}{m:ME}{Q:VK}(h:tM X (zEQ i m) O H Q):tOp (rIxL X.K) (Z0 i) (tM X m) O H Q:=by
 obtain⟨M,E,hl,fr,k⟩:=h;unfold zEQ at k;cases em:Yr E[i]? with
 |true=>rw[em]at k;exact k.elim
 |false =>
  rw[em]at k;obtain⟨s,hs1,hs2⟩:=QG em;obtain⟨v,hv⟩:=zB6 hl fr hs1 hs2;refine⟨v,hv,?_⟩;refine z0 (T0:=[]) hl fr ?_;simp only[Bool.false_eq_true,if_false]at k;cases ea:m E with
  |z=>rw[ea]at k;exact k|exc x E1=>rw[ea]at k;exact k
  |ok p =>
   obtain⟨r,E1⟩:=p;rw[ea]at k;cases r with
   |own ds=>exact k.elim
   |v d =>
    cases d with
    |int n =>
     intro y H' g;dsimp only at k;cases e1:E1[i]? with
     |none=>rw[e1]at k;exact k.elim
     |some s1 =>
      rw[e1]at k;dsimp only at k;cases e2:ixS s1 n with
      |none=>rw[e2]at k;exact k.elim
      |some d =>
       rw[e2]at k;have f:=g.frame;have fin:∀{w:V},Rep X.K X.mg (Hm (Mo M (O.zip E1)) H') d w->Q w H':=λ{w} rw'=>k w H' (g.more (T:=[(some w,.v d)]) (f.add rw') Step.refl.add)
       obtain⟨o,h1,h2⟩:=wS g.len e1;have ho:o=some v:=by rw[hv]at h1;exact(qJ h1).symm
       subst ho;have key:∀{ds:List D},s1.list?=some ds->atI ds n=some d->rIxL X.K v y H' Q:=λ{ds} hl1 ha=>by
        obtain⟨a,xs,ev,q1,_,q3⟩:=f.own _ s1 ds h2 hl1;cases ev;obtain⟨w,a1,a2⟩:=Zh q3 ha;exact⟨a,xs,n,w,rfl,zM g.rep,SqL.of q1,a1,fin a2⟩
       cases s1 with
       |e=>cases e2|own ds=>exact key rfl e2|par ds=>exact key rfl e2
       |v dd =>
        cases dd with
        |l ds =>
         obtain⟨v',ev,rr⟩:=f.val _ _ h2;cases ev;obtain⟨a,xs,rfl,q1,q2⟩:=zT rr;obtain⟨w,a1,a2⟩:=Zh q2 e2;exact⟨a,xs,n,w,rfl,zM g.rep,zK.seq q1,a1,fin a2⟩
        |_=>cases e2
    |_=>exact k.elim
def ok_ixO(i:Nat){x:Str}{b:Expr}{m:ME}{p pos:Pos}(hv:PE X (.Name x p) (Z0 i))(hb:EOk X b m)(hs:ve b):EOk X (.Subscript (.Name x p) b pos) (zEQ i m) :=
 zq (pe_ix zBh hv hb hs) λO H Q=>ixO_run
def ZQ(i:Nat)(mi mv:ME):MS:=λE=>if Yr E[i]?=true then .z else match mv E with
 | .z=>.z| .exc x E1=>.exc x E1
 | .ok (r,E1)=>match mi E1 with
  | .z=>.z| .exc x E2=>.exc x E2
  | .ok (.v (.int k),E2)=>match E2[i]? with
   |none=>.z
   |some s=>match s.list? with
    |none=>.z
    |some ds=>match ixN ds.length k with
     |none=>.z|some j=>.ok (.nx,E2.set i (s.put (ds.set j r.d)))
  |_=>.z
def zB7{i:Nat}{mi mv:ME}{D:Ends}(h:tS X (ZQ i mi mv) D O H):tAsg (tM X mv) (gSub (Z0 i) (tM X mi) rSetL) D O H:=by
 obtain⟨M,E,hl,fr,k⟩:=h;unfold ZQ at k;cases em:Yr E[i]? with
 |true=>rw[em]at k;exact k.elim
 |false =>
  rw[em]at k;obtain⟨s,hs1,hs2⟩:=QG em;obtain⟨v,hv⟩:=zB6 hl fr hs1 hs2;refine z0 (T0:=[]) hl fr ?_;simp only[Bool.false_eq_true,if_false]at k;cases ea:mv E with
  |z=>rw[ea]at k;exact k|exc x E1=>rw[ea]at k;exact λH' g=>k O H' g
  |ok p =>
   obtain⟨r,E1⟩:=p;rw[ea]at k;intro y H1 g1;refine⟨v,hv,?_⟩;refine z0 (T0:=[(some y,r.slot)]) g1.len g1.fr ?_;dsimp only at k;cases eb:mi E1 with
   |z=>rw[eb]at k;exact k|exc x E2=>rw[eb]at k;exact λH' g=>k O H' (g1.trans' g).dropAll
   |ok p =>
    obtain⟨r2,E2⟩:=p;rw[eb]at k;cases r2 with
    |own ds=>exact k.elim
    |v d =>
     cases d with
     |int n =>
      intro z H2 g2;have g:=g1.trans' g2;dsimp only at k;cases e1:E2[i]? with
      |none=>rw[e1]at k;exact k.elim
      |some s1 =>
       rw[e1]at k;dsimp only at k;cases e2:s1.list? with
       |none=>rw[e2]at k;exact k.elim
       |some ds =>
        rw[e2]at k;dsimp only at k;cases e3:ixN ds.length n with
        |none=>rw[e3]at k;exact k.elim
        |some j =>
         rw[e3]at k;have rp:=Got.reps (vs:=[z,y]) (rs:=[.v (.int n),r]) rfl g;simp only[List.map,Reps]at rp;obtain⟨z',_,q1,rz,y',_,q2,ry,_⟩:=rp;cases q1;cases q2;obtain⟨o,h1,h2⟩:=wS g.len e1;obtain⟨a,xs,ev,w1,_,w3⟩:=g.frame.own _ s1 ds h2 e2;subst ev;have ev:v=.ref a:=by rw[hv]at h1;exact qJ (qJ h1)
         subst ev;obtain⟨p,hp,g'⟩:=g.mut e1 e2 (w3.set j ry);have ep:p=a:=by rw[h1]at hp;cases hp;rfl
         subst ep;exact⟨p,xs,n,j,rfl,zM rz,w1,by rw[w3.length];exact e3,k O _ g'⟩
     |_=>exact k.elim
def zER(i:Nat){x:Str}{b e:Expr}{mi mv:ME}{p p1 pos:Pos}(hv:PE X (.Name x p) (Z0 i))(hb:EOk X b mi)(he:EOk X e mv)
  (ha:∀v,assign (.Subscript (.Name x p) b p1) X.env v=(do
   let ov <- holding [v] (eval (.Name x p) X.env)
   let iv <- holding [v,ov] (eval b X.env)
   standAt p1
   holding [v,ov,iv] (setItem ov iv v)
   release [v,ov,iv] []):=by intro _;rfl) (hs:swapsWithSole [.Subscript (.Name x p) b p1] e pos.line X.env=pure false:=by rfl):SOk X (.Assign [.Subscript (.Name x p) b p1] e pos) (ZQ i mi mv) :=
 yy (ps_asg he (pg_sub hv hb zD3 ha) hs) λD O H=>zB7
def sApp(i:Nat)(m:ME):MS:=λE=>match E[i]? with
 |none=>.z
 |some s0=>match s0.list? with
  |none=>.z
  |some _=>match m E with
   | .z=>.z| .exc x E1=>.exc x E1
   | .ok (r,E1)=>match E1[i]? with
    |none=>.z
    |some s=>match s.list? with
     |none=>.z|some ds=>if ds.length<cap then .ok (.nx,E1.set i (s.put (ds++[r.d])))else .z
def app_run{i:Nat}{m:ME}{D:Ends}(h:tS X (sApp i m) D O H):tDrop (tBM X.K "list" zBi (Z0 i) (zAn (tM X m) tNil)) D O H:=by
 obtain⟨M,E,hl,fr,k⟩:=h;unfold sApp at k;cases e0:E[i]? with
 |none=>rw[e0]at k;exact k.elim
 |some s0 =>
  rw[e0]at k;dsimp only at k;cases e00:s0.list? with
  |none=>rw[e00]at k;exact k.elim
  |some ds0 =>
   rw[e00]at k;obtain⟨o,h1,h2⟩:=wS hl e0;obtain⟨a,xs,ev,w1,_,w3⟩:=fr.own _ s0 ds0 h2 e00;subst ev;refine⟨.ref a,h1,.inl ⟨rfl,xs,SqL.of w1⟩,?_⟩;refine z0 (T0:=[]) hl fr ?_;dsimp only at k;cases ea:m E with
   |z=>rw[ea]at k;exact k|exc x E1=>rw[ea]at k;exact λH' g=>k O H' g
   |ok p =>
    obtain⟨r,E1⟩:=p;rw[ea]at k;intro y H1 g;dsimp only at k;cases e1:E1[i]? with
    |none=>rw[e1]at k;exact k.elim
    |some s =>
     rw[e1]at k;dsimp only at k;cases e2:s.list? with
     |none=>rw[e2]at k;exact k.elim
     |some ds =>
      rw[e2]at k;dsimp only at k;by_cases hc:ds.length<cap
      ·rw[if_pos hc]at k
       obtain⟨o,h1',h2'⟩:=wS g.len e1;obtain⟨a',ys,ev,q1,_,q3⟩:=g.frame.own _ s ds h2' e2;subst ev;have ea':a'=a:=by rw[h1]at h1';cases h1';rfl
       subst ea';obtain⟨p,hp,g'⟩:=g.mut e1 e2 (q3.append (Reps.cons g.rep Reps.nil));have ep:p=a':=by rw[h1]at hp;cases hp;rfl
       subst ep;exact⟨p,ys,y,rfl,rfl,q1,by rw[q3.length];exact lt_of_lt_of_le hc (wb (le_refl _)),k O _ g'⟩
      ·rw[if_neg hc]at k;exact k.elim
def sk_app(i:Nat){x:Str}{e:Expr}{m:ME}{p apos cpos pos:Pos}(hv:PE X (.Name x p) (Z0 i))(he:EOk X e m)
  (hbase:attributeBase (.Name x p) "append" X.env (eval (.Name x p) X.env)=eval (.Name x p) X.env:=by rfl)
  (hfew:((backTo cpos (starEach (e::[]) X.env)).all (λx=>!x.1)&&(backToKw cpos (keywordEach [] X.env)).all (λx=>x.1.isSome)
   && decide ((e::([]:List Expr)).length+([]:List Keyword).length+(if([]:List Keyword).isEmpty then 0 else 1)<30))=true:=by rfl)
  (hline:(apos.endLine==cpos.line)=true:=by rfl) (hs:starEach (e::[]) X.env=(false,eval e X.env)::starEach [] X.env:=by rfl) (hplain:(backTo cpos (starEach [] X.env)).any (·.1)=false:=by rfl)
  (hsw:swapsWith (.Call (.Attribute (.Name x p) "append" apos) [e] [] cpos) none pos.line X.env=pure false:=by rfl):SOk X (.Expr (.Call (.Attribute (.Name x p) "append" apos) [e] [] cpos) pos) (sApp i m) :=
 yy (G2 (pe_bm PySem.F.plainAttrs_list PySem.F.slot_list_append PySem.F.type_list_append Z6 hv (jC he YA hs) hbase hfew hline hs hplain) hsw) λD O H=>app_run
end
section
variable{X:Cx}{K:qH}{mg:Str->Option Value}{O:St}{M:Addr->Prop}{E:zN}{H:Hp}{T0 Z:Fz}
abbrev MG:=D->zN->Out zN
def GOk(X:Cx)(g:TG)(tg:MG):Prop:=∀(M:Addr->Prop) (O:St) (E:zN) (H:Hp) (T0:Fz) (x:V) (d:D) (E':zN) (Q:St->Hp->Prop),E.length=O.length->FR X.K X.mg M H ((some x,.v d)::(T0++O.zip E))->tg d E=.ok E' ->
 (∀O',Got X.K X.mg M O E H T0 O' E' H []->Q O' H)->g x O H Q
def gN(i:Nat):MG:=λd E=>Yg i (.v d) E
def go_name(i:Nat):GOk X (ud i) (gN i):=λM O E H T0 x d E' Q hl f e k =>
 k _ (WD (O1:=O) (E1:=E) (H1:=H) (r:=.v d) (v:=x) ⟨hl,f,Step.refl.add,PKp.refl⟩ e)
def gNs:List Nat->List D->zN->Out zN
 | [],[],E=>.ok E
 |i::is,d::ds,E=>match Yg i (.v d) E with
  | .ok E1=>gNs is ds E1|_=>.z
 |_,_,_=>.z
def gT(is:List Nat):MG:=λd E=>match d with
 | .t ds=>gNs is ds E|_=>.z
def WE:List Nat->TGs
 | []=>gNil|i::is=>gCons (ud i) (WE is)
theorem WF:∀(is:List Nat) (ds:List D) (xs:List V) {M:Addr->Prop} {O0 O:St} {E0 E E':zN} {H:Hp} {T0:Fz} {a:Addr} {ts:List D} {Q:St->Hp->Prop},
  Got X.K X.mg M O0 E0 H T0 O E H []->Reps X.K X.mg (Hm (Mo M (T0++O.zip E)) H) ds xs->gNs is ds E=.ok E'->(∀O',Got X.K X.mg M O0 E0 H T0 O' E' H []->Q O' H)->WE is xs O H Q
 | [],[],xs,M,O0,O,E0,E,E',H,T0,a,ts,Q,g,r,e,k=>by
  cases e;simp only[Reps]at r;exact⟨r,k O g⟩
 | [],d::ds,xs,M,O0,O,E0,E,E',H,T0,a,ts,Q,g,r,e,k=>by cases e|i::is,[],xs,M,O0,O,E0,E,E',H,T0,a,ts,Q,g,r,e,k=>by cases e
 |i::is,d::ds,xs,M,O0,O,E0,E,E',H,T0,a,ts,Q,g,r,e,k=>by
  simp only[Reps]at r;obtain⟨x,j9,rfl,rx,rr⟩:=r;simp only[gNs]at e;cases e1:Yg i (.v d) E with
  |z=>rw[e1]at e;cases e|exc _ _=>rw[e1]at e;cases e
  |ok E1 =>
   rw[e1]at e;refine⟨x,j9,rfl,?_⟩;have g1:Got X.K X.mg M O0 E0 H T0 O E H [(some x,R.slot (.v d))]:=⟨g.len,g.fr.add rx,g.st.add,g.pk⟩;have g2:=WD g1 e1;refine WF is ds j9 (a:=a) (ts:=ts) g2 (rr.mono ?_) e k;refine j5 (Yp λb hb=>?_);have st:=g2.fr
   -- the stored slot is a value: it yM nothing
   unfold Yg at e1;cases e2:E[i]? with
   |none=>rw[e2]at e1;cases e1
   |some sl =>
    rw[e2]at e1;have e3:E1=E.set i (.v d):=by cases sl<;>cases e1<;>rfl
    subst e3;have hi:i<E.length:=(qG.mp e2).1;have hz:i<(O.zip E).length:=by rw[List.length_zip];have:=g.len;omega
    rw[vi]at hb;rw[zW]at hb ⊢;rcases mem_append.mp hb with hb|hb
    ·exact mem_append_left _ hb
    ·refine qK _ ?_
     have:=zD (yF _ _ _ hz) b hb;rw[zy]at this;exact zC (List.eraseIdx_sublist _ _) b this
def go_tup{n:Nat}(is:List Nat)(hn:is.length=n):GOk X (gTup X.K n (WE is)) (gT is):=λM O E H T0 x d E' Q hl f e k=>by
 cases d with
 |t ds =>
  obtain⟨v,ev,r⟩:=f.val _ _ qE;cases ev;obtain⟨a,xs,rfl,h1,h2⟩:=ze r;rw[YB]at h2;have hlen:ds.length=is.length:=by
   have:∀(is:List Nat) (ds:List D) (E E':zN),gNs is ds E=.ok E'->ds.length=is.length:=by
    intro is
    induction is with
    |nil=>intro ds E E' h;cases ds with|nil=>rfl|cons d ds=>cases h
    |cons i is ih =>
     intro ds E E' h;cases ds with
     |nil=>cases h
     |cons d ds =>
      simp only[gNs]at h;cases e1:Yg i (.v d) E with
      |ok E1=>rw[e1]at h;simp[ih ds E1 E' h]|z=>rw[e1]at h;cases h|exc _ _=>rw[e1]at h;cases h
   exact this is ds E E' e
  refine⟨a,xs,rfl,yH zK h1,by rw[h2.length,hlen,hn],?_⟩;exact WF is ds xs (a:=a) (ts:=[]) (Got.refl hl f.tail) h2 e k
 |_=>cases e
def JN(tg:MG)(body:MS):List D->zN->Out (Fl×zN)
 | [],E=>.ok (.nx,E)
 |d::ds,E=>match tg d E with
  | .ok E1=>match body E1 with
   | .ok (.nx,E2)=>JN tg body ds E2| .ok (.ct,E2)=>JN tg body ds E2| .ok (.bk,E2)=>.ok (.nx,E2)| .ok (.ret r,E2)=>.ok (.ret r,E2)| .exc x E2=>.exc x E2| .z=>.z
  |_=>.z
def Fin(X:Cx)(M:Addr->Prop)(O:St)(E:zN)(H:Hp)(D:Ends)(o:Out (Fl×zN)):Prop:=match o with
 | .z=>False| .ok (.nx,E')=>∀O' H',Got X.K X.mg M O E H [] O' E' H' []->D.nx O' H'| .ok (.bk,E')=>∀O' H',Got X.K X.mg M O E H [] O' E' H' []->D.bk O' H'| .ok (.ct,E')=>∀O' H',Got X.K X.mg M O E H [] O' E' H' []->D.ct O' H'| .ok (.ret r,E')=>∀v O' H',Got X.K X.mg M O E H [] O' E' H' [(some v,r.slot)]->D.rt v H'| .exc x E'=>∀O' H',Got X.K X.mg M O E H [] O' E' H' []->XE X O' H' x
def Got.dropT{K:qH}{mg:Str->Option Value}{M:Addr->Prop}{O O1:St}{E E1:zN}{H H1:Hp}{T T':Fz}(a:Got K mg M O E H [] O1 E1 H1 (T++T')):Got K mg M O E H [] O1 E1 H1 T where
 len:=a.len
 fr:=a.fr.sub (by rw[append_assoc];exact(sublist_append_right _ _).append_left _)
 st:=a.st.weak (zC (by rw[append_assoc];exact(sublist_append_right _ _).append_left _))
 pk:=a.pk
def vn{tg:MG}{body:MS}{g:TG}{D:Ends}{d:DV.D}{ds:List DV.D}{O1:St}{E1:zN}{H1:Hp}{T:Fz}{x:V}{P:St->Hp->Prop}(hg:GOk X g tg)
  (g1:Got X.K X.mg M O E H [] O1 E1 H1 T) (rx:Rep X.K X.mg (Hm (Mo M (T++O1.zip E1)) H1) d x) (fin:Fin X M O E H D (JN tg body (d::ds) E1))
  (next:∀O2 E2 H2,Got X.K X.mg M O E H [] O2 E2 H2 T->Step M H1 (T++O1.zip E1) H2 (T++O2.zip E2)->Fin X M O E H D (JN tg body ds E2)->P O2 H2) :
  g x O1 H1 λO2 H2=>tS X body {D with nx:=P,ct:=P,bk:=D.nx} O2 H2:=by
 simp only[JN]at fin;cases e1:tg d E1 with
 |z=>rw[e1]at fin;exact fin.elim|exc _ _=>rw[e1]at fin;exact fin.elim
 |ok E2 =>
  rw[e1]at fin;dsimp only at fin;refine hg M O1 E1 H1 T x d E2 _ g1.len (g1.fr.add rx) e1 λO2 g2=>?_
  have g12:=g1.trans' g2;refine WC (T0:=T) g2.len g2.fr ?_;cases e2:body E2 with
  |z=>rw[e2]at fin;exact fin|exc y E3=>rw[e2]at fin;exact λO' H' g'=>fin O' H' (g12.trans' g').dropAll
  |ok p =>
   obtain⟨fl,E3⟩:=p;rw[e2]at fin;cases fl with
   |nx=>exact λO' H' g'=>next O' E3 H' (g12.trans' g') (g2.st.trans g'.st) fin|ct=>exact λO' H' g'=>next O' E3 H' (g12.trans' g') (g2.st.trans g'.st) fin|bk=>exact λO' H' g'=>fin O' H' (g12.trans' g').dropAll|ret r=>exact λv O' H' g'=>fin v O' H' (g12.trans' g').dropT
def sForL(m:ME)(tg:MG)(body:MS):MS:=λE=>match m E with
 | .z=>.z| .exc x E1=>.exc x E1
 | .ok (r,E1)=>match r.d with
  | .l ds=>JN tg body ds E1|_=>.z
def Qw{m:MS}{D:Ends}(h:tS X m D O H):∃M E,E.length=O.length/\FR X.K X.mg M H (O.zip E)/\Fin X M O E H D (m E):=h
def zES{m:ME}{tg:MG}{g:TG}{body:MS}{D:Ends}(hg:GOk X g tg)(h:tS X (sForL m tg body) D O H):tFor (iList X.K (tM X m)) g (tS X body) D O H:=by
 obtain⟨M,E,hl,fr,k⟩:=Qw h;unfold sForL at k;refine z0 (T0:=[]) hl fr ?_;cases ea:m E with
 |z=>rw[ea]at k;exact k|exc x E1=>rw[ea]at k;exact λH' g=>k O H' g
 |ok p =>
  obtain⟨r,E1⟩:=p;rw[ea]at k;intro v H1 g0;have g1:Got X.K X.mg M O E H [] O E1 H1 [(some v,.v r.d)]:=⟨g0.len,g0.fr.frz,g0.st.frz,g0.pk⟩;dsimp only at k;cases ed:r.d with
  |l ds =>
   rw[ed]at k g1;have rl:=g0.rep;rw[ed]at rl;obtain⟨a,xs,rfl,q1,q2⟩:=zT rl;refine⟨a,rfl,⟨xs,zK.seq q1⟩,?_⟩;have em:∀(O':St) (E':zN),Mo M ([(some (V.ref a),Slot.v (.l ds))]++O'.zip E')=Mo M (O'.zip E'):=λO' E'=>YB _ _ _ _
   refine zDx (K:=X.K) (a:=a) (xs:=xs) (λi O1 H2=>∃E2,Got X.K X.mg M O E H [] O1 E2 H2 [(some (.ref a),.v (.l ds))]/\SqL X.K (Hm (Mo M (O1.zip E2)) H2) a xs/\Reps X.K X.mg (Hm (Mo M (O1.zip E2)) H2) ds xs/\Fin X M O E H D (JN tg body (ds.drop i) E2))
    ⟨E1,g1,q1,q2,k⟩ (λi O' H' _ ⟨E2,_,q,_⟩=>zK.seq q) ?_ ?_
   ·rintro i x O1 H2 hx ⟨E2,g2,s2,r2,fin⟩
    obtain⟨d,hd,rx⟩:=r2.get hx;have ed:ds.drop i=d::ds.drop (i+1):=by
     obtain⟨hi,rfl⟩:=qG.mp hd;exact List.drop_eq_getElem_cons hi
    rw[ed]at fin;refine vn hg g2 (by rw[em];exact rx) fin λO3 E3 H3 g3 st fin3=>?_
    have sm:=st.same;rw[em,em]at sm;exact⟨E3,g3,sm.seq s2,r2.mono sm,fin3⟩
   ·rintro O1 H2 ⟨E2,g2,s2,r2,fin⟩
    rw[r2.length,drop_length]at fin;exact fin O1 H2 g2.dropAll
  |_=>rw[ed]at k;exact k.elim
def zF(lo:Int):Nat->List D
 |0=>[]|n+1=>.int lo::zF (lo+1) n
theorem yg(lo:Int):∀n,(zF lo n).length=n
 |0=>rfl|n+1=>by simp[zF,yg (lo+1) n]
theorem wv:∀(n i:Nat) (lo:Int),i<n->(zF lo n).drop i=.int (lo+i)::(zF lo n).drop (i+1)
 |0,_,_,h=>by omega|n+1,0,lo,_=>by simp[zF]
 |n+1,i+1,lo,h=>by
  have:=wv n i (lo+1) (by omega);simp only[zF,List.drop_succ_cons];rw[this];congr 2;omega
def sForR1(m:MA)(tg:MG)(body:MS):MS:=λE=>match m E with
 | .z=>.z| .exc x E1=>.exc x E1
 | .ok ([r],E1)=>match r.d with
  | .int j=>if -(2^62)<=j/\j<2^62 then JN tg body (zF 0 j.toNat) E1 else .z|_=>.z
 |_=>.z
def sForR2(m:MA)(tg:MG)(body:MS):MS:=λE=>match m E with
 | .z=>.z| .exc x E1=>.exc x E1
 | .ok ([r,r'],E1)=>match r.d,r'.d with
  | .int i,.int j=>if -(2^62)<=i/\i<2^62/\-(2^62)<=j/\j<2^62 then JN tg body (zF i (j-i).toNat) E1 else .z|_,_=>.z
 |_=>.z
def WG{tg:MG}{g:TG}{body:MS}{D:Ends}(hg:GOk X g tg){lo:Int}{n:Nat}{E1:zN}{H1:Hp}(g1:Got X.K X.mg M O E H [] O E1 H1 [])(fin:Fin X M O E H D (JN tg body (zF lo n) E1)) :
  ∃W:Nat->Nat->St->Hp->Prop,(∃m,W 0 m O H1)/\∀i m O H,W i m O H ->
   ((Itr lo n).stop i H/\D.nx O H)\/((Itr lo n).go i H/\∃N:St->Hp->Prop,(∀O' H',N O' H'->∃m',m'<m/\W (i+1) m' O' H')/\∀x H',(Itr lo n).yld i H x H'->g x O H' λO2 H2=>tS X body {D with nx:=N,ct:=N,bk:=D.nx} O2 H2):=by
 refine zBV (λi O1 H2=>∃E2,Got X.K X.mg M O E H [] O1 E2 H2 []/\Fin X M O E H D (JN tg body ((zF lo n).drop i) E2)) ⟨E1,g1,fin⟩ ?_ ?_
 ·rintro i O1 H2 hi ⟨E2,g2,fin⟩
  rw[wv n i lo hi]at fin;exact vn hg g2 (by simp only[Rep]) fin λO3 E3 H3 g3 st fin3=>⟨E3,g3,fin3⟩
 ·rintro O1 H2 ⟨E2,g2,fin⟩
  rw[List.drop_of_length_le (by rw[yg];exact le_refl _)]at fin;exact fin O1 H2 g2
def zB8{m:MA}{tg:MG}{g:TG}{body:MS}{D:Ends}(hg:GOk X g tg)(h:tS X (sForR1 m tg body) D O H):tFor (iRng1 (tMA X m)) g (tS X body) D O H:=by
 obtain⟨M,E,hl,fr,k⟩:=Qw h;unfold sForR1 at k;refine wt (T0:=[]) hl fr ?_;cases ea:m E with
 |z=>rw[ea]at k;exact k|exc x E1=>rw[ea]at k;exact λH' g=>k O H' g
 |ok p =>
  obtain⟨rs,E1⟩:=p;rw[ea]at k
  match rs,k with
  | [r],k =>
   intro vs H1 hv g1;have rp:=Got.reps hv g1;dsimp only at k;cases ed:r.d with
   |int j =>
    rw[ed]at k;simp only[List.map,ed]at rp;obtain⟨v,rfl,h1⟩:=Zc rp;dsimp only at k;by_cases hc:-(2^62)<=j/\j<2^62
    ·rw[if_pos hc]at k
     exact⟨j,by rw[zM h1],hc.1,hc.2,WG hg g1.dropAll k⟩
    ·rw[if_neg hc]at k;exact k.elim
   |_=>rw[ed]at k;exact k.elim
  | [],k=>exact k.elim|_::_::_,k=>exact k.elim
def zB9{m:MA}{tg:MG}{g:TG}{body:MS}{D:Ends}(hg:GOk X g tg)(h:tS X (sForR2 m tg body) D O H):tFor (iRng2 (tMA X m)) g (tS X body) D O H:=by
 obtain⟨M,E,hl,fr,k⟩:=Qw h;unfold sForR2 at k;refine wt (T0:=[]) hl fr ?_;cases ea:m E with
 |z=>rw[ea]at k;exact k|exc x E1=>rw[ea]at k;exact λH' g=>k O H' g
 |ok p =>
  obtain⟨rs,E1⟩:=p;rw[ea]at k
  match rs,k with
  | [r,r'],k =>
   intro vs H1 hv g1;have rp:=Got.reps hv g1;dsimp only at k;cases ed:r.d with
   |int i =>
    cases ed':r'.d with
    |int j =>
     rw[ed,ed']at k;simp only[List.map,ed,ed']at rp;obtain⟨v,w,rfl,h1,h2⟩:=reps2 rp;dsimp only at k;by_cases hc:-(2^62)<=i/\i<2^62/\-(2^62)<=j/\j<2^62
     ·rw[if_pos hc]at k
      exact⟨i,j,by rw[zM h1,zM h2],hc,WG hg g1.dropAll k⟩
     ·rw[if_neg hc]at k;exact k.elim
    |_=>rw[ed,ed']at k;exact k.elim
   |_=>rw[ed]at k;exact k.elim
  | [],k=>exact k.elim| [_],k=>exact k.elim|_::_::_::_,k=>exact k.elim
def sk_forL{tgt iter:Expr}{body:List Stmt}{m:ME}{g:TG}{tg:MG}{mb:MS}{pos:Pos}(hp:PassesOwn (model X.prog X.w) X.A X.env X.xe)(hc:X.calm=true)(hi:EOk X iter m)(hg:PG X tgt g)(ho:GOk X g tg)(hb:QE X body mb)
  (hs:∀x,foldedSetIterable iter X.env x=pure x:=by intro _;rfl):SOk X (.For tgt iter body [] pos) (sForL m tg mb):=yy (Qh hp hc (zBS hi) hg hb hs) λD O H=>zES ho
def zET{tgt a:Expr}{body:List Stmt}{m:MA}{g:TG}{tg:MG}{mb:MS}{p cpos pos:Pos}(hp:PassesOwn (model X.prog X.w) X.A X.env X.xe)(hc:X.calm=true)(hgl:Gl X "range")(hm:X.mg "range"=none)(ha:AOk X [a] m)(hg:PG X tgt g)(ho:GOk X g tg)(hb:QE X body mb)
  (hst:zH a=false:=by rfl) (hs:∀x,foldedSetIterable (.Call (.Name "range" p) [a] [] cpos) X.env x=pure x:=by intro _;rfl):SOk X (.For tgt (.Call (.Name "range" p) [a] [] cpos) body [] pos) (sForR1 m tg mb) :=
 yy (Qh hp hc (ue hgl hm ha (zAs hst)) hg hb hs) λD O H=>zB8 ho
def zEU{tgt a b:Expr}{body:List Stmt}{m:MA}{g:TG}{tg:MG}{mb:MS}{p cpos pos:Pos}(hp:PassesOwn (model X.prog X.w) X.A X.env X.xe)(hc:X.calm=true)(hgl:Gl X "range")(hm:X.mg "range"=none)(ha:AOk X [a,b] m)(hg:PG X tgt g)(ho:GOk X g tg)(hb:QE X body mb)
  (hst:zH a=false:=by rfl) (hst2:zH b=false:=by rfl) (hs:∀x,foldedSetIterable (.Call (.Name "range" p) [a,b] [] cpos) X.env x=pure x:=by intro _;rfl):SOk X (.For tgt (.Call (.Name "range" p) [a,b] [] cpos) body [] pos) (sForR2 m tg mb) :=
 yy (Qh hp hc (zBT hgl hm ha (star2 hst hst2) (zAs hst2)) hg hb hs) λD O H=>zB9 ho
end
section
variable{X:Cx}{K:qH}{mg:Str->Option Value}{O:St}{M:Addr->Prop}{E:zN}{H H':Hp}{T0 Z T:Fz}
def zEV{o:Option V}{s s':Slot}{ds:List D}(h:s.list?=some ds)(h':s'.list?=some ds):G8 (o,s')=G8 (o,s):=by
 cases s<;>simp[Slot.list?]at h<;>cases s'<;>simp[Slot.list?]at h'<;>(cases o with|none=>rfl|some v=>cases v<;>rfl)
def Zi{o:Option V}{s s':Slot}{ds:List D}(h:s.list?=some ds)(h':s'.list?=some ds):yM ((o,s')::Z)=yM ((o,s)::Z):=by
 unfold yM;rw[filterMap_cons,filterMap_cons,zEV h h']
def FR.lab{o:Option V}{s s':Slot}{ds:List D}(f:FR K mg M H ((o,s)::Z))(h:s.list?=some ds)(h':s'.list?=some ds):FR K mg M H ((o,s')::Z):=by
 have em:Mo M ((o,s')::Z)=Mo M ((o,s)::Z):=by unfold Mo;rw[Zi h h']
 refine⟨λo' d q=>?_,λo' t es q e=>?_,by rw[Zi h h'];exact f.nd,f.mal⟩
 ·rw[em]
  rcases mem_cons.mp q with q|q
  ·cases q;cases h'
  ·exact f.val o' d (qD _ q)
 ·rw[em]
  rcases mem_cons.mp q with q|q
  ·cases q
   rw[h']at e;cases e;exact f.own o s ds qE h
  ·exact f.own o' t es (qD _ q) e
def GB{o:Option V}{s1 s2:Slot}{i:Nat}(hi:Z[i]?=some (o,s2)):((o,s1)::(T++Z)).Perm ((o,s2)::(T++Z.set i (o,s1))):=by
 have hlt:i<Z.length:=(qG.mp hi).1;have p1:Z.Perm ((o,s2)::Z.eraseIdx i):=by
  have:=yF (o,s2) Z i hlt;rw[Zg hi]at this;exact this
 have p2:(Z.set i (o,s1)).Perm ((o,s1)::Z.eraseIdx i):=yF _ _ _ hlt;refine((p1.append_left T).cons _).trans ?_;refine List.Perm.trans ?_ ((p2.append_left T).cons _).symm;have a:(T++(o,s2)::Z.eraseIdx i).Perm ((o,s2)::(T++Z.eraseIdx i)):=perm_middle;have b:(T++(o,s1)::Z.eraseIdx i).Perm ((o,s1)::(T++Z.eraseIdx i)):=perm_middle;exact((a.cons _).trans (List.Perm.swap _ _ _)).trans (b.cons _).symm
inductive AR where
 |tmp (d:D)
 |ln (i:Nat)
 deriving Inhabited
def AR.slot:AR->Slot
 | .tmp d=>.v d| .ln _=>.e
def z9(vs:List V)(as:List AR):Fz:=(vs.map some).zip (as.map AR.slot)
def AV(O:St):List AR->List V->Prop
 | [],vs=>vs=[]| .tmp _::as,vs=>∃v r,vs=v::r/\AV O as r| .ln i::as,vs=>∃v r,vs=v::r/\O[i]?=some (some v)/\AV O as r
theorem AV.length:∀{as:List AR} {vs:List V},AV O as vs->vs.length=as.length
 | [],_,h=>by simp only[AV]at h;subst h;rfl| .tmp _::as,_,h=>by simp only[AV]at h;obtain⟨v,r,rfl,h⟩:=h;simp[AV.length h]| .ln i::as,_,h=>by simp only[AV]at h;obtain⟨v,r,rfl,_,h⟩:=h;simp[AV.length h]
def zI:List AR->zN->Out (List Slot×zN)
 | [],E=>.ok ([],E)
 | .tmp d::as,E=>match zI as E with
  | .ok (ss,E')=>.ok (.v d::ss,E')|_=>.z
 | .ln i::as,E=>match E[i]? with
  |none=>.z
  |some s=>match s.list? with
   |none=>.z
   |some ds=>match zI as (E.set i .e)with
    | .ok (ss,E')=>.ok (.par ds::ss,E')|_=>.z
def zJ:List AR->List Slot->zN->zN->Out zN
 | [],[],_,E=>.ok E| .tmp _::as,_::ss,E0,E=>zJ as ss E0 E
 | .ln i::as,s'::ss,E0,E=>match E0[i]? with
  |none=>.z
  |some s=>match s.list?,s'.list?,E[i]? with
   |some _,some ds,some .e=>zJ as ss E0 (E.set i (s.put ds))|_,_,_=>.z
 |_,_,_,_=>.z
theorem Y9:∀(as:List AR) {vs:List V} {E E':zN} {ss:List Slot} {T:Fz},E.length=O.length->AV O as vs->zI as E=.ok (ss,E')->FR K mg M H (T++(z9 vs as++O.zip E)) ->
  FR K mg M H (T++((vs.map some).zip ss++O.zip E'))/\(∀b,b∈yM (T++(z9 vs as++O.zip E))↔b∈yM (T++((vs.map some).zip ss++O.zip E')))/\ss.length=as.length/\E'.length=O.length
 | [],vs,E,E',ss,T,hl,av,e,f=>by
  cases e;simp only[AV]at av;subst av;exact⟨f,λb=>Iff.rfl,rfl,hl⟩
 | .tmp d::as,vs,E,E',ss,T,hl,av,e,f=>by
  simp only[AV]at av;obtain⟨v,r,rfl,av⟩:=av;simp only[zI]at e;cases e1:zI as E with
  |z=>rw[e1]at e;cases e|exc _ _=>rw[e1]at e;cases e
  |ok p =>
   obtain⟨ss1,E1⟩:=p;rw[e1]at e;cases e;have f1:FR K mg M H ((T++[(some v,.v d)])++(z9 r as++O.zip E)):=by
    rw[append_assoc];exact f
   obtain⟨g1,g2,g3,g4⟩:=Y9 as hl av e1 f1;refine⟨by rw[append_assoc]at g1;exact g1,λb=>?_,by simp[g3],g4⟩;have:=g2 b;rw[append_assoc,append_assoc]at this;exact this
 | .ln i::as,vs,E,E',ss,T,hl,av,e,f=>by
  simp only[AV]at av;obtain⟨v,r,rfl,hv,av⟩:=av;simp only[zI]at e;cases e0:E[i]? with
  |none=>rw[e0]at e;cases e
  |some s =>
   rw[e0]at e;dsimp only at e;cases e2:s.list? with
   |none=>rw[e2]at e;cases e
   |some ds =>
    rw[e2]at e;dsimp only at e;cases e1:zI as (E.set i .e)with
    |z=>rw[e1]at e;cases e|exc _ _=>rw[e1]at e;cases e
    |ok p =>
     obtain⟨ss1,E1⟩:=p;rw[e1]at e;cases e;obtain⟨o,h1,h2⟩:=Y8 hl e0;have ho:o=some v:=by rw[hv]at h1;exact(qJ h1).symm
     subst ho;have ez:O.zip (E.set i .e)=(O.zip E).set i (some v,.e):=ye .e hv;have pA:(T++(((some v,Slot.e)::z9 r as)++O.zip E)).Perm ((some v,s)::(T++(z9 r as++O.zip (E.set i .e)))):=by
      rw[ez];have a:(T++(((some v,Slot.e)::z9 r as)++O.zip E)).Perm ((some v,Slot.e)::((T++z9 r as)++O.zip E)):=by
       rw[append_assoc];exact perm_middle
      refine a.trans ((GB h2).trans ?_);rw[append_assoc]
     have f1:=(f.perm pA).lab e2 (s':=.par ds) rfl;have f2:FR K mg M H ((((some v,Slot.par ds))::T)++(z9 r as++O.zip (E.set i .e))):=f1;obtain⟨g1,g2,g3,g4⟩:=Y9 as (by simp[hl]) av e1 f2;have pB:(((some v,Slot.par ds)::T)++((r.map some).zip ss1++O.zip E')).Perm (T++(((some v,Slot.par ds)::(r.map some).zip ss1)++O.zip E')):=perm_middle.symm;refine⟨g1.perm pB,λb=>?_,by simp[g3],g4⟩;have x1:b∈yM (T++(((some v,Slot.e)::z9 r as)++O.zip E))↔b∈yM ((some v,s)::(T++(z9 r as++O.zip (E.set i .e)))):=(pA.filterMap G8).mem_iff;have x2:yM ((some v,Slot.par ds)::(T++(z9 r as++O.zip (E.set i .e))))=yM ((some v,s)::(T++(z9 r as++O.zip (E.set i .e)))):=Zi e2 rfl;have x3:=g2 b;have x4:b∈yM (((some v,Slot.par ds)::T)++((r.map some).zip ss1++O.zip E'))↔b∈yM (T++(((some v,Slot.par ds)::(r.map some).zip ss1)++O.zip E')):=(pB.filterMap G8).mem_iff;refine x1.trans ?_;rw[<- x2];exact x3.trans x4
theorem vo:∀(as:List AR) {vs:List V} {E0 E E':zN} {ss:List Slot} {T:Fz},E.length=O.length->AV O as vs->zJ as ss E0 E=.ok E'->FR K mg M H (T++((vs.map some).zip ss++O.zip E)) ->
  FR K mg M H (T++O.zip E')/\(∀b,b∈yM (T++O.zip E')->b∈yM (T++((vs.map some).zip ss++O.zip E)))/\E'.length=O.length
 | [],vs,E0,E,E',ss,T,hl,av,e,f=>by
  cases ss with
  |cons _ _=>cases e
  |nil =>
   cases e;simp only[AV]at av;subst av;exact⟨f,λb q=>q,hl⟩
 | .tmp d::as,vs,E0,E,E',ss,T,hl,av,e,f=>by
  simp only[AV]at av;obtain⟨v,r,rfl,av⟩:=av;cases ss with
  |nil=>cases e
  |cons s ss =>
   simp only[zJ]at e;have sub:(T++((r.map some).zip ss++O.zip E)).Sublist (T++(((some v,s)::(r.map some).zip ss)++O.zip E)):=(sublist_cons_self _ _).append_left _;obtain⟨g1,g2,g3⟩:=vo as hl av e (f.sub sub);exact⟨g1,λb q=>zC sub b (g2 b q),g3⟩
 | .ln i::as,vs,E0,E,E',ss,T,hl,av,e,f=>by
  simp only[AV]at av;obtain⟨v,r,rfl,hv,av⟩:=av;cases ss with
  |nil=>cases e
  |cons s' ss =>
   simp only[zJ]at e;cases e0:E0[i]? with
   |none=>rw[e0]at e;cases e
   |some s =>
    rw[e0]at e;dsimp only at e;cases e1:s.list? with
    |none=>rw[e1]at e;cases e
    |some ds0 =>
     cases e2:s'.list? with
     |none=>rw[e1,e2]at e;cases e
     |some ds =>
      cases e3:E[i]? with
      |none=>rw[e1,e2,e3]at e;cases e
      |some se =>
       rw[e1,e2,e3]at e;cases se with
       |e =>
        dsimp only at e;obtain⟨o,h1,h2⟩:=Y8 hl e3;have ho:o=some v:=by rw[hv]at h1;exact(qJ h1).symm
        subst ho;have ez:O.zip (E.set i (s.put ds))=(O.zip E).set i (some v,s.put ds):=ye _ hv;have hp:(s.put ds).list?=some ds:=(vm (p:=0) e1).2;have pA:(T++(((some v,s')::(r.map some).zip ss)++O.zip E)).Perm ((some v,s')::((T++(r.map some).zip ss)++O.zip E)):=by
         rw[append_assoc];exact perm_middle
        have f1:=(f.perm pA).lab e2 hp;have pB:((some v,s.put ds)::((T++(r.map some).zip ss)++O.zip E)).Perm ((some v,Slot.e)::((T++(r.map some).zip ss)++O.zip (E.set i (s.put ds)))):=by
         rw[ez];exact GB h2
        have f2:=(f1.perm pB).tail;rw[append_assoc]at f2;obtain⟨g1,g2,g3⟩:=vo as (by simp[hl]) av e f2;refine⟨g1,λb q=>?_,g3⟩;have q1:=g2 b q;rw[<- append_assoc]at q1;have q2:b∈yM ((some v,Slot.e)::((T++(r.map some).zip ss)++O.zip (E.set i (s.put ds)))):=zC (sublist_cons_self _ _) b q1;have q3:=zD pB.symm b q2;rw[Zi e2 hp]at q3;exact zD pA.symm b q3
       |_=>cases e
def QH:List AR->List Nat
 | []=>[]| .tmp _::as=>QH as| .ln i::as=>i::QH as
theorem vq:∀(as:List AR) {E E':zN} {ss:List Slot},zI as E=.ok (ss,E')->∀(k:Nat),k∉QH as->E'[k]?=E[k]?
 | [],E,E',ss,e,k,h=>by cases e;rfl
 | .tmp d::as,E,E',ss,e,k,h=>by
  simp only[zI]at e;cases e1:zI as E with
  |z=>rw[e1]at e;cases e|exc _ _=>rw[e1]at e;cases e
  |ok p =>
   obtain⟨ss1,E1⟩:=p;rw[e1]at e;cases e;exact vq as e1 k h
 | .ln i::as,E,E',ss,e,k,h=>by
  simp only[zI]at e;cases e0:E[i]? with
  |none=>rw[e0]at e;cases e
  |some s =>
   rw[e0]at e;dsimp only at e;cases e2:s.list? with
   |none=>rw[e2]at e;cases e
   |some ds =>
    rw[e2]at e;dsimp only at e;cases e1:zI as (E.set i .e)with
    |z=>rw[e1]at e;cases e|exc _ _=>rw[e1]at e;cases e
    |ok p =>
     obtain⟨ss1,E1⟩:=p;rw[e1]at e;cases e;simp only[QH,mem_cons,not_or]at h;rw[vq as e1 k h.2,getElem?_set_ne (λq=>h.1 q.symm)]
theorem Zj:∀(as:List AR) {E0 E E':zN} {ss:List Slot},zJ as ss E0 E=.ok E'->∀(k:Nat),E'[k]?=E[k]?\/∃(s:Slot) (ds:List D),E0[k]?=some s/\E'[k]?=some (s.put ds)
 | [],E0,E,E',ss,e,k=>by
  cases ss with
  |cons _ _=>cases e|nil=>cases e;exact .inl rfl
 | .tmp d::as,E0,E,E',ss,e,k=>by
  cases ss with
  |nil=>cases e|cons s ss=>exact Zj as e k
 | .ln i::as,E0,E,E',ss,e,k=>by
  cases ss with
  |nil=>cases e
  |cons s' ss =>
   simp only[zJ]at e;cases e0:E0[i]? with
   |none=>rw[e0]at e;cases e
   |some s =>
    rw[e0]at e;dsimp only at e;cases e1:s.list? with
    |none=>rw[e1]at e;cases e
    |some ds0 =>
     cases e2:s'.list? with
     |none=>rw[e1,e2]at e;cases e
     |some ds =>
      cases e3:E[i]? with
      |none=>rw[e1,e2,e3]at e;cases e
      |some se =>
       rw[e1,e2,e3]at e;cases se with
       |e =>
        dsimp only at e;rcases Zj as e k with q|q
        ·by_cases ek:i=k
         ·subst ek
          have hlt:i<E.length:=(qG.mp e3).1;rw[getElem?_set_self hlt]at q;exact .inr ⟨s,ds,e0,q⟩
         ·rw[getElem?_set_ne ek]at q
          exact .inl q
        ·exact .inr q
       |_=>cases e
theorem WH:∀(as:List AR) {E0 E E':zN} {ss:List Slot},zJ as ss E0 E=.ok E'->∀(k:Nat),k∈QH as->∃(s:Slot) (ds:List D),E0[k]?=some s/\E'[k]?=some (s.put ds)
 | [],E0,E,E',ss,e,k,h=>by cases h
 | .tmp d::as,E0,E,E',ss,e,k,h=>by
  cases ss with
  |nil=>cases e|cons s ss=>exact WH as e k h
 | .ln i::as,E0,E,E',ss,e,k,h=>by
  cases ss with
  |nil=>cases e
  |cons s' ss =>
   simp only[zJ]at e;cases e0:E0[i]? with
   |none=>rw[e0]at e;cases e
   |some s =>
    rw[e0]at e;dsimp only at e;cases e1:s.list? with
    |none=>rw[e1]at e;cases e
    |some ds0 =>
     cases e2:s'.list? with
     |none=>rw[e1,e2]at e;cases e
     |some ds =>
      cases e3:E[i]? with
      |none=>rw[e1,e2,e3]at e;cases e
      |some se =>
       rw[e1,e2,e3]at e;cases se with
       |e =>
        dsimp only at e;by_cases ek:i=k
        ·subst ek
         rcases Zj as e i with q|q
         ·have hlt:i<E.length:=(qG.mp e3).1
          rw[getElem?_set_self hlt]at q;exact⟨s,ds,e0,q⟩
         ·exact q
        ·simp only[QH,mem_cons]at h
         rcases h with h|h
         ·exact absurd h.symm ek
         ·exact WH as e k h
       |_=>cases e
def zCA{as:List AR}{E1 E2 E3:zN}{ss outs:List Slot}(h1:zI as E1=.ok (ss,E2))(h2:zJ as outs E1 E2=.ok E3):PKp O E1 O E3:=λk ds e=>by
 refine⟨?_,rfl⟩;by_cases hk:k∈QH as
 ·obtain⟨s,es,q1,q2⟩:=WH as h2 k hk
  rw[e]at q1;cases q1;exact⟨es,q2⟩
 ·rcases Zj as h2 k with q|⟨s,es,q1,q2⟩
  ·rw[q,vq as h1 k hk];exact⟨ds,e⟩
  ·rw[e]at q1;cases q1
   exact⟨es,q2⟩
abbrev MF:=List Slot->Out (R×List Slot)
def spM(K:qH)(mg:Str->Option Value)(n:Nat)(F:MF):Sp:=λvs H Q XQ=>vs.length=n/\∃(M:Addr->Prop) (ss:List Slot),ss.length=vs.length/\FR K mg M H ((vs.map some).zip ss)/\match F ss with
 | .z=>False| .ok (r,outs)=>∀v H',outs.length=vs.length->FR K mg M H' ((some v,r.slot)::(vs.map some).zip outs)->Step M H ((vs.map some).zip ss) H' ((some v,r.slot)::(vs.map some).zip outs)->Q v H'| .exc x _=>∀C od H',mg x.cls=some (.ref C)->Fs od H' x.cls x.vs->FR K mg M H' []->Step M H ((vs.map some).zip ss) H' []->XQ (.ref C) od H'
inductive Arg where
 |ev (m:ME)
 |lend (i:Nat)
def zh:List Arg->zN->Out (List AR×zN)
 | [],E=>.ok ([],E)
 | .ev m::as,E=>match m E with
  | .z=>.z| .exc x E1=>.exc x E1
  | .ok (r,E1)=>match zh as E1 with
   | .ok (ars,E2)=>.ok (.tmp r.d::ars,E2)| .exc x E2=>.exc x E2| .z=>.z
 | .lend i::as,E=>if Yr E[i]?=true then .z else match zh as E with
  | .ok (ars,E2)=>.ok (.ln i::ars,E2)| .exc x E2=>.exc x E2| .z=>.z
def zEW(X:Cx)(as:List Arg):TA:=λO H Q=>∃M E,E.length=O.length/\FR X.K X.mg M H (O.zip E)/\match zh as E with
 | .z=>False| .ok (ars,E')=>∀vs H',AV O ars vs->Got X.K X.mg M O E H [] O E' H' (z9 vs ars)->Q vs H'| .exc x E'=>∀H',Got X.K X.mg M O E H [] O E' H' []->XE X O H' x
abbrev zEX(X:Cx)(es:List Expr)(as:List Arg):Prop:=PA X es (zEW X as)
def WI{as:List Arg}{Q:List V->Hp->Prop}(hl:E.length=O.length)(h:FR X.K X.mg M H (T0++O.zip E))
  (k:match zh as E with | .z=>False | .ok (ars,E')=>∀vs H',AV O ars vs->Got X.K X.mg M O E H T0 O E' H' (z9 vs ars)->Q vs H' | .exc x E'=>∀H',Got X.K X.mg M O E H T0 O E' H' []->XE X O H' x):zEW X as O H Q:=by
 refine⟨Mo M T0,E,hl,h.inner,?_⟩;cases e:zh as E with
 |z=>rw[e]at k;exact k|ok a=>rw[e]at k;exact λvs H' av g=>k vs H' av (g.outer h)|exc x E'=>rw[e]at k;exact λH' g=>k H' (g.outer h)
def ga_nil:zEX X [] []:=ut YA λO H Q ⟨M,E,hl,fr,k⟩=>k [] H (by simp only[AV]) (Got.refl (T0:=[]) hl fr)
def ga_ev{e:Expr}{es:List Expr}{m:ME}{as:List Arg}(he:EOk X e m)(hr:zEX X es as)(hs:zH e=false:=by rfl):zEX X (e::es) (.ev m::as):=ut (jC he hr (zL hs)) λO H Q ⟨M,E,hl,fr,k⟩=>by
 simp only[zh]at k;refine z0 (T0:=[]) hl fr ?_;cases ea:m E with
 |z=>rw[ea]at k;exact k|exc x E1=>rw[ea]at k;exact k
 |ok p =>
  obtain⟨r1,E1⟩:=p;rw[ea]at k;intro x H1 g0;have g1:Got X.K X.mg M O E H [] O E1 H1 [(some x,.v r1.d)]:=⟨g0.len,g0.fr.frz,g0.st.frz,g0.pk⟩;refine WI (T0:=[(some x,.v r1.d)]) g1.len g1.fr ?_;dsimp only at k;cases eb:zh as E1 with
  |z=>rw[eb]at k;exact k|exc x E2=>rw[eb]at k;exact λH' g=>k H' (g1.trans' g).dropAll
  |ok p =>
   obtain⟨ars,E2⟩:=p;rw[eb]at k;intro vs H2 av g2;refine k (x::vs) H2 (by simp only[AV];exact⟨x,vs,rfl,av⟩) ?_;exact(g1.trans' g2).perm (perm_append_comm)
def ga_lend{x:Str}{p:Pos}{es:List Expr}{i:Nat}{as:List Arg}(hv:PE X (.Name x p) (Z0 i))(hr:zEX X es as)  : zEX X (.Name x p::es) (.lend i::as):=ut (jC hv hr (zL rfl)) λO H Q ⟨M,E,hl,fr,k⟩=>by
 simp only[zh]at k;cases em:Yr E[i]? with
 |true=>rw[em]at k;exact k.elim
 |false =>
  rw[em]at k;simp only[Bool.false_eq_true,if_false]at k;obtain⟨s,hs1,hs2⟩:=QG em;obtain⟨v,hv⟩:=zB6 hl fr hs1 hs2;refine⟨v,hv,?_⟩;refine WI (T0:=[]) hl fr ?_;cases eb:zh as E with
  |z=>rw[eb]at k;exact k|exc x E2=>rw[eb]at k;exact k
  |ok p =>
   obtain⟨ars,E2⟩:=p;rw[eb]at k;intro vs H2 av g2;refine k (v::vs) H2 (by simp only[AV];exact⟨v,vs,rfl,hv,av⟩) ?_;have em2:Mo M ((some v,Slot.e)::(z9 vs ars++([]++O.zip E2)))=Mo M (z9 vs ars++([]++O.zip E2)):=zBv _ _ _;refine⟨g2.len,⟨λo d q=>?_,λo t ds q e=>?_,?_,g2.fr.mal⟩,⟨?_,g2.st.keep⟩,g2.pk⟩
   ·show ∃v',_/\Rep X.K X.mg (Hm (Mo M ((some v,Slot.e)::(z9 vs ars++([]++O.zip E2)))) H2) d v'
    rw[em2];rcases mem_cons.mp q with q|q
    ·cases q
    ·exact g2.fr.val o d q
   ·show ∃a xs,_/\_/\_/\Reps X.K X.mg (Hm (Mo M ((some v,Slot.e)::(z9 vs ars++([]++O.zip E2)))) H2) ds xs
    rw[em2];rcases mem_cons.mp q with q|q
    ·cases q;cases e
    ·exact g2.fr.own o t ds q e
   ·show(yM ((some v,Slot.e)::(z9 vs ars++([]++O.zip E2)))).Nodup
    rw[yQ];exact g2.fr.nd
   ·show Za _ (Hm (Mo M ((some v,Slot.e)::(z9 vs ars++([]++O.zip E2)))) H2)
    rw[em2];exact g2.st.same
def Ys:List AR->Bool
 | []=>true| .tmp _::as=>Ys as| .ln _::_=>false
theorem vM:∀{as:List AR} {E E':zN} {ss:List Slot},Ys as=true->zI as E=.ok (ss,E')->E'=E
 | [],E,E',ss,_,e=>by cases e;rfl
 | .tmp d::as,E,E',ss,h,e=>by
  simp only[zI]at e;cases q:zI as E with
  |z=>rw[q]at e;cases e|exc _ _=>rw[q]at e;cases e|ok p=>obtain⟨s1,E1⟩:=p;rw[q]at e;cases e;exact vM (as:=as) h q
 | .ln i::as,E,E',ss,h,e=>by cases h
def yp(F:MF)(as:List Arg):ME:=λE=>match zh as E with
 | .z=>.z| .exc x E1=>.exc x E1
 | .ok (ars,E1)=>match zI ars E1 with
  | .ok (ss,E2)=>match F ss with
   | .ok (r,outs)=>match zJ ars outs E1 E2 with
    | .ok E3=>.ok (r,E3)|_=>.z
   | .exc x _=>if Ys ars=true then .exc ⟨x.cls,false,x.vs⟩ E1 else .z| .z=>.z
  |_=>.z
def zEY{F:MF}{n:Nat}{ars:List AR}{E1 E2 E3:zN}{ss outs:List Slot}{r:R}{vs:List V}{H1:Hp}{Q:VK}{XQ:XK}(hn:ars.length=n)(e1:zI ars E1=.ok (ss,E2))(e2:F ss=.ok (r,outs))(e3:zJ ars outs E1 E2=.ok E3)
  (av:AV O ars vs) (g:Got K mg M O E H [] O E1 H1 (z9 vs ars)) (k:∀v H',Got K mg M O E H [] O E3 H' [(some v,r.slot)]->Q v H'):spM K mg n F vs H1 Q XQ:=by
 obtain⟨f1,o1,l1,l2⟩:=Y9 (T:=[]) ars g.len av e1 g.fr;have f1':FR K mg M H1 (O.zip E2++(vs.map some).zip ss):=FR.perm (T:=O.zip E2++(vs.map some).zip ss) (Z:=(vs.map some).zip ss++O.zip E2) f1 perm_append_comm;have hlen:=av.length;refine⟨hlen.trans hn,Mo M (O.zip E2),ss,l1.trans hlen.symm,f1'.inner,?_⟩;rw[e2];intro v H' ol f2 s2;have f3:=FR.outer f1' f2 s2;have s3:=Step.outer s2;have p:(O.zip E2++((some v,r.slot)::(vs.map some).zip outs)).Perm ([(some v,r.slot)]++((vs.map some).zip outs++O.zip E2)):=by
  refine perm_append_comm.trans ?_;exact List.Perm.refl _
 obtain⟨f4,o4,l4⟩:=vo ars l2 av e3 (f3.perm p);refine k v H' ⟨l4,f4,?_,g.pk.trans (zCA e1 e3)⟩;have st1:Step M H (O.zip E) H1 (O.zip E2++(vs.map some).zip ss):=g.st.weak λb hb=>(o1 b).mpr (zD (T:=O.zip E2++(vs.map some).zip ss) (Z:=(vs.map some).zip ss++O.zip E2) perm_append_comm b hb)
 have st2:=st1.trans s3;exact st2.weak λb hb=>zD p.symm b (o4 b hb)
def zEZ{F:MF}{n:Nat}{ars:List AR}{E1 E2:zN}{ss outs:List Slot}{x:Exn}{vs:List V}{H1:Hp}{Q:VK}{XQ:XK}(hn:ars.length=n)(hl:Ys ars=true)(e1:zI ars E1=.ok (ss,E2))(e2:F ss=.exc x outs)
  (av:AV O ars vs) (g:Got K mg M O E H [] O E1 H1 (z9 vs ars)) (k:∀C od H',mg x.cls=some (.ref C)->Fs od H' x.cls x.vs->Got K mg M O E H [] O E1 H' []->XQ (.ref C) od H'):spM K mg n F vs H1 Q XQ:=by
 obtain⟨f1,o1,l1,l2⟩:=Y9 (T:=[]) ars g.len av e1 g.fr;have f1':FR K mg M H1 (O.zip E2++(vs.map some).zip ss):=FR.perm (T:=O.zip E2++(vs.map some).zip ss) (Z:=(vs.map some).zip ss++O.zip E2) f1 perm_append_comm;have hlen:=av.length;refine⟨hlen.trans hn,Mo M (O.zip E2),ss,l1.trans hlen.symm,f1'.inner,?_⟩;rw[e2];intro C od H' hm hf f2 s2;have f3:=FR.outer f1' f2 s2;have s3:=Step.outer s2;rw[append_nil]at f3 s3;have st1:Step M H (O.zip E) H1 (O.zip E2++(vs.map some).zip ss):=g.st.weak λb hb=>(o1 b).mpr (zD (T:=O.zip E2++(vs.map some).zip ss) (Z:=(vs.map some).zip ss++O.zip E2) perm_append_comm b hb)
 obtain rfl:=vM hl e1;exact k C od H' hm hf ⟨g.len,f3,st1.trans s3,g.pk⟩
theorem jv:∀(as:List Arg) {E E':zN} {ars:List AR},zh as E=.ok (ars,E')->ars.length=as.length
 | [],E,E',ars,e=>by cases e;rfl
 | .ev m::as,E,E',ars,e=>by
  simp only[zh]at e;cases ea:m E with
  |z=>rw[ea]at e;cases e|exc _ _=>rw[ea]at e;cases e
  |ok p =>
   obtain⟨r,E1⟩:=p;rw[ea]at e;dsimp only at e;cases eb:zh as E1 with
   |z=>rw[eb]at e;cases e|exc _ _=>rw[eb]at e;cases e|ok p=>obtain⟨a,b⟩:=p;rw[eb]at e;cases e;simp[jv as eb]
 | .lend i::as,E,E',ars,e=>by
  simp only[zh]at e;split at e
  ·cases e
  ·cases eb:zh as E with
   |z=>rw[eb]at e;cases e|exc _ _=>rw[eb]at e;cases e|ok p=>obtain⟨a,b⟩:=p;rw[eb]at e;cases e;simp[jv as eb]
def Qx{F:MF}{n:Nat}{as:List Arg}{Q:VK}(hn:as.length=n)(h:tM X (yp F as) O H Q):zEW X as O H λvs H1=>spM X.K X.mg n F vs H1 Q (EX X O):=by
 obtain⟨M,E,hl,fr,k⟩:=h;unfold yp at k;refine WI (T0:=[]) hl fr ?_;cases ea:zh as E with
 |z=>rw[ea]at k;exact k|exc x E1=>rw[ea]at k;exact k
 |ok p =>
  obtain⟨ars,E1⟩:=p;rw[ea]at k;intro vs H1 av g;dsimp only at k;cases e1:zI ars E1 with
  |z=>rw[e1]at k;exact k.elim|exc _ _=>rw[e1]at k;exact k.elim
  |ok p =>
   obtain⟨ss,E2⟩:=p;rw[e1]at k;dsimp only at k;cases e2:F ss with
   |z=>rw[e2]at k;exact k.elim
   |exc x o =>
    rw[e2]at k;dsimp only at k;cases hl:Ys ars with
    |false=>rw[hl]at k;exact k.elim
    |true =>
     rw[hl]at k;exact zEZ ((jv as ea).trans hn) hl e1 e2 av g λC od H' hm hf g'=>⟨⟨x.cls,false,x.vs⟩,C,rfl,hm,rfl,hf,k H' g'⟩
   |ok p =>
    obtain⟨r,outs⟩:=p;rw[e2]at k;dsimp only at k;cases e3:zJ ars outs E1 E2 with
    |z=>rw[e3]at k;exact k.elim|exc _ _=>rw[e3]at k;exact k.elim
    |ok E3 =>
     rw[e3]at k;exact zEY ((jv as ea).trans hn) e1 e2 e3 av g k
inductive Mask:Fz->Fz->Prop
 |nil (Z:Fz):Mask Z []
 |keep {z:Option V×Slot} {Z W:Fz}:Mask Z W->Mask (z::Z) (z::W)
 |skip {z:Option V×Slot} {Z W:Fz}:Mask Z W->Mask (z::Z) W
 |extra {o:Option V} {Z W:Fz}:Mask Z W->Mask Z ((o,.e)::W)
def Mask.emq{z:Option V×Slot}{o:Option V}{Z W:Fz}(h:Mask Z W):Mask (z::Z) ((o,.e)::W):=.skip (.extra h)
theorem Mask.sub:∀{Z W:Fz},Mask Z W->(yM W).Sublist (yM Z)
 |_,_,.nil Z=>by simp[yM]
 |_,_,.keep (z:=z) (Z:=Z) (W:=W) h=>by
  have e:∀W:Fz,yM (z::W)=yM [z]++yM W:=λW=>zW [z] W
  rw[e Z,e W];exact h.sub.append_left _
 |_,_,.skip (z:=z) (Z:=Z) (W:=W) h=>by
  have e:∀W:Fz,yM (z::W)=yM [z]++yM W:=λW=>zW [z] W
  rw[e Z];exact h.sub.trans (sublist_append_right _ _)
 |_,_,.extra (Z:=Z) (W:=W) h=>by
  rw[yQ];exact h.sub
theorem Mask.mem:∀{Z W:Fz},Mask Z W->∀o s,s≠Slot.e->(o,s)∈W->(o,s)∈Z
 |_,_,.nil Z,o,s,hs,h=>by cases h
 |_,_,.keep h,o,s,hs,q=>by
  rcases mem_cons.mp q with q|q
  ·subst q;exact qE
  ·exact qD _ (h.mem o s hs q)
 |_,_,.skip h,o,s,hs,q=>qD _ (h.mem o s hs q)
 |_,_,.extra h,o,s,hs,q=>by
  rcases mem_cons.mp q with q|q
  ·cases q;exact absurd rfl hs
  ·exact h.mem o s hs q
def FR.mask{Z W:Fz}(f:FR K mg M H Z)(h:Mask Z W):FR K mg M H W where
 val:=λo d q=>by
  obtain⟨v,e,r⟩:=f.val o d (h.mem o _ (by intro z;cases z) q);exact⟨v,e,r.mono (j5 (Yp λb hb=>h.sub.subset hb))⟩
 own:=λo s ds q e=>by
  obtain⟨a,xs,e1,e2,e3,r⟩:=f.own o s ds (h.mem o s (by intro z;subst z;cases e) q) e;exact⟨a,xs,e1,e2,e3,r.mono (j5 (Yp λb hb=>h.sub.subset hb))⟩
 nd:=f.nd.sublist h.sub
 mal:=f.mal
def zw:List Slot->zN->List Slot
 | [],_=>[]| .par _::ss,s::E=>s::zw ss E|_::ss,_::E=>.e::zw ss E|_::ss,[]=>.e::zw ss []
def fnM(N:Nat)(body:MS):MF:=λss=>match body (ss++replicate (N-ss.length) .e)with
 | .ok (.ret r,E')=>.ok (r,zw ss E')| .ok (.nx,E')=>.ok (.v .non,zw ss E')| .exc x E'=>.exc x (zw ss E')|_=>.z
theorem zr:∀(ss:List Slot) (E:zN),(zw ss E).length=ss.length
 | [],_=>rfl| .par _::ss,s::E=>by simp[zw,zr ss E]| .e::ss,s::E=>by simp[zw,zr ss E]| .v _::ss,s::E=>by simp[zw,zr ss E]| .own _::ss,s::E=>by simp[zw,zr ss E]| .par _::ss,[]=>by simp[zw,zr ss []]| .e::ss,[]=>by simp[zw,zr ss []]| .v _::ss,[]=>by simp[zw,zr ss []]| .own _::ss,[]=>by simp[zw,zr ss []]
theorem Yt:∀(ss:List Slot) (vs:List (Option V)) (O:St) (E:zN),E.length=O.length->vs.length=ss.length->(∀(i:Nat) ds,ss[i]?=some (.par ds)->O[i]?=vs[i]?)->Mask (O.zip E) (vs.zip (zw ss E))
 | [],vs,O,E,_,_,_=>by
  simp only[zw,List.zip_nil_right];exact .nil _
 |s::ss,[],O,E,_,h,_=>by simp at h|s::ss,v::vs,[],y::E,h,_,_=>by simp at h|s::ss,v::vs,x::O,[],h,_,_=>by simp at h
 |s::ss,v::vs,[],[],h1,h2,h4=>by
  have ih:=Yt ss vs [] [] rfl (by simpa using h2) λi ds e=>by
   have:=h4 (i+1) ds (by simpa using e);simpa using this
  cases s<;>exact .extra ih
 |s::ss,v::vs,x::O,y::E,h1,h2,h4=>by
  have ih:=Yt ss vs O E (by simpa using h1) (by simpa using h2) λi ds e=>by
   have:=h4 (i+1) ds (by simpa using e);simpa using this
  cases s with
  |par ds =>
   have e:=h4 0 ds rfl;simp at e;subst e;simp only[zw,zip_cons_cons];exact .keep ih
  |e=>simp only[zw,zip_cons_cons];exact .emq ih|v d=>simp only[zw,zip_cons_cons];exact .emq ih|own ds=>simp only[zw,zip_cons_cons];exact .emq ih
theorem vt:∀n:Nat,(replicate n (none:Option V)).zip (replicate n Slot.e)=replicate n (none,Slot.e)
 |0=>rfl|n+1=>by simp[replicate_succ,vt n]
def vv(n:Nat):yM (replicate n ((none:Option V),Slot.e))=[]:=by
 induction n with
 |zero=>rfl|succ n ih=>rw[replicate_succ,yQ,ih]
def FR.emps(f:FR K mg M H Z)(n:Nat):FR K mg M H (Z++replicate n (none,.e)):=by
 have eo:yM (Z++replicate n (none,Slot.e))=yM Z:=by rw[zW,vv,append_nil]
 have em:Mo M (Z++replicate n (none,Slot.e))=Mo M Z:=by unfold Mo;rw[eo]
 refine⟨λo d q=>?_,λo s ds q e=>?_,by rw[eo];exact f.nd,f.mal⟩
 ·rw[em]
  rcases mem_append.mp q with q|q
  ·exact f.val o d q
  ·have:=List.eq_of_mem_replicate q;cases this
 ·rw[em]
  rcases mem_append.mp q with q|q
  ·exact f.own o s ds q e
  ·have:=List.eq_of_mem_replicate q;cases this;cases e
def body_ok{N:List Str}{n:Nat}{body:MS}{vs:List V}{Q:VK}{XQ:XK}(hx:∀x O' H',(∀C od,X.mg x.cls=some (.ref C)->Fs od H' x.cls x.vs->XQ (.ref C) od H')->XE X O' H' x)(h:spM X.K X.mg n (fnM N.length body) vs H Q XQ):tS X body {nx:=λ_ H'=>Q .non H',rt:=Q} (L2.wk N vs) H:=by
 obtain⟨hv,M,ss,hl,f,k⟩:=h;have e0:(L2.wk N vs).zip (ss++replicate (N.length-ss.length) Slot.e)=(vs.map some).zip ss++replicate (N.length-ss.length) (none,.e):=by
  unfold L2.wk;rw[zip_append (by simp[hl]),hl,vt]
 have hE:(ss++replicate (N.length-ss.length) Slot.e).length=(L2.wk N vs).length:=by
  unfold L2.wk;simp[hl]
 have f0:FR X.K X.mg M H ((L2.wk N vs).zip (ss++replicate (N.length-ss.length) Slot.e)):=by rw[e0];exact f.emps _
 have eo:∀b,b∈yM ((L2.wk N vs).zip (ss++replicate (N.length-ss.length) Slot.e))->b∈yM ((vs.map some).zip ss):=λb hb=>by
  rw[e0,zW,vv,append_nil]at hb;exact hb
 refine⟨M,ss++replicate (N.length-ss.length) Slot.e,hE,f0,?_⟩;unfold fnM at k;have fin:∀{O':St} {E':zN} {H':Hp} {v:V} {r:R},Got X.K X.mg M (L2.wk N vs) (ss++replicate (N.length-ss.length) Slot.e) H [] O' E' H' [(some v,r.slot)] ->
   (∀v H',(zw ss E').length=vs.length->FR X.K X.mg M H' ((some v,r.slot)::(vs.map some).zip (zw ss E'))->Step M H ((vs.map some).zip ss) H' ((some v,r.slot)::(vs.map some).zip (zw ss E'))->Q v H')->Q v H':=λ{O' E' H' v r} g kk=>by
  have mk:Mask (O'.zip E') ((vs.map some).zip (zw ss E')):=Yt ss _ O' E' g.len (by simp[hl]) λi ds e=>by
   have hi:i<ss.length:=(qG.mp e).1;have e1:(ss++replicate (N.length-ss.length) Slot.e)[i]?=some (.par ds):=by rw[getElem?_append_left hi];exact e
   have:=(g.pk i ds e1).2;rw[this];unfold L2.wk;rw[getElem?_append_left (by simp;omega)]
  refine kk v H' (by rw[zr,hl]) (g.fr.mask (.keep mk)) ?_;exact(g.st.weak λb hb=>(Mask.keep mk).sub.subset hb).left eo
 cases eb:body (ss++replicate (N.length-ss.length) Slot.e)with
 |z=>rw[eb]at k;exact k
 |exc x E' =>
  rw[eb]at k;intro O' H' g;refine hx x O' H' λC od hm hf=>k C od H' hm hf (g.fr.sub (List.nil_sublist _)) ?_
  exact(g.st.weak λb hb=>by cases hb).left eo
 |ok p =>
  obtain⟨fl,E'⟩:=p;rw[eb]at k;cases fl with
  |bk=>exact k.elim|ct=>exact k.elim|ret r=>exact λv O' H' g=>fin g k|nx=>exact λO' H' g=>fin (r:=.v .non) (g.flat (d:=.non) rfl) k
end
section
variable{P:Program}{w:World}{K:qH}{mg:Str->Option Value}{base:Heap}
def fn_ok{c:Bool}{x qual:Str}{st:Stmt}{f:Addr}{fd:FuncData}{N ps:List Str}{k:Nat}{body:MS}(F:Fun K x qual st f fd)(S:FnScope N ps (zZ st))
  (hb:∀(cdv:Value) (A:Around) (outer:List Env) (s:Shared) (H:Hp) (E:XK),(c=true->A.handled=none)->RoomN k (A.deeper (PyProof.Rows.envOfC qual (zZ st) s.heap.objs.size f cdv)) ->
   QE (cxN c P w K mg base N qual (zZ st) f cdv A outer s H E) (yu st) body):FnOkN c P w K mg base (k+1) f fd ps (spM K mg ps.length (fnM N.length body)):=by
 obtain⟨oc,od,kV,doc,pm,an,cdv,ct,osl,rfl,lk,hcd⟩:=F.ex;exact zFl lk hcd S (λvs H Q E h=>h.1) λA outer s H vs Q E hd hr h=>⟨_,hb cdv A outer s H E hd hr,body_ok (X:=cxN c P w K mg base N qual (zZ st) f cdv A outer s H E) (λx O' H' hE=>zD7 hE) h⟩
end
section
variable{X:Cx}{k:Nat}{f:Addr}{fd:FuncData}{ps:List Str}{F:MF}{x:Str}{p pos:Pos}{e:Expr}{es:List Expr}{as:List Arg}
def ok_call{c:Bool}(G:FnOkN c X.prog X.w X.K X.mg X.base k f fd ps (spM X.K X.mg ps.length F))(hd:c=true->X.A.handled=none)(hr:RoomN k X.A)(hg:Gl X x)(hm:X.mg x=some (.ref f))(hk:keepIn X.K (.ref f)=true)(hb:JP X.K fd ps [])(ha:zEX X (e::es) as)(hn:as.length=ps.length:=by rfl)
  (hdb:(x==("__debug__":Str))=false:=by decide) (he:zH e=false:=by rfl) (hpl:yG es=true:=by rfl):EOk X (.Call (.Name x p) (e::es) [] pos) (yp F as) :=
 zq (zD6 G hd hr hg hm hk hb ha hdb (zL he) (jF hpl)) λO H Q=>Qx hn
end
section
variable{X:Cx}{O:St}{H:Hp}
def zEa{fe e:Expr}{es:List Expr}{pos:Pos}{tf:TE}{ta:TA}(hf:PE X fe tf)(ha:PA X (e::es) ta)
  (hc:eval (.Call fe (e::es) [] pos) X.env=(do callWith pos (<- eval fe X.env) [] (backTo pos (starEach (e::es) X.env)) (backToKw pos (keywordEach [] X.env))):=by rfl)
  (he:zH e=false:=by rfl) (hpl:yG es=true:=by rfl) :
  PE X (.Call fe (e::es) [] pos) (λO H Q=>tf O H λv H1=>∃f fd ps k sp,v=.ref f/\keepIn X.K (.ref f)=true/\(∃c,FnOkN c X.prog X.w X.K X.mg X.base k f fd ps sp/\(c=true->X.A.handled=none))/\RoomN k X.A/\JP X.K fd ps []/\ta O H1 λvs H2=>sp vs H2 Q (EX X O)):=by
 intro pins s O H Q I h;refine PyProof.Rows.Call_ (thn (hf pins s O H _ I h) λv s1 ⟨x,H1,I1,r1,f,fd,ps,k,sp,ex,hk,⟨c,G,hd⟩,hr,hb,q⟩=>?_) hc;subst ex;cases r1;refine callWith_K (h₀:=X.base) I1.ok.mod.kin hk (thn (ha pos pins s1 O H1 _ I1 q) λus s2 ⟨vs,H2,I2,r,q⟩=>⟨I2.kIn,?_⟩) (zL he) (jF hpl);exact zBp G hd hr hb I2 r q
def zAv(X:Cx)(n:Nat)(tab:Str->Option MF):Prop:=∀x F,tab x=some F->∃f fd ps k,X.mg x=some (.ref f)/\keepIn X.K (.ref f)=true/\(∃c,FnOkN c X.prog X.w X.K X.mg X.base k f fd ps (spM X.K X.mg n F)/\(c=true->X.A.handled=none))/\RoomN k X.A/\JP X.K fd ps []
def WJ(tab:Str->Option MF)(mf:ME)(as:List Arg):ME:=λE=>match mf E with
 | .z=>.z| .exc x E1=>.exc x E1
 | .ok (.v (.fn x),E1)=>match tab x with
  |some F=>yp F as E1|none=>.z
 |_=>.z
def zCB{tab:Str->Option MF}{mf:ME}{as:List Arg}{n:Nat}{Q:VK}(ht:zAv X n tab)(hn:as.length=n)(h:tM X (WJ tab mf as) O H Q) :
  tM X mf O H λv H1=>∃f fd ps k sp,v=.ref f/\keepIn X.K (.ref f)=true/\(∃c,FnOkN c X.prog X.w X.K X.mg X.base k f fd ps sp/\(c=true->X.A.handled=none))/\RoomN k X.A/\JP X.K fd ps []/\zEW X as O H1 λvs H2=>sp vs H2 Q (EX X O):=by
 obtain⟨M,E,hl,fr,k⟩:=h;unfold WJ at k;refine z0 (T0:=[]) hl fr ?_;cases ea:mf E with
 |z=>rw[ea]at k;exact k|exc x E1=>rw[ea]at k;exact k
 |ok p =>
  obtain⟨r,E1⟩:=p;rw[ea]at k;cases r with
  |own ds=>exact k.elim
  |v d =>
   cases d with
   |fn x =>
    intro v H1 g;dsimp only at k;cases et:tab x with
    |none=>rw[et]at k;exact k.elim
    |some F =>
     rw[et]at k;have rf:=g.rep;simp only[R.d,Rep]at rf;obtain⟨f,rfl,hm⟩:=rf;obtain⟨f',fd,ps,kk,hm',hk,G,hr,hb⟩:=ht x F et;rw[hm]at hm';cases hm';refine⟨f,fd,ps,kk,_,rfl,hk,G,hr,hb,?_⟩;have g1:=g.dropAll;have q:tM X (yp F as) O H1 Q:=by
      refine z0 (T0:=[]) g1.len g1.fr ?_;dsimp only at k;cases eb:yp F as E1 with
      |z=>rw[eb]at k;exact k|exc x E2=>rw[eb]at k;exact λH'' g'=>k H'' (g1.trans' g')|ok p=>rw[eb]at k;exact λv'' H'' g'=>k v'' H'' (g1.trans' g')
     exact Qx hn q
   |_=>exact k.elim
def zEb{fe e:Expr}{es:List Expr}{pos:Pos}{mf:ME}{as:List Arg}{n:Nat}{tab:Str->Option MF}(ht:zAv X n tab)(hf:EOk X fe mf)(ha:zEX X (e::es) as)(hn:as.length=n:=by rfl)
  (hc:eval (.Call fe (e::es) [] pos) X.env=(do callWith pos (<- eval fe X.env) [] (backTo pos (starEach (e::es) X.env)) (backToKw pos (keywordEach [] X.env))):=by rfl)
  (he:zH e=false:=by rfl) (hpl:yG es=true:=by rfl):EOk X (.Call fe (e::es) [] pos) (WJ tab mf as) :=
 zq (zEa hf ha hc he hpl) λO H Q=>zCB ht hn
end
end DV
namespace L2
open PySem PySem.Spec PyProof.Rows
def cxB(X:Cx)(N:List Str)(scope:Scope)(cl:List (Str×Addr))(C:Addr)(ex:List Addr)(s:Shared)(H:Hp):Cx :=
 {X with N:=N,s₀:=s,H₀:=H,env:=compEnvC scope cl C X.env,outer:=X.stack,ex:=ex,fn:=λy=>scope.names.lookup y==some NameKind.cell,pn:=[]}
def YT{prog:Program}{w:World}{A:Around}{R:Result->Shared->Prop}{s:Shared}{elt target iter:Expr}{ifs:List Expr}{scope:Scope}{pos:Pos}{it acc:Value}{env:Env}(I:Nat->Shared->Prop)
  (turn:∀n s,I n s->wpAny (model prog w) A (pyNext it) (λr s₁=>match r with
   |none=>R (.ok .next) s₁
   |some v=>wpAny (model prog w) A (letOwnedTupleGo target it v) (λ_ s₁=>wpAny (model prog w) A (assign target env v) (λ_ s₂ =>
     wpAny (model prog w) A (forIn ifs true λc r=>if r=true then do let ok <- isTrue c env (eval c env);pure (ForInStep.yield ok)else pure (ForInStep.yield r)) (λok s₃ =>
      if ok=true then wpAny (model prog w) A (eval elt env) (λx s₄ =>
       wpAny (model prog w) A (call (.builtin "list.append") [acc,x]) (λ_ s₅=>∃m,m<n/\I m s₅) (notedBy (model prog w) A env λe s'=>R (.error e) s') s₄) (notedBy (model prog w) A env λe s'=>R (.error e) s') s₃
      else ∃m,m<n/\I m s₃) (notedBy (model prog w) A env λe s'=>R (.error e) s') s₂) (notedBy (model prog w) A env λe s'=>R (.error e) s') s₁) (notedBy (model prog w) A env λe s'=>R (.error e) s') s₁) (notedBy (model prog w) A env λe s'=>R (.error e) s') s)
  (n:Nat) (h:I n s) :
  codeAny (model prog w) A (.compLoop (.ListComp elt [⟨target,iter,ifs,0⟩] scope pos) 0 it acc env) R s:=by
 refine codeAny_loop rfl I (λn s hI=>?_) n h;show wpAny _ A ((compTurn (.ListComp elt [⟨target,iter,ifs,0⟩] scope pos) 0 it acc env).onRaise (λx=>do noteFrame x env;theTreesLotGoes x)) _ _ s;refine wpAny_noted ?_;rw[compTurn_list];refine qB (wpAny_standAt (qB (wpAny_mono (turn n s hI) (λr s₁ h₁=>?_) λ_ _ h'=>h')));cases r with
 |none=>exact qC h₁
 |some v =>
  refine qB (wpAny_mono h₁ (λ_ s₁' h₁'=>?_) λ_ _ h'=>h');refine qB (wpAny_mono h₁' (λ_ s₂ h₂=>qB (wpAny_mono h₂ (λok s₃ h₃=>?_) λ_ _ h'=>h')) λ_ _ h'=>h');cases ok with
  |false=>exact qC ⟨rfl,h₃⟩
  |true =>
   exact qB (qB (wpAny_mono h₃ (λx s₄ h₄=>qB (wpAny_mono h₄ (λ_ s₅ h₅=>qC (qC ⟨rfl,h₅⟩)) λ_ _ h'=>h')) λ_ _ h'=>h'))
def zBJ(X:Cx)(ifs:List Expr)(t:TT):Prop:=∀(pins:List (Addr×Obj)) (s:Shared) (O:St) (H:Hp) (Q:Bool->Hp->Prop),Inv X pins O H s->t O H Q ->
 wpAny (model X.prog X.w) X.A (forIn ifs true λc r=>if r=true then do let ok <- isTrue c X.env (eval c X.env);pure (ForInStep.yield ok)else pure (ForInStep.yield r)) (TP X pins O Q) X.xe s
def pif_nil{X:Cx}:zBJ X [] (λO H Q=>Q true H):=λpins s O H Q I h=>wpAny_tests_nil ⟨H,I,h⟩
def pif_one{X:Cx}{c:Expr}{t:TT}(h:PT X c t):zBJ X [c] t:=λpins s O H Q I q=>wpAny_tests_one (h pins s O H Q I q)
def za(nl:Nat)(caps:List Nat)(O:St):St:=replicate nl none++caps.map λj=>(O[j]?).getD none
def zEc(nl:Nat)(caps:List Nat)(wi:TI)(g:TG)(tt:TT)(te:TE):TE:=λO H Q=>wi O H λJ H1=>∀D,H1 D=none->∃W:Nat->Nat->St->Hp->Prop,(∃m,W 0 m (za nl caps O) (upd H1 D (.l [])))/\∀i m O' H',W i m O' H' ->
 (J.stop i H'/\Q (.ref D) H')\/(J.go i H'/\∃Nx:St->Hp->Prop,(∀O'' H'',Nx O'' H''->∃m',m'<m/\W (i+1) m' O'' H'')/\∀x H'',J.yld i H' x H''->g x O' H'' λO2 H2 =>
  tt O2 H2 λb H3=>if b=true then te O2 H3 λy H4=>∃ys,H4 D=some (.l ys)/\ys.length<sizeLine/\Nx O2 (upd H4 D (.l (ys++[y])))else Nx O2 H3)
theorem wU{env:Env}:∀{names:List (Str×NameKind)} {x:Str} {k:NameKind},(names.map λ(n,k)=>if(k==NameKind.free&&env.scope.kind==.function&&env.kindOf n==some .cell)then(n,NameKind.cell)else(n,k)).lookup x=some k ->
  ∃k0,names.lookup x=some k0/\(k=k0\/(k0=.free/\k=.cell))
 | [],_,_,h=>by simp at h
 | (n,k1)::r,x,k,h=>by
  have ih:=@wU env r x k;rw[map_cons]at h;by_cases hc:(k1==NameKind.free&&env.scope.kind==.function&&env.kindOf n==some .cell)=true
  ·simp only[hc,if_true]at h
   cases hx:x==n with
   |true =>
    simp only[lookup_cons,hx]at h ⊢;cases h;refine⟨k1,rfl,.inr ⟨?_,rfl⟩⟩;simp only[Bool.and_eq_true,beq_iff_eq]at hc;exact hc.1.1
   |false=>simp only[lookup_cons,hx]at h ⊢;exact ih h
  ·have hc':(k1==NameKind.free&&env.scope.kind==.function&&env.kindOf n==some .cell)=false:=by simpa using hc
   simp only[hc',Bool.false_eq_true,if_false]at h;cases hx:x==n with
   |true=>simp only[lookup_cons,hx]at h ⊢;cases h;exact⟨k1,rfl,.inl rfl⟩|false=>simp only[lookup_cons,hx]at h ⊢;exact ih h
theorem JQ{env:Env}:∀{names:List (Str×NameKind)} {x:Str},names.lookup x=some .free->env.scope.kind=.function->env.kindOf x=some .cell ->
  (names.map λ(n,k)=>if(k==NameKind.free&&env.scope.kind==.function&&env.kindOf n==some .cell)then(n,NameKind.cell)else(n,k)).lookup x=some .cell
 | [],_,h,_,_=>by simp at h
 | (n,k1)::r,x,h,hk,hc=>by
  have ih:=@JQ env r x;rw[map_cons];cases hx:x==n with
  |true =>
   have:x=n:=by simpa using hx
   subst this;simp only[lookup_cons,hx]at h;cases h;have:(NameKind.free==NameKind.free&&env.scope.kind==.function&&env.kindOf x==some .cell)=true:=by simp[hk,hc]
   simp only[this,if_true,lookup_cons,hx]
  |false =>
   simp only[lookup_cons,hx]at h;by_cases hcc:(k1==NameKind.free&&env.scope.kind==.function&&env.kindOf n==some .cell)=true
   ·simp only[hcc,if_true,lookup_cons,hx];exact ih h hk hc
   ·have hcc':(k1==NameKind.free&&env.scope.kind==.function&&env.kindOf n==some .cell)=false:=by simpa using hcc
    simp only[hcc',Bool.false_eq_true,if_false,lookup_cons,hx];exact ih h hk hc
def Gw(env:Env):List (Str×NameKind)->List (Str×Addr)->List (Str×Addr)
 | [],cs=>cs| (n,k)::r,cs=>if k==.free then Gw env r ((n,(env.cells.lookup n).getD 0)::cs)else Gw env r cs
theorem Jq{env:Env}:∀(names:List (Str×NameKind)) (cs:List (Str×Addr)),(∀y∈names,y.2=.free->∃c,env.cells.lookup y.1=some c) ->
  (forIn names cs (λx r=>if(x.snd==NameKind.free)=true then do
    let c <- cellOf env x.fst
    pure (ForInStep.yield ((x.fst,c)::r))
   else pure (ForInStep.yield r)):Sem (List (Str×Addr)))=pure (Gw env names cs)
 | [],cs,_=>by rfl
 | (n,k)::r,cs,h=>by
  rw[forIn_cons];dsimp only;by_cases hk:(k==NameKind.free)=true
  ·obtain⟨c,hc⟩:=h (n,k) qE (by simpa using hk)
   have ec:cellOf env n=pure c:=by unfold cellOf;rw[hc]
   rw[if_pos hk,ec];show(forIn r ((n,c)::cs) _:Sem (List (Str×Addr)))=_;rw[Jq r _ λy hy=>h y (qD _ hy)]
   conv=>rhs;unfold Gw
   rw[if_pos hk,hc];rfl
  ·rw[if_neg hk]
   show(forIn r cs _:Sem (List (Str×Addr)))=_
   rw[Jq r _ λy hy=>h y (qD _ hy)]
   conv=>rhs;unfold Gw
   rw[if_neg hk]
theorem jT{env:Env}:∀(names:List (Str×NameKind)) (cs:List (Str×Addr)) (x:Str),(∀y∈names,y.2=.free->∃c,env.cells.lookup y.1=some c)->(∀c,cs.lookup x=some c->env.cells.lookup x=some c) ->
  (∀c,(Gw env names cs).lookup x=some c->env.cells.lookup x=some c)/\(((∃c,cs.lookup x=some c)\/∃y∈names,y.1=x/\y.2=.free)->∃c,(Gw env names cs).lookup x=some c)
 | [],cs,x,_,hcs=>⟨hcs,λh=>h.elim id λ⟨y,hy,_⟩=>by cases hy⟩
 | (n,k)::r,cs,x,h,hcs=>by
  unfold Gw;by_cases hk:(k==NameKind.free)=true
  ·rw[if_pos hk]
   obtain⟨c,hc⟩:=h (n,k) qE (by simpa using hk);have ih:=jT r ((n,(env.cells.lookup n).getD 0)::cs) x (λy hy=>h y (qD _ hy)) (λc' e=>by
    rw[lookup_cons]at e;cases hx:x==n with
    |true =>
     have:x=n:=by simpa using hx
     subst this;rw[hx]at e;simp only[hc,Option.getD_some]at e;rw[hc];exact e
    |false=>rw[hx]at e;exact hcs c' e)
   refine⟨ih.1,λq=>ih.2 ?_⟩;rcases q with⟨c',q⟩|⟨y,hy,q1,q2⟩
   ·left
    rw[lookup_cons];cases hx:x==n with
    |true=>exact⟨_,rfl⟩|false=>exact⟨c',q⟩
   ·rcases mem_cons.mp hy with hy|hy
    ·subst hy
     left
     have q1:n=x:=q1;subst q1;exact⟨(env.cells.lookup n).getD 0,by rw[lookup_cons,beq_self_eq_true]⟩
    ·right;exact⟨y,hy,q1,q2⟩
  ·rw[if_neg hk]
   have ih:=jT r cs x (λy hy=>h y (qD _ hy)) hcs;refine⟨ih.1,λq=>ih.2 ?_⟩;rcases q with q|⟨y,hy,q1,q2⟩
   ·exact .inl q
   ·rcases mem_cons.mp hy with hy|hy
    ·subst hy
     exact absurd (by simpa using q2) hk
    ·exact .inr ⟨y,hy,q1,q2⟩
theorem Yu:∀(names:List (Str×NameKind)) (h:Heap) (acc:List (Str×Addr)) (x:Str) (c:Addr),(cellsFrom h.objs.size names acc).lookup x=some c ->
  acc.lookup x=some c\/((x,NameKind.cell)∈names/\h.objs.size<=c/\(pushCells h names).IsCell c none)
 | [],h,acc,x,c,e=>.inl e
 | (n,k)::r,h,acc,x,c,e=>by
  unfold cellsFrom at e;unfold pushCells;split at e
  ·rename_i hk
   rw[if_pos hk];have sz:(h.push {cls:=.type "cell",data:=.cell none}).objs.size=h.objs.size+1:=size_push ..;rw[<- sz]at e;rcases Yu r (h.push {cls:=.type "cell",data:=.cell none}) _ x c e with q|⟨q1,q2,q3⟩
   ·rw[lookup_cons]at q
    cases hx:x==n with
    |true =>
     rw[hx]at q;cases q;have hx':x=n:=by simpa using hx
     have hk':k=.cell:=by simpa using hk
     subst hx';subst hk';exact .inr ⟨qE,le_refl _,⟨_,pushCells_keeps _ _ _ _ (get?_push_size _ rfl),rfl⟩⟩
    |false=>rw[hx]at q;exact .inl q
   ·exact .inr ⟨qD _ q1,by rw[sz]at q2;omega,q3⟩
  ·rename_i hk
   rw[if_neg hk];rcases Yu r h acc x c e with q|⟨q1,q2,q3⟩
   ·exact .inl q
   ·exact .inr ⟨qD _ q1,q2,q3⟩
theorem WK:∀(names:List (Str×NameKind)) (n:Nat) (acc:List (Str×Addr)) (x:Str),(x,NameKind.cell)∉names->(cellsFrom n names acc).lookup x=acc.lookup x
 | [],n,acc,x,_=>rfl
 | (y,k)::r,n,acc,x,h=>by
  simp only[mem_cons,not_or]at h;unfold cellsFrom;split
  ·rename_i hk
   rw[WK r _ _ x h.2,lookup_cons];cases hx:x==y with
   |true =>
    have hx':x=y:=by simpa using hx
    have hk':k=.cell:=by simpa using hk
    subst hx';subst hk';exact absurd rfl h.1
   |false=>rfl
  ·exact WK r _ _ x h.2
theorem Qy:∀(names:List (Str×NameKind)) (n:Nat) (acc:List (Str×Addr)) (x:Str) (c:Addr),(x,NameKind.cell)∈names->(cellsFrom n names acc).lookup x=some c->n<=c
 | [],_,_,_,_,h,_=>by cases h
 | (y,k)::r,n,acc,x,c,h,e=>by
  unfold cellsFrom at e;by_cases hr:(x,NameKind.cell)∈r
  ·split at e
   ·exact Nat.le_of_succ_le (Qy r _ _ x c hr e)
   ·exact Qy r _ _ x c hr e
  ·rcases mem_cons.mp h with q|q
   ·cases q
    rw[if_pos (by rfl),WK r _ _ _ hr,lookup_cons,beq_self_eq_true]at e;cases e;exact le_refl _
   ·exact absurd q hr
theorem Qz:∀(names:List (Str×NameKind)) (n:Nat) (acc:List (Str×Addr)),(∀x y c,acc.lookup x=some c->acc.lookup y=some c->x=y)->(∀x c,acc.lookup x=some c->c<n) ->
  ∀x y c,(cellsFrom n names acc).lookup x=some c->(cellsFrom n names acc).lookup y=some c->x=y
 | [],n,acc,hi,_,x,y,c,e1,e2=>hi x y c e1 e2
 | (z,k)::r,n,acc,hi,hb,x,y,c,e1,e2=>by
  unfold cellsFrom at e1 e2;split at e1
  ·refine Qz r (n+1) ((z,n)::acc) (λx y c e1 e2=>?_) (λx c e=>?_) x y c e1 (by rename_i hk;rwa [if_pos hk]at e2)
   ·rw[lookup_cons]at e1 e2
    cases hx:x==z with
    |true =>
     rw[hx]at e1;cases e1;have hx':x=z:=by simpa using hx
     cases hy:y==z with
     |true =>
      have hy':y=z:=by simpa using hy
      rw[hx',hy']
     |false=>rw[hy]at e2;exact absurd (hb y _ e2) (lt_irrefl _)
    |false =>
     rw[hx]at e1;cases hy:y==z with
     |true=>rw[hy]at e2;cases e2;exact absurd (hb x _ e1) (lt_irrefl _)|false=>rw[hy]at e2;exact hi x y c e1 e2
   ·rw[lookup_cons]at e
    cases hx:x==z with
    |true=>rw[hx]at e;cases e;exact lt_succ_self _|false=>rw[hx]at e;exact lt_succ_of_lt (hb x c e)
  ·exact Qz r n acc hi hb x y c e1 (by rename_i hk;rwa [if_neg hk]at e2)
def JH{M:Model}{A:Around}{E:Value->Shared->Prop}{s:Shared}{scope:Scope}{globals:Addr}{cl:List (Str×Addr)}{qual:Str}{env:Env}{Q:Env->Shared->Prop}
  (hQ:Q (newEnv scope s.heap.objs.size globals (cellsFrom (s.heap.objs.size+1) scope.names cl) qual none .none (some env) builtinsNs) {s with heap:=pushCells (s.heap.push {cls:=.type "dict",data:=.dict #[]}) scope.names}) :
  wpAny M A (newFunctionEnv scope globals cl [] qual none .none (some env)) Q E s:=by
 simp only[newFunctionEnv,Option.isSome_some,if_true];refine qB (wpAny_alloc ?_);refine qB (wpAny_layCells _ (λname kind cells=>by cases hkc:kind==NameKind.cell<;>simp[hkc]) _ _ _ _ ?_);rw[show({s with heap:=s.heap.push {cls:=.type "dict",data:=.dict #[]}}:Shared).heap.objs.size=s.heap.objs.size+1 from size_push ..]
 rw[List.forIn_nil];exact qB (qC (qC hQ))
section
variable{X:Cx}{elt target iter:Expr}{ifs:List Expr}{scope:Scope}{pos:Pos}{nl:Nat}{caps:List Nat}{N':List Str}
def GC{wi:TI}{g:TG}{tt:TT}{te:TE}{use:Option (Value->Sem Unit)}{QQ:Value->Shared->Prop}{pins:List (Addr×Obj)}{s:Shared}{O:St}{H:Hp}{Q:VK}{p0:Pos}(hx:∀e s,¬X.xe e s)(hc:X.calm=true)(hkind:scope.kind=.function)(hnames:∀y∈scope.names,y.2=.local->scope.names.lookup y.1=some .local)(hcell:∀y∈scope.names,y.2=.cell->scope.names.lookup y.1=some .cell)
  (hfree:(scope.names.all λy=>y.2 != .free||X.env.kindOf y.1==some .cell)=true)
  (hlen:N'.length=nl+caps.length) (hcap:∀(i j:Nat),caps[i]?=some j->∃x,N'[nl+i]?=some x/\X.N[j]?=some x/\scope.names.lookup x=some .free)
  (hi:PI X target iter wi) (hg:∀cl C ex s H,PG (cxB X N' scope cl C ex s H) target g) (ht:∀cl C ex s H,zBJ (cxB X N' scope cl C ex s H) ifs tt) (he:∀cl C ex s H,PE (cxB X N' scope cl C ex s H) elt te)
  (hs:∀x,foldedSetIterable iter X.env x=pure x) (I:Inv X pins O H s) (h:zEc nl caps wi g tt te O H Q)
  (hfin:∀(D C:Addr) (H5:Hp) (s6:Shared) (m6:Str->Option Value),Inv X pins O H5 s6->G3 X pins H5 C->s6.heap.Ns C m6->Q (.ref D) H5->compPost (model X.prog X.w) X.A X.xe use QQ (.ref D) C (.ok .next) s6) :
  wpAny (model X.prog X.w) X.A (comprehension (.ListComp elt [⟨target,iter,ifs,0⟩] scope pos) scope X.env p0 (newList []) false (eval iter X.env) use) QQ X.xe s:=by
 have hfr:∀y∈scope.names,y.2=.free->X.env.kindOf y.1=some .cell:=λy hy e=>by
  have:=all_eq_true.mp hfree y hy;rw[e]at this;simpa using this
 have hcl:∀y∈scope.names,y.2=.free->∃c,X.env.cells.lookup y.1=some c:=λy hy e=>I.ok.has y.1 (.inl (hfr y hy e))
 have hclos:closureFor scope X.env=pure (Gw X.env scope.names []):=by
  simp only[closureFor];rw[Jq scope.names [] hcl];rfl
 have cl1:∀x c,(Gw X.env scope.names []).lookup x=some c->X.env.cells.lookup x=some c:=λx c e=>(jT scope.names [] x hcl (λ_ z=>by cases z)).1 c e
 have cl2:∀x,(∃y∈scope.names,y.1=x/\y.2=.free)->∃c,(Gw X.env scope.names []).lookup x=some c:=λx q=>(jT scope.names [] x hcl (λ_ z=>by cases z)).2 (.inr q)
 generalize Gw X.env scope.names []=cl at hclos cl1 cl2;refine wpAny_comprehension_free (use:=use) rfl hs hclos hkind hnames (thn (hi pins s O H _ I h) λxv s1 h1=>thn h1 λitv s2 h2=>?_);obtain⟨it,fp,tn,J,H2,e,I2,T,st2,f2,turn⟩:=h2;subst e;refine wpAny_newObj_type (JH ?_) (by show(#[]:Array Value).size<=sizeLine;simp);dsimp only;generalize hH3:s2.heap.push {cls:=.type "list",dict:=none,data:=.seq ([]:List Value).toArray}=h3;have hC:h3.objs.size=s2.heap.objs.size+1:=by rw[<- hH3,size_push]
 have hD:H2 s2.heap.objs.size=none:=I2.hok.fresh (le_refl _);obtain⟨W,⟨m0,w0⟩,step⟩:=turn s2.heap.objs.size hD
 -- the state at the block's entry
 have I3:Inv X pins O (upd H2 s2.heap.objs.size (.l [])) {s2 with heap:=h3}:=by
  rw[<- hH3];exact I2.laid (t':=s2.toks) (λb o q=>qA _ q) (le_refl _) ⟨zero_le _,[],0,.nil,get?_push_size _ rfl⟩
 have hcfr:∀x,scope.names.lookup x=some .free->(x,NameKind.cell)∉scope.names:=λx e z=>by
  have:=hcell _ z rfl;rw[e]at this;cases this
 have szp:(h3.push {cls:=.type "dict",data:=.dict #[]}).objs.size=h3.objs.size+1:=size_push ..;have cw:∀x c,(cellsFrom (h3.objs.size+1) scope.names cl).lookup x=some c->cl.lookup x=some c\/((x,NameKind.cell)∈scope.names/\h3.objs.size+1<=c/\(pushCells (h3.push {cls:=.type "dict",data:=.dict #[]}) scope.names).IsCell c none):=λx c e=>by
  rw[<- szp]at e ⊢;exact Yu _ _ _ x c e
 have cfr:∀x,scope.names.lookup x=some .free->(cellsFrom (h3.objs.size+1) scope.names cl).lookup x=cl.lookup x:=λx e=>WK _ _ _ x (hcfr x e)
 have chas:∀x,scope.names.lookup x=some .cell->∃c,(cellsFrom (h3.objs.size+1) scope.names cl).lookup x=some c:=λx e=>by
  have:=cellsFrom_some scope.names (h3.objs.size+1) cl (x:=x) (.inl e);exact Option.isSome_iff_exists.mp this
 have clt:∀x c,cl.lookup x=some c->c<h3.objs.size:=λx c e=>by
  obtain⟨v,q⟩:=I3.cell x c (cl1 x c e);exact q.lt
 have cinj:=Qz scope.names (h3.objs.size+1) cl (λx y c e1 e2=>I.ok.inj x y c (cl1 x c e1) (cl1 y c e2)) λx c e=>lt_succ_of_lt (clt x c e)
 have hns₁:(pushCells (h3.push {cls:=.type "dict",data:=.dict #[]}) scope.names).Ns h3.objs.size λ_=>none:=(Heap.Ns.new h3 (.type "dict")).keeps (pushCells_keeps _ _)
 have old:∀b o,h3.get? b=some o->(pushCells (h3.push {cls:=.type "dict",data:=.dict #[]}) scope.names).get? b=some o:=λb o e=>pushCells_keeps _ _ b o (qA _ e)
 generalize hh1:pushCells (h3.push {cls:=.type "dict",data:=.dict #[]}) scope.names=h₁ at hns₁ old cw ⊢;generalize hcs:cellsFrom (h3.objs.size+1) scope.names cl=cs at cw cfr chas cinj ⊢;have fpD:∀b∈fp,b≠s2.heap.objs.size:=λb hb z=>by
  obtain⟨o,e,_⟩:=T.obj 0 s2.heap st2 b hb;subst z;exact absurd (lt_size e) (lt_irrefl _)
 have fp3:∀b∈fp,upd H2 s2.heap.objs.size (.l []) b=none:=λb hb=>by rw[zG (fpD b hb)];exact(f2 b hb).1
 have fpC:∀b∈fp,b≠h3.objs.size:=λb hb z=>by
  obtain⟨o,e,_⟩:=T.obj 0 s2.heap st2 b hb;have q:b<s2.heap.objs.size:=lt_size e;rw[z,hC]at q;exact absurd q (not_lt.mpr (le_succ _))
 have hCn:upd H2 s2.heap.objs.size (.l []) h3.objs.size=none:=I3.hok.fresh (le_refl _);have fpok:∀b∈fp,(b∈X.ex\/X.s₀.heap.objs.size<=b)/\b≠X.env.locals/\(∀x c,X.env.cells.lookup x=some c->c≠b)/\∀p∈X.pn++pins,p.1≠b:=λb hb=>by
  obtain⟨_,q2,_,q4,q5,q6⟩:=f2 b hb;exact⟨q4,q2,q5,q6⟩
 have fpH:∀b∈fp,b<h3.objs.size:=λb hb=>by
  obtain⟨o,e,_⟩:=T.obj 0 s2.heap st2 b hb;have q:b<s2.heap.objs.size:=lt_size e;rw[hC];exact lt_succ_of_lt q
 have fpcs:∀b∈fp,∀x c,cs.lookup x=some c->c≠b:=λb hb x c e=>by
  rcases cw x c e with q|⟨_,q,_⟩
  ·exact(fpok b hb).2.2.1 x c (cl1 x c q)
  ·intro z;subst z
   exact absurd (lt_of_lt_of_le (fpH _ hb) (Nat.le_of_succ_le q)) (lt_irrefl _)
 let Y:Cx:=cxB X N' scope cs h3.objs.size fp {s2 with heap:=h3} (upd H2 s2.heap.objs.size (.l []))
 have kindY:∀x k,Y.env.kindOf x=some k->∃k0,scope.names.lookup x=some k0/\(k=k0\/(k0=.free/\k=.cell)):=λx k e=>wU e
 have okY:Y.Ok:={
  mod:=I.ok.mod
  kind:=hkind
  glob:=I.ok.glob
  blt:=I.ok.blt
  above:=le_refl _
  inj:=cinj
  has:=λx q=>by
   have:scope.names.lookup x=some .cell\/scope.names.lookup x=some .free:=by
    rcases q with q|q
    ·obtain⟨k0,e,z⟩:=kindY x _ q
     rcases z with z|z
     ·subst z;exact .inl e
     ·rw[z.1]at e;exact .inr e
    ·obtain⟨k0,e,z⟩:=kindY x _ q
     rcases z with z|z
     ·subst z;exact .inr e
     ·rw[z.1]at e;exact .inr e
   rcases this with q|q
   ·exact chas x q
   ·obtain⟨c,e⟩:=cl2 x ⟨(x,.free),PySem.mem_of_lookup q,rfl,rfl⟩
    exact⟨c,by show cs.lookup x=_;rw[cfr x q];exact e⟩
  cab:=λx c z e=>by
   have z:scope.names.lookup x=some .cell:=by
    have z:(scope.names.lookup x==some NameKind.cell)=true:=z;simpa using z
   have e:cs.lookup x=some c:=e;rw[<- hcs]at e;exact le_trans (le_succ _) (Qy _ _ _ x c (PySem.mem_of_lookup z) e)
  hd:=I.ok.hd
  frames:=I.ok.frames
  stk:=.inl rfl
  exf:=λb hb=>⟨fpC b hb,fpcs b hb⟩
  bs:=λb o e=>I3.bs b o e
  bsz:=le_trans I.ok.bsz I3.sz
  noex:=λb o e hb=>by
   obtain⟨q,_⟩:=fpok b hb;rcases q with q|q
   ·exact I.ok.noex b o e q
   ·exact absurd (lt_of_lt_of_le (lt_size e) I.ok.bsz) (not_lt.mpr q)
  exfs:=λb hb z=>by
   have:=I2.stkSub b z;rcases mem_cons.mp this with q|q
   ·exact(fpok b hb).2.1 q
   ·exact(f2 b hb).2.2.1 q
  funs:=I3.stack
  frf:=I3.stkFree}
 have keep1:∀b o,h3.get? b=some o->h₁.get? b=some o:=old;have lenY:(za nl caps O).length=N'.length:=by unfold za;simp[hlen]
 have IY:Inv Y [] (za nl caps O) (upd H2 s2.heap.objs.size (.l [])) {s2 with heap:=h₁}:={
  ok:=okY
  os:=rfl
  bare:=I3.bare
  base:=Un.kept keep1
  loc:=by
   refine⟨_,hns₁,λi x v e1 e2 e3=>?_⟩;have e1:N'[i]?=some x:=e1;have hi:nl<=i:=by
    by_cases z:nl<=i
    ·exact z
    ·unfold za at e2
     rw[getElem?_append_left (by simp;omega),List.getElem?_replicate]at e2;split at e2<;>cases e2
   unfold za at e2;rw[getElem?_append_right (by simpa using hi),length_replicate,getElem?_map]at e2;cases ej:caps[i-nl]? with
   |none=>rw[ej]at e2;cases e2
   |some j =>
    rw[ej]at e2;simp only[Option.map_some,Option.some.injEq]at e2;obtain⟨x',c1,c2,c3⟩:=hcap (i-nl) j ej;have ex:x'=x:=by
     rw[show nl+(i-nl)=i by omega,e1]at c1;exact(qJ c1).symm
    subst ex;have e4:O[j]?=some (some v):=by
     cases z:O[j]? with
     |none=>rw[z]at e2;cases e2|some o=>rw[z]at e2;simp at e2;rw[e2]
    have kx:X.env.kindOf x'=some .cell:=hfr (x',.free) (PySem.mem_of_lookup c3) rfl;obtain⟨mm,_,lk⟩:=I3.loc;obtain⟨u,ru,lu⟩:=lk j x' v c2 e4 (.inr (.inl kx));refine⟨u,ru,?_⟩;rcases lu with⟨z,_⟩|⟨_,c,d1,d2⟩
    ·rw[kx]at z;cases z
    ·obtain⟨c',d3⟩:=cl2 x' ⟨(x',.free),PySem.mem_of_lookup c3,rfl,rfl⟩
     have:c'=c:=by have:=cl1 x' c' d3;rw[d1]at this;exact(qJ this).symm
     subst this;exact .inr ⟨.inl (JQ c3 I.ok.kind kx),c',by show cs.lookup _=_;rw[cfr x' c3];exact d3,d2.keeps old⟩
  cell:=λx c e=>by
   rcases cw x c e with e|⟨_,_,q⟩
   ·obtain⟨v,q⟩:=I3.cell x c (cl1 x c e)
    exact⟨v,q.keeps old⟩
   ·exact⟨_,q⟩
  free:=hCn
  freeC:=λx c e=>by
   rcases cw x c e with e|⟨_,q,_⟩
   ·exact I3.freeC x c (cl1 x c e)
   ·exact I3.hok.fresh (le_trans (le_succ _) q)
  pin:=λp hp=>absurd (show p∈([]:List (Addr×Obj))from hp) (by simp)
  hok:=I3.hok.kept old
  len:=lenY}
 have st1:tn 0 h₁:=T.keep 0 s2.heap h₁ st2 λb hb o e=>old b o (by rw[<- hH3];exact qA _ e)
 have fpY:∀{H':Hp},(∀b∈fp,H' b=none)->∀b∈fp,G3 Y [] H' b:=λhn b hb =>
  ⟨hn b hb,fpC b hb,okY.exfs b hb,.inl hb,fpcs b hb,λp hp=>absurd (show p∈([]:List (Addr×Obj))from hp) (by simp)⟩
 have hA:Y.A=X.A:=rfl;have noE:∀{E':Value->Shared->Prop} {e:Value} {s:Shared},X.xe e s->E' e s:=λq=>absurd q (hx _ _)
 have fin:∀s₄:Shared,s₄={s2 with heap:=h₁} ->
   codeAny (model X.prog X.w) X.A (.compLoop (.ListComp elt [⟨target,iter,ifs,0⟩] scope pos) 0 (.ref it) (.ref s2.heap.objs.size) Y.env)
    (compPost (model X.prog X.w) X.A X.xe use QQ (.ref s2.heap.objs.size) h3.objs.size) s₄:=by
  rintro s₄ rfl
  refine YT (λn s'=>∃i O' H',Inv Y [] O' H' s'/\tn i s'.heap/\(∀b∈fp,H' b=none)/\W i n O' H') ?_ m0 ⟨0,za nl caps O,_,IY,st1,fp3,w0⟩
  rintro n s5 ⟨i,O5,H5,I5,st5,fr5,w5⟩
  rcases step i n O5 H5 w5 with⟨stop,q⟩|⟨go,Nx,hN,turn⟩
  ·refine wpAny_mono (T.done Y rfl rfl rfl hc i [] s5 O5 H5 (λ_ _=>False) I5 (fpY fr5) st5 stop) (λr s6 ⟨hr,I6⟩=>?_) (λ_ _ z=>z.elim)
   subst hr;obtain⟨m6,n6,_⟩:=I6.loc;have u:Un (frs X.stack) fp (upd H2 s2.heap.objs.size (.l [])) H5 h3 s6.heap:=I6.base;have I7:Inv X pins O H5 s6:=I3.call' (s':=s6) (ch:=fp) I6.os u I6.hok I6.bare fpok;exact hfin _ _ H5 s6 m6 I7 (I3.fpOk (le_refl _) I6.free) n6 q
  ·refine wpAny_mono (T.item Y rfl rfl rfl hc i [] s5 O5 H5 (λ_ _=>False) I5 (fpY fr5) st5 go) (λr s6 ⟨u,hr,h6⟩=>?_) (λ_ _ z=>z.elim)
   subst hr;refine wpAny_mono h6 (λ_ s7 ⟨x,H7,I7,r7,y7,st7,fr7⟩=>?_) (λ_ _ z=>z.elim);have I7':=I7.pinned (fpY fr7) (T.obj _ _ st7);refine wpAny_mono (hg _ _ _ _ _ _ s7 O5 H7 x u _ I7' r7 (turn x H7 y7)) (λ_ s8 ⟨O8,H8,I8,q8⟩=>?_) (λ_ _ z=>noE z);refine wpAny_mono (ht _ _ _ _ _ _ s8 O8 H8 _ I8 q8) (λb s9 ⟨H9,I9,q9⟩=>?_) (λ_ _ z=>noE z);have again:∀{O7:St} {H':Hp} {s':Shared},Inv Y ([]++Z3 fp s7.heap) O7 H' s'->Nx O7 H'->∃m,m<n/\∃i O' H',Inv Y [] O' H' s'/\tn i s'.heap/\(∀b∈fp,H' b=none)/\W i m O' H':=λ{O7 H' s'} I' n7=>by
    obtain⟨m',hm,w7⟩:=hN O7 H' n7;refine⟨m',hm,i+1,O7,H',I'.unpinned,T.keep _ _ _ st7 λb hb o e=>(I'.pin (b,o) (qK _ (qK _ (yx hb e)))).1,λb hb=>?_,w7⟩;obtain⟨o,e,d⟩:=T.obj _ _ st7 b hb;exact(I'.pin (b,o) (qK _ (qK _ (yx hb e)))).2.1
   cases b with
   |false =>
    rw[if_neg qF]at q9 ⊢;exact again I9 q9
   |true =>
    rw[if_pos rfl]at q9 ⊢;refine wpAny_mono (he _ _ _ _ _ _ s9 O8 H9 _ I9 q9) (λy s10 ⟨vy,H10,I10,r10,ys,hy,hz,n10⟩=>?_) (λ_ _ z=>noE z);have ap:=Z6 (X:=Y) _ s10 O8 H10 (.ref s2.heap.objs.size) [vy] (.ref s2.heap.objs.size) [y] (λv H'=>Nx O8 H') I10 rfl (.cons r10 .nil) ⟨_,ys,vy,rfl,rfl,hy,hz,n10⟩;refine wpAny_mono ap (λ_ s11 ⟨v11,H11,I11,_,n11⟩=>?_) (λ_ _ z=>noE z);exact again I11 n11
 exact codeAny_compStart_list (fin _ rfl) (T.self X.A 0 _ _ _ st1 (fin _ rfl))
def pe_comp{wi:TI}{g:TG}{tt:TT}{te:TE}(hx:∀e s,¬X.xe e s)(hc:X.calm=true)(hkind:scope.kind=.function)(hnames:∀y∈scope.names,y.2=.local->scope.names.lookup y.1=some .local)(hcell:∀y∈scope.names,y.2=.cell->scope.names.lookup y.1=some .cell)
  (hfree:(scope.names.all λy=>y.2 != .free||X.env.kindOf y.1==some .cell)=true)
  (hlen:N'.length=nl+caps.length) (hcap:∀(i j:Nat),caps[i]?=some j->∃x,N'[nl+i]?=some x/\X.N[j]?=some x/\scope.names.lookup x=some .free)
  (hi:PI X target iter wi) (hg:∀cl C ex s H,PG (cxB X N' scope cl C ex s H) target g) (ht:∀cl C ex s H,zBJ (cxB X N' scope cl C ex s H) ifs tt) (he:∀cl C ex s H,PE (cxB X N' scope cl C ex s H) elt te)
  (hs:∀x,foldedSetIterable iter X.env x=pure x:=by intro _;rfl):PE X (.ListComp elt [⟨target,iter,ifs,0⟩] scope pos) (zEc nl caps wi g tt te):=by
 intro pins s O H Q I h;rw[eval_ListComp];refine GC (use:=none) hx hc hkind hnames hcell hfree hlen hcap hi hg ht he hs I h λD C H5 s6 m6 I7 f n6 q=>?_
 refine⟨m6,n6,λh' hs'=>?_⟩;obtain⟨f1,f2,f3,f4,f5,f6⟩:=f;exact⟨.ref D,H5,I7.turned (it:=C) (t':=s6.toks) (λb o hb e=>hs'.extBut b o hb e) f1 (λz=>f2 z) f4 f5 f6,rfl,q⟩
def ps_setC{i:Nat}{y:Str}{py spos:Pos}{wi:TI}{g:TG}{tt:TT}{te:TE}(hN:X.N.Nodup)(hi':X.N[i]?=some y)(hy:Loc X.env.scope y)(hf:X.fn y=true\/X.env.scope.names.lookup y=some .local)(hx:∀e s,¬X.xe e s)(hc:X.calm=true)(hkind:scope.kind=.function)(hnames:∀y∈scope.names,y.2=.local->scope.names.lookup y.1=some .local)(hcell:∀y∈scope.names,y.2=.cell->scope.names.lookup y.1=some .cell)
  (hfree:(scope.names.all λy=>y.2 != .free||X.env.kindOf y.1==some .cell)=true)
  (hlen:N'.length=nl+caps.length) (hcap:∀(i j:Nat),caps[i]?=some j->∃x,N'[nl+i]?=some x/\X.N[j]?=some x/\scope.names.lookup x=some .free)
  (hi:PI X target iter wi) (hg:∀cl C ex s H,PG (cxB X N' scope cl C ex s H) target g) (ht:∀cl C ex s H,zBJ (cxB X N' scope cl C ex s H) ifs tt) (he:∀cl C ex s H,PE (cxB X N' scope cl C ex s H) elt te)
  (hs:∀x,foldedSetIterable iter X.env x=pure x) (hsw:swapsWith (.ListComp elt [⟨target,iter,ifs,0⟩] scope pos) (some (.Name y py)) spos.line X.env=pure true) :
  PS X (.Assign [.Name y py] (.ListComp elt [⟨target,iter,ifs,0⟩] scope pos) spos) (tAsg (zEc nl caps wi g tt te) (ud i)):=by
 intro pins s O H D I h;rw[exec_Assign_Name_used _ _ _ _ hsw];refine qB (wpAny_standAt (qB ?_));show wpAny _ X.A (do let _ <- comprehension (.ListComp elt [⟨target,iter,ifs,0⟩] scope pos) scope X.env _ (newList []) false (eval iter X.env) (some (assign (.Name y py) X.env))) _ _ s;refine qB (wpAny_mono (GC (use:=some (assign (.Name y py) X.env)) (QQ:=λ_ s'=>SP X pins D .next s') hx hc hkind hnames hcell hfree hlen hcap hi hg ht he hs I h λDa C H5 s6 m6 I7 f n6 q=>?_) (λ_ s' hq=>qC (qC hq)) λ_ _ e=>e);obtain⟨f1,f2,f3,f4,f5,f6⟩:=f;show wpAny _ X.A (assign (.Name y py) X.env (.ref Da)) _ _ s6;refine wpAny_assign_Name (Zz I7 hN hi' hy (v:=.ref Da) rfl (λs7 I8 ⟨a,sb,ha⟩=>?_) hf);have hne:C≠a:=by
  rcases ha with ha|ha
  ·rw[ha];exact f2
  ·exact λz=>f5 y a ha z.symm
 refine⟨m6,n6.sameBut sb hne,λh' hs'=>?_⟩;exact⟨_,H5,I8.turned (it:=C) (t':=s7.toks) (λb o hb e=>hs'.extBut b o hb e) f1 (λz=>f2 z) f4 f5 f6,q⟩
end
end L2
namespace DV
open PySem L2
section
variable{X:Cx}{K:qH}{mg:Str->Option Value}{O:St}{M:Addr->Prop}{E:zN}{H:Hp}{T0 Z T:Fz}
structure ItOk(K:qH)(mg:Str->Option Value)(J:It)(ds:List D)(Iv:Hp->Prop):Prop where
 mono:∀H H',Za H H'->Iv H->Iv H'
 go:∀i Hh H,Za Hh H->Iv Hh->i<ds.length->J.go i H
 yld:∀i Hh H x H',Za Hh H->Iv Hh->i<ds.length->J.yld i H x H'->∃d,ds[i]?=some d/\((H'=H/\Rep K mg Hh d x)\/∃q xs es,H q=none/\H'=upd H q (.t xs)/\x=.ref q/\d=.t es/\Reps K mg Hh es xs)
 stop:∀i Hh H,Za Hh H->Iv Hh->ds.length<=i->J.stop i H
abbrev MI:=zN->Out (List D×zN)
def tMI(X:Cx)(m:MI):TI:=λO H R=>∃M E,E.length=O.length/\FR X.K X.mg M H (O.zip E)/\match m E with
 | .z=>False| .ok (ds,E')=>∀J Iv H',ItOk X.K X.mg J ds Iv->Iv (Hm (Mo M (O.zip E')) H')->Got X.K X.mg M O E H [] O E' H' []->R J H'| .exc x E'=>∀H',Got X.K X.mg M O E H [] O E' H' []->XE X O H' x
abbrev IOk(X:Cx)(tg e:Expr)(m:MI):Prop:=PI X tg e (tMI X m)
def WL{tg e:Expr}{t t':TI}(h:PI X tg e t)(i:∀O H R,t' O H R->t O H R):PI X tg e t':=λpins s O H R I q=>h pins s O H R I (i O H R q)
def iL(m:ME):MI:=λE=>match m E with
 | .z=>.z| .exc x E1=>.exc x E1
 | .ok (r,E1)=>match r.d with
  | .l ds=>.ok (ds,E1)|_=>.z
def iT(m:ME):MI:=λE=>match m E with
 | .z=>.z| .exc x E1=>.exc x E1
 | .ok (r,E1)=>match r.d with
  | .t ds=>.ok (ds,E1)|_=>.z
def it_list{a:Addr}{xs:List V}{ds:List D}:ItOk K mg (Itl K a) ds (λH=>SqL K H a xs/\Reps K mg H ds xs) where
 mono:=λH H' s h=>⟨s.seq h.1,h.2.mono s⟩
 go:=λi Hh H s h hi=>⟨xs,xs[i]'(by rw[h.2.length];exact hi),s.seq h.1,by simp⟩
 yld:=λi Hh H x H' s h hi y=>by
  obtain⟨e,y⟩:=y;obtain⟨d,h1,h2⟩:=h.2.get (y xs (s.seq h.1));exact⟨d,h1,.inl ⟨e,h2⟩⟩
 stop:=λi Hh H s h hi=>⟨xs,s.seq h.1,by rw[h.2.length];exact hi⟩
def it_tup{a:Addr}{xs:List V}{ds:List D}:ItOk K mg (Itt K a) ds (λH=>SqT K H a xs/\Reps K mg H ds xs) where
 mono:=λH H' s h=>⟨yH s h.1,h.2.mono s⟩
 go:=λi Hh H s h hi=>⟨xs,xs[i]'(by rw[h.2.length];exact hi),yH s h.1,by simp⟩
 yld:=λi Hh H x H' s h hi y=>by
  obtain⟨e,y⟩:=y;obtain⟨d,h1,h2⟩:=h.2.get (y xs (yH s h.1));exact⟨d,h1,.inl ⟨e,h2⟩⟩
 stop:=λi Hh H s h hi=>⟨xs,yH s h.1,by rw[h.2.length];exact hi⟩
def GD:∀(n i:Nat) (lo:Int),i<n->(zF lo n)[i]?=some (.int (lo+i)):=λn i lo h=>by
 have:=wv n i lo h;have e:((zF lo n).drop i)[0]?=some (.int (lo+i)):=by rw[this];rfl
 rw[List.getElem?_drop]at e;simpa using e
def it_rng{lo:Int}{n:Nat}:ItOk K mg (Itr lo n) (zF lo n) (λ_=>True) where
 mono:=λ_ _ _ h=>h
 go:=λi Hh H s h hi=>by rw[yg]at hi;exact hi
 yld:=λi Hh H x H' s h hi y=>by
  obtain⟨e,y⟩:=y;rw[yg]at hi;exact⟨_,GD n i lo hi,.inl ⟨e,by rw[y];simp only[Rep]⟩⟩
 stop:=λi Hh H s h hi=>by rw[yg]at hi;exact hi
def io_list{tg e:Expr}{m:ME}(h:EOk X e m):IOk X tg e (iL m):=WL (zBS h) λO H R ⟨M,E,hl,fr,k⟩=>by
 unfold iL at k;refine z0 (T0:=[]) hl fr ?_;cases ea:m E with
 |z=>rw[ea]at k;exact k|exc x E1=>rw[ea]at k;exact k
 |ok p =>
  obtain⟨r,E1⟩:=p;rw[ea]at k;intro v H1 g;dsimp only at k;cases ed:r.d with
  |l ds =>
   rw[ed]at k;have rl:=g.rep;rw[ed]at rl;obtain⟨a,xs,rfl,q1,q2⟩:=zT rl;exact⟨a,rfl,⟨xs,zK.seq q1⟩,k _ _ H1 it_list ⟨q1,q2⟩ g.dropAll⟩
  |_=>rw[ed]at k;exact k.elim
def io_tup{tg e:Expr}{m:ME}(h:EOk X e m):IOk X tg e (iT m):=WL (pi_tup h) λO H R ⟨M,E,hl,fr,k⟩=>by
 unfold iT at k;refine z0 (T0:=[]) hl fr ?_;cases ea:m E with
 |z=>rw[ea]at k;exact k|exc x E1=>rw[ea]at k;exact k
 |ok p =>
  obtain⟨r,E1⟩:=p;rw[ea]at k;intro v H1 g;dsimp only at k;cases ed:r.d with
  |t ds =>
   rw[ed]at k;have rl:=g.rep;rw[ed]at rl;obtain⟨a,xs,rfl,q1,q2⟩:=ze rl;exact⟨a,rfl,⟨xs,yH zK q1⟩,k _ _ H1 it_tup ⟨q1,q2⟩ g.dropAll⟩
  |_=>rw[ed]at k;exact k.elim
def iR1(m:MA):MI:=λE=>match m E with
 | .z=>.z| .exc x E1=>.exc x E1
 | .ok ([r],E1)=>match r.d with
  | .int j=>if -(2^62)<=j/\j<2^62 then .ok (zF 0 j.toNat,E1)else .z|_=>.z
 |_=>.z
def io_r1{tg a:Expr}{m:MA}{p cpos:Pos}(hgl:Gl X "range")(hm:X.mg "range"=none)(ha:AOk X [a] m)(hst:zH a=false:=by rfl):IOk X tg (.Call (.Name "range" p) [a] [] cpos) (iR1 m):=WL (ue hgl hm ha (zAs hst)) λO H R ⟨M,E,hl,fr,k⟩=>by
 unfold iR1 at k;refine wt (T0:=[]) hl fr ?_;cases ea:m E with
 |z=>rw[ea]at k;exact k|exc x E1=>rw[ea]at k;exact k
 |ok p =>
  obtain⟨rs,E1⟩:=p;rw[ea]at k
  match rs,k with
  | [r],k =>
   intro vs H1 hv g1;have rp:=Got.reps hv g1;dsimp only at k;cases ed:r.d with
   |int j =>
    rw[ed]at k;simp only[List.map,ed]at rp;obtain⟨v,rfl,h1⟩:=Zc rp;dsimp only at k;by_cases hc:-(2^62)<=j/\j<2^62
    ·rw[if_pos hc]at k
     exact⟨j,by rw[zM h1],hc.1,hc.2,k _ _ H1 it_rng trivial g1.dropAll⟩
    ·rw[if_neg hc]at k;exact k.elim
   |_=>rw[ed]at k;exact k.elim
  | [],k=>exact k.elim|_::_::_,k=>exact k.elim
def Zd(tg:MG)(tt:MT)(el:ME):List D->zN->List D->Out (List D×zN)
 | [],E,acc=>.ok (acc,E)
 |d::ds,E,acc=>match tg d E with
  | .ok E1=>match tt E1 with
   | .ok (true,E2)=>match el E2 with
    | .ok (r,E3)=>if acc.length<cap then Zd tg tt el ds E3 (acc++[r.d])else .z|_=>.z
   | .ok (false,E2)=>Zd tg tt el ds E2 acc|_=>.z
  |_=>.z
def Jx(E:zN):List Nat->Out (List AR)
 | []=>.ok []
 |j::js=>match E[j]? with
  |some (.v d)=>match Jx E js with
   | .ok as=>.ok (.tmp d::as)|_=>.z
  |some s=>match s.list? with
   |some _=>match Jx E js with
    | .ok as=>.ok (.ln j::as)|_=>.z
   |none=>.z
  |none=>.z
def Wz(nl:Nat)(caps:List Nat)(mi:MI)(tg:MG)(tt:MT)(el:ME):ME:=λE=>match mi E with
 | .z=>.z| .exc x E1=>.exc x E1
 | .ok (ds,E1)=>match Jx E1 caps with
  | .ok ars=>match zI ars E1 with
   | .ok (ss,E2)=>match Zd tg tt el ds (replicate nl .e++ss) []with
    | .ok (res,Eb)=>match zJ ars ((zw (replicate nl .e++ss) Eb).drop nl) E1 E2 with
     | .ok E3=>.ok (.own res,E3)|_=>.z
    |_=>.z
   |_=>.z
  |_=>.z
def jj:MT:=λE=>.ok (true,E)
abbrev IfOk(X:Cx)(ifs:List Expr)(m:MT):Prop:=zBJ X ifs (tMT X m)
def ww{ifs:List Expr}{t t':TT}(h:zBJ X ifs t)(i:∀O H Q,t' O H Q->t O H Q):zBJ X ifs t':=λpins s O H Q I q=>h pins s O H Q I (i O H Q q)
def ZA:IfOk X [] jj:=ww pif_nil λO H Q ⟨M,E,hl,fr,k⟩=>k H (Got.refl (T0:=[]) hl fr)
def zCC{c:Expr}{m:MT}(h:TOk X c m):IfOk X [c] m:=pif_one h
theorem Q0:∀(js:List Nat) {as:List AR} {T:Fz},E.length=O.length->Jx E js=.ok as->FR K mg M H (T++O.zip E) ->
  ∃vs,AV O as vs/\vs.map some=js.map (λj=>(O[j]?).getD none)/\FR K mg M H (T++(z9 vs as++O.zip E))/\∀b,b∈yM (T++(z9 vs as++O.zip E))->b∈yM (T++O.zip E)
 | [],as,T,hl,e,f=>by
  cases e;exact⟨[],by simp only[AV],rfl,f,λb q=>q⟩
 |j::js,as,T,hl,e,f=>by
  simp only[Jx]at e;cases ej:E[j]? with
  |none=>rw[ej]at e;cases e
  |some s =>
   rw[ej]at e;obtain⟨o,h1,h2⟩:=wS hl ej;have lnk:∀{ds:List D},s.list?=some ds->(match Jx E js with | .ok as=>Out.ok (AR.ln j::as)|_=>.z)=.ok as->∃vs,AV O as vs/\vs.map some=(j::js).map (λj=>(O[j]?).getD none)/\FR K mg M H (T++(z9 vs as++O.zip E))/\∀b,b∈yM (T++(z9 vs as++O.zip E))->b∈yM (T++O.zip E):=λ{ds} hs e=>by
    cases ec:Jx E js with
    |z=>rw[ec]at e;cases e|exc _ _=>rw[ec]at e;cases e
    |ok as1 =>
     rw[ec]at e;cases e;obtain⟨a,xs,ev,_⟩:=f.own o s ds (qK _ h2) hs;subst ev;obtain⟨vs,q1,q2,q3,q4⟩:=Q0 js hl ec f;have p:(T++(((some (V.ref a),Slot.e)::z9 vs as1)++O.zip E)).Perm ((some (V.ref a),Slot.e)::(T++(z9 vs as1++O.zip E))):=perm_middle;have fe:FR K mg M H ((some (V.ref a),Slot.e)::(T++(z9 vs as1++O.zip E))):=q3.mask (.extra (by
      have:∀W:Fz,Mask W W:=by
       intro W
       induction W with
       |nil=>exact .nil _|cons x W ih=>exact .keep ih
      exact this _))
     refine⟨.ref a::vs,by simp only[AV];exact⟨_,vs,rfl,h1,q1⟩,by simp[h1,q2],fe.perm p.symm,λb hb=>?_⟩;have:=zD p b hb;rw[yQ]at this;exact q4 b this
   cases s with
   |e=>cases e|own ds=>exact lnk rfl e|par ds=>exact lnk rfl e
   |v d =>
    dsimp only at e;cases ec:Jx E js with
    |z=>rw[ec]at e;cases e|exc _ _=>rw[ec]at e;cases e
    |ok as1 =>
     rw[ec]at e;cases e;obtain⟨v,ev,r⟩:=f.val o d (qK _ h2);subst ev;obtain⟨vs,q1,q2,q3,q4⟩:=Q0 js hl ec f;obtain⟨v',ev',r'⟩:=q3.val (some v) d (qK _ (qK _ h2));cases ev';have p:(T++(((some v,Slot.v d)::z9 vs as1)++O.zip E)).Perm ((some v,Slot.v d)::(T++(z9 vs as1++O.zip E))):=perm_middle;refine⟨v::vs,by simp only[AV];exact⟨v,vs,rfl,q1⟩,by simp[h1,q2],(q3.add r').perm p.symm,λb hb=>?_⟩;have:=zD p b hb;rw[zy]at this;exact q4 b this
def GE(n:Nat)(Z:Fz):yM (replicate n ((none:Option V),Slot.e)++Z)=yM Z:=by rw[zW,vv,nil_append]
def FR.emps0(f:FR K mg M H Z)(n:Nat):FR K mg M H (replicate n (none,.e)++Z):=(f.emps n).perm perm_append_comm
end
def tN(K:qH)(mg:Str->Option Value)(m:ME):TE:=λO H Q=>∃M E,E.length=O.length/\FR K mg M H (O.zip E)/\match m E with
 | .ok (r,E')=>∀v H',Got K mg M O E H [] O E' H' [(some v,r.slot)]->Q v H'|_=>False
def tNT(K:qH)(mg:Str->Option Value)(m:MT):TT:=λO H Q=>∃M E,E.length=O.length/\FR K mg M H (O.zip E)/\match m E with
 | .ok (b,E')=>∀H',Got K mg M O E H [] O E' H' []->Q b H'|_=>False
section
variable{X:Cx}{K:qH}{mg:Str->Option Value}{O:St}{M:Addr->Prop}{E:zN}{H:Hp}{T0 Z T:Fz}
def tN_M{m:ME}{Q:VK}(h:tN X.K X.mg m O H Q):tM X m O H Q:=by
 obtain⟨M,E,hl,fr,k⟩:=h;refine⟨M,E,hl,fr,?_⟩;cases e:m E with
 |z=>rw[e]at k;exact k|exc x E1=>rw[e]at k;exact k.elim|ok p=>rw[e]at k;exact k
def zAw{m:MT}{Q:Bool->Hp->Prop}(h:tNT X.K X.mg m O H Q):tMT X m O H Q:=by
 obtain⟨M,E,hl,fr,k⟩:=h;refine⟨M,E,hl,fr,?_⟩;cases e:m E with
 |z=>rw[e]at k;exact k|exc x E1=>rw[e]at k;exact k.elim|ok p=>rw[e]at k;exact k
def zFv{m:ME}{r:R}{E':zN}{Q:VK}(hl:E.length=O.length)(h:FR K mg M H (T0++O.zip E))(e:m E=.ok (r,E'))(k:∀v H',Got K mg M O E H T0 O E' H' [(some v,r.slot)]->Q v H'):tN K mg m O H Q:=by
 refine⟨Mo M T0,E,hl,h.inner,?_⟩;rw[e];exact λv H' g=>k v H' (g.outer h)
def zCD{m:MT}{b:Bool}{E':zN}{Q:Bool->Hp->Prop}(hl:E.length=O.length)(h:FR K mg M H (T0++O.zip E))(e:m E=.ok (b,E'))(k:∀H',Got K mg M O E H T0 O E' H' []->Q b H'):tNT K mg m O H Q:=by
 refine⟨Mo M T0,E,hl,h.inner,?_⟩;rw[e];exact λH' g=>k H' (g.outer h)
def GF{ars:List AR}{E1 E2 E3:zN}{ss outs:List Slot}{r:R}{vs:List V}{v:V}{H1 H':Hp}(e1:zI ars E1=.ok (ss,E2))(e3:zJ ars outs E1 E2=.ok E3)
  (av:AV O ars vs) (f1':FR K mg M H1 (O.zip E2++(vs.map some).zip ss)) (st1:Step M H (O.zip E) H1 (O.zip E2++(vs.map some).zip ss)) (l2:E2.length=O.length) (pk:PKp O E O E1)
  (f2:FR K mg (Mo M (O.zip E2)) H' ((some v,r.slot)::(vs.map some).zip outs)) (s2:Step (Mo M (O.zip E2)) H1 ((vs.map some).zip ss) H' ((some v,r.slot)::(vs.map some).zip outs)):Got K mg M O E H [] O E3 H' [(some v,r.slot)]:=by
 have f3:=FR.outer f1' f2 s2;have s3:=Step.outer s2;have p:(O.zip E2++((some v,r.slot)::(vs.map some).zip outs)).Perm ([(some v,r.slot)]++((vs.map some).zip outs++O.zip E2)):=by
  refine perm_append_comm.trans ?_;exact List.Perm.refl _
 obtain⟨f4,o4,l4⟩:=vo ars l2 av e3 (f3.perm p);refine⟨l4,f4,?_,pk.trans (zCA e1 e3)⟩;have st2:=st1.trans s3;exact st2.weak λb hb=>zD p.symm b (o4 b hb)
theorem JR:∀(n:Nat) {Z W:Fz},Mask Z W->Mask Z (W.drop n)
 |0,_,_,h=>h|n+1,_,_,.nil Z=>by simp only[List.drop_nil];exact .nil _|n+1,_,_,.keep h=>.skip (JR n h)|n+1,_,_,.skip h=>.skip (JR (n+1) h)|n+1,_,_,.extra h=>JR n h
theorem WM{α β:Type}:∀(n:Nat) (l:List α) (m:List β),(l.zip m).drop n=(l.drop n).zip (m.drop n)
 |0,_,_=>rfl|n+1,[],_=>by simp|n+1,_::_,[]=>by simp|n+1,_::l,_::m=>by simp[WM n l m]
def yld_got{J:It}{ds:List D}{Iv:Hp->Prop}{O0 O':St}{E0 E':zN}{H1 H' H'':Hp}{Da:Addr}{acc:List D}{i:Nat}{x:V}(it:ItOk K mg J ds Iv)(hlt:i<ds.length)(gb:Got K mg M O0 E0 H1 [] O' E' H' [(some (.ref Da),.own acc)])(ivb:Iv (Hm (Mo M ((some (.ref Da),Slot.own acc)::O'.zip E')) H'))(y:J.yld i H' x H'') :
  ∃d,ds[i]?=some d/\Got K mg M O0 E0 H1 [] O' E' H'' [(some (.ref Da),.own acc)]/\Iv (Hm (Mo M ((some (.ref Da),Slot.own acc)::O'.zip E')) H'')/\Rep K mg (Hm (Mo M ((some (.ref Da),Slot.own acc)::O'.zip E')) H'') d x:=by
 obtain⟨d,hd,h⟩:=it.yld i _ _ x _ zK ivb hlt y;rcases h with⟨rfl,rx⟩|⟨q,xs,es,hq,rfl,rfl,rfl,rs⟩
 ·exact⟨d,hd,gb,ivb,rx⟩
 ·have f:FR K mg M H' ((some (.ref Da),Slot.own acc)::O'.zip E'):=gb.fr
  have f1:=f.newTup hq rs;have s1:Step M H' ((some (.ref Da),Slot.own acc)::O'.zip E') (upd H' q (.t xs)) ((some (.ref q),.v (.t es))::((some (.ref Da),Slot.own acc)::O'.zip E')):=Step.newVal hq;obtain⟨v,ev,rv⟩:=f1.val _ _ qE;cases ev;have sm:=s1.same;rw[YB]at rv sm;have s2:Step M H' ((some (.ref Da),Slot.own acc)::O'.zip E') (upd H' q (.t xs)) ((some (.ref Da),Slot.own acc)::O'.zip E'):=⟨sm,s1.keep⟩;exact⟨_,hd,⟨gb.len,f1.tail,gb.st.trans s2,gb.pk⟩,it.mono _ _ sm ivb,rv⟩
def Q1{nl:Nat}{caps:List Nat}{mi:MI}{tg:MG}{tt:MT}{el:ME}{g:TG}{Q:VK}(ho:GOk X g tg)(h:tM X (Wz nl caps mi tg tt el) O H Q):zEc nl caps (tMI X mi) g (tNT X.K X.mg tt) (tN X.K X.mg el) O H Q:=by
 obtain⟨M,E,hl,fr,k⟩:=h;unfold Wz at k;refine⟨M,E,hl,fr,?_⟩;cases ei:mi E with
 |z=>rw[ei]at k;exact k|exc x E1=>rw[ei]at k;exact k
 |ok p =>
  obtain⟨ds,E1⟩:=p;rw[ei]at k;intro J Iv H1 it iv g1 D hD;dsimp only at k;cases ec:Jx E1 caps with
  |z=>rw[ec]at k;exact k.elim|exc _ _=>rw[ec]at k;exact k.elim
  |ok ars =>
   rw[ec]at k;dsimp only at k;cases el1:zI ars E1 with
   |z=>rw[el1]at k;exact k.elim|exc _ _=>rw[el1]at k;exact k.elim
   |ok p =>
    obtain⟨ss,E2⟩:=p;rw[el1]at k;dsimp only at k;cases em:Zd tg tt el ds (replicate nl .e++ss) []with
    |z=>rw[em]at k;exact k.elim|exc _ _=>rw[em]at k;exact k.elim
    |ok p =>
     obtain⟨res,Eb⟩:=p;rw[em]at k;dsimp only at k;cases eb:zJ ars ((zw (replicate nl .e++ss) Eb).drop nl) E1 E2 with
     |z=>rw[eb]at k;exact k.elim|exc _ _=>rw[eb]at k;exact k.elim
     |ok E3 =>
      rw[eb]at k;obtain⟨vs,av,evs,f1,o1⟩:=Q0 (T:=[]) caps g1.len ec g1.fr;obtain⟨f2,o2,l2,l3⟩:=Y9 (T:=[]) ars g1.len av el1 f1;have hv:=av.length;have f2':FR X.K X.mg M H1 (O.zip E2++(vs.map some).zip ss):=FR.perm (T:=O.zip E2++(vs.map some).zip ss) (Z:=(vs.map some).zip ss++O.zip E2) f2 perm_append_comm;have osub:∀b,b∈yM (O.zip E2++(vs.map some).zip ss)->b∈yM (O.zip E1):=λb hb =>
       o1 b ((o2 b).mpr (zD (T:=O.zip E2++(vs.map some).zip ss) (Z:=(vs.map some).zip ss++O.zip E2) perm_append_comm b hb))
      have st1:Step M H (O.zip E) H1 (O.zip E2++(vs.map some).zip ss):=g1.st.weak osub;have eO:za nl caps O=replicate nl none++vs.map some:=by unfold L2.za;rw[evs]
      rw[eO];have ez:(replicate nl (none:Option V)++vs.map some).zip (replicate nl Slot.e++ss)=replicate nl (none,.e)++(vs.map some).zip ss:=by
       rw[zip_append (by simp),vt]
      have f4:FR X.K X.mg (Mo M (O.zip E2)) H1 ((replicate nl (none:Option V)++vs.map some).zip (replicate nl Slot.e++ss)):=by
       rw[ez];exact(FR.inner f2').emps0 nl
      have oo:yM ((replicate nl (none:Option V)++vs.map some).zip (replicate nl Slot.e++ss))=yM ((vs.map some).zip ss):=by rw[ez,GE]
      generalize hO0:replicate nl (none:Option V)++vs.map some=O0 at f4 oo ⊢;generalize hE0:replicate nl Slot.e++ss=E0 at f4 oo em eb ⊢;have hl0:E0.length=O0.length:=by rw[<- hO0,<- hE0];simp[l2,hv]
      have f5:=f4.newOwn (ds:=[]) (xs:=[]) hD Reps.nil;have s5:=Step.newOwn (ds:=[]) (xs:=[]) f4 hD;have iv5:Iv (Hm (Mo (Mo M (O.zip E2)) ((some (.ref D),Slot.own [])::O0.zip E0)) (upd H1 D (.l []))):=by
       refine it.mono _ _ s5.same (it.mono _ _ (j5 λb hb=>?_) iv);rcases hb with hb|hb
       ·rcases hb with hb|hb
        ·exact .inl hb
        ·exact .inr (osub b (by rw[zW];exact mem_append_left _ hb))
       ·rw[oo]at hb
        exact .inr (osub b (by rw[zW];exact qK _ hb))
      refine⟨λi m O' H'=>m=ds.length-i/\i<=ds.length/\∃E' acc,Got X.K X.mg (Mo M (O.zip E2)) O0 E0 H1 [] O' E' H' [(some (.ref D),.own acc)]/\Iv (Hm (Mo (Mo M (O.zip E2)) ((some (.ref D),Slot.own acc)::O'.zip E')) H')/\Zd tg tt el (ds.drop i) E' acc=.ok (res,Eb),
       ⟨ds.length,by simp,zero_le _,E0,[],⟨hl0,f5,s5,PKp.refl⟩,iv5,em⟩,?_⟩
      rintro i m O' H' ⟨rfl,hi,E',acc,gb,ivb,cm⟩
      by_cases hlt:i<ds.length
      ·refine .inr ⟨it.go i _ H' zK ivb hlt,λO'' H''=>(i+1<=ds.length/\∃E' acc,Got X.K X.mg (Mo M (O.zip E2)) O0 E0 H1 [] O'' E' H'' [(some (.ref D),.own acc)]/\Iv (Hm (Mo (Mo M (O.zip E2)) ((some (.ref D),Slot.own acc)::O''.zip E')) H'')/\Zd tg tt el (ds.drop (i+1)) E' acc=.ok (res,Eb)),
        λO'' H'' q=>⟨ds.length-(i+1),by omega,rfl,q⟩,λx H'' y=>?_⟩
       obtain⟨d,hd,gb,ivb,rx⟩:=yld_got it hlt gb ivb y;have ed:ds.drop i=d::ds.drop (i+1):=by
        obtain⟨hi',rfl⟩:=qG.mp hd;exact List.drop_eq_getElem_cons hi'
       rw[ed]at cm;simp only[Zd]at cm;cases e1:tg d E' with
       |z=>rw[e1]at cm;cases cm|exc _ _=>rw[e1]at cm;cases cm
       |ok Ea =>
        rw[e1]at cm;dsimp only at cm;refine ho _ O' E' _ [(some (.ref D),.own acc)] x d Ea _ gb.len (gb.fr.add rx) e1 λO2 ga=>?_
        have g2:=gb.trans' ga;cases e2:tt Ea with
        |z=>rw[e2]at cm;cases cm|exc _ _=>rw[e2]at cm;cases cm
        |ok p =>
         obtain⟨b,Eb2⟩:=p;rw[e2]at cm;refine zCD ga.len ga.fr e2 λH3 gt=>?_
         have g3:=g2.trans' gt;have iv3:=it.mono _ _ (ga.st.same.trans gt.st.same) ivb;cases b with
         |false =>
          refine zFj ⟨hlt,Eb2,acc,g3,iv3,cm⟩
         |true =>
          refine zFk ?_;dsimp only at cm;cases e3:el Eb2 with
          |z=>rw[e3]at cm;cases cm|exc _ _=>rw[e3]at cm;cases cm
          |ok p =>
           obtain⟨r,Ec⟩:=p;rw[e3]at cm;dsimp only at cm;by_cases hcap:acc.length<cap
           ·rw[if_pos hcap]at cm
            refine zFv g3.len g3.fr e3 λyv H4 ge=>?_
            have g4:=g3.trans' ge;have fz:FR X.K X.mg (Mo M (O.zip E2)) H4 ((some yv,.v r.d)::((some (.ref D),Slot.own acc)::O2.zip Ec)):=g4.fr.frz;obtain⟨yv',ey,ry⟩:=fz.val _ _ qE;cases ey;rw[YB]at ry;have fo:=fz.tail;obtain⟨a,ys,ea,ha,_,rys⟩:=fo.own _ _ acc qE rfl;cases ea;refine⟨ys,ha,by rw[rys.length];exact lt_of_lt_of_le hcap (wb (le_refl _)),hlt,Ec,acc++[r.d],?_⟩;obtain⟨fm,sm⟩:=FR.mut (i:=0) (s:=.own acc) fo rfl rfl (rys.append (Reps.cons ry Reps.nil));have fm':FR X.K X.mg (Mo M (O.zip E2)) (upd H4 D (.l (ys++[yv]))) ((some (.ref D),Slot.own (acc++[r.d]))::O2.zip Ec):=fm;have sm':Step (Mo M (O.zip E2)) H4 ((some (.ref D),Slot.own acc)::O2.zip Ec) (upd H4 D (.l (ys++[yv]))) ((some (.ref D),Slot.own (acc++[r.d]))::O2.zip Ec):=sm;have sz:Step (Mo M (O.zip E2)) H3 ((some (.ref D),Slot.own acc)::O2.zip Eb2) H4 ((some (.ref D),Slot.own acc)::O2.zip Ec):=ge.st.weak (zC (sublist_cons_self _ _));have sz0:Step (Mo M (O.zip E2)) H1 (O0.zip E0) H4 ((some (.ref D),Slot.own acc)::O2.zip Ec):=g4.st.weak (zC (sublist_cons_self _ _));exact⟨⟨g4.len,fm',sz0.trans sm',g4.pk⟩,it.mono _ _ (sz.same.trans sm'.same) iv3,cm⟩
           ·rw[if_neg hcap]at cm;cases cm
      ·have ei2:i=ds.length:=by omega
       subst ei2;rw[drop_length]at cm;simp only[Zd]at cm;cases cm;refine .inl ⟨it.stop _ _ H' zK ivb (le_refl _),k _ H' ?_⟩;have mk0:Mask (O'.zip Eb) (O0.zip (zw E0 Eb)):=Yt E0 O0 O' Eb gb.len (hl0.symm) λj ds' e=>(gb.pk j ds' e).2
       have mk:Mask (O'.zip Eb) ((vs.map some).zip ((zw E0 Eb).drop nl)):=by
        have:=JR nl mk0;have e:(O0.zip (zw E0 Eb)).drop nl=(vs.map some).zip ((zw E0 Eb).drop nl):=by
         rw[WM,<- hO0];congr 1;rw[List.drop_left' (by simp)]
        rw[e]at this;exact this
       refine GF (r:=.own res) el1 eb av f2' st1 l3 g1.pk (gb.fr.mask (.keep mk)) ?_;refine(gb.st.weak λb hb=>(Mask.keep mk).sub.subset hb).left λb hb=>?_
       show b∈yM _
       rw[nil_append,oo]at hb;exact hb
end
section
variable{X:Cx}{elt target iter:Expr}{ifs:List Expr}{scope:Scope}{pos:Pos}
def ok_comp{mi:MI}{tg:MG}{tt:MT}{el:ME}{g:TG}(nl:Nat)(caps:List Nat)(N':List Str)(hx:∀e s,¬X.xe e s)(hc:X.calm=true)(hkind:scope.kind=.function)(hnames:∀y∈scope.names,y.2=.local->scope.names.lookup y.1=some .local)(hcell:∀y∈scope.names,y.2=.cell->scope.names.lookup y.1=some .cell)
  (hfree:(scope.names.all λy=>y.2 != .free||X.env.kindOf y.1==some .cell)=true)
  (hlen:N'.length=nl+caps.length) (hcap:∀(i j:Nat),caps[i]?=some j->∃x,N'[nl+i]?=some x/\X.N[j]?=some x/\scope.names.lookup x=some .free)
  (hi:IOk X target iter mi) (hg:∀cl C ex s H,PG (cxB X N' scope cl C ex s H) target g) (ho:GOk X g tg) (ht:∀cl C ex s H,IfOk (cxB X N' scope cl C ex s H) ifs tt) (he:∀cl C ex s H,EOk (cxB X N' scope cl C ex s H) elt el)
  (hs:∀x,foldedSetIterable iter X.env x=pure x:=by intro _;rfl):EOk X (.ListComp elt [⟨target,iter,ifs,0⟩] scope pos) (Wz nl caps mi tg tt el) :=
 zq (pe_comp (te:=tN X.K X.mg el) (tt:=tNT X.K X.mg tt) hx hc hkind hnames hcell hfree hlen hcap hi hg (λcl C ex s H=>ww (ht cl C ex s H) λO H Q q=>zAw (X:=cxB X N' scope cl C ex s _) q) (λcl C ex s H=>zq (he cl C ex s H) λO H Q q=>tN_M (X:=cxB X N' scope cl C ex s _) q) hs) λO H Q=>Q1 ho
def sk_comp{mi:MI}{tg:MG}{tt:MT}{el:ME}{g:TG}{i:Nat}{y:Str}{py spos:Pos}(nl:Nat)(caps:List Nat)(N':List Str)(hN:X.N.Nodup)(hi':X.N[i]?=some y)(hy:Loc X.env.scope y)(hf:X.fn y=true\/X.env.scope.names.lookup y=some .local)(hx:∀e s,¬X.xe e s)(hc:X.calm=true)(hkind:scope.kind=.function)(hnames:∀y∈scope.names,y.2=.local->scope.names.lookup y.1=some .local)(hcell:∀y∈scope.names,y.2=.cell->scope.names.lookup y.1=some .cell)
  (hfree:(scope.names.all λy=>y.2 != .free||X.env.kindOf y.1==some .cell)=true)
  (hlen:N'.length=nl+caps.length) (hcap:∀(i j:Nat),caps[i]?=some j->∃x,N'[nl+i]?=some x/\X.N[j]?=some x/\scope.names.lookup x=some .free)
  (hi:IOk X target iter mi) (hg:∀cl C ex s H,PG (cxB X N' scope cl C ex s H) target g) (ho:GOk X g tg) (ht:∀cl C ex s H,IfOk (cxB X N' scope cl C ex s H) ifs tt) (he:∀cl C ex s H,EOk (cxB X N' scope cl C ex s H) elt el)
  (hs:∀x,foldedSetIterable iter X.env x=pure x) (hsw:swapsWith (.ListComp elt [⟨target,iter,ifs,0⟩] scope pos) (some (.Name y py)) spos.line X.env=pure true) :
  SOk X (.Assign [.Name y py] (.ListComp elt [⟨target,iter,ifs,0⟩] scope pos) spos) (sSet i (Wz nl caps mi tg tt el)) :=
 yy (ps_setC (te:=tN X.K X.mg el) (tt:=tNT X.K X.mg tt) hN hi' hy hf hx hc hkind hnames hcell hfree hlen hcap hi hg (λcl C ex s H=>ww (ht cl C ex s H) λO H Q q=>zAw (X:=cxB X N' scope cl C ex s _) q) (λcl C ex s H=>zq (he cl C ex s H) λO H Q q=>tN_M (X:=cxB X N' scope cl C ex s _) q) hs hsw) λD O H h=>Q1 ho (QF h)
end
def mem7{P:String->Prop}(h1:P "NoneType")(h2:P "bool")(h3:P "int")(h4:P "str")(h5:P "tuple")(h6:P "list")(h7:P "dict"):∀t∈["NoneType","bool","int","str","tuple","list","dict"],P t:=by
 intro t ht;simp only[mem_cons,mem_nil_iff,or_false]at ht;rcases ht with rfl|rfl|rfl|rfl|rfl|rfl|rfl<;>assumption
abbrev Kit(K:qH)(T:String):Prop:=∀t∈["NoneType","bool","int","str","tuple","list","dict"],kitOne K (.type t) (.type T)=some (QD t T)
def kit_int(K:qH):Kit K "int":=mem7 rfl rfl rfl rfl rfl rfl rfl
def zEd(K:qH):Kit K "bool":=mem7 rfl rfl rfl rfl rfl rfl rfl
def zCE(K:qH):Kit K "tuple":=mem7 rfl rfl rfl rfl rfl rfl rfl
def zEe(K:qH):Kit K "list":=mem7 rfl rfl rfl rfl rfl rfl rfl
def kit_str(K:qH):Kit K "str":=mem7 rfl rfl rfl rfl rfl rfl rfl
def zEf(K:qH):Kit K "dict":=mem7 rfl rfl rfl rfl rfl rfl rfl
def wx:bootBuiltins "isinstance"=some (.builtin "isinstance"):=by decide +kernel
def bt_len:bootBuiltins "len"=some (.builtin "len"):=by decide +kernel
def zFw:bootBuiltins "max"=some (.builtin "max"):=by decide +kernel
def bt_all:bootBuiltins "all"=some (.builtin "all"):=by decide +kernel
def zFx:bootBuiltins "int"=some (.type "int"):=by decide +kernel
def bt_bool:bootBuiltins "bool"=some (.type "bool"):=by decide +kernel
def Q2:bootBuiltins "tuple"=some (.type "tuple"):=by decide +kernel
def bt_list:bootBuiltins "list"=some (.type "list"):=by decide +kernel
def bt_str:bootBuiltins "str"=some (.type "str"):=by decide +kernel
def bt_dict:bootBuiltins "dict"=some (.type "dict"):=by decide +kernel
section
variable{X:Cx}{K:qH}{mg:Str->Option Value}{O:St}{H:Hp}
def eNeg(a:ME):ME:=λE=>match a E with
 | .ok (.v (.int i),E1)=>.ok (.v (.int (-i)),E1)| .exc x E1=>.exc x E1|_=>.z
def ok_neg{a:Expr}{m:ME}{pos:Pos}(h:EOk X a m):EOk X (.UnaryOp .USub a pos) (eNeg m):=zq (pe_un un_neg h) λO H Q ⟨M,E,hl,fr,k⟩=>by
 unfold eNeg at k;refine z0 (T0:=[]) hl fr ?_;cases ea:m E with
 |z=>rw[ea]at k;exact k|exc x E1=>rw[ea]at k;exact k
 |ok p =>
  obtain⟨r,E1⟩:=p;rw[ea]at k;cases r with
  |own ds=>exact k.elim
  |v d =>
   cases d with
   |int i =>
    intro v H' g;exact⟨i,zM g.rep,k _ H' (g.flat (d:=.int (-i)) rfl)⟩
   |_=>exact k.elim
def jR(p p':Int->Int->Bool)(a b c:ME):ME:=λE=>match a E with
 | .z=>.z| .exc x E1=>.exc x E1
 | .ok (.v (.int i),E1)=>match b E1 with
  | .z=>.z| .exc x E2=>.exc x E2
  | .ok (.v (.int j),E2)=>if p i j=true then match c E2 with
    | .z=>.z| .exc x E3=>.exc x E3| .ok (.v (.int k),E3)=>.ok (.v (.bl (p' j k)),E3)|_=>.z
   else .ok (.v (.bl false),E2)
  |_=>.z
 |_=>.z
def GG{p p':Int->Int->Bool}{a b c:ME}{Q:VK}(h:tM X (jR p p' a b c) O H Q):zBZ (rI0 λi j=>.bl (p i j)) (rI0 λi j=>.bl (p' i j)) (tM X a) (tM X b) (tM X c) O H Q:=by
 obtain⟨M,E,hl,fr,k⟩:=h;unfold jR at k;refine z0 (T0:=[]) hl fr ?_;cases ea:a E with
 |z=>rw[ea]at k;exact k|exc x E1=>rw[ea]at k;exact k
 |ok q =>
  obtain⟨r,E1⟩:=q;rw[ea]at k;cases r with
  |own ds=>exact k.elim
  |v d =>
   cases d with
   |int i =>
    intro x H1 g1;have g1':=g1.dropAll;refine z0 (T0:=[]) g1'.len g1'.fr ?_;dsimp only at k;cases eb:b E1 with
    |z=>rw[eb]at k;exact k|exc x E2=>rw[eb]at k;exact λH' g=>k H' (g1'.trans' g)
    |ok q =>
     obtain⟨r2,E2⟩:=q;rw[eb]at k;cases r2 with
     |own ds=>exact k.elim
     |v d2 =>
      cases d2 with
      |int j =>
       intro y H2 g2;have g12:=(g1'.trans' g2).dropAll;refine⟨i,j,zM g1.rep,zM g2.rep,p i j,rfl,?_⟩;dsimp only at k;cases ep:p i j with
       |false =>
        rw[ep]at k;exact zFj (k _ H2 (g12.flat (d:=.bl false) rfl))
       |true =>
        rw[ep]at k;simp only[if_true]at k;refine zFk (z0 (T0:=[]) g12.len g12.fr ?_);cases ec:c E2 with
        |z=>rw[ec]at k;exact k|exc x E3=>rw[ec]at k;exact λH' g=>k H' (g12.trans' g)
        |ok q =>
         obtain⟨r3,E3⟩:=q;rw[ec]at k;cases r3 with
         |own ds=>exact k.elim
         |v d3 =>
          cases d3 with
          |int n =>
           intro w H3 g3;exact⟨j,n,zM g2.rep,zM g3.rep,k _ H3 ((g12.trans' g3).flat (d:=.bl (p' j n)) rfl)⟩
          |_=>exact k.elim
      |_=>exact k.elim
   |_=>exact k.elim
def zEg{op op':CmpOp}{p p':Int->Int->Bool}{a b c:Expr}{ma mb mc:ME}{pos:Pos}(ho:OpR X (compareOp op) (rI0 λi j=>.bl (p i j)))(ho':OpR X (compareOp op') (rI0 λi j=>.bl (p' i j)))(ha:EOk X a ma)(hb:EOk X b mb)(hc:EOk X c mc)
  (hm:lastMarks [op,op'] [b,c]=false:=by with_unfolding_all rfl):EOk X (.Compare a [op,op'] [b,c] pos) (jR p p' ma mb mc):=zq (zDy ho ho' ha hb hc hm) λO H Q=>GG
def zCF{op op':CmpOp}{p p':Int->Int->Bool}{a b c:Expr}{ma mb mc:ME}{pos:Pos}(ho:OpR X (compareOp op) (rI0 λi j=>.bl (p i j)))(ho':OpR X (compareOp op') (rI0 λi j=>.bl (p' i j)))(ha:EOk X a ma)(hb:EOk X b mb)(hc:EOk X c mc)
  (hm:lastMarks [op,op'] [b,c]=false:=by with_unfolding_all rfl):TOk X (.Compare a [op,op'] [b,c] pos) (tT (jR p p' ma mb mc)):=Qp (zDz ho ho' ha hb hc hm) λO H Q q=>GG (zBz q)
abbrev ltB:Int->Int->Bool:=λi j=>decide (i<j)
abbrev leB:Int->Int->Bool:=λi j=>decide (i<=j)
abbrev gtB:Int->Int->Bool:=λi j=>decide (j<i)
abbrev geB:Int->Int->Bool:=λi j=>decide (j<=i)
def QI(X:Cx)(scope:Scope):List Nat->List Str->Prop
 | [],[]=>True|j::js,x::xs=>X.N[j]?=some x/\scope.names.lookup x=some .free/\QI X scope js xs|_,_=>False
theorem GH{scope:Scope}{loc:List Str}:∀{caps:List Nat} {capn:List Str},QI X scope caps capn->capn.length=caps.length/\∀(i j:Nat),caps[i]?=some j->∃x,capn[i]?=some x/\X.N[j]?=some x/\scope.names.lookup x=some .free
 | [],[],h=>⟨rfl,λi j e=>by simp at e⟩| [],_::_,h=>h.elim|_::_,[],h=>h.elim
 |j::js,x::xs,h=>by
  obtain⟨h1,h2,h3⟩:=h;obtain⟨i1,i2⟩:=GH (loc:=loc) h3;refine⟨by simp[i1],λi k e=>?_⟩;cases i with
  |zero=>simp at e;subst e;exact⟨x,rfl,h1,h2⟩|succ i=>simp at e;obtain⟨y,q⟩:=i2 i k e;exact⟨y,by simpa using q⟩
def ok_lc{elt target iter:Expr}{ifs:List Expr}{scope:Scope}{pos:Pos}{mi:MI}{tg:MG}{tt:MT}{el:ME}{g:TG}{nl:Nat}{caps:List Nat}(loc capn:List Str)(hnl:loc.length=nl)(hx:∀e s,¬X.xe e s)(hc:X.calm=true)(hkind:scope.kind=.function)(hnames:∀y∈scope.names,y.2=.local->scope.names.lookup y.1=some .local)(hcell:∀y∈scope.names,y.2=.cell->scope.names.lookup y.1=some .cell)
  (hfree:(scope.names.all λy=>y.2 != .free||X.env.kindOf y.1==some .cell)=true) (hcap:QI X scope caps capn)
  (hi:IOk X target iter mi) (hg:∀cl C ex s H,PG (cxB X (loc++capn) scope cl C ex s H) target g) (ho:GOk X g tg) (ht:∀cl C ex s H,IfOk (cxB X (loc++capn) scope cl C ex s H) ifs tt) (he:∀cl C ex s H,EOk (cxB X (loc++capn) scope cl C ex s H) elt el)
  (hs:∀x,foldedSetIterable iter X.env x=pure x:=by intro _;rfl):EOk X (.ListComp elt [⟨target,iter,ifs,0⟩] scope pos) (Wz nl caps mi tg tt el):=by
 obtain⟨c1,c2⟩:=GH (loc:=loc) hcap;refine ok_comp nl caps (loc++capn) hx hc hkind hnames hcell hfree (by simp[hnl,c1]) (λi j e=>?_) hi hg ho ht he hs;obtain⟨x,q1,q2,q3⟩:=c2 i j e;refine⟨x,?_,q2,q3⟩;rw[getElem?_append_right (by omega),hnl,Nat.add_sub_cancel_left];exact q1
def sk_lc{elt target iter:Expr}{ifs:List Expr}{scope:Scope}{pos:Pos}{mi:MI}{tg:MG}{tt:MT}{el:ME}{g:TG}{nl:Nat}{caps:List Nat}{i:Nat}{y:Str}{py spos:Pos}(loc capn:List Str)(hN:X.N.Nodup)(hi':X.N[i]?=some y)(hy:Loc X.env.scope y)(hf:X.fn y=true\/X.env.scope.names.lookup y=some .local)(hnl:loc.length=nl)(hx:∀e s,¬X.xe e s)(hc:X.calm=true)(hkind:scope.kind=.function)(hnames:∀y∈scope.names,y.2=.local->scope.names.lookup y.1=some .local)(hcell:∀y∈scope.names,y.2=.cell->scope.names.lookup y.1=some .cell)
  (hfree:(scope.names.all λy=>y.2 != .free||X.env.kindOf y.1==some .cell)=true) (hcap:QI X scope caps capn)
  (hi:IOk X target iter mi) (hg:∀cl C ex s H,PG (cxB X (loc++capn) scope cl C ex s H) target g) (ho:GOk X g tg) (ht:∀cl C ex s H,IfOk (cxB X (loc++capn) scope cl C ex s H) ifs tt) (he:∀cl C ex s H,EOk (cxB X (loc++capn) scope cl C ex s H) elt el)
  (hs:∀x,foldedSetIterable iter X.env x=pure x) (hsw:swapsWith (.ListComp elt [⟨target,iter,ifs,0⟩] scope pos) (some (.Name y py)) spos.line X.env=pure true) :
  SOk X (.Assign [.Name y py] (.ListComp elt [⟨target,iter,ifs,0⟩] scope pos) spos) (sSet i (Wz nl caps mi tg tt el)):=by
 obtain⟨c1,c2⟩:=GH (loc:=loc) hcap;refine sk_comp nl caps (loc++capn) hN hi' hy hf hx hc hkind hnames hcell hfree (by simp[hnl,c1]) (λi j e=>?_) hi hg ho ht he hs hsw;obtain⟨x,q1,q2,q3⟩:=c2 i j e;refine⟨x,?_,q2,q3⟩;rw[getElem?_append_right (by omega),hnl,Nat.add_sub_cancel_left];exact q1
end
section
variable(P:Program)(w:World)(K:qH)(mg:Str->Option Value)(base:Heap)
def Yh(x:Str)(st:Stmt)(ps:List Str):Prop:=∃(a:Addr) (fd:FuncData),mg x=some (.ref a)/\Fun K x x st a fd/\JP K fd ps []
def FOk(c:Bool)(x:Str)(k:Nat)(ps:List Str)(F:MF):Prop:=∃(a:Addr) (fd:FuncData),mg x=some (.ref a)/\keepIn K (.ref a)=true/\JP K fd ps []/\FnOkN c P w K mg base k a fd ps (spM K mg ps.length F)
end
def vw(l:List (Str×MF)):Str->Option MF:=λx=>l.lookup x
section
variable{X:Cx}{n:Nat}
def tab_nil:zAv X n (vw []):=λx F e=>by cases e
def zEh{x:Str}{F:MF}{l:List (Str×MF)}{f:Addr}{fd:FuncData}{ps:List Str}{k:Nat}{c:Bool}(hm:X.mg x=some (.ref f))(hk:keepIn X.K (.ref f)=true)(G:FnOkN c X.prog X.w X.K X.mg X.base k f fd ps (spM X.K X.mg n F))(hd:c=true->X.A.handled=none)(hr:RoomN k X.A)(hb:JP X.K fd ps [])
  (h:zAv X n (vw l)):zAv X n (vw ((x,F)::l)):=λy F' e=>by
 unfold vw at e;rw[lookup_cons]at e;cases hy:y==x with
 |true =>
  rw[hy]at e;cases e;have:y=x:=by simpa using hy
  subst this;exact⟨f,fd,ps,k,hm,hk,⟨c,G,hd⟩,hr,hb⟩
 |false=>rw[hy]at e;exact h y F' e
end
mutual
def deq:D->D->Bool
 | .t a,d=>match d with
  | .t b=>deqs a b|_=>false
 | .l a,d=>match d with
  | .l b=>deqs a b|_=>false
 |a,d=>match d with
  | .t _=>false| .l _=>false|b=>eqV (flV a) (flV b)
def deqs:List D->List D->Bool
 | [],[]=>true|a::as,b::bs=>deq a b&&deqs as bs| [],_::_=>false|_::_,[]=>false
end
def eqb:Nat->D->Bool
 |_,.non=>true|_,.bl _=>true|_,.int _=>true|_,.str _=>true|n+1,.t ds=>ds.all (eqb n)|n+1,.l ds=>ds.all (eqb n)|_,_=>false
theorem wz:∀(a b:List D),deqs a b=((List.range (min a.length b.length)).all (λj=>deq (a.getD j .non) (b.getD j .non))&&a.length==b.length)
 | [],[]=>by simp[deqs]| [],_::_=>by simp[deqs]|_::_,[]=>by simp[deqs]
 |a::as,b::bs=>by
  simp only[deqs,wz as bs,length_cons];have e:min (as.length+1) (bs.length+1)=min as.length bs.length+1:=by omega
  rw[e,List.range_succ_eq_map,all_cons,List.all_map];simp[Function.comp_def,Bool.and_assoc]
section
variable{X:Cx}{pins:List (Addr×Obj)}{O:St}{H:Hp}{s:Shared}
def wH{d:D}(h:eqb 0 d=true):flat d=true:=by cases d<;>first|rfl|(cases h)
def Q3{v:V}(h:vg v=true):eqV v v=true:=by cases v<;>simp[vg]at h<;>simp[eqV]
def Jr{a b:D}(ha:flat a=true)(hb:flat b=true):deq a b=eqV (flV a) (flV b):=by
 cases a<;>cases b<;>first|(simp[flat]at ha;done)|(simp[flat]at hb;done)|simp[deq]
def zx{n:Nat}{d:D}(h:eqb n d=true):flat d=true\/(∃m ds,n=m+1/\d=.t ds/\∀e∈ds,eqb m e=true)\/(∃m ds,n=m+1/\d=.l ds/\∀e∈ds,eqb m e=true):=by
 cases d with
 |t ds =>
  cases n with
  |zero=>cases h|succ m=>exact .inr (.inl ⟨m,ds,rfl,rfl,all_eq_true.mp h⟩)
 |l ds =>
  cases n with
  |zero=>cases h|succ m=>exact .inr (.inr ⟨m,ds,rfl,rfl,all_eq_true.mp h⟩)
 |fn x=>cases n<;>cases h
 |dic=>cases n<;>cases h
 |exn x y=>cases n<;>cases h
 |_=>exact .inl rfl
def Q4(I:Inv X pins O H s):∀(n:Nat) (d e:D) (x:V),eqb n d=true->eqb n e=true->Rep X.K X.mg H d x->Rep X.K X.mg H e x->deq d e=true:=by
 intro n
 induction n with
 |zero =>
  intro d e x hd he rd re;have fd:=wH hd;have fe:=wH he;rw[Jr fd fe,<- zd fd rd,<- zd fe re];exact Q3 (by rw[zd fd rd];exact yq fd)
 |succ n ih =>
  intro d e x hd he rd re;have seq:∀(ds es:List D) (xs:List V),(∀e∈ds,eqb n e=true)->(∀e∈es,eqb n e=true)->Reps X.K X.mg H ds xs->Reps X.K X.mg H es xs->deqs ds es=true:=by
   intro ds
   induction ds with
   |nil =>
    intro es xs _ _ r1 r2;simp only[Reps]at r1;subst r1;cases es with
    |nil=>rfl|cons e es=>simp only[Reps]at r2;obtain⟨v,r,q,_⟩:=r2;cases q
   |cons d ds ihd =>
    intro es xs h1 h2 r1 r2;simp only[Reps]at r1;obtain⟨v,r,rfl,a1,a2⟩:=r1;cases es with
    |nil=>simp only[Reps]at r2;cases r2
    |cons e es =>
     simp only[Reps]at r2;obtain⟨v',r',q,b1,b2⟩:=r2;cases q;simp only[deqs,Bool.and_eq_true];exact⟨ih d e v (h1 d qE) (h2 e qE) a1 b1,ihd es r (λz hz=>h1 z (qD _ hz)) (λz hz=>h2 z (qD _ hz)) a2 b2⟩
  have isRef:∀{d:D} {a:Addr},flat d=true->Rep X.K X.mg H d (.ref a)->False:=λ{d a} fd r=>by
   have:=zd fd r;cases d<;>simp[flat]at fd<;>cases this
  have kinds:∀{a:Addr} {xs ys:List V},SqT X.K H a xs->SqL X.K H a ys->False:=λ{a xs ys} h1 h2=>by
   obtain⟨i1,_,⟨o,e1,c1,_⟩,_⟩:=I.tuple h1;obtain⟨i2,_,⟨o2,n2,e2,c2,_⟩,_⟩:=I.list h2;rw[e1]at e2;cases e2;rw[c1]at c2;simp at c2
  rcases zx hd with fd|⟨m,ds,em,rfl,hds⟩|⟨m,ds,em,rfl,hds⟩
  ·rcases zx he with fe|⟨m,es,em,rfl,hes⟩|⟨m,es,em,rfl,hes⟩
   ·rw[Jr fd fe,<- zd fd rd,<- zd fe re]
    exact Q3 (by rw[zd fd rd];exact yq fd)
   ·obtain⟨a,xs,rfl,_,_⟩:=ze re
    exact(isRef fd rd).elim
   ·obtain⟨a,xs,rfl,_,_⟩:=zT re
    exact(isRef fd rd).elim
  ·cases em
   obtain⟨a,xs,rfl,q1,q2⟩:=ze rd;rcases zx he with fe|⟨m,es,em,rfl,hes⟩|⟨m,es,em,rfl,hes⟩
   ·exact(isRef fe re).elim
   ·cases em
    obtain⟨b,ys,e,p1,p2⟩:=ze re;cases e;have:=I.tuple_inj q1 p1;subst this;simp only[deq];exact seq ds es xs hds hes q2 p2
   ·obtain⟨b,ys,e,p1,p2⟩:=zT re
    cases e;exact(kinds q1 p1).elim
  ·cases em
   obtain⟨a,xs,rfl,q1,q2⟩:=zT rd;rcases zx he with fe|⟨m,es,em,rfl,hes⟩|⟨m,es,em,rfl,hes⟩
   ·exact(isRef fe re).elim
   ·obtain⟨b,ys,e,p1,p2⟩:=ze re
    cases e;exact(kinds p1 q1).elim
   ·cases em
    obtain⟨b,ys,e,p1,p2⟩:=zT re;cases e;have:=I.list_inj q1 p1;subst this;simp only[deq];exact seq ds es xs hds hes q2 p2
def ZB{ds:List D}{xs:List V}{us:List Value}(r:Reps X.K X.mg H ds xs)(v:yc xs us){j:Nat}(h:j<us.length):j<ds.length/\∃x,Rep X.K X.mg H (ds.getD j .non) x/\yL x us[j]:=by
 have l1:=r.length;have l2:=v.length;have hd:j<ds.length:=by omega
 refine⟨hd,?_⟩;obtain⟨x,q1,q2⟩:=r.get' (i:=j) (d:=ds[j]) (by simp[hd]);obtain⟨u,e1,e2⟩:=v.get q1;have:us[j]=u:=by
  have:=qG.mp e1;exact this.2
 refine⟨x,?_,by rw[this];exact e2⟩;rw[getD_eq_getElem?_getD,getElem?_eq_getElem hd];exact q2
def eqAt_ft{A:Around}{d:D}{x:V}{u:Value}{b:Addr}{its:Array Value}(hd:flat d=true)(rx:yL x u)(ex:x=flV d)(hb:s.heap.IsTuple b its)(hu:A.units<cLine):SeqAt.EqAt A s u (.ref b) false:=by
 subst ex;cases d with
 |non=>cases rx;exact SeqAt.EqAt.none_tuple hb hu|bl c=>cases rx;exact SeqAt.EqAt.bool_tuple c hb hu|int i=>obtain⟨t,rfl⟩:=rx;exact SeqAt.EqAt.int_tuple i t hb hu|str z=>obtain⟨t,rfl⟩:=rx;exact SeqAt.EqAt.str_tuple z t hb hu|_=>simp[flat]at hd
def eqAt_fl{A:Around}{d:D}{x:V}{u:Value}{b:Addr}{its:Array Value}(hd:flat d=true)(rx:yL x u)(ex:x=flV d)(hb:s.heap.IsList b its)(hu:A.units<cLine):SeqAt.EqAt A s u (.ref b) false:=by
 subst ex;cases d with
 |non=>cases rx;exact SeqAt.EqAt.none_list hb hu|bl c=>cases rx;exact SeqAt.EqAt.bool_list c hb hu|int i=>obtain⟨t,rfl⟩:=rx;exact SeqAt.EqAt.int_list i t hb hu|str z=>obtain⟨t,rfl⟩:=rx;exact SeqAt.EqAt.str_list z t hb hu|_=>simp[flat]at hd
def eqAt_tf{A:Around}{d:D}{x:V}{u:Value}{b:Addr}{its:Array Value}(hd:flat d=true)(rx:yL x u)(ex:x=flV d)(hb:s.heap.IsTuple b its)(hu:A.units<cLine):SeqAt.EqAt A s (.ref b) u false:=by
 subst ex;cases d with
 |non=>cases rx;exact SeqAt.EqAt.tuple_none hb hu|bl c=>cases rx;exact SeqAt.EqAt.tuple_bool c hb hu|int i=>obtain⟨t,rfl⟩:=rx;exact SeqAt.EqAt.tuple_int i t hb hu|str z=>obtain⟨t,rfl⟩:=rx;exact SeqAt.EqAt.tuple_str z t hb hu|_=>simp[flat]at hd
def eqAt_lf{A:Around}{d:D}{x:V}{u:Value}{b:Addr}{its:Array Value}(hd:flat d=true)(rx:yL x u)(ex:x=flV d)(hb:s.heap.IsList b its)(hu:A.units<cLine):SeqAt.EqAt A s (.ref b) u false:=by
 subst ex;cases d with
 |non=>cases rx;exact SeqAt.EqAt.list_none hb hu|bl c=>cases rx;exact SeqAt.EqAt.list_bool c hb hu|int i=>obtain⟨t,rfl⟩:=rx;exact SeqAt.EqAt.list_int i t hb hu|str z=>obtain⟨t,rfl⟩:=rx;exact SeqAt.EqAt.list_str z t hb hu|_=>simp[flat]at hd
def zCG{d:D}{ds:List D}(h:flat d=true):deq d (.t ds)=false:=by cases d<;>simp[flat]at h<;>simp[deq]
def zCH{d:D}{ds:List D}(h:flat d=true):deq d (.l ds)=false:=by cases d<;>simp[flat]at h<;>simp[deq]
def zCI{d:D}{ds:List D}(h:flat d=true):deq (.t ds) d=false:=by cases d<;>simp[flat]at h<;>simp[deq]
def zCJ{d:D}{ds:List D}(h:flat d=true):deq (.l ds) d=false:=by cases d<;>simp[flat]at h<;>simp[deq]
def eqAtD(I:Inv X pins O H s):∀(n:Nat) (A:Around) (d e:D) (x y:V) (u v:Value),eqb n d=true->eqb n e=true->Rep X.K X.mg H d x->Rep X.K X.mg H e y->yL x u->yL y v->A.units+n<cLine->SeqAt.EqAt A s u v (deq d e):=by
 intro n
 induction n with
 |zero =>
  intro A d e x y u v hd he rd re rx ry hu;have fd:=wH hd;have fe:=wH he;rw[Jr fd fe,<- zd fd rd,<- zd fe re];exact zFi rx ry (by rw[zd fd rd];exact yq fd) (by rw[zd fe re];exact yq fe)
 |succ n ih =>
  intro A d e x y u v hd he rd re rx ry hu;have hu0:A.units<cLine:=by omega
  have item:∀{ds es:List D} {xs ys:List V} {us vs:List Value},(∀e∈ds,eqb n e=true)->(∀e∈es,eqb n e=true)->Reps X.K X.mg H ds xs->Reps X.K X.mg H es ys->yc xs us->yc ys vs ->
    ∀j (h1:j<us.toArray.size) (h2:j<vs.toArray.size),SeqAt.EqAt A.in1 s us.toArray[j] vs.toArray[j] (deq (ds.getD j .non) (es.getD j .non)):=by
   intro ds es xs ys us vs k1 k2 r1 r2 v1 v2 j h1 h2;have h1':j<us.length:=by simpa using h1
   have h2':j<vs.length:=by simpa using h2
   obtain⟨l1,x1,a1,b1⟩:=ZB r1 v1 h1';obtain⟨l2,x2,a2,b2⟩:=ZB r2 v2 h2';rw[getElem_toArray,getElem_toArray];have m1:ds.getD j .non∈ds:=by rw[getD_eq_getElem?_getD,getElem?_eq_getElem l1];exact getElem_mem l1
   have m2:es.getD j .non∈es:=by rw[getD_eq_getElem?_getD,getElem?_eq_getElem l2];exact getElem_mem l2
   exact ih A.in1 _ _ x1 x2 _ _ (k1 _ m1) (k2 _ m2) a1 a2 b1 b2 (by show A.units+1+n<cLine;omega)
  rcases zx hd with fd|⟨m,ds,em,rfl,hds⟩|⟨m,ds,em,rfl,hds⟩
  ·have ex:=zd fd rd
   rcases zx he with fe|⟨m,es,em,rfl,hes⟩|⟨m,es,em,rfl,hes⟩
   ·rw[Jr fd fe,<- zd fd rd,<- zd fe re]
    exact zFi rx ry (by rw[zd fd rd];exact yq fd) (by rw[zd fe re];exact yq fe)
   ·obtain⟨b,ys,rfl,p1,p2⟩:=ze re
    cases ry;obtain⟨its,_,pl,_⟩:=I.tuple p1;rw[zCG fd];exact eqAt_ft fd rx ex pl hu0
   ·obtain⟨b,ys,rfl,p1,p2⟩:=zT re
    cases ry;obtain⟨its,_,pl,_⟩:=I.list p1;rw[zCH fd];exact eqAt_fl fd rx ex pl.isList hu0
  ·cases em
   obtain⟨a,xs,rfl,q1,q2⟩:=ze rd;cases rx;obtain⟨us,v1,pl1,_⟩:=I.tuple q1;rcases zx he with fe|⟨m,es,em,rfl,hes⟩|⟨m,es,em,rfl,hes⟩
   ·rw[zCI fe];exact eqAt_tf fe ry (zd fe re) pl1 hu0
   ·cases em
    obtain⟨b,ys,rfl,p1,p2⟩:=ze re;cases ry;obtain⟨vs,v2,pl2,_⟩:=I.tuple p1;by_cases hab:a=b
    ·subst hab
     rw[Q4 I (n+1) _ _ _ hd he rd re];exact SeqAt.EqAt.same _
    ·have q:=SeqAt.EqAt.of_refs hab (SeqAt.RcAt.tuples pl1 pl2 hu0 (item hds hes q2 p2 v1 v2))
     simp only[deq];rw[wz];have l1:us.toArray.size=ds.length:=by rw[size_toArray,<- v1.length,q2.length]
     have l2:vs.toArray.size=es.length:=by rw[size_toArray,<- v2.length,p2.length]
     rw[l1,l2]at q;exact q
   ·obtain⟨b,ys,rfl,p1,p2⟩:=zT re
    cases ry;obtain⟨vs,v2,pl2,_⟩:=I.list p1;simp only[deq];exact SeqAt.EqAt.tuple_list pl1 pl2.isList hu0
  ·cases em
   obtain⟨a,xs,rfl,q1,q2⟩:=zT rd;cases rx;obtain⟨us,v1,pl1,_⟩:=I.list q1;rcases zx he with fe|⟨m,es,em,rfl,hes⟩|⟨m,es,em,rfl,hes⟩
   ·rw[zCJ fe];exact eqAt_lf fe ry (zd fe re) pl1.isList hu0
   ·obtain⟨b,ys,rfl,p1,p2⟩:=ze re
    cases ry;obtain⟨vs,v2,pl2,_⟩:=I.tuple p1;simp only[deq];exact SeqAt.EqAt.list_tuple pl1.isList pl2 hu0
   ·cases em
    obtain⟨b,ys,rfl,p1,p2⟩:=zT re;cases ry;obtain⟨vs,v2,pl2,_⟩:=I.list p1;have l1:us.toArray.size=ds.length:=by rw[size_toArray,<- v1.length,q2.length]
    have l2:vs.toArray.size=es.length:=by rw[size_toArray,<- v2.length,p2.length]
    by_cases hab:a=b
    ·subst hab
     rw[Q4 I (n+1) _ _ _ hd he rd re];exact SeqAt.EqAt.same _
    ·simp only[deq]
     rw[wz];by_cases hl:ds.length=es.length
     ·have q:=SeqAt.EqAt.of_refs hab (SeqAt.RcAt.lists pl1.isList pl2.isList (by rw[l1,l2,hl]) hu0 (item hds hes q2 p2 v1 v2))
      rw[l1]at q;rw[hl]at q ⊢;simpa using q
     ·have q:=SeqAt.EqAt.of_refs hab (SeqAt.RcAt.lists_lengths (A:=A) pl1.isList pl2.isList (by rw[l1,l2];simpa using hl) hu0)
      have e:(ds.length==es.length)=false:=by simpa using hl
      rw[e,Bool.and_false];exact q
def rcAt_V{A:Around}{y x:V}{u v:Value}(ry:yL y u)(rx:yL x v)(fy:vg y=true)(fx:vg x=true):SeqAt.RcAt A s u v (eqV y x):=by
 cases y with
 |non =>
  cases ry;cases x with
  |non=>cases rx;exact SeqAt.RcAt.none_none|bl b=>cases rx;exact SeqAt.RcAt.none_bool  b|int b=>obtain⟨t2,rfl⟩:=rx;exact SeqAt.RcAt.none_int  b t2|str b=>obtain⟨t2,rfl⟩:=rx;exact SeqAt.RcAt.none_str  b t2|_=>exact absurd (show false=true from fx) qF
 |bl a =>
  cases ry;cases x with
  |non=>cases rx;exact SeqAt.RcAt.bool_none a|bl b=>cases rx;exact SeqAt.RcAt.bool_bool a b|int b=>obtain⟨t2,rfl⟩:=rx;exact SeqAt.RcAt.bool_int a b t2|str b=>obtain⟨t2,rfl⟩:=rx;exact SeqAt.RcAt.bool_str a b t2|_=>exact absurd (show false=true from fx) qF
 |int a =>
  obtain⟨t,rfl⟩:=ry;cases x with
  |non=>cases rx;exact SeqAt.RcAt.int_none a t|bl b=>cases rx;exact SeqAt.RcAt.int_bool a t b|int b=>obtain⟨t2,rfl⟩:=rx;exact SeqAt.RcAt.int_int a t b t2|str b=>obtain⟨t2,rfl⟩:=rx;exact SeqAt.RcAt.int_str a t b t2|_=>exact absurd (show false=true from fx) qF
 |str a =>
  obtain⟨t,rfl⟩:=ry;cases x with
  |non=>cases rx;exact SeqAt.RcAt.str_none a t|bl b=>cases rx;exact SeqAt.RcAt.str_bool a t b|int b=>obtain⟨t2,rfl⟩:=rx;exact SeqAt.RcAt.str_int a t b t2|str b=>obtain⟨t2,rfl⟩:=rx;exact SeqAt.RcAt.str_str a t b t2|_=>exact absurd (show false=true from fx) qF
 |_=>exact absurd (show false=true from fy) qF
def rcNe_V{A:Around}{y x:V}{u v:Value}(ry:yL y u)(rx:yL x v)(fy:vg y=true)(fx:vg x=true):SeqAt.RcNeAt A s u v (!eqV y x):=by
 cases y with
 |non =>
  cases ry;cases x with
  |non=>cases rx;exact SeqAt.RcNeAt.none_none|bl b=>cases rx;exact SeqAt.RcNeAt.none_bool  b|int b=>obtain⟨t2,rfl⟩:=rx;exact SeqAt.RcNeAt.none_int  b t2|str b=>obtain⟨t2,rfl⟩:=rx;exact SeqAt.RcNeAt.none_str  b t2|_=>exact absurd (show false=true from fx) qF
 |bl a =>
  cases ry;cases x with
  |non=>cases rx;exact SeqAt.RcNeAt.bool_none a|bl b=>cases rx;exact SeqAt.RcNeAt.bool_bool a b|int b=>obtain⟨t2,rfl⟩:=rx;exact SeqAt.RcNeAt.bool_int a b t2|str b=>obtain⟨t2,rfl⟩:=rx;exact SeqAt.RcNeAt.bool_str a b t2|_=>exact absurd (show false=true from fx) qF
 |int a =>
  obtain⟨t,rfl⟩:=ry;cases x with
  |non=>cases rx;exact SeqAt.RcNeAt.int_none a t|bl b=>cases rx;exact SeqAt.RcNeAt.int_bool a t b|int b=>obtain⟨t2,rfl⟩:=rx;exact SeqAt.RcNeAt.int_int a t b t2|str b=>obtain⟨t2,rfl⟩:=rx;exact SeqAt.RcNeAt.int_str a t b t2|_=>exact absurd (show false=true from fx) qF
 |str a =>
  obtain⟨t,rfl⟩:=ry;cases x with
  |non=>cases rx;exact SeqAt.RcNeAt.str_none a t|bl b=>cases rx;exact SeqAt.RcNeAt.str_bool a t b|int b=>obtain⟨t2,rfl⟩:=rx;exact SeqAt.RcNeAt.str_int a t b t2|str b=>obtain⟨t2,rfl⟩:=rx;exact SeqAt.RcNeAt.str_str a t b t2|_=>exact absurd (show false=true from fx) qF
 |_=>exact absurd (show false=true from fy) qF
def rc_ft{A:Around}{d:D}{x:V}{u:Value}{b:Addr}{its:Array Value}(hd:flat d=true)(rx:yL x u)(ex:x=flV d)(hb:s.heap.IsTuple b its)(hu:A.units<cLine):SeqAt.RcAt A s u (.ref b) false:=by
 subst ex;cases d with
 |non=>cases rx;exact SeqAt.RcAt.none_tuple hb hu|bl c=>cases rx;exact SeqAt.RcAt.bool_tuple c hb hu|int c=>obtain⟨t,rfl⟩:=rx;exact SeqAt.RcAt.int_tuple c t hb hu|str c=>obtain⟨t,rfl⟩:=rx;exact SeqAt.RcAt.str_tuple c t hb hu|_=>simp[flat]at hd
def rc_fl{A:Around}{d:D}{x:V}{u:Value}{b:Addr}{its:Array Value}(hd:flat d=true)(rx:yL x u)(ex:x=flV d)(hb:s.heap.IsList b its)(hu:A.units<cLine):SeqAt.RcAt A s u (.ref b) false:=by
 subst ex;cases d with
 |non=>cases rx;exact SeqAt.RcAt.none_list hb hu|bl c=>cases rx;exact SeqAt.RcAt.bool_list c hb hu|int c=>obtain⟨t,rfl⟩:=rx;exact SeqAt.RcAt.int_list c t hb hu|str c=>obtain⟨t,rfl⟩:=rx;exact SeqAt.RcAt.str_list c t hb hu|_=>simp[flat]at hd
def rc_tf{A:Around}{d:D}{x:V}{u:Value}{b:Addr}{its:Array Value}(hd:flat d=true)(rx:yL x u)(ex:x=flV d)(hb:s.heap.IsTuple b its)(hu:A.units<cLine):SeqAt.RcAt A s (.ref b) u false:=by
 subst ex;cases d with
 |non=>cases rx;exact SeqAt.RcAt.tuple_none hb hu|bl c=>cases rx;exact SeqAt.RcAt.tuple_bool c hb hu|int c=>obtain⟨t,rfl⟩:=rx;exact SeqAt.RcAt.tuple_int c t hb hu|str c=>obtain⟨t,rfl⟩:=rx;exact SeqAt.RcAt.tuple_str c t hb hu|_=>simp[flat]at hd
def rc_lf{A:Around}{d:D}{x:V}{u:Value}{b:Addr}{its:Array Value}(hd:flat d=true)(rx:yL x u)(ex:x=flV d)(hb:s.heap.IsList b its)(hu:A.units<cLine):SeqAt.RcAt A s (.ref b) u false:=by
 subst ex;cases d with
 |non=>cases rx;exact SeqAt.RcAt.list_none hb hu|bl c=>cases rx;exact SeqAt.RcAt.list_bool c hb hu|int c=>obtain⟨t,rfl⟩:=rx;exact SeqAt.RcAt.list_int c t hb hu|str c=>obtain⟨t,rfl⟩:=rx;exact SeqAt.RcAt.list_str c t hb hu|_=>simp[flat]at hd
def rn_ft{A:Around}{d:D}{x:V}{u:Value}{b:Addr}{its:Array Value}(hd:flat d=true)(rx:yL x u)(ex:x=flV d)(hb:s.heap.IsTuple b its)(hu:A.units<cLine):SeqAt.RcNeAt A s u (.ref b) true:=by
 subst ex;cases d with
 |non=>cases rx;exact SeqAt.RcNeAt.none_tuple hb hu|bl c=>cases rx;exact SeqAt.RcNeAt.bool_tuple c hb hu|int c=>obtain⟨t,rfl⟩:=rx;exact SeqAt.RcNeAt.int_tuple c t hb hu|str c=>obtain⟨t,rfl⟩:=rx;exact SeqAt.RcNeAt.str_tuple c t hb hu|_=>simp[flat]at hd
def rn_fl{A:Around}{d:D}{x:V}{u:Value}{b:Addr}{its:Array Value}(hd:flat d=true)(rx:yL x u)(ex:x=flV d)(hb:s.heap.IsList b its)(hu:A.units<cLine):SeqAt.RcNeAt A s u (.ref b) true:=by
 subst ex;cases d with
 |non=>cases rx;exact SeqAt.RcNeAt.none_list hb hu|bl c=>cases rx;exact SeqAt.RcNeAt.bool_list c hb hu|int c=>obtain⟨t,rfl⟩:=rx;exact SeqAt.RcNeAt.int_list c t hb hu|str c=>obtain⟨t,rfl⟩:=rx;exact SeqAt.RcNeAt.str_list c t hb hu|_=>simp[flat]at hd
def rn_tf{A:Around}{d:D}{x:V}{u:Value}{b:Addr}{its:Array Value}(hd:flat d=true)(rx:yL x u)(ex:x=flV d)(hb:s.heap.IsTuple b its)(hu:A.units<cLine):SeqAt.RcNeAt A s (.ref b) u true:=by
 subst ex;cases d with
 |non=>cases rx;exact SeqAt.RcNeAt.tuple_none hb hu|bl c=>cases rx;exact SeqAt.RcNeAt.tuple_bool c hb hu|int c=>obtain⟨t,rfl⟩:=rx;exact SeqAt.RcNeAt.tuple_int c t hb hu|str c=>obtain⟨t,rfl⟩:=rx;exact SeqAt.RcNeAt.tuple_str c t hb hu|_=>simp[flat]at hd
def rn_lf{A:Around}{d:D}{x:V}{u:Value}{b:Addr}{its:Array Value}(hd:flat d=true)(rx:yL x u)(ex:x=flV d)(hb:s.heap.IsList b its)(hu:A.units<cLine):SeqAt.RcNeAt A s (.ref b) u true:=by
 subst ex;cases d with
 |non=>cases rx;exact SeqAt.RcNeAt.list_none hb hu|bl c=>cases rx;exact SeqAt.RcNeAt.list_bool c hb hu|int c=>obtain⟨t,rfl⟩:=rx;exact SeqAt.RcNeAt.list_int c t hb hu|str c=>obtain⟨t,rfl⟩:=rx;exact SeqAt.RcNeAt.list_str c t hb hu|_=>simp[flat]at hd
def rcAtD(I:Inv X pins O H s)(n:Nat)(A:Around)(d e:D)(x y:V)(u v:Value)(hd:eqb n d=true)(he:eqb n e=true)(rd:Rep X.K X.mg H d x)(re:Rep X.K X.mg H e y)(rx:yL x u)(ry:yL y v)(hu:A.units+n<cLine):SeqAt.RcAt A s u v (deq d e):=by
 have hu0:A.units<cLine:=by omega
 have item:∀{m:Nat} {ds es:List D} {xs ys:List V} {us vs:List Value},n=m+1->(∀e∈ds,eqb m e=true)->(∀e∈es,eqb m e=true)->Reps X.K X.mg H ds xs->Reps X.K X.mg H es ys->yc xs us->yc ys vs ->
   ∀j (h1:j<us.toArray.size) (h2:j<vs.toArray.size),SeqAt.EqAt A.in1 s us.toArray[j] vs.toArray[j] (deq (ds.getD j .non) (es.getD j .non)):=by
  intro m ds es xs ys us vs hm k1 k2 r1 r2 v1 v2 j h1 h2;have h1':j<us.length:=by simpa using h1
  have h2':j<vs.length:=by simpa using h2
  obtain⟨l1,x1,a1,b1⟩:=ZB r1 v1 h1';obtain⟨l2,x2,a2,b2⟩:=ZB r2 v2 h2';rw[getElem_toArray,getElem_toArray];have m1:ds.getD j .non∈ds:=by rw[getD_eq_getElem?_getD,getElem?_eq_getElem l1];exact getElem_mem l1
  have m2:es.getD j .non∈es:=by rw[getD_eq_getElem?_getD,getElem?_eq_getElem l2];exact getElem_mem l2
  exact eqAtD I m A.in1 _ _ x1 x2 _ _ (k1 _ m1) (k2 _ m2) a1 a2 b1 b2 (by show A.units+1+m<cLine;omega)
 rcases zx hd with fd|⟨m,ds,em,rfl,hds⟩|⟨m,ds,em,rfl,hds⟩
 ·have ex:=zd fd rd
  rcases zx he with fe|⟨m,es,em,rfl,hes⟩|⟨m,es,em,rfl,hes⟩
  ·rw[Jr fd fe,<- zd fd rd,<- zd fe re]
   exact rcAt_V rx ry (by rw[zd fd rd];exact yq fd) (by rw[zd fe re];exact yq fe)
  ·obtain⟨b,ys,rfl,p1,p2⟩:=ze re
   cases ry;obtain⟨its,_,pl,_⟩:=I.tuple p1;rw[zCG fd];exact rc_ft fd rx ex pl hu0
  ·obtain⟨b,ys,rfl,p1,p2⟩:=zT re
   cases ry;obtain⟨its,_,pl,_⟩:=I.list p1;rw[zCH fd];exact rc_fl fd rx ex pl.isList hu0
 ·obtain⟨a,xs,rfl,q1,q2⟩:=ze rd
  cases rx;obtain⟨us,v1,pl1,_⟩:=I.tuple q1;rcases zx he with fe|⟨m',es,em',rfl,hes⟩|⟨m',es,em',rfl,hes⟩
  ·rw[zCI fe];exact rc_tf fe ry (zd fe re) pl1 hu0
  ·have:m=m':=by omega
   subst this;obtain⟨b,ys,rfl,p1,p2⟩:=ze re;cases ry;obtain⟨vs,v2,pl2,_⟩:=I.tuple p1;have q:=SeqAt.RcAt.tuples pl1 pl2 hu0 (item em hds hes q2 p2 v1 v2);simp only[deq];rw[wz];have l1:us.toArray.size=ds.length:=by rw[size_toArray,<- v1.length,q2.length]
   have l2:vs.toArray.size=es.length:=by rw[size_toArray,<- v2.length,p2.length]
   rw[l1,l2]at q;exact q
  ·obtain⟨b,ys,rfl,p1,p2⟩:=zT re
   cases ry;obtain⟨vs,v2,pl2,_⟩:=I.list p1;simp only[deq];exact SeqAt.RcAt.tuple_list pl1 pl2.isList hu0
 ·obtain⟨a,xs,rfl,q1,q2⟩:=zT rd
  cases rx;obtain⟨us,v1,pl1,_⟩:=I.list q1;rcases zx he with fe|⟨m',es,em',rfl,hes⟩|⟨m',es,em',rfl,hes⟩
  ·rw[zCJ fe];exact rc_lf fe ry (zd fe re) pl1.isList hu0
  ·obtain⟨b,ys,rfl,p1,p2⟩:=ze re
   cases ry;obtain⟨vs,v2,pl2,_⟩:=I.tuple p1;simp only[deq];exact SeqAt.RcAt.list_tuple pl1.isList pl2 hu0
  ·have:m=m':=by omega
   subst this;obtain⟨b,ys,rfl,p1,p2⟩:=zT re;cases ry;obtain⟨vs,v2,pl2,_⟩:=I.list p1;have l1:us.toArray.size=ds.length:=by rw[size_toArray,<- v1.length,q2.length]
   have l2:vs.toArray.size=es.length:=by rw[size_toArray,<- v2.length,p2.length]
   simp only[deq];rw[wz];by_cases hl:ds.length=es.length
   ·have q:=SeqAt.RcAt.lists pl1.isList pl2.isList (by rw[l1,l2,hl]) hu0 (item em hds hes q2 p2 v1 v2)
    rw[l1]at q;rw[hl]at q ⊢;simpa using q
   ·have q:=SeqAt.RcAt.lists_lengths (A:=A) pl1.isList pl2.isList (by rw[l1,l2];simpa using hl) hu0
    have e:(ds.length==es.length)=false:=by simpa using hl
    rw[e,Bool.and_false];exact q
def rcNeD(I:Inv X pins O H s)(n:Nat)(A:Around)(d e:D)(x y:V)(u v:Value)(hd:eqb n d=true)(he:eqb n e=true)(rd:Rep X.K X.mg H d x)(re:Rep X.K X.mg H e y)(rx:yL x u)(ry:yL y v)(hu:A.units+n<cLine):SeqAt.RcNeAt A s u v (!deq d e):=by
 have hu0:A.units<cLine:=by omega
 have item:∀{m:Nat} {ds es:List D} {xs ys:List V} {us vs:List Value},n=m+1->(∀e∈ds,eqb m e=true)->(∀e∈es,eqb m e=true)->Reps X.K X.mg H ds xs->Reps X.K X.mg H es ys->yc xs us->yc ys vs ->
   ∀j (h1:j<us.toArray.size) (h2:j<vs.toArray.size),SeqAt.EqAt A.in1 s us.toArray[j] vs.toArray[j] (deq (ds.getD j .non) (es.getD j .non)):=by
  intro m ds es xs ys us vs hm k1 k2 r1 r2 v1 v2 j h1 h2;have h1':j<us.length:=by simpa using h1
  have h2':j<vs.length:=by simpa using h2
  obtain⟨l1,x1,a1,b1⟩:=ZB r1 v1 h1';obtain⟨l2,x2,a2,b2⟩:=ZB r2 v2 h2';rw[getElem_toArray,getElem_toArray];have m1:ds.getD j .non∈ds:=by rw[getD_eq_getElem?_getD,getElem?_eq_getElem l1];exact getElem_mem l1
  have m2:es.getD j .non∈es:=by rw[getD_eq_getElem?_getD,getElem?_eq_getElem l2];exact getElem_mem l2
  exact eqAtD I m A.in1 _ _ x1 x2 _ _ (k1 _ m1) (k2 _ m2) a1 a2 b1 b2 (by show A.units+1+m<cLine;omega)
 rcases zx hd with fd|⟨m,ds,em,rfl,hds⟩|⟨m,ds,em,rfl,hds⟩
 ·have ex:=zd fd rd
  rcases zx he with fe|⟨m,es,em,rfl,hes⟩|⟨m,es,em,rfl,hes⟩
  ·rw[Jr fd fe,<- zd fd rd,<- zd fe re]
   exact rcNe_V rx ry (by rw[zd fd rd];exact yq fd) (by rw[zd fe re];exact yq fe)
  ·obtain⟨b,ys,rfl,p1,p2⟩:=ze re
   cases ry;obtain⟨its,_,pl,_⟩:=I.tuple p1;rw[zCG fd];exact rn_ft fd rx ex pl hu0
  ·obtain⟨b,ys,rfl,p1,p2⟩:=zT re
   cases ry;obtain⟨its,_,pl,_⟩:=I.list p1;rw[zCH fd];exact rn_fl fd rx ex pl.isList hu0
 ·obtain⟨a,xs,rfl,q1,q2⟩:=ze rd
  cases rx;obtain⟨us,v1,pl1,_⟩:=I.tuple q1;rcases zx he with fe|⟨m',es,em',rfl,hes⟩|⟨m',es,em',rfl,hes⟩
  ·rw[zCI fe];exact rn_tf fe ry (zd fe re) pl1 hu0
  ·have:m=m':=by omega
   subst this;obtain⟨b,ys,rfl,p1,p2⟩:=ze re;cases ry;obtain⟨vs,v2,pl2,_⟩:=I.tuple p1;have q:=SeqAt.RcNeAt.tuples pl1 pl2 hu0 (item em hds hes q2 p2 v1 v2);simp only[deq];rw[wz];have l1:us.toArray.size=ds.length:=by rw[size_toArray,<- v1.length,q2.length]
   have l2:vs.toArray.size=es.length:=by rw[size_toArray,<- v2.length,p2.length]
   rw[l1,l2]at q;exact q
  ·obtain⟨b,ys,rfl,p1,p2⟩:=zT re
   cases ry;obtain⟨vs,v2,pl2,_⟩:=I.list p1;simp only[deq];exact SeqAt.RcNeAt.tuple_list pl1 pl2.isList hu0
 ·obtain⟨a,xs,rfl,q1,q2⟩:=zT rd
  cases rx;obtain⟨us,v1,pl1,_⟩:=I.list q1;rcases zx he with fe|⟨m',es,em',rfl,hes⟩|⟨m',es,em',rfl,hes⟩
  ·rw[zCJ fe];exact rn_lf fe ry (zd fe re) pl1.isList hu0
  ·obtain⟨b,ys,rfl,p1,p2⟩:=ze re
   cases ry;obtain⟨vs,v2,pl2,_⟩:=I.tuple p1;simp only[deq];exact SeqAt.RcNeAt.list_tuple pl1.isList pl2 hu0
  ·have:m=m':=by omega
   subst this;obtain⟨b,ys,rfl,p1,p2⟩:=zT re;cases ry;obtain⟨vs,v2,pl2,_⟩:=I.list p1;have l1:us.toArray.size=ds.length:=by rw[size_toArray,<- v1.length,q2.length]
   have l2:vs.toArray.size=es.length:=by rw[size_toArray,<- v2.length,p2.length]
   simp only[deq];rw[wz];by_cases hl:ds.length=es.length
   ·have q:=SeqAt.RcNeAt.lists pl1.isList pl2.isList (by rw[l1,l2,hl]) hu0 (item em hds hes q2 p2 v1 v2)
    rw[l1]at q;rw[hl]at q ⊢;simpa using q
   ·have q:=SeqAt.RcNeAt.lists_lengths (A:=A) pl1.isList pl2.isList (by rw[l1,l2];simpa using hl) hu0
    have e:(ds.length==es.length)=false:=by simpa using hl
    rw[e,Bool.and_false];exact q
end
section
variable{X:Cx}{K:qH}{mg:Str->Option Value}
def rEqD(K:qH)(mg:Str->Option Value)(neg:Bool):R2:=λx y H Q=>∃d e,eqb 20 d=true/\eqb 20 e=true/\Rep K mg H d x/\Rep K mg H e y/\Q (.bl (if neg then !deq d e else deq d e)) H
def zFy(hu:X.A.units+20<cLine):OpR X (compareOp .Eq) (rEqD X.K X.mg false):=by
 intro pins s O H x y v u Q I rx ry h;obtain⟨d,e,h1,h2,r1,r2,q⟩:=h;exact rcAtD I 20 X.A d e x y v u h1 h2 r1 r2 rx ry hu X.prog X.w _ _ ⟨.bl (deq d e),H,I,rfl,q⟩
def zFz(hu:X.A.units+20<cLine):OpR X (compareOp .NotEq) (rEqD X.K X.mg true):=by
 intro pins s O H x y v u Q I rx ry h;obtain⟨d,e,h1,h2,r1,r2,q⟩:=h;exact rcNeD I 20 X.A d e x y v u h1 h2 r1 r2 rx ry hu X.prog X.w _ _ ⟨.bl (!deq d e),H,I,rfl,q⟩
def zF0(neg:Bool)(d e:D):Option R:=if eqb 20 d=true/\eqb 20 e=true then some (.v (.bl (if neg then !deq d e else deq d e)))else none
def zF1{neg:Bool}:ROk K mg (rEqD K mg neg) (zF0 neg):=by
 intro M H Z x y d1 d2 res Q f r1 r2 e k;unfold zF0 at e;split at e
 ·rename_i hc
  cases e;exact⟨d1,d2,hc.1,hc.2,r1.mono zK,r2.mono zK,k.flat f rfl⟩
 ·cases e
end
end DV
namespace L2
open PySem PySem.Spec PyProof.Rows
section
variable{X:Cx}
def Zk{ns:List Int}{its:List Value}(rv:yc (ns.map V.int) its)(i:Nat)(v:Value)(hv:its.toArray[i]?=some v):∃t,v=.int (ns.getD i 0) t:=by
 have hv':its[i]?=some v:=by simpa using hv
 have hi:i<its.length:=(qG.mp hv').1;have hl:=rv.length;have hx:i<(ns.map V.int).length:=by rw[hl];exact hi
 obtain⟨u',e1,e2⟩:=rv.get (i:=i) (x:=(ns.map V.int)[i]) (by simp[hx]);rw[hv']at e1;cases e1;rw[length_map]at hx;rw[List.getElem_map]at e2;obtain⟨t,e⟩:=(show ∃t,v=.int (ns[i]) t from e2);exact⟨t,by rw[e];simp[hx]⟩
def zAx(ns:List Int):Int:=ns.getD (argBest (λi j=>decide (ns.getD i 0 > ns.getD j 0)) (ns.length-1)) 0
theorem WN(ns:List Int):∀k,k<=ns.length->preSum (λi=>ns.getD i 0) k=(ns.take k).sum
 |0,_=>by simp[preSum]
 |k+1,h=>by
  have hk:k<ns.length:=by omega
  rw[preSum,WN ns k (by omega),List.take_add_one,getElem?_eq_getElem hk,sum_append];simp[hk]
def zCK(hc:X.calm=true):JO X (.builtin "sum") (λxs H Q=>∃(p:Addr) (ns:List Int),xs=[.ref p]/\SqL X.K H p (ns.map V.int)/\Q (.int ns.sum) H):=by
 intro pins s O H xs us Q I r h;obtain⟨p,ns,rfl,hq,q⟩:=h;obtain⟨u,rfl,rx⟩:=uf r;cases rx;obtain⟨its,rv,pl,hz⟩:=I.list hq;have hlen:its.length=ns.length:=by rw[<- rv.length,length_map]
 have hp:p<s.heap.objs.size:=by obtain⟨o,n,e,_⟩:=pl;exact lt_size e
 have hk:∀b o,s.heap.get? b=some o->(s.heap.push {cls:=.type "list_iterator",data:=.fields #[.ref p,.int 0 0]}).get? b=some o:=λb o e=>qA _ e
 refine call_sum_walkAnyS (wpAny_pyIter_list pl.isList ?_);refine⟨s.heap.objs.size,[s.heap.objs.size,p],[s.heap.objs.size],_,its.toArray.size,_,_,λi=>ns.getD i 0,rfl,
  (Walks.list (by show X.A.handled=none;exact I.ok.hd hc) _ p (ne_of_lt hp) its.toArray).toS,⟨⟨_,get?_push_size _ rfl,rfl,rfl⟩,?_⟩,?_,Zk rv,?_⟩
 ·obtain⟨o,e,c⟩:=pl.isList
  exact⟨o,hk _ _ e,c⟩
 ·intro b hb
  rw[size_push];rcases mem_cons.mp hb with rfl|hb
  ·exact lt_succ_self _
  ·have:b=p:=by simpa using hb
   subst this;exact lt_succ_of_lt hp
 ·intro s' t' mv
  rw[size_toArray,hlen,WN ns _ (le_refl _),take_length];obtain⟨h',g',d',tk,o'⟩:=s';have e1:g'=s.gens:=mv.gens;have e2:d'=s.drawn:=mv.drawn;have e3:o'=s.os:=mv.os;subst e1 e2 e3;exact⟨.int ns.sum,H,I.kept (t':=tk) λb o eb=>mv.heap b o (λm=>by
   have:b=s.heap.objs.size:=by simpa using m
   subst this;exact absurd (lt_size eb) (lt_irrefl _)) (hk b o eb),⟨_,rfl⟩,q⟩
def zCL(hc:X.calm=true):JO X (.builtin "sum") (λxs H Q=>∃(p:Addr) (ns:List Int),xs=[.ref p]/\SqT X.K H p (ns.map V.int)/\Q (.int ns.sum) H):=by
 intro pins s O H xs us Q I r h;obtain⟨p,ns,rfl,hq,q⟩:=h;obtain⟨u,rfl,rx⟩:=uf r;cases rx;obtain⟨its,rv,pl,hz⟩:=I.tuple hq;have hlen:its.length=ns.length:=by rw[<- rv.length,length_map]
 have hp:p<s.heap.objs.size:=by obtain⟨o,e,_⟩:=pl;exact lt_size e
 have hk:∀b o,s.heap.get? b=some o->(s.heap.push {cls:=.type "tuple_iterator",data:=.fields #[.ref p,.int 0 0]}).get? b=some o:=λb o e=>qA _ e
 refine call_sum_walkAnyS (wpAny_pyIter_tuple (show s.heap.IsTuple p its.toArray from pl) ?_);refine⟨s.heap.objs.size,[s.heap.objs.size,p],[s.heap.objs.size],_,its.toArray.size,_,_,λi=>ns.getD i 0,rfl,
  (Walks.tuple (by show X.A.handled=none;exact I.ok.hd hc) _ p (ne_of_lt hp) its.toArray).toS,⟨⟨_,get?_push_size _ rfl,rfl,rfl⟩,?_⟩,?_,Zk rv,?_⟩
 ·obtain⟨o,e,c⟩:=pl
  exact⟨o,hk _ _ e,c⟩
 ·intro b hb
  rw[size_push];rcases mem_cons.mp hb with rfl|hb
  ·exact lt_succ_self _
  ·have:b=p:=by simpa using hb
   subst this;exact lt_succ_of_lt hp
 ·intro s' t' mv
  rw[size_toArray,hlen,WN ns _ (le_refl _),take_length];obtain⟨h',g',d',tk,o'⟩:=s';have e1:g'=s.gens:=mv.gens;have e2:d'=s.drawn:=mv.drawn;have e3:o'=s.os:=mv.os;subst e1 e2 e3;exact⟨.int ns.sum,H,I.kept (t':=tk) λb o eb=>mv.heap b o (λm=>by
   have:b=s.heap.objs.size:=by simpa using m
   subst this;exact absurd (lt_size eb) (lt_irrefl _)) (hk b o eb),⟨_,rfl⟩,q⟩
def zAy(a:Int)(t:Tok)(l:Addr)(its:Array Value)(n:Nat)(dd:Option Addr)(sl:Array (Option Value)) :
  Meets (Builtin.«int.__rmul__» ⟨[.int a t,.ref l],[]⟩) (λ_ R s=>s.heap.get? l=some {cls:=.type "list",dict:=dd,data:=.seq its n,slots:=sl}/\R (.ok (.ret Value.notImplemented)) s) :=
 .of_wp λprog w A R s h=>by
  obtain⟨hp,g,d,tk,os⟩:=s;obtain⟨hl,h⟩:=h
  wp_walk
  exact⟨_,rfl,h⟩
def zCM(l:Addr)(its:Array Value)(n:Nat)(dd:Option Addr)(sl:Array (Option Value))(k:Int)(u:Tok)(h0:¬(!Builtin.List.listFitsIndex k)=true)(h1:¬its.size*k.toNat > (2^63-1)/8)(h2:¬Builtin.List.listTooLong (its.size*k.toNat)=true) :
  Meets (Builtin.«list.__mul__» ⟨[.ref l,.int k u],[]⟩) (λ_ R s=>s.heap.get? l=some {cls:=.type "list",dict:=dd,data:=.seq its n,slots:=sl} /\
   R (.ok (.ret (Value.ref s.heap.objs.size))) {s with heap:=s.heap.push {cls:=Value.type "list",data:=Data.seq (foldl (λa b=>a++b) #[] (replicate (if its.isEmpty=true then 0 else k.toNat) its))},toks:=s.toks}) :=
 .of_wp λprog w A R s h=>by
  obtain⟨hp,g,d,tk,os⟩:=s;obtain⟨hl,h⟩:=h;have fits:=AutoListH.joined_fits h2
  wp_walk
  refine wpAny_ite_false (decide_eq_false (not_lt.mpr fits)) ?_
  wp_walk
  exact⟨_,rfl,h⟩
def rRepL(K:qH):R2:=λx y H Q=>∃l k xs,x=.ref l/\y=.int k/\SqL K H l xs/\-(2^63)<=k/\k<2^63/\xs.length*k.toNat<=sizeLine /\
 ∀p,H p=none->Q (.ref p) (upd H p (.l (replicate k.toNat xs).flatten))
def op_repL:OpR X (binaryOp .Mult) (rRepL X.K):=by
 intro pins s O H x y v u Q I rx ry h;obtain⟨l,k,xs,rfl,rfl,hH,h1,h2,hz,q⟩:=h;cases rx;obtain⟨t,rfl⟩:=ry;obtain⟨its,r,pl,_⟩:=I.list hH;have hl:=r.length;obtain⟨⟨cls,dd,data,sl⟩,n,ho,hc,hdd,hd⟩:=pl;simp only at hc hd;subst hc hd;have hlen:its.toArray.size*k.toNat<=sizeLine:=by rw[size_toArray,<- hl];exact hz
 have c1:¬its.toArray.size*k.toNat > (2^63-1)/8:=by
  have:(sizeLine:Nat)<=(2^63-1)/8:=by decide
  omega
 have c2:¬(!Builtin.List.listFitsIndex k)=true:=by rw[fitsIndex_both h1 h2];exact qF
 have c3:¬Builtin.List.listTooLong (its.toArray.size*k.toNat)=true:=by rw[zD4 hlen];exact qF
 have hnew:foldl (λa b=>a++b) #[] (replicate (if its.toArray.isEmpty=true then 0 else k.toNat) its.toArray)=(replicate k.toNat its).flatten.toArray:=by
  have f0:∀m:Nat,foldl (λa b=>a++b) #[] (replicate m its.toArray)=(replicate m its).flatten.toArray:=λm=>by
   have:=Z5 its m [];rw[nil_append]at this;exact this
  rw[f0];cases its with
  |nil=>simp|cons a r'=>rw[if_neg (by simp)]
 refine wpAny_binaryOp_repeat_ref (T:="list") (U:="int") (by decide) ⟨_,ho,rfl⟩ (λs'=>typeIs_int s' k t) noFill_list_mul F.fills_int_mul F.slot_int_rmul repeat_list F.slot_int_index.lookup
  (call_meets F.slot_int_rmul (typeIs_int s k t) F.entry_int_rmul (F.args_int_rmul_2 _ _) (zAy k t l its.toArray n dd sl) ⟨ho,rfl,⟨_,ho,rfl⟩,?_⟩)
 refine call_meets F.slot_list_mul ⟨_,ho,rfl⟩ F.entry_list_mul (F.args_list_mul_2 _ _) (zCM l its.toArray n dd sl k t c2 c1 c3) ⟨ho,?_⟩;rw[hnew];exact⟨.ref _,_,I.lnew (t':=s.toks) (r.rep k.toNat) (by rw[G4,Nat.mul_comm];exact hz),rfl,q _ I.fresh⟩
def isV:V->V->Option Bool
 | .non,.bl _=>some false| .bl a,.bl b=>some (a==b)| .ref _,.bl _=>some false| .int _,.bl _=>some false| .str _,.bl _=>some false|_,_=>none
def same_of{x y:V}{u v:Value}{b:Bool}(h:isV x y=some b)(rx:yL x u)(ry:yL y v):isSame u v=pure b:=by
 cases x<;>cases y<;>simp[isV]at h<;>subst h<;>first
  | (cases rx;cases ry;rfl)
  | (rename_i a b;cases rx;cases ry;cases a<;>cases b<;>rfl)
  | (cases rx;obtain⟨t,rfl⟩:=ry;rfl)
  | (obtain⟨t,rfl⟩:=rx;cases ry;rfl)
def op_is:OpR X (compareOp .Is) (λx y H Q=>∃b,isV x y=some b/\Q (.bl b) H):=by
 intro pins s O H x y v u Q I rx ry h;obtain⟨b,hb,q⟩:=h;show wpAny _ _ (isSame v u >>= λc=>pure (Value.bool c)) _ _ _;rw[same_of hb rx ry];exact qC ⟨.bl b,H,I,rfl,q⟩
end
end L2
namespace DV
open PySem PySem.W PyProof.Rows
variable{κ:Nat->Int}
def ev(κ:Nat->Int){α:Type}:KasT α->α
 | .ret a=>a| .ask i j k=>ev κ (k (decide (κ i<κ j)))
def getD_q(p:Array Nat)(t:Nat):p.getD t 0=(p[t]?).getD 0:=by simp
end DV
namespace L2
open PySem PySem.Spec PyProof.Rows PySem.W
end L2
namespace DV
open PySem L2 PyProof.Rows PySem.W
end DV
namespace L2
open PySem PySem.Spec PyProof.Rows
section
variable{prog:Program}{w:World}{A:Around}{R:Result->Shared->Prop}{I:Addr}{fp wr:List Addr}{n:Nat}{P:Nat->Value->Prop}{St:Nat->Heap->Prop}
def Yv:(toString "max"++toString ".loop":String)="max.loop":=by decide
theorem WO(W:Walks prog w A.in1 I fp wr n P St){bt:Nat->Nat->Bool}(hcmp:CmpOf prog w A.in1 .Gt P bt)(S:Addr)(hSf:S∉fp)(kw:List (Str×Value)) :
  ∀(m j:Nat) (s:Shared) (best:Value) (c:Nat),n=j+1+m->St (j+1) s.heap->P (argBest bt j) best->s.heap.get? S=some {cls:=.type "list",dict:=none,data:=.seq #[best,best] c,slots:=#[]} ->
  (∀v h' tk,P (argBest bt (n-1)) v->(∀b o,b∉wr->b≠S->s.heap.get? b=some o->h'.get? b=some o)->R (.ok (.ret v)) {s with heap:=h',toks:=tk}) ->
  codeAny (model prog w) A (.builtin "max.loop" ⟨[.ref I,.none,.ref S],kw⟩) R s
 |0,j,s,best,c,hn,hst,hP,hS,hR=>by
  have hSw:S∉wr:=λz=>hSf (W.sub _ z)
  refine codeAny_builtin F.entry_max_loop ?_;rw[Around.under_plainId F.plain_max_loop _];show wpAny _ A.in1 (seqItems? (.ref S) >>= _) _ _ s;refine qB (wpAny_seqItems hS rfl ?_);show wpAny _ A.in1 (tryCatch (pyNext (.ref I)) _ >>= _) _ _ s;have en:j+1=n:=by omega
  refine qB (wpAny_tryCatch (W.done s _ _ (en▸hst) λh' tk kp=>?_));have hS':=kp S _ hSw hS;show wpAny _ A.in1 (updateSeq S (λ_=>#[]) >>= _) _ _ _;refine qB (wpAny_updateSeq hS' rfl (qB (wpAny_letGo (qC (hR best _ tk ?_ ?_)))))
  ·rw[<- en];exact hP
  ·exact λb o hb hbS e=>(get?_update_other _ _ (Ne.symm hbS)).trans (kp b o hb e)
 |m+1,j,s,best,c,hn,hst,hP,hS,hR=>by
  have hSw:S∉wr:=λz=>hSf (W.sub _ z)
  have hlt:j+1<n:=by omega
  refine codeAny_builtin F.entry_max_loop ?_;rw[Around.under_plainId F.plain_max_loop _];show wpAny _ A.in1 (seqItems? (.ref S) >>= _) _ _ s;refine qB (wpAny_seqItems hS rfl ?_);show wpAny _ A.in1 (tryCatch (pyNext (.ref I)) _ >>= _) _ _ s;refine qB (wpAny_tryCatch (W.item (j+1) s _ _ hlt hst λv h' tk hv hst' kp=>?_));have hS':=kp S _ hSw hS;show wpAny _ A.in1 (tryCatch (holding [v,v] (richCompare .Gt v best >>= _)) _ >>= _) _ _ _;refine qB (wpAny_tryCatch (wpAny_holding (qB (hcmp (j+1) (argBest bt j) v best _ _ _ hv hP ?_))));refine qB (wpAny_holding (wpAny_truthy_bool (qB (wpAny_letGo (qC ?_)))));cases hb:bt (j+1) (argBest bt j)with
  |true =>
   simp only[if_true];refine qB (wpAny_updateSeq hS' rfl (qB (wpAny_letGo ?_)));rw[Yv];refine qC ⟨plainId_quiet F.plain_max_loop _,WO W hcmp S hSf kw m (j+1) _ v _ (by omega) (W.frame _ _ _ hst' λb hbf o e=>?_) (by simp only[argBest,hb,if_true];exact hv) (get?_update_self _ hS' rfl) λv' h'' tk'' hP' kp''=>?_⟩
   ·exact(get?_update_other _ _ (λz:S=b=>hSf (by rw[z];exact hbf))).trans e
   ·exact hR v' h'' tk'' hP' λb o hbw hbS e=>kp'' b o hbw hbS ((get?_update_other _ _ (Ne.symm hbS)).trans (kp b o hbw e))
  |false =>
   simp only[Bool.false_eq_true,if_false];refine qB (wpAny_letGo ?_);rw[Yv];refine qC ⟨plainId_quiet F.plain_max_loop _,WO W hcmp S hSf kw m (j+1) _ best c (by omega) hst' (by simp only[argBest,hb,Bool.false_eq_true,if_false];exact hP) hS' λv' h'' tk'' hP' kp''=>?_⟩;exact hR v' h'' tk'' hP' λb o hbw hbS e=>kp'' b o hbw hbS (kp b o hbw e)
def zAz(W:Walks prog w A.in1 I fp wr n P St){bt:Nat->Nat->Bool}(hcmp:CmpOf prog w A.in1 .Gt P bt)(S:Addr)(hSf:S∉fp)(d:Value){s:Shared}{c:Nat}(hst:St 0 s.heap)
  (hS:s.heap.get? S=some {cls:=.type "list",dict:=none,data:=.seq #[] c,slots:=#[]})
  (hR:∀v h' tk,(n=0/\v=d)\/(0<n/\P (argBest bt (n-1)) v)->(∀b o,b∉wr->b≠S->s.heap.get? b=some o->h'.get? b=some o)->R (.ok (.ret v)) {s with heap:=h',toks:=tk}) :
  codeAny (model prog w) A (.builtin "max.loop" ⟨[.ref I,.none,.ref S],[(Str.ofString "default",d)]⟩) R s:=by
 have hSw:S∉wr:=λz=>hSf (W.sub _ z)
 refine codeAny_builtin F.entry_max_loop ?_;rw[Around.under_plainId F.plain_max_loop _];show wpAny _ A.in1 (seqItems? (.ref S) >>= _) _ _ s;refine qB (wpAny_seqItems hS rfl ?_);show wpAny _ A.in1 (tryCatch (pyNext (.ref I)) _ >>= _) _ _ s;by_cases hn:n=0
 ·refine qB (wpAny_tryCatch (W.done s _ _ (hn▸hst) λh' tk kp=>?_))
  show wpAny _ A.in1 (rule _ >>= λ_=>ret d) _ _ _
  refine qB (wpAny_rule (qC (hR d h' tk (.inl ⟨hn,rfl⟩) λb o hb _ e=>kp b o hb e)))
 ·have h0:0<n:=Nat.pos_of_ne_zero hn
  refine qB (wpAny_tryCatch (W.item 0 s _ _ h0 hst λv h' tk hv hst' kp=>?_));have hS':=kp S _ hSw hS;show wpAny _ A.in1 (updateSeq S (λ_=>#[v,v]) >>= _) _ _ _;refine qB (wpAny_updateSeq hS' rfl ?_);rw[Yv];refine qC ⟨plainId_quiet F.plain_max_loop _,WO W hcmp S hSf _ (n-1) 0 _ v _ (by omega) (W.frame _ _ _ hst' λb hbf o e=>?_) hv (get?_update_self _ hS' rfl) λv' h'' tk'' hP' kp''=>?_⟩
  ·exact(get?_update_other _ _ (λz:S=b=>hSf (by rw[z];exact hbf))).trans e
  ·exact hR v' h'' tk'' (.inr ⟨h0,hP'⟩) λb o hbw hbS e=>kp'' b o hbw hbS ((get?_update_other _ _ (Ne.symm hbS)).trans (kp b o hbw e))
end
def zCN(a v:Value):argsOk "max" ⟨[a],[(Str.ofString "default",v)]⟩:=by unfold argsOk;kernel_rfl
def WP(ns:List Int)(k:Int):Int:=if ns.length=0 then k else zAx ns
section
variable{prog:Program}{w:World}{A:Around}{E:Value->Shared->Prop}{s:Shared}
def GI{id:String}{b:Builtin}{args:List Value}{kw:List (Str×Value)}{Q:Value->Shared->Prop}(hk:builtinKind id=none)(hp:plainId id=true)(hb:entryFor table id=some b)(ha:argsOk id ⟨args,kw⟩)
  (hc:wpAny (model prog w) A.in1 (b ⟨args,kw⟩) (λfin s'=>match fin with
   | .done f=>(match(Except.ok f:Result)with | .ok (.ret v)=>Q v s' | .ok _=>False | .error e=>E e s')
   | .again c'=>c'.quiet=true/\codeAny (model prog w) A c' (λr s'=>match r with | .ok (.ret v)=>Q v s' | .ok _=>False | .error e=>E e s') s') E s) :
  wpAny (model prog w) A (call (.builtin id) args kw) Q E s:=by
 refine wpAny_call (codeAny_call_builtin hp hb ?_);simp only[checkBuiltinCall,hk];cases sg:Manifest.signature? id with
 |none=>exact qC hc
 |some g =>
  have chk:Bind.checkArgs id g ⟨args,kw⟩=pure ():=by simpa only[argsOk,sg]using ha
  simp only[chk];exact qC hc
end
section
variable{X:Cx}{e d:Expr}{te td:TE}{p pos kp:Pos}
def zCO(hc:X.calm=true){pins:List (Addr×Obj)}{s:Shared}{O:L2.St}{H:Hp}{l:Addr}{ns:List Int}{k:Int}{t:Tok}{Q:VK}(I:Inv X pins O H s)(hq:SqL X.K H l (ns.map V.int))(q:Q (.int (WP ns k)) H) :
  wpAny (model X.prog X.w) X.A (call (.builtin "max") [.ref l] [(Str.ofString "default",.int k t)]) (EP X pins O Q) X.xe s:=by
 obtain⟨its,rv,pl,hz⟩:=I.list hq;have hlen:its.length=ns.length:=by rw[<- rv.length,length_map]
 have hp:l<s.heap.objs.size:=by obtain⟨o,n,e,_⟩:=pl;exact lt_size e
 have hk:∀b o,s.heap.get? b=some o->(s.heap.push {cls:=.type "list_iterator",data:=.fields #[.ref l,.int 0 0]}).get? b=some o:=λb o e=>qA _ e
 refine GI F.kind_max F.plain_max F.entry_max (zCN _ _) ?_;show wpAny _ X.A.in1 (Builtin.Builtins.bindParams "max" ["key","default"] 0 ⟨[],[(Str.ofString "default",.int k t)]⟩ >>= _) _ _ s;refine qB (wpAny_of_eq (show Builtin.Builtins.bindParams "max" ["key","default"] 0 ⟨[],[(Str.ofString "default",.int k t)]⟩=pure [none,some (.int k t)]from rfl) ?_);refine qB (qC (qB (wpAny_pyIter_list pl.isList (qB (wpAny_newObj_type ?_)))));rw[Yv];have hI:s.heap.objs.size<(s.heap.push {cls:=.type "list_iterator",data:=.fields #[.ref l,.int 0 0]}).objs.size:=by rw[size_push];exact lt_succ_self _
 refine qC ⟨plainId_quiet F.plain_max_loop _,zAz (fp:=[s.heap.objs.size,l]) (wr:=[s.heap.objs.size])
  (Walks.list (by show X.A.handled=none;exact I.ok.hd hc) _ l (ne_of_lt hp) its.toArray) (CmpOf.ints_gt (λi=>ns.getD i 0) (Zk rv)) _ ?_ (.int k t) ⟨⟨_,qA _ (get?_push_size _ rfl),rfl,rfl⟩,?_⟩ (get?_push_size _ rfl) ?_⟩
 ·intro hm
  rcases mem_cons.mp hm with e|e
  ·rw[e]at hI;exact absurd hI (lt_irrefl _)
  ·have e':=mem_singleton.mp e
   rw[e']at hI;exact absurd (lt_trans hp hI) (lt_irrefl _)
 ·obtain⟨o,e,c⟩:=pl.isList
  exact⟨o,qA _ (hk _ _ e),c⟩
 ·intro v h' tk hv kp
  have keep:∀b o,s.heap.get? b=some o->h'.get? b=some o:=λb o eb=>kp b o (λm=>by
   have:b=s.heap.objs.size:=by simpa using m
   subst this;exact absurd (lt_size eb) (lt_irrefl _)) (λz=>by
   have:=lt_size eb;rw[z]at this;exact absurd (lt_trans this hI) (lt_irrefl _)) (qA _ (hk b o eb))
  rcases hv with⟨h0,rfl⟩|⟨h0,hP⟩
  ·have e0:ns.length=0:=by rw[<- hlen];simpa using h0
   have em:WP ns k=k:=by unfold WP;rw[if_pos e0]
   rw[em]at q;exact⟨.int k,H,I.kept (t':=tk) keep,⟨_,rfl⟩,q⟩
  ·obtain⟨t',e⟩:=Zk rv _ v hP
   subst e;have e0:¬ns.length=0:=by rw[<- hlen];simp at h0;omega
   have em:WP ns k=zAx ns:=by unfold WP;rw[if_neg e0]
   rw[em]at q;rw[size_toArray,hlen];exact⟨.int (zAx ns),H,I.kept (t':=tk) keep,⟨_,rfl⟩,q⟩
def pe_maxd(hc:X.calm=true)(hg:Gl X "max")(hm:X.mg "max"=none)(hv:bootBuiltins "max"=some (.builtin "max"))(he:PE X e te)(hd:PE X d td)(hst:starEach [e] X.env=[(false,eval e X.env)]) :
  PE X (.Call (.Name "max" p) [e] [⟨some (Str.ofString "default"),d,kp⟩] pos) (λO H Q=>te O H λx H1=>td O H1 λz H2=>∃l ns k,x=.ref l/\z=.int k/\SqL X.K H2 l (ns.map V.int)/\Q (.int (WP ns k)) H2):=by
 intro pins s O H Q I h;refine wpAny_Call_Name_kw (Ym I hg hm hv ?_ (by decide) (by decide));refine callWith_kw ?_ (by rw[hst];rfl) (by rw[hst];rfl);refine thn ((jC he YA hst) pos pins s O H (λvs H1=>match vs with
  | [x]=>td O H1 λz H2=>∃l ns k,x=.ref l/\z=.int k/\SqL X.K H2 l (ns.map V.int)/\Q (.int (WP ns k)) H2|_=>False) I h) λus s1 ⟨vs,H1,I1,r1,q1⟩=>?_
 match vs,q1 with
 | [x],q1 =>
  obtain⟨u,rfl,rx⟩:=uf r1;refine kws_cons (thn (hd pins s1 O H1 _ I1 q1) λw s2 ⟨z,H2,I2,rz,l,ns,k,e1,e2,hq,q⟩=>kws_nil ?_);subst e1 e2;cases rx;obtain⟨t,rfl⟩:=rz;exact zCO hc I2 hq q
end
end L2
namespace DV
open PySem L2
section
variable{X:Cx}{K:qH}{mg:Str->Option Value}
def call_or{f:Value}{r r':List V->Hp->VK->Prop}(h:JO X f r)(h':JO X f r'):JO X f (λxs H Q=>r xs H Q\/r' xs H Q):=by
 intro pins s O H xs us Q I rv q;rcases q with q|q
 ·exact h pins s O H xs us Q I rv q
 ·exact h' pins s O H xs us Q I rv q
def eqG(d e:D):Option R:=match eqF d e with
 |some r=>some r|none=>zF0 false d e
def neG(d e:D):Option R:=match neF d e with
 |some r=>some r|none=>zF0 true d e
def zF2:ROk K mg (λx y H Q=>rEq x y H Q\/rEqD K mg false x y H Q) eqG:=by
 intro M H Z x y d1 d2 res Q f r1 r2 e k;unfold eqG at e;cases h:eqF d1 d2 with
 |some r=>rw[h]at e;cases e;exact .inl (ro_eq M H Z x y d1 d2 res Q f r1 r2 h k)|none=>rw[h]at e;exact .inr (zF1 M H Z x y d1 d2 res Q f r1 r2 e k)
def zF3:ROk K mg (λx y H Q=>rNe x y H Q\/rEqD K mg true x y H Q) neG:=by
 intro M H Z x y d1 d2 res Q f r1 r2 e k;unfold neG at e;cases h:neF d1 d2 with
 |some r=>rw[h]at e;cases e;exact .inl (ro_ne M H Z x y d1 d2 res Q f r1 r2 h k)|none=>rw[h]at e;exact .inr (zF1 M H Z x y d1 d2 res Q f r1 r2 e k)
def isD:D->D->Option Bool
 | .bl a,.bl b=>some (a==b)| .non,.bl _=>some false| .int _,.bl _=>some false| .str _,.bl _=>some false| .t _,.bl _=>some false|_,_=>none
def isG(neg:Bool)(d e:D):Option R:=(isD d e).map λb=>.v (.bl (if neg then !b else b))
def isV_of{H:Hp}{d e:D}{x y:V}{b:Bool}(h:isD d e=some b)(rx:Rep K mg H d x)(ry:Rep K mg H e y):isV x y=some b:=by
 cases d<;>cases e<;>simp only[isD]at h<;>first
  | (cases h;done)
  | (cases h;rw[jl rx,jl ry];rfl)
  | (cases h;rw[yz rx,yz ry];rfl)
  | (cases h;rw[jl rx,yz ry];rfl)
  | (cases h;rw[yz rx,jl ry];rfl)
  | (cases h;rw[jl rx,zM ry];rfl)
  | (cases h;rw[zM rx,jl ry];rfl)
  | (cases h;rw[jl rx,wT ry];rfl)
  | (cases h;rw[wT rx,jl ry];rfl)
  | (cases h;rw[zM rx,yz ry];rfl)
  | (cases h;rw[yz rx,zM ry];rfl)
  | (cases h;rw[wT rx,yz ry];rfl)
  | (cases h;rw[yz rx,wT ry];rfl)
  | (cases h;obtain⟨a,xs,rfl,_⟩:=ze rx;rw[jl ry];rfl)
  | (cases h;obtain⟨a,xs,rfl,_⟩:=zT rx;rw[jl ry];rfl)
  | (cases h;obtain⟨a,xs,rfl,_⟩:=ze rx;rw[yz ry];rfl)
  | (cases h;obtain⟨a,xs,rfl,_⟩:=zT rx;rw[yz ry];rfl)
def ro_is:ROk K mg (λx y H Q=>∃b,isV x y=some b/\Q (.bl b) H) (isG false):=by
 intro M H Z x y d1 d2 res Q f r1 r2 e k;unfold isG at e;cases h:isD d1 d2 with
 |none=>rw[h]at e;cases e|some b=>rw[h]at e;cases e;exact⟨b,isV_of h r1 r2,k.flat f rfl⟩
def ZR(d e:D):Option R:=match ZP d e with
 |some r=>some r
 |none=>match d,e with
  | .l a,.int k=>if -(2^63)<=k/\k<2^63/\a.length*k.toNat<=cap then some (.own (replicate k.toNat a).flatten)else none|_,_=>none
def ro_mulG:ROk K mg (λx y H Q=>rMulD K x y H Q\/rRepL K x y H Q) ZR:=by
 intro M H Z x y d1 d2 res Q f r1 r2 e k;unfold ZR at e;cases h:ZP d1 d2 with
 |some r=>rw[h]at e;cases e;exact .inl (ro_mul M H Z x y d1 d2 res Q f r1 r2 h k)
 |none =>
  rw[h]at e;cases d1 with
  |l a =>
   cases d2 with
   |int n =>
    dsimp only at e;split at e
    ·rename_i hc
     cases e;obtain⟨p,xs,rfl,h1,h2⟩:=zT r1;rw[zM r2];exact .inr ⟨p,n,xs,rfl,rfl,zK.seq h1,hc.1,hc.2.1,by rw[h2.length];exact wb hc.2.2,λq hq=>k.own f hq (h2.flatten _)⟩
    ·cases e
   |_=>cases e
  |_=>cases e
def w6:List D->Option (List Int)
 | []=>some []| .int i::ds=>(w6 ds).map (i::·)|_::_=>none
theorem jy{H:Hp}:∀{ds:List D} {xs:List V} {ns:List Int},w6 ds=some ns->Reps K mg H ds xs->xs=ns.map V.int
 | [],_,_,e,h=>by cases e;simp only[Reps]at h;subst h;rfl
 |d::ds,_,ns,e,h=>by
  simp only[Reps]at h;obtain⟨v,r,rfl,h1,h2⟩:=h;cases d with
  |int i =>
   simp only[w6]at e;cases eb:w6 ds with
   |none=>rw[eb]at e;cases e
   |some cs =>
    rw[eb]at e;cases e;rw[zM h1,jy eb h2];rfl
  |_=>cases e
def zEi:List D->Option R
 | [.l ds]=>(w6 ds).map λns=>.v (.int ns.sum)| [.t ds]=>(w6 ds).map λns=>.v (.int ns.sum)|_=>none
def co_sumG:COk K mg (λxs H Q=>(∃(p:Addr) (ns:List Int),xs=[.ref p]/\SqL K H p (ns.map V.int)/\Q (.int ns.sum) H)\/∃(p:Addr) (ns:List Int),xs=[.ref p]/\SqT K H p (ns.map V.int)/\Q (.int ns.sum) H) zEi:=by
 intro M H Z xs ds res Q f r e k
 match ds,e with
 | [.l ds],e =>
  simp only[zEi]at e;cases hi:w6 ds with
  |none=>rw[hi]at e;cases e
  |some ns =>
   rw[hi]at e;cases e;obtain⟨v,rfl,h⟩:=Zc r;obtain⟨p,ys,rfl,h1,h2⟩:=zT h;rw[jy hi h2]at h1;exact .inl ⟨p,ns,rfl,zK.seq h1,k.flat f rfl⟩
 | [.t ds],e =>
  simp only[zEi]at e;cases hi:w6 ds with
  |none=>rw[hi]at e;cases e
  |some ns =>
   rw[hi]at e;cases e;obtain⟨v,rfl,h⟩:=Zc r;obtain⟨p,ys,rfl,h1,h2⟩:=ze h;rw[jy hi h2]at h1;exact .inr ⟨p,ns,rfl,yH zK h1,k.flat f rfl⟩
end
section
variable{X:Cx}{O:St}{H:Hp}
def zA0:D->D->Option R
 | .l ds,.int k=>(w6 ds).map λns=>.v (.int (WP ns k))|_,_=>none
def ro_maxd{K:qH}{mg:Str->Option Value}:ROk K mg (λx z H Q=>∃l ns k,x=.ref l/\z=.int k/\SqL K H l (ns.map V.int)/\Q (.int (WP ns k)) H) zA0:=by
 intro M H Z x y d1 d2 res Q f r1 r2 e k;cases d1 with
 |l ds =>
  cases d2 with
  |int n =>
   simp only[zA0]at e;cases hi:w6 ds with
   |none=>rw[hi]at e;cases e
   |some ns =>
    rw[hi]at e;cases e;obtain⟨p,ys,rfl,h1,h2⟩:=zT r1;rw[jy hi h2]at h1;exact⟨p,ns,n,rfl,zM r2,zK.seq h1,k.flat f rfl⟩
  |_=>cases e
 |_=>cases e
def ok_maxd{e d:Expr}{m md:ME}{p kp pos:Pos}(hc:X.calm=true)(hg:Gl X "max")(hm:X.mg "max"=none)(he:EOk X e m)(hd:EOk X d md)(hs:zH e=false):EOk X (.Call (.Name "max" p) [e] [⟨some (Str.ofString "default"),d,kp⟩] pos) (Jo zA0 m md) :=
 zq (pe_maxd hc hg hm zFw he hd (zAs hs)) λO H Q q=>Z9 ro_maxd q
def sPar(i j:Nat)(m:MA):MS:=λE=>match m E with
 | .z=>.z| .exc x E1=>.exc x E1
 | .ok ([r1,r2],E1)=>match gNs [i,j] [r1.d,r2.d] E1 with
  | .ok E2=>.ok (.nx,E2)|_=>.z
 |_=>.z
def zEj{i j:Nat}{m:MA}{D:Ends}(h:tS X (sPar i j m) D O H):tPar i j (tMA X m) D O H:=by
 obtain⟨M,E,hl,fr,k⟩:=h;unfold sPar at k;refine wt (T0:=[]) hl fr ?_;cases ea:m E with
 |z=>rw[ea]at k;exact k|exc x E1=>rw[ea]at k;exact λH' g=>k O H' g
 |ok p =>
  obtain⟨rs,E1⟩:=p;rw[ea]at k
  match rs,k with
  | [r1,r2],k =>
   intro vs H1 hv g;dsimp only at k;cases eg:gNs [i,j] [r1.d,r2.d] E1 with
   |z=>rw[eg]at k;exact k.elim|exc _ _=>rw[eg]at k;exact k.elim
   |ok E2 =>
    rw[eg]at k
    match vs,hv with
    | [v,w],_ =>
     have rp:=Got.reps rfl g;have g0:=g.dropAll;have q:=WF (X:=X) [i,j] [r1.d,r2.d] [v,w] (a:=0) (ts:=[]) (Q:=D.nx) (Got.refl (T0:=[]) g0.len g0.fr) rp eg λO' g'=>k O' H1 (g0.trans' g')
     obtain⟨v1,rr,e1,v2,rr2,e2,e3,q⟩:=q;cases e1;cases e2;exact⟨v,w,rfl,q⟩
  | [],k=>exact k.elim| [_],k=>exact k.elim|_::_::_::_,k=>exact k.elim
def sk_any{st:Stmt}:SOk X st (λ_=>.z):=yy zDu λD O H ⟨M,E,hl,fr,k⟩=>k
end
section
variable{X:Cx}{pins:List (Addr×Obj)}{O:L2.St}{H:Hp}{s:Shared}
def zCP(I:Inv X pins O H s){a:Addr}(h:s.heap.get? a=none):H a=none:=by
 cases q:H a with
 |none=>rfl|some o=>obtain⟨u,e⟩:=Qn (I.hok a o q);rw[h]at e;cases e
def sRaise(c:Str):MS:=λE=>.exc ⟨c,true,[]⟩ E
def zEk{c:Str}{C:Addr}{np cpos pos:Pos}(hc:X.calm=true)(hg:Gl X c)(hm:X.mg c=some (.ref C))(q:excIn X.K C VB "ValueError.__new__"=true)(hd:(c==("__debug__":Str))=false):SOk X (.Raise (some (.Call (.Name c np) [] [] cpos)) none pos) (sRaise c):=by
 intro pins s O H D I ⟨M,E,hl,fr,k⟩;have k':XE X O H ⟨c,true,[]⟩:=k O H (Got.refl (T0:=[]) hl fr);obtain⟨bm,N,nm,qn,bs,hdct,sn,sub,ab,col,dd,k0,k1,k2,k3,k5,mN,hC,hN,hni,T⟩:=own_at I.kIn q;refine wpAny_Raise_call_subT (nm:=nm) (q:=qn) (C:=C) (N:=N) (bs:=bs) (bm:=bm) (hdct:=hdct) (sn:=sn) (sub:=sub) (ab:=ab) (col:=col) (dd:=dd) (k0:=k0) (k1:=k1) (k2:=k2) (k3:=k3) (k5:=k5) PySem.F.excBase_ValueError (T.hasType (by decide +kernel)) (I.ok.hd hc) rfl hni (Y5 I hg hm ⟨rfl,?_⟩ hd);refine qC ⟨rfl,zero_le _,hC,hN,T,λh' e hx=>?_⟩;refine k' pins _ _ (I.kept hx.keeps) ⟨e,C,none,rfl,hm,zCP I hx.new,.inl rfl,.inl ⟨rfl,s,I,rfl,MadeD.of hx⟩⟩
def zCQ{A:Around}{M:Model}{E:Value->Shared->Prop}{i:Nat}{x:Str}{v:V}{Q:Unit->Shared->Prop}(I:Inv X pins O H s)(hN:X.N.Nodup)(hi:X.N[i]?=some x)(hx:X.env.scope.names.lookup x=some .local)(hv:O[i]?=some (some v))
  (h:∀s',Inv X pins (O.set i none) H s'->Q () s'):wpAny M A (unbindName X.env x) Q E s:=by
 obtain⟨m,hn,hl⟩:=id I.loc;have hcls:(X.env.scope.kind==.class||(X.env.scope.kind==.module&&X.env.locals != X.env.globals))=false:=by rw[I.ok.kind];rfl
 obtain⟨u,_,lk⟩:=hl i x v hi hv (.inl hx);have hm:m x=some u:=by
  rcases lk with⟨_,e⟩|⟨z,_⟩
  ·exact e
  ·have z':X.env.scope.names.lookup x=some .cell\/X.env.scope.names.lookup x=some .free:=z
   rcases z' with z'|z'<;>(rw[hx]at z';cases z')
 refine wpAny_unbindName_local hx hn hm hcls λh' u' hn' hs=>?_
 obtain⟨oL,_,_,hoL,_⟩:=id hn;have keep:∀b,b≠X.env.locals->h'.get? b=s.heap.get? b:=λb hb=>hs.2 b hb
 have neL:∀b o,X.s₀.heap.get? b=some o->b≠X.env.locals:=λb o e=>ne_of_lt (lt_of_lt_of_le (lt_size e) I.ok.above)
 refine h _ ⟨I.ok,I.os,I.bare,⟨λb o e n hb hx=>(keep b (neL b o e)).trans (I.base.keep b o e n hb hx),λb o e n hb hx=>?_,I.base.free,λb o e hx=>?_,I.base.tups,I.base.frzs,I.base.tbls⟩,⟨_,hn',λj y v' e1 e2 e3=>?_⟩,λy c e=>?_,I.free,I.freeC,λp hp=>?_,λb o e=>?_,by simpa using I.len⟩
 ·obtain⟨sl,q⟩:=I.base.slot b o e n hb hx
  exact⟨sl,(keep b (neL b o e)).trans q⟩
 ·obtain⟨o',q⟩:=I.base.there b o e hx
  exact⟨o',(keep b (neL b o e)).trans q⟩
 ·have hiO:i<O.length:=(qG.mp hv).1
  have hj:j≠i:=λz=>by
   subst z;rw[getElem?_set_self hiO]at e2;cases e2
  rw[getElem?_set_ne (Ne.symm hj)]at e2;obtain⟨u2,r2,q⟩:=hl j y v' e1 e2 e3;refine⟨u2,r2,?_⟩;rcases q with⟨k,e⟩|⟨k,c,e,z⟩
  ·have ny:y≠x:=λe=>hj (vd hN e1 (e▸hi))
   exact .inl ⟨k,by simp[ny,e]⟩
  ·exact .inr ⟨k,c,e,z.sameBut hs (I.cne y c e)⟩
 ·obtain⟨w',z⟩:=I.cell y c e
  exact⟨w',z.sameBut hs (I.cne y c e)⟩
 ·obtain⟨e,n,ne,nf,d⟩:=I.pin p hp
  exact⟨(keep p.1 ne).trans e,n,ne,nf,d⟩
 ·refine(I.hok b o e).stay (λc w' hc q=>(keep c λz=>?_).trans q) (λ_ q=>q) λ_ _ q=>q
  subst z;rcases hc with rfl|hc
  ·rw[I.free]at e;cases e
  ·rw[I.free]at hc;cases hc
def zCR{sc:Shared}{Hc:Hp}{B:Heap}{a C:Addr}{t:Value}{h6:Heap}(I:Inv X pins O H s)(Ic:Inv X pins O Hc sc)(un:Un (frs X.stack) [] Hc H sc.heap s.heap)(fl:Heap.FlyingW B X.stack a (.ref C) t s.heap)(kb:zDq B H sc.heap (frs X.stack) s.heap)(hn:H a=none)
  (fl6:Heap.FlyingW B X.stack a (.ref C) t h6) (sl:s.heap.UpToSlots h6) {oX:HO} (hX:yd X.prog X.w (upd H a oX) h6 a oX):Inv X pins O (upd H a oX) {s with heap:=h6}:=by
 obtain⟨oe,vs,he,hec,hed,_⟩:=fl.first;have naf:a∉frs X.stack:=λz=>by
  obtain⟨_,o,q,nd⟩:=I.stack.mem z;rw[he]at q;cases q;exact nd vs hed
 have nac:sc.heap.get? a=none:=by
  cases q:sc.heap.get? a with
  |none=>rfl
  |some o =>
   have:=kb a oe he (.inl ⟨o,q⟩) naf;rw[fl.2.1]at this;cases this
 have kb':zDq B H sc.heap (a::frs X.stack) s.heap:=λb o e z nf=>kb b o e z λq=>nf (qD _ q)
 have hN:∀b∈a::frs X.stack,H b=none:=λb hb=>by
  rcases mem_cons.mp hb with rfl|hb
  ·exact hn
  ·exact I.stkFree b hb
 have hfs:∀b∈frs X.stack,∀o,s.heap.get? b=some o->∃sl,h6.get? b=some {o with slots:=sl}:=λb hb o e=>by
  obtain⟨_,o',q,nd⟩:=I.stack.mem hb;rw[e]at q;cases q;exact sl b o e nd
 have u6:=un_on un I.hok kb' fl6.1 nac hfs;have ok6:HOk X.prog X.w H h6:=zBn I.hok kb' fl6.1 hN;have ne:∀{b:Addr} {o:HO},H b=some o->b≠a:=λ{b o} e z=>by subst z;rw[hn]at e;cases e
 refine Ic.call' (s':={s with heap:=h6}) (ch:=[]) (I.os.trans Ic.os.symm) ?_ (λb o e=>?_) I.bare (λb z=>absurd z (by simp))
 ·exact⟨u6.keep,u6.slot,λb o e n hx=>by
   have:b≠a:=λz=>by subst z;rw[nac]at e;cases e
   rw[zG this];exact u6.free b o e n hx,u6.there,λb xs e=>by have q:=u6.tups b xs e;rw[zG (ne q)];exact q,λb o u e=>by have q:=u6.frzs b o u e;rw[zG (ne q)];exact q,λb ps e=>by obtain⟨m,q⟩:=u6.tbls b ps e;exact⟨m,by rw[zG (ne q)];exact q⟩⟩
 ·by_cases hb:b=a
  ·subst hb
   rw[zY]at e;cases e;exact hX
  ·rw[zG hb]at e
   exact(ok6 b o e).stay (λc w' _ q=>q) (λc q=>by rw[zG (ne q)];exact q) λc xs q=>by rw[zG (ne q)];exact q
abbrev trX(X:Cx)(pn:List (Addr×Obj))(E:Value->Shared->Prop):Cx:={X with pn:=pn,xe:=E}
abbrev hdX(X:Cx)(a:Addr):Cx:={X with A:=X.A.mark (some (.ref a)),calm:=false,xe:=λ_ _=>False}
def inv_tr(I:Inv X pins O H s)(E:Value->Shared->Prop):Inv (trX X (X.pn++pins) E) [] O H s :=
 ⟨⟨I.ok.mod,I.ok.kind,I.ok.glob,I.ok.blt,I.ok.above,I.ok.inj,I.ok.has,I.ok.cab,I.ok.hd,I.ok.frames,I.ok.stk,I.ok.exf,I.ok.bs,I.ok.bsz,I.ok.noex,I.ok.exfs,I.ok.funs,I.ok.frf⟩,I.os,I.bare,I.base,I.loc,I.cell,I.free,I.freeC,λp hp=>I.pin p (by simpa using hp),I.hok,I.len⟩
def Js{pins':List (Addr×Obj)}{E:Value->Shared->Prop}(I:Inv (trX X (X.pn++pins) E) pins' O H s):Inv X pins O H s :=
 ⟨⟨I.ok.mod,I.ok.kind,I.ok.glob,I.ok.blt,I.ok.above,I.ok.inj,I.ok.has,I.ok.cab,I.ok.hd,I.ok.frames,I.ok.stk,I.ok.exf,I.ok.bs,I.ok.bsz,I.ok.noex,I.ok.exfs,I.ok.funs,I.ok.frf⟩,I.os,I.bare,I.base,I.loc,I.cell,I.free,I.freeC,λp hp=>I.pin p (mem_append_left _ hp),I.hok,I.len⟩
def vx{pins':List (Addr×Obj)}{E:Value->Shared->Prop}{D:Ends}{f:Flow}{s':Shared}(h:SP (trX X (X.pn++pins) E) pins' D f s'):SP X pins D f s':=by
 cases f with
 |next=>obtain⟨O',H',I,q⟩:=h;exact⟨O',H',Js I,q⟩|brk=>obtain⟨O',H',I,q⟩:=h;exact⟨O',H',Js I,q⟩|cont=>obtain⟨O',H',I,q⟩:=h;exact⟨O',H',Js I,q⟩|ret u=>obtain⟨v,O',H',I,r,q⟩:=h;exact⟨v,O',H',Js I,r,q⟩
def zF4(I:Inv X pins O H s)(a:Addr):Inv (hdX X a) pins O H s:=Y7 I _ false _ (λz=>by cases z) I.ok.frames
def zEl{a:Addr}(I:Inv (hdX X a) pins O H s)(hd:X.calm=true->X.A.handled=none):Inv X pins O H s :=
 ⟨⟨I.ok.mod,I.ok.kind,I.ok.glob,I.ok.blt,I.ok.above,I.ok.inj,I.ok.has,I.ok.cab,hd,I.ok.frames,I.ok.stk,I.ok.exf,I.ok.bs,I.ok.bsz,I.ok.noex,I.ok.exfs,I.ok.funs,I.ok.frf⟩,I.os,I.bare,I.base,I.loc,I.cell,I.free,I.freeC,I.pin,I.hok,I.len⟩
def sTry(cl:List Str)(i:Nat)(b h:MS):MS:=λE=>match b E with
 | .exc x E1=>if(!x.made&&cl.contains x.cls)=true then(match Yg i (.v (.exn x.cls x.vs)) E1 with
   | .ok E2=>(match h E2 with
    | .ok (.ret r,E3)=>.ok (.ret r,E3)|_=>.z)
   |_=>.z)else .z
 |o=>o
def sk_try{body suite:List Stmt}{b0:Stmt}{n t:Str}{i:Nat}{T:Addr}{np hp pos:Pos}{mb mh:MS}{cl:List Str}(hst:X.stack=X.env::X.outer/\X.env.frame=some X.env.locals)(hN:X.N.Nodup)(hi:X.N[i]?=some n)(hx:X.env.scope.names.lookup n=some .local)
  (hg:Gl X t) (hd:(t==("__debug__":Str))=false) (hm:X.mg t=some (.ref T)) (hT:TCls X.K T) (hcl:∀c∈cl,∃C,X.mg c=some (.ref C)/\XCls X.K c C T)
  (hb:∀pn E,QE (trX X pn E) body mb) (hh:∀a,QE (hdX X a) (b0::suite) mh) :
  SOk X (.Try body [.ExceptHandler (some (.Name t np)) (some n) (b0::suite) hp] [] [] pos) (sTry cl i mb mh):=by
 intro pins s O H D I ⟨M,E,hl,fr,k⟩;rw[arm_exec_Try];refine qB (wpAny_standAt (wpAny_tryStmt_except ?_));unfold sTry at k;refine wpAny_mono (hb (X.pn++pins) _ [] s O H D (inv_tr I _) ⟨M,E,hl,fr,?_⟩) (λf s1 q=>?_) λ_ _ z=>z
 ·cases eb:mb E with
  |z=>rw[eb]at k;exact k
  |ok p =>
   rw[eb]at k;obtain⟨fl,E1⟩:=p;cases fl<;>exact k
  |exc x E1 =>
   rw[eb]at k;dsimp only at k;intro O1 H1 g;intro pins' s1 e I1 ⟨a,C,od,he,hmx,hn,hf,rel⟩;subst he;cases hq:(!x.made&&cl.contains x.cls)with
   |false=>rw[hq]at k;exact k.elim
   |true =>
   rw[hq]at k;simp only[Bool.and_eq_true,Bool.not_eq_true']at hq;obtain⟨hmd,hin⟩:=hq;rcases rel with⟨z,_⟩|⟨_,sc,Hc,Ic,un,⟨B,tt,fl,kb⟩,dl⟩
   ·rw[hmd]at z;cases z
   obtain⟨C',hmc,FC⟩:=hcl x.cls (by simpa using hin);have ec:C=C':=by
    have z:X.mg x.cls=some (.ref C):=hmx;rw[hmc]at z;cases z;rfl
   subst ec;have J1:Inv X pins O1 H1 s1:=Js I1;have Jc:Inv X pins O1 Hc sc:=Js Ic;have hfr:X.A.frames=some (X.env::X.outer):=by rw[<- hst.1];exact J1.ok.frames
   have fl':Heap.FlyingW B (X.env::X.outer) a (.ref C) (.ref tt) s1.heap:=by rw[<- hst.1];exact fl
   obtain⟨oX,hX,hR⟩:∃oX:HO,(∀(h':Heap) (o:Obj) (vs:Array Value),h'.get? a=some o->o.cls=.ref C->o.data=.fields vs->uq a od h'->yd X.prog X.w (upd H1 a oX) h' a oX) /\
     ((x.vs=[]/\oX=ExO C a)\/∃d,oX=ExA C d a/\H1 d=some (XD d (fsV x.cls x.vs))):=by
    rcases hf with hv|⟨d,e1,e2⟩
    ·exact⟨ExO C a,λh' o _ q c _ _=>zBl q c,.inl ⟨hv,rfl⟩⟩
    ·refine⟨ExA C d a,λh' o _ q c dt l=>?_,.inr ⟨d,rfl,e2⟩⟩
     obtain⟨o',q',k'⟩:=l d e1;rw[q]at q';cases q';exact zBm q c k' dt
   refine wpAny_mono (wa (uo _ _) (wpAny_looks_onW (E:=λ_ _=>False) (Q:=λ_ z=>∃h',z={s1 with heap:=h'}/\Heap.HeldW B (X.env::X.outer) a (.ref C) (.ref tt) X.env.locals h'/\s1.heap.UpToSlots h') hfr hst.2 fl' λh4 held sl4=>⟨h4,rfl,held,sl4⟩)) (λ_ z4 ⟨⟨h4,ez4,held,sl4⟩,kd4⟩=>?_) λ_ _ z=>z.1.elim
   subst ez4;refine wpAny_mono (wa (wR _ _) (wpAny_landsW (E:=λ_ _=>False) (Q:=λ_ z=>∃h',z={s1 with heap:=h'}/\Heap.FlyingW B (X.env::X.outer) a (.ref C) (.ref tt) h'/\h4.UpToSlots h') held λh5 fl5 sl5=>⟨h5,rfl,fl5,sl5⟩)) (λ_ z5 ⟨⟨h5,ez5,fl5,sl5⟩,kd5⟩=>?_) λ_ _ z=>z.1.elim
   subst ez5;have dl5:=(dl.on kd4).on kd5;have fl5':Heap.FlyingW B X.stack a (.ref C) (.ref tt) h5:=by rw[hst.1];exact fl5
   obtain⟨o5,v5,e5,c5,d5,_⟩:=fl5.first;have J5:=zCR J1 Jc un fl kb hn fl5' (sl4.trans sl5) (hX h5 o5 v5 e5 c5 d5 dl5);refine wpAny_handleBy_cons (codeAny_handlers_test ?_) (by intro z;cases z);refine Y5 (X:=hdX X a) (zF4 J5 a) hg hm ?_ hd;refine G7 FC hT J5.kIn e5 c5 ?_;refine codeAny_handlers_suite_as ?_;refine wpAny_mono (wa (wR _ _) (PyProof.Rows.lands_againW (E:=λ_ _=>False) (Q:=λ_ z=>∃h',z={s1 with heap:=h'}/\Heap.FlyingW B (X.env::X.outer) a (.ref C) (.ref tt) h'/\h5.UpToSlots h') fl5 λh6 fl6 sl6=>⟨h6,rfl,fl6,sl6⟩)) (λ_ z6 ⟨⟨h6,ez6,fl6,sl6⟩,kd6⟩=>?_) λ_ _ z=>z.1.elim
   subst ez6;have fl6':Heap.FlyingW B X.stack a (.ref C) (.ref tt) h6:=by rw[hst.1];exact fl6
   obtain⟨o6,v6,e6,c6,d6,_⟩:=fl6.first;have J6:=zCR J1 Jc un fl kb hn fl6' ((sl4.trans sl5).trans sl6) (hX h6 o6 v6 e6 c6 d6 (dl5.on kd6));have g2:Got X.K X.mg M O E H [] O1 E1 (upd H1 a oX) [(some (.ref a),R.slot (.v (.exn x.cls x.vs)))]:=by
    refine g.more (T:=[(some (.ref a),.v (.exn x.cls x.vs))]) ((g.frame.grow hn).add ?_) (Step.newVal hn);simp only[Rep];have ha:Hm (Mo M (O1.zip E1)) (upd H1 a oX) a=some oX:=zz.mpr ⟨Zf g.frame hn,zY⟩;refine⟨a,C,rfl,hmx,?_⟩;rcases hR with⟨hv,rfl⟩|⟨d,rfl,hd⟩
    ·exact .inl ⟨hv,ha⟩
    ·refine .inr ⟨d,ha,zz.mpr ⟨λq=>?_,?_⟩⟩
     ·obtain⟨xs,q⟩:=g.frame.moAl d q
      exact XD_ne hd q
     ·rw[zG (yj hd hn)];exact hd
   cases ep:Yg i (.v (.exn x.cls x.vs)) E1 with
   |z=>rw[ep]at k;exact k.elim|exc _ _=>rw[ep]at k;exact k.elim
   |ok E2 =>
   rw[ep]at k;dsimp only at k;have g3:=WD g2 ep;refine wj (i:=i) (v:=.ref a) J6 hN hi (.inl hx) rfl (λs7 J7=>?_) (.inr hx);refine wpAny_mono (hh a pins s7 (O1.set i (some (.ref a))) (upd H1 a oX) {D with nx:=λ_ _=>False,bk:=λ_ _=>False,ct:=λ_ _=>False} (zF4 J7 a) (WC (T0:=[]) g3.len g3.fr ?_)) (λf s8 q=>?_) λ_ _ z=>z.elim
   ·cases eh:mh E2 with
    |z=>rw[eh]at k;exact k.elim|exc _ _=>rw[eh]at k;exact k.elim
    |ok p =>
     obtain⟨fl,E3⟩:=p;rw[eh]at k;cases fl with
     |nx=>exact k.elim|bk=>exact k.elim|ct=>exact k.elim|ret r=>exact λv O' H' g4=>k v O' H' (g3.trans' g4)
   ·cases f with
    |next=>obtain⟨_,_,_,z⟩:=q;exact z.elim|brk=>obtain⟨_,_,_,z⟩:=q;exact z.elim|cont=>obtain⟨_,_,_,z⟩:=q;exact z.elim
    |ret u =>
     obtain⟨v,O3,H3,J8,ru,dr⟩:=q;have J8':=zEl J8 I.ok.hd;refine qB (wpAny_bindName (wj (i:=i) (v:=.non) J8' hN hi (.inl hx) rfl (λs9 J9=>?_) (.inr hx)));unfold unbindBehindTheSuite;refine wpAny_onRaise ?_;refine zCQ (v:=.non) J9 hN hi hx ?_ λs10 J10=>⟨v,_,H3,J10,ru,dr⟩
     have:i<O3.length:=by rw[J8.len];exact(qG.mp hi).1
     rw[getElem?_set_self this]
 ·cases f with
  |next=>exact wpAny_execs_nil (vx q)|brk=>exact vx q|cont=>exact vx q|ret u=>exact vx q
end
section
variable{X:Cx}{O:L2.St}{H:Hp}
def Q5{cl:List Str}{v:V}{cv:Value}{b:Str->Bool}(rv:∀u,yL v u->u=cv)(hk:∀c∈cl,∃C T,X.mg c=some (.ref C)/\XCls X.K c C T/\kitOne X.K (.ref C) cv=some (b c)) :
  JO X (.builtin "isinstance") (λxs H Q=>∃x c vs,xs=[x,v]/\Rep X.K X.mg H (.exn c vs) x/\c∈cl/\Q (.bl (b c)) H):=by
 intro pins s O H xs us Q I r h;obtain⟨x,c,vs,rfl,rd,hc,q⟩:=h;obtain⟨u,w',rfl,rx,ry⟩:=vals2 r;obtain rfl:=rv w' ry;simp only[Rep]at rd;obtain⟨a,C,rfl,hm,ha⟩:=rd;obtain⟨C',T,hm',F,kq⟩:=hk c hc;rw[hm]at hm';cases hm';cases (show u=Value.ref a from rx);have φ:∃o,s.heap.get? a=some o/\o.cls=.ref C:=by
  rcases ha with⟨_,ha⟩|⟨d,ha,_⟩
  ·exact(show yd X.prog X.w H s.heap a (ExO C a)from I.hok a _ ha).1
  ·obtain⟨⟨o,h1,h2,_⟩,_⟩:=(show yd X.prog X.w H s.heap a (ExA C d a)from I.hok a _ ha)
   exact⟨o,h1,h2⟩
 exact kia_one (kit_exc F) I.kIn φ kq (λz=>nomatch z) λtk=>⟨.bl _,H,I.tok tk,rfl,q⟩
def zF5(cl:List Str)(b:Str->Bool)(m:ME):ME:=λE=>match m E with
 | .z=>.z| .exc x E1=>.exc x E1| .ok (.v (.exn c _),E1)=>if cl.contains c=true then .ok (.v (.bl (b c)),E1)else .z|_=>.z
def zCS{cl:List Str}{v:V}{b:Str->Bool}{m:ME}{Q:VK}(h:tM X (zF5 cl b m) O H Q):tM X m O H λx H1=>∃y c vs,[x,v]=[y,v]/\Rep X.K X.mg H1 (.exn c vs) y/\c∈cl/\Q (.bl (b c)) H1:=by
 obtain⟨M,E,hl,fr,k⟩:=h;unfold zF5 at k;refine z0 (T0:=[]) hl fr ?_;cases ea:m E with
 |z=>rw[ea]at k;exact k|exc x E1=>rw[ea]at k;exact k
 |ok pr =>
  obtain⟨r,E1⟩:=pr;rw[ea]at k;cases r with
  |own ds=>exact k.elim
  |v d =>
   cases d with
   |exn c vs =>
    dsimp only at k;intro v H' g;cases hc:cl.contains c with
    |false=>rw[hc]at k;exact k.elim
    |true =>
     rw[hc]at k;exact⟨v,c,vs,rfl,g.rep.mono zK,by simpa using hc,k _ H' (g.flat (d:=.bl (b c)) rfl)⟩
   |_=>exact k.elim
def ok_isC{cl:List Str}{y:Str}{Y T:Addr}{a:Expr}{m:ME}{p p1 pos:Pos}(hcl:∀c∈cl,∃C,X.mg c=some (.ref C)/\XCls X.K c C T)(hy:X.mg y=some (.ref Y))(FY:XCls X.K y Y T)(hYT:Y≠T)(hg:Gl X "isinstance")(hm:X.mg "isinstance"=none)
  (hgY:Gl X y) (ha:EOk X a m) (hv:bootBuiltins "isinstance"=some (.builtin "isinstance")) (hd:(y==("__debug__":Str))=false) (he:zH a=false) :
  EOk X (.Call (.Name "isinstance" p) [a,.Name y p1] [] pos) (zF5 cl (·==y) m) :=
 zq (Yn (Q5 (cl:=cl) (v:=.ref Y) (cv:=.ref Y) (b:=(·==y)) (λu h=>h) λc hc=>by
  obtain⟨C,h1,h2⟩:=hcl c hc;exact⟨C,T,h1,h2,kit_own h2 FY hYT λe=>by subst e;rw[h1]at hy;cases hy;rfl⟩) hg hm hv (jC ha (jC (G0 (v:=.ref Y) hgY hy rfl hd) YA (zL rfl)) (zL he)) (by decide) (by decide) (zL he) (jF rfl)) λO H Q h=>zCS h
def ok_isV{cl:List Str}{T:Addr}{a:Expr}{m:ME}{p p1 pos:Pos}(hcl:∀c∈cl,∃C,X.mg c=some (.ref C)/\XCls X.K c C T)(hg:Gl X "isinstance")(hm:X.mg "isinstance"=none)
  (hgV:Gl X "ValueError") (hmV:X.mg "ValueError"=none) (hvV:bootBuiltins "ValueError"=some (.type "ValueError")) (ha:EOk X a m) (hv:bootBuiltins "isinstance"=some (.builtin "isinstance")) (he:zH a=false) :
  EOk X (.Call (.Name "isinstance" p) [a,.Name "ValueError" p1] [] pos) (zF5 cl (λ_=>true) m) :=
 zq (Yn (Q5 (cl:=cl) (v:=.ty "ValueError") (cv:=.type "ValueError") (b:=λ_=>true) (λu h=>h) λc hc=>by
  obtain⟨C,h1,h2⟩:=hcl c hc;exact⟨C,T,h1,h2,kit_val h2⟩) hg hm hv (jC ha (jC (zBO (v:=.ty "ValueError") hgV hmV hvV rfl (by decide) (by decide)) YA (zL rfl)) (zL he)) (by decide) (by decide) (zL he) (jF rfl)) λO H Q h=>zCS h
end
section
variable{X:Cx}{O:L2.St}{H:Hp}
def GJ(k:Bool):Value->Bool
 | .bool b=>b==k|_=>false
def zF6(k:Int):Value->Bool
 | .int b _=>b==k|_=>false
theorem ZC:∀{bs:List Bool} {us:List Value},yc (bs.map V.bl) us->us=bs.map Value.bool
 | [],_,.nil=>rfl
 |b::bs,_,.cons r t=>by
  cases (show _=Value.bool b from r);rw[ZC t];rfl
theorem Yw:∀{ns:List Int} {us:List Value},yc (ns.map V.int) us->∀u∈us,∃i t,u=.int i t
 | [],_,.nil,_,h=>by cases h
 |n::ns,_,.cons r t,u,h=>by
  rcases mem_cons.mp h with rfl|h
  ·obtain⟨tk,e⟩:=r;exact⟨n,tk,e⟩
  ·exact Yw t u h
theorem JS(k:Int):∀{ns:List Int} {us:List Value},yc (ns.map V.int) us->us.countP (zF6 k)=ns.count k
 | [],_,.nil=>rfl
 |n::ns,_,.cons r t=>by
  obtain⟨tk,e⟩:=r;subst e;rw[List.countP_cons,List.count_cons,JS k t];rfl
def zEm:MtM X "list.count" (λx vs H Q=>∃l,x=.ref l/\((∃(bs:List Bool) (k:Bool),vs=[.bl k]/\SqL X.K H l (bs.map V.bl)/\Q (.int (bs.count k:Nat)) H)\/(∃(ns:List Int) (k:Int),vs=[.int k]/\SqL X.K H l (ns.map V.int)/\Q (.int (ns.count k:Nat)) H))):=by
 intro pins s O H x vs v us Q I rx rv h;obtain⟨l,rfl,h⟩:=h;cases rx;rcases h with⟨bs,k,rfl,hs,q⟩|⟨ns,k,rfl,hs,q⟩
 ·obtain⟨u,rfl,ru⟩:=rv.one
  cases (show u=Value.bool k from ru);obtain⟨its,r,p,_⟩:=I.list hs;obtain⟨⟨c0,dd,dt,sl⟩,n,e,ec,ed,es⟩:=p;dsimp only at ec ed es;subst ec ed es;have hb:=ZC r;subst hb;refine call_meets PySem.F.slot_list_count ⟨_,e,rfl⟩ PySem.F.entry_list_count (PySem.F.args_list_count_2 _ _) (SeqAt.list_countAt l _ n none sl (.bool k) (GJ k)) ⟨e,λy hy=>?_,?_⟩
  ·have hy':y∈bs.map Value.bool:=by simpa using hy
   obtain⟨b,_,rfl⟩:=mem_map.mp hy';exact SeqAt.EqAt.bool_bool b k
  ·have:(bs.map Value.bool).countP (GJ k)=bs.count k:=by rw[List.countP_map,List.count];rfl
   rw[show(bs.map Value.bool).toArray.toList=bs.map Value.bool from rfl,this];exact⟨.int _,H,I.tok _,⟨_,rfl⟩,q⟩
 ·obtain⟨u,rfl,ru⟩:=rv.one
  obtain⟨tk,eu⟩:=(show ∃t,u=Value.int k t from ru);subst eu;obtain⟨its,r,p,_⟩:=I.list hs;obtain⟨⟨c0,dd,dt,sl⟩,n,e,ec,ed,es⟩:=p;dsimp only at ec ed es;subst ec ed es;refine call_meets PySem.F.slot_list_count ⟨_,e,rfl⟩ PySem.F.entry_list_count (PySem.F.args_list_count_2 _ _) (SeqAt.list_countAt l _ n none sl (.int k tk) (zF6 k)) ⟨e,λy hy=>?_,?_⟩
  ·obtain⟨i,t,rfl⟩:=Yw r y (by simpa using hy)
   exact SeqAt.EqAt.int_int i t k tk
  ·rw[show its.toArray.toList=its from rfl,JS k r]
   exact⟨.int _,H,I.tok _,⟨_,rfl⟩,q⟩
def zEn:MtM X "list.index" (λx vs H Q=>∃l,x=.ref l/\∃(bs:List Bool) (k:Bool) (j:Nat),vs=[.bl k]/\SqL X.K H l (bs.map V.bl)/\bs.findIdx? (·==k)=some j/\j<1000000/\Q (.int (j:Nat)) H):=by
 intro pins s O H x vs v us Q I rx rv h;obtain⟨l,rfl,bs,k,j,rfl,hs,hj,hj2,q⟩:=h;cases rx;obtain⟨u,rfl,ru⟩:=rv.one;cases (show u=Value.bool k from ru);obtain⟨its,r,p,_⟩:=I.list hs;obtain⟨⟨c0,dd,dt,sl⟩,n,e,ec,ed,es⟩:=p;dsimp only at ec ed es;subst ec ed es;have hb:=ZC r;subst hb;obtain⟨h1,h2,h3⟩:=List.findIdx?_eq_some_iff_getElem.mp hj;refine call_meets PySem.F.slot_list_index ⟨_,e,rfl⟩ PySem.F.entry_list_index (PySem.F.args_list_index_2 _ _) (SeqAt.list_indexAt l _ n none sl (.bool k) (GJ k) j (by simpa using h1) (by omega) ?_ ?_) ⟨e,λy hy=>?_,⟨.int _,H,I.tok _,⟨_,rfl⟩,q⟩⟩
 ·simpa[GJ]using h2
 ·intro m hm hlt
  have:=h3 m hlt;simpa[GJ]using this
 ·have hy':y∈bs.map Value.bool:=by simpa using hy
  obtain⟨b,_,rfl⟩:=mem_map.mp hy';exact SeqAt.EqAt.bool_bool b k
def eMet(f:D->D->Option R)(a b:ME):ME:=λE=>match a E with
 | .z=>.z| .exc x E1=>.exc x E1
 | .ok (r1,E1)=>match r1.d with
  | .l _=>(match b E1 with
   | .z=>.z| .exc x E2=>.exc x E2
   | .ok (r2,E2)=>match f r1.d r2.d with
    |some r=>.ok (r,E2)|none=>.z)
  |_=>.z
def cntD:D->D->Option R
 | .l ds,.bl k=>(jG ds).map λbs=>.v (.int (bs.count k:Nat))| .l ds,.int k=>(w6 ds).map λns=>.v (.int (ns.count k:Nat))|_,_=>none
def idxD:D->D->Option R
 | .l ds,.bl k=>(jG ds).bind λbs=>match bs.findIdx? (·==k)with
  |some j=>if j<1000000 then some (.v (.int (j:Nat)))else none|none=>none
 |_,_=>none
def zCT{f:D->D->Option R}{rel:V->List V->Hp->VK->Prop}{a b:ME}{Q:VK}(hr:ROk X.K X.mg (λx y H Q=>rel x [y] H Q) f)(h:tM X (eMet f a b) O H Q):tBM X.K "list" rel (tM X a) (zAn (tM X b) tNil) O H Q:=by
 obtain⟨M,E,hl,fr,k⟩:=h;unfold eMet at k;refine z0 (T0:=[]) hl fr ?_;cases ea:a E with
 |z=>rw[ea]at k;exact k|exc x E1=>rw[ea]at k;exact k
 |ok p =>
  obtain⟨r1,E1⟩:=p;rw[ea]at k;intro x H1 g1;dsimp only at k;cases ed:r1.d with
  |l ds =>
   rw[ed]at k;have rx:=g1.rep;rw[ed]at rx;obtain⟨l,xs,ex,hs,_⟩:=zT rx;subst ex;refine⟨(show tyV X.K "list" (.ref l) H1 from .inl ⟨rfl,xs,zK.seq hs⟩),?_⟩;refine z0 (T0:=[(some (.ref l),r1.slot)]) g1.len g1.fr ?_;dsimp only at k;cases eb:b E1 with
   |z=>rw[eb]at k;exact k|exc x E2=>rw[eb]at k;exact λH' g=>k H' (g1.trans' g).dropAll
   |ok p =>
    obtain⟨r2,E2⟩:=p;rw[eb]at k;intro y H2 g2;have g:=g1.trans' g2;have rp:=Got.reps (vs:=[y,.ref l]) (rs:=[r2,r1]) rfl g;simp only[List.map,Reps]at rp;obtain⟨y',_,e1,ry,x',_,e2,rx,_⟩:=rp;cases e1;cases e2;dsimp only at k;cases ef:f (.l ds) r2.d with
    |none=>rw[ef]at k;exact k.elim
    |some r =>
     rw[ef]at k;rw[ed]at rx;exact hr M H2 _ (.ref l) y (.l ds) r2.d r Q g.frame rx ry ef λv H' f' s'=>k v H' (g.more (T:=[(some v,r.slot)]) f' s')
  |_=>rw[ed]at k;exact k.elim
def ro_cnt{K:qH}{mg:Str->Option Value}:ROk K mg (λx y H Q=>∃l,x=.ref l/\((∃(bs:List Bool) (k:Bool),[y]=[.bl k]/\SqL K H l (bs.map V.bl)/\Q (.int (bs.count k:Nat)) H)\/(∃(ns:List Int) (k:Int),[y]=[.int k]/\SqL K H l (ns.map V.int)/\Q (.int (ns.count k:Nat)) H))) cntD:=by
 intro M H Z x y d1 d2 res Q f r1 r2 e k;cases d1 with
 |l ds =>
  obtain⟨l,xs,rfl,hs,rs⟩:=zT r1;refine⟨l,rfl,?_⟩;cases d2 with
  |bl b =>
   simp only[cntD]at e;cases eb:jG ds with
   |none=>rw[eb]at e;cases e
   |some bs =>
    rw[eb]at e;cases e;rw[Jp eb rs]at hs;exact .inl ⟨bs,b,by rw[yz r2],zK.seq hs,k.flat f rfl⟩
  |int i =>
   simp only[cntD]at e;cases eb:w6 ds with
   |none=>rw[eb]at e;cases e
   |some ns =>
    rw[eb]at e;cases e;rw[jy eb rs]at hs;exact .inr ⟨ns,i,by rw[zM r2],zK.seq hs,k.flat f rfl⟩
  |_=>cases e
 |_=>cases e
def ro_idx{K:qH}{mg:Str->Option Value}:ROk K mg (λx y H Q=>∃l,x=.ref l/\∃(bs:List Bool) (k:Bool) (j:Nat),[y]=[.bl k]/\SqL K H l (bs.map V.bl)/\bs.findIdx? (·==k)=some j/\j<1000000/\Q (.int (j:Nat)) H) idxD:=by
 intro M H Z x y d1 d2 res Q f r1 r2 e k;cases d1 with
 |l ds =>
  obtain⟨l,xs,rfl,hs,rs⟩:=zT r1;refine⟨l,rfl,?_⟩;cases d2 with
  |bl b =>
   simp only[idxD]at e;cases eb:jG ds with
   |none=>rw[eb]at e;cases e
   |some bs =>
    rw[eb,Option.bind_some]at e;cases ej:bs.findIdx? (·==b)with
    |none=>rw[ej]at e;cases e
    |some j =>
     rw[ej]at e;dsimp only at e;split at e
     ·rename_i hj
      cases e;rw[Jp eb rs]at hs;exact⟨bs,b,j,by rw[yz r2],zK.seq hs,ej,hj,k.flat f rfl⟩
     ·cases e
  |_=>cases e
 |_=>cases e
def ok_cnt{o e:Expr}{a b:ME}{apos cpos:Pos}(ho:EOk X o a)(he:EOk X e b)(hbase:attributeBase o "count" X.env (eval o X.env)=eval o X.env)(hs:zH e=false)(hline:(apos.endLine==cpos.line)=true)
  (hfew:((backTo cpos (starEach (e::[]) X.env)).all (λx=>!x.1)&&(backToKw cpos (keywordEach [] X.env)).all (λx=>x.1.isSome)&&decide ((e::([]:List Expr)).length+([]:List Keyword).length+(if([]:List Keyword).isEmpty then 0 else 1)<30))=true) :
  EOk X (.Call (.Attribute o "count" apos) [e] [] cpos) (eMet cntD a b) :=
 zq (pe_bm PySem.F.plainAttrs_list PySem.F.slot_list_count PySem.F.type_list_count zEm ho (jC he YA (zL hs)) hbase hfew hline (zL hs) rfl) λO H Q h=>zCT ro_cnt h
def ok_idx{o e:Expr}{a b:ME}{apos cpos:Pos}(ho:EOk X o a)(he:EOk X e b)(hbase:attributeBase o "index" X.env (eval o X.env)=eval o X.env)(hs:zH e=false)(hline:(apos.endLine==cpos.line)=true)
  (hfew:((backTo cpos (starEach (e::[]) X.env)).all (λx=>!x.1)&&(backToKw cpos (keywordEach [] X.env)).all (λx=>x.1.isSome)&&decide ((e::([]:List Expr)).length+([]:List Keyword).length+(if([]:List Keyword).isEmpty then 0 else 1)<30))=true) :
  EOk X (.Call (.Attribute o "index" apos) [e] [] cpos) (eMet idxD a b) :=
 zq (pe_bm PySem.F.plainAttrs_list PySem.F.slot_list_index PySem.F.type_list_index zEn ho (jC he YA (zL hs)) hbase hfew hline (zL hs) rfl) λO H Q h=>zCT ro_idx h
end
end DV
namespace DV
open PySem L2 PyProof.Rows
def ns_is{K:qH}{h:Heap}{N:Addr}{mg:Str->Option Value}{n:Str}{v:Value}(X:K.In h)(G:h.Ns N mg)(e:nsIn K N n=some (some v)):mg n=some v:=by
 obtain⟨o,es,ep,ho,hd,_,hf⟩:=G;unfold nsIn at e;split at e
 ·rename_i q
  have z:=X _ _ q;rw[ho]at z;cases z;cases hd;split at e
  ·rename_i he
   cases e;rw[<- hf];unfold nsFind findBy;rw[<- Array.find?_toList,he];rfl
  ·split at e<;>cases e
 ·cases e
def zF7{K:qH}{C f:Addr}{h:Heap}(X:K.In h)(q:Gy K C f=true) :
  ∃bm N nm q bs hdct sn sub ab col dd k0 k1 k2 k3 k5 mN,h.get? C=some (excClassObj nm q C N bs bm hdct sn sub ab col dd k0 k1 k2 k3 k5 "ValueError.__new__")/\h.Ns N mN/\mN "__init__"=some (.ref f)/\OwnTail h VB bm:=by
 unfold Gy at q;split at q
 ·rename_i dd cd sl ho
  split at q
  ·rename_i C' bm a0 a1 a2 a3 id a5 hm hs
   simp only[Bool.and_eq_true,beq_iff_eq,Bool.not_eq_true']at q;obtain⟨⟨⟨q1,q2⟩,q3,q4⟩,q5,q6⟩:=q;subst q1 q2;obtain⟨l⟩:=sl;have hs':l=[a0,a1,a2,a3,some (.builtin "ValueError.__new__"),a5]:=hs;subst hs';obtain⟨nm,bs,mro,ns,qn,hd,sn,sub,ab,col,del⟩:=cd;cases hm;cases q3;exact⟨bm,ns,nm,qn,bs,hd,sn,sub,ab,col,dd,a0,a1,a2,a3,a5,_,X _ _ ho,.of_isNs (isNs_of_in X q5),ns_is X (.of_isNs (isNs_of_in X q5)) q6,tail_of_in X q4⟩
  ·cases q
 ·cases q
def XO(C a:Addr)(od:Option Addr):HO:=.ext λh=>∃o t,h.get? a=some o/\o.cls=.ref C/\o.dict=od/\o.data=.fields #[.ref t,.none,.none,.none,.bool false,.none]
def vz{P:Program}{w:World}{H:Hp}{h:Heap}{C a t:Addr}{o:Obj}{od:Option Addr}(e:h.get? a=some o)(c:o.cls=.ref C)(k:o.dict=od)(dt:o.data=.fields #[.ref t,.none,.none,.none,.bool false,.none]):yd P w H h a (XO C a od) :=
 ⟨⟨o,t,e,c,k,dt⟩,⟨o,e⟩,λh1 h2 ⟨o1,t1,e1,r⟩ k=>⟨o1,t1,k o1 e1,r⟩⟩
def spI(c:Str)(C:Addr):Sp:=λvs H Q _=>∃(a:Addr) (ns:List Int),vs=.ref a::ns.map V.int/\ns.length=(jS c).length/\(∀n∈ns,n.natAbs.log2<1920)/\H a=some (XO C a none)/\∀d,H d=none->Q .non (upd (upd H d (XD d (fsV c ns))) a (XO C a (some d)))
section
variable{X:Cx}{pins:List (Addr×Obj)}{O:L2.St}{H:Hp}{s:Shared}
def raise_x{M:Model}{A:Around}{E:Value->Shared->Prop}{s:Shared}{x:Sem Value}{Q:Flow->Shared->Prop}{env:Env}{C:Addr}{nm q:Str}{N:Addr}{bs bm:List Value}{hdct:Bool}{sn:List Str}{sub:List Value}{ab:Bool}{col:Option Bool}{dd:Option Addr}{k0 k1 k2 k3 k5:Option Value}{newId:String}(hbase:bm.contains (.type "BaseException")=true)(hh:A.handled=none)
  (h:wpAny M A x (λv s₁=>∃e t od sl,v=.ref e/\s₁.heap.get? C=some (excClassObj nm q C N bs bm hdct sn sub ab col dd k0 k1 k2 k3 k5 newId) /\
   s₁.heap.get? e=some ⟨.ref C,od,.fields #[.ref t,.none,.none,.none,.bool false,.none],sl⟩/\E (.ref e) s₁) E s) :
  wpAny M A (raiseStmt env (some x) none) Q E s:=by
 have hcB:(Value.ref C::bm).contains (.type "BaseException")=true:=by rw[List.contains_cons,hbase,Bool.or_true]
 unfold raiseStmt;refine qB (wpAny_mono h (λv s₁ h₁=>?_) λ_ _ x=>x);obtain⟨e,t,od,sl,rfl,hC,he,hE⟩:=h₁;obtain⟨hp,g,d,tk,os⟩:=s₁
 repeat (first|with_reducible refine wpAny_loadPart_at he ?_|with_reducible refine wpAny_loadPart_at hC ?_|(with_reducible refine wpAny_isSubtype_exc hC ?_;rw[hcB])|wp_step)
 exact wpAny_raiseNew_none hh hE
def hide_x{s3:Shared}{H3:Hp}{a d:Addr}{C:Addr}{fs:List (Str×V)}{us:List Value}(I:Inv X pins O H s)(ha:a=s.heap.objs.size+1)(os:s3.os=s.os)(bare:AllBare s3.gens)
  (un:Un (frs X.stack) [] (upd H a (XO C a none)) H3 (zBu s.heap C us) s3.heap) (hok:HOk X.prog X.w H3 s3.heap) (hd:H d=none) (e3:H3=upd (upd (upd H a (XO C a none)) d (XD d fs)) a (XO C a (some d))) (hda:d≠a) :
  Inv X pins O (upd H d (XD d fs)) {s3 with heap:=hideAll s3.heap [a]}/\MadeD (hideAll s3.heap [a]) s3.heap a (.ref C) (some d):=by
 have kp:∀b o,s.heap.get? b=some o->(zBu s.heap C us).get? b=some o:=λb o e=>qA _ (qA _ e)
 have nea:∀b o,s.heap.get? b=some o->b≠a:=λb o e z=>by have:=lt_size e;rw[z,ha]at this;exact absurd this (not_lt.mpr (le_succ _))
 have hHa:H a=none:=I.hok.fresh (by rw[ha];exact le_succ _);have h3d:H3 d=some (XD d fs):=by rw[e3,zG hda,zY]
 have h3a:H3 a=some (XO C a (some d)):=by rw[e3,zY]
 have h3:∀b,b≠a->b≠d->H3 b=H b:=λb n1 n2=>by rw[e3,zG n1,zG n2,zG n1]
 have ned:∀b o,s.heap.get? b=some o->H b=none->b≠d:=λb o e n z=>by
  subst z;have:=un.free b o (kp b o e) (by rw[zG hda];exact n) (by simp);rw[h3d]at this;cases this
 have hid:∀{b o},s3.heap.get? b=some o->b≠a->(hideAll s3.heap [a]).get? b=some o:=λe n=>hideAll_get _ e (by simpa using n)
 have ned2:∀{b:Addr} {o:HO},H b=some o->b≠d:=λe z=>by subst z;rw[hd]at e;cases e
 have nea2:∀{b:Addr} {o:HO},H b=some o->b≠a:=λe z=>by subst z;rw[hHa]at e;cases e
 have u1:Un (frs X.stack) [] H (upd H d (XD d fs)) s.heap (hideAll s3.heap [a]):=by
  refine⟨λb o e n hb hx=>?_,λb o e n hb hx=>?_,λb o e n hx=>?_,λb o e hx=>?_,λb xs e=>?_,λb o u e=>?_,λb ps e=>?_⟩
  ·exact hid (un.keep b o (kp b o e) (by rw[zG (nea b o e)];exact n) hb hx) (nea b o e)
  ·obtain⟨sl,q⟩:=un.slot b o (kp b o e) (by rw[zG (nea b o e)];exact n) hb hx
   exact⟨sl,hid q (nea b o e)⟩
  ·rw[zG (ned b o e n)];exact n
  ·obtain⟨o',q⟩:=un.there b o (kp b o e) hx
   exact⟨o',hid q (nea b o e)⟩
  ·rw[zG (ned2 e)];exact e
  ·rw[zG (ned2 e)];exact e
  ·exact⟨#[],by rw[zG (ned2 e)];simpa using e⟩
 have h1:HOk X.prog X.w (upd H d (XD d fs)) (hideAll s3.heap [a]):=λb o e=>by
  by_cases hb:b=d
  ·subst hb
   rw[zY]at e;cases e;obtain⟨φ,⟨o',q⟩,mono⟩:=(show yd X.prog X.w H3 s3.heap b (XD b fs)from hok b _ h3d);exact⟨mono _ _ φ λo q=>hid q hda,⟨o',hid q hda⟩,mono⟩
  ·rw[zG hb]at e
   have e':H3 b=some o:=by rw[h3 b (nea2 e) hb];exact e
   have back:∀{c:Addr} {u:HO},H3 c=some u->c≠a->c≠d->upd H d (XD d fs) c=some u:=λ{c u} q n1 n2=>by rw[zG n2,<- h3 c n1 n2];exact q
   refine(hok b o e').stay (λc u hc q=>hid q ?_) (λc q=>back q ?_ ?_) λc xs q=>back q ?_ ?_
   ·rcases hc with rfl|hc
    ·exact nea2 e
    ·intro z;subst z;rw[h3a]at hc;unfold XO at hc;cases hc
   ·intro z;subst z;rw[h3a]at q;unfold XO at q;cases q
   ·intro z;subst z;rw[h3d]at q;unfold XD at q;cases q
   ·intro z;subst z;rw[h3a]at q;unfold XO at q;cases q
   ·intro z;subst z;rw[h3d]at q;unfold XD at q;cases q
 refine⟨I.call' (ch:=[]) os u1 h1 bare (λb z=>absurd z (by simp)),λb o e=>of_hideAll _ e,PySem.W.hideAll_none _ (by simp),?_⟩;obtain⟨⟨o,t,q1,q2,q3,q4⟩,_⟩:=(show yd X.prog X.w H3 s3.heap a (XO C a (some d))from hok a _ h3a);exact⟨o,_,t,q1,q2,λd' z=>by cases z;exact q3,q4,rfl,rfl⟩
end
def RIok(P:Program)(w:World)(K:qH)(mg:Str->Option Value)(base:Heap)(c:Str):Prop:=∃C f fd,mg c=some (.ref C)/\keepIn K (.ref C)=true/\Gy K C f=true/\typeIn K (.ref f)=some (.type "function") /\
 JP K fd ("self"::jS c) []/\FnOkN true P w K mg base 2 f fd ("self"::jS c) (spI c C)
def sRaiseA(c:Str)(m:MA):MS:=λE=>match m E with
 | .z=>.z| .exc x E1=>.exc x E1
 | .ok (rs,E1)=>match w6 (rs.map R.d)with
  |some ns=>if(ns.length==(jS c).length&&ns.all λn=>decide (n.natAbs.log2<1920))=true then .exc ⟨c,true,ns⟩ E1 else .z|none=>.z
section
variable{X:Cx}{O:L2.St}{H:Hp}
def zCU(X:Cx)(c:Str)(ta:TA):TS:=λ_ O H=>ta O H λvs H1=>∃ns:List Int,vs=ns.map V.int/\ns.length=(jS c).length/\(∀n∈ns,n.natAbs.log2<1920)/\∀d,H1 d=none->XE X O (upd H1 d (XD d (fsV c ns))) ⟨c,true,ns⟩
def zA1{c:Str}{m:MA}{D:Ends}(h:tS X (sRaiseA c m) D O H):zCU X c (tMA X m) D O H:=by
 obtain⟨M,E,hl,fr,k⟩:=h;unfold sRaiseA at k;refine wt (T0:=[]) hl fr ?_;cases ea:m E with
 |z=>rw[ea]at k;exact k|exc x E1=>rw[ea]at k;exact λH' g=>k O H' g
 |ok p =>
  obtain⟨rs,E1⟩:=p;rw[ea]at k;intro vs H1 hv g;have rp:=Got.reps hv g;dsimp only at k;cases ef:w6 (rs.map R.d)with
  |none=>rw[ef]at k;exact k.elim
  |some ns =>
   rw[ef]at k;dsimp only at k;split at k
   ·rename_i hc
    simp only[Bool.and_eq_true,beq_iff_eq,all_eq_true,decide_eq_true_eq]at hc;refine⟨ns,jy ef rp,hc.1,hc.2,λd hd=>k O _ ?_⟩;have g0:=g.dropAll;exact g0.more (T:=[]) (g0.frame.grow hd) (Step.grow hd)
   ·exact k.elim
def zCV(c:Str):(jS c).length<=2:=by
 unfold jS;split
 ·exact le_refl 2
 ·split
  ·exact le_succ 1
  ·exact zero_le 2
def Q6{vs:List V}{us:List Value}(r:yc vs us):us.length=vs.length:=r.length.symm
def zCW{c:Str}{e:Expr}{es:List Expr}{ta:TA}{np cpos pos:Pos}(hc:X.calm=true)(hr:RoomN 3 X.A)(hg:Gl X c)(R:RIok X.prog X.w X.K X.mg X.base c)(hd:(c==("__debug__":Str))=false)(ha:PA X (e::es) ta)(he:zH e=false)(hpl:yG es=true) :
  PS X (.Raise (some (.Call (.Name c np) (e::es) [] cpos)) none pos) (zCU X c ta):=by
 intro pins s O H D I h;obtain⟨C,f,fd,hm,hk,hx,hft,hb,F⟩:=R;have hh:=I.ok.hd hc;obtain⟨bm,N,nm,qn,bs,hdct,sn,sub,ab,col,dd,k0,k1,k2,k3,k5,mN,hC,hN,hi,T⟩:=zF7 I.ok.mod.kin hx;have hfl:∃of,X.K.lookup f=some of/\of.cls=.type "function":=by
  unfold typeIn at hft;cases q:X.K.lookup f with
  |none=>simp[q]at hft|some o=>exact⟨o,rfl,by simpa[q]using hft⟩
 obtain⟨of,hf1,hf2⟩:=hfl;rw[arm_exec_Raise];refine qB (wpAny_standAt (raise_x (C:=C) (nm:=nm) (q:=qn) (N:=N) (bs:=bs) (bm:=bm) (hdct:=hdct) (sn:=sn) (sub:=sub) (ab:=ab) (col:=col) (dd:=dd) (k0:=k0) (k1:=k1) (k2:=k2) (k3:=k3) (k5:=k5) (newId:="ValueError.__new__") (T.hasType (by decide +kernel)) hh ?_));refine qB (wpAny_mono (Q:=λv s₁=>∃e t od sl,v=.ref e/\s₁.heap.get? C=some (excClassObj nm qn C N bs bm hdct sn sub ab col dd k0 k1 k2 k3 k5 "ValueError.__new__") /\
   s₁.heap.get? e=some ⟨.ref C,od,.fields #[.ref t,.none,.none,.none,.bool false,.none],sl⟩/\X.xe (.ref e) s₁) ?_ (λv s3 h3=>qB (wpAny_standAt (qC h3))) λ_ _ z=>z)
 refine wpAny_Call_Name_kw (Y5 I hg hm ?_ hd);refine callWith_K (h₀:=X.base) I.ok.mod.kin hk (thn (ha cpos pins s O H _ I h) λus s1 ⟨vs,H1,I1,r,ns,ev,hln,hsm,q⟩=>⟨I1.kIn,?_⟩) (zL he) (jF hpl);subst ev;have hul:us.length<=sizeLine:=by
  rw[Q6 r,length_map,hln];exact le_trans (zCV c) (by decide +kernel)
 obtain⟨hp,g,dr,tk,os⟩:=s1;have kp:∀b o,hp.get? b=some o->(zBu hp C us).get? b=some o:=λb o e=>qA _ (qA _ e)
 have hget:(zBu hp C us).get? (hp.objs.size+1)=some {cls:=.ref C,data:=.fields #[.ref hp.objs.size,.none,.none,.none,.bool false,.none]}:=by heap_get
 have I2:Inv X pins O (upd H1 (hp.objs.size+1) (XO C (hp.objs.size+1) none)) ⟨zBu hp C us,g,dr,tk,os⟩ :=
  I1.laid (t':=tk) kp (le_succ _) (vz (P:=X.prog) (w:=X.w) hget rfl rfl rfl)
 have bk:=λ(b:Addr) (o:Obj) (z:X.base.get? b=some o)=>I1.bk b o z
 refine make_x (A:=X.A) (T.keeps bk) (bk _ _ hC) (hN.keeps bk) hi (I1.kIn _ _ hf1) hf2 hul ?_;have r2:yc (V.ref (hp.objs.size+1)::ns.map V.int) (Value.ref (hp.objs.size+1)::us):=.cons rfl r;have hl2:(Value.ref (hp.objs.size+1)::us++[]).length=(("self":Str)::jS c).length:=by
  rw[append_nil,length_cons,length_cons,Q6 r,length_map,hln]
 have hbd:=hb ⟨zBu hp C us,g,dr,tk,os⟩ (Value.ref (hp.objs.size+1)::us) I2.kIn hl2;rw[append_nil]at hbd;have hR2:Room 2 (X.A.under (.builtin "type.__call__" ⟨.ref C::us,[]⟩)):=(hr.room hh).make C us [];refine codeAny_mono (F.run _ X.stack _ _ ⟨Value.ref (hp.objs.size+1)::us,[]⟩ (Value.ref (hp.objs.size+1)::us) _ (λv H3=>v=.non/\∃d,upd H1 (hp.objs.size+1) (XO C (hp.objs.size+1) none) d=none/\H3=upd (upd (upd H1 (hp.objs.size+1) (XO C (hp.objs.size+1) none)) d (XD d (fsV c ns))) (hp.objs.size+1) (XO C (hp.objs.size+1) (some d))) (λ_ _ _=>False) (λ_=>hR2.hd) (Qo hR2) (I2.env0.make C us []) hbd r2 ⟨_,ns,rfl,hln,hsm,zY,λd hd=>⟨rfl,d,hd,rfl⟩⟩) λres s3 hq=>?_
 cases res with
 |error e=>obtain⟨_,_,_,_,_,_,_,_,_,_,_,_,z⟩:=hq;exact z.elim
 |ok fl =>
  cases fl with
  |ret u =>
   obtain⟨v,H3,os3,bare3,un3,hok3,rv,rfl,d,hd,e3⟩:=hq;have hda:d≠hp.objs.size+1:=λz=>by rw[z,zY]at hd;cases hd
   rw[zG hda]at hd;obtain⟨J,md⟩:=hide_x (a:=hp.objs.size+1) I1 rfl os3 bare3 un3 hok3 hd e3 hda;have kpm:∀b o,(hideAll s3.heap [hp.objs.size+1]).get? b=some o->s3.heap.get? b=some o:=λb o z=>of_hideAll _ z
   have J3:Inv X pins O (upd H1 d (XD d (fsV c ns))) s3:=J.kept (h':=s3.heap) (t':=s3.toks) kpm;obtain⟨⟨o,t,q1,q2,q3,q4⟩,_⟩:=(show yd X.prog X.w H3 s3.heap (hp.objs.size+1) (XO C (hp.objs.size+1) (some d))from hok3 _ _ (by rw[e3,zY]));obtain⟨oc,od,odt,osl⟩:=o;cases q2;cases q4;refine⟨rv,_,t,od,osl,rfl,J3.bk _ _ hC,q1,q d hd pins s3 _ J3 ⟨_,C,some d,rfl,hm,?_,.inr ⟨d,rfl,zY⟩,.inl ⟨rfl,_,J,rfl,md⟩⟩⟩;rw[zG (Ne.symm hda)];exact I1.hok.fresh (le_succ _)
  |next=>exact False.elim hq|brk=>exact False.elim hq|cont=>exact False.elim hq
def zCX{c:Str}{e:Expr}{es:List Expr}{m:MA}{np cpos pos:Pos}(hc:X.calm=true)(hr:RoomN 3 X.A)(hg:Gl X c)(R:RIok X.prog X.w X.K X.mg X.base c)(hd:(c==("__debug__":Str))=false)(ha:AOk X (e::es) m)(he:zH e=false)(hpl:yG es=true) :
  SOk X (.Raise (some (.Call (.Name c np) (e::es) [] cpos)) none pos) (sRaiseA c m):=yy (zCW hc hr hg R hd ha he hpl) λD O H=>zA1
end
end DV
namespace DV
open PySem L2 PyProof.Rows
open PySem.W (Looks)
section
variable{prog:Program}{w:World}{A:Around}{E:Value->Shared->Prop}{h:Heap}{g:Array GenState}{d:Drawn}{tk:Nat}{os:OsState}
variable{nm q:Str}{C N a t:Addr}{bs bm:List Value}{hdct:Bool}{sn:List Str}{sub:List Value}{ab:Bool}{col:Option Bool}{dd:Option Addr}{k0 k1 k2 k3 k5:Option Value}{oe:Obj}{v:Value}
def bx_init{Q:Value->Shared->Prop}(T:OwnTail h VB bm)(hC:h.get? C=some (excClassObj nm q C N bs bm hdct sn sub ab col dd k0 k1 k2 k3 k5 "ValueError.__new__"))(he:h.get? a=some oe)(hcls:oe.cls=.ref C)(hdt:oe.data=.fields #[.ref t,.none,.none,.none,.bool false,.none])
  (hq:∀h' t',(∀b o,b≠a->h.get? b=some o->h'.get? b=some o)->h'.get? a=some {oe with data:=.fields #[.ref t',.none,.none,.none,.bool false,.none]}->Q .none ⟨h',g,d,tk,os⟩) :
  wpAny (model prog w) A (call (.builtin "ValueError.__init__") [.ref a,v]) Q E ⟨h,g,d,tk,os⟩:=by
 have F:=PySem.F.excBase_ValueError;refine wpAny_call (codeAny_call_builtin F.init.plain F.initEntry (wpAny_check_init_subT F T hC he hcls ?_));have he1:(h.push {cls:=.type "tuple",data:=.seq [v].toArray}).get? a=some oe:=qA _ he;unfold Builtin.«BaseException.__init__»;refine qB (m:=newTuple [v]) (wpAny_newTuple ?_);refine qB ?_;unfold Builtin.BaseException.bexcPut;refine qB (wpAny_field he1 hdt (x:=.ref t) rfl ?_);refine qB (wpAny_setField he1 hdt (show 0<6 by decide) ?_);have hf:(Obj.mapFields (·.setIfInBounds 0 (.ref h.objs.size)) oe)={oe with data:=.fields #[.ref h.objs.size,.none,.none,.none,.bool false,.none]}:=by
  obtain⟨c,dd,dt,sl⟩:=oe;cases hdt;rfl
 have fin:Q .none ⟨(h.push {cls:=.type "tuple",data:=.seq [v].toArray}).update a (Obj.mapFields (·.setIfInBounds 0 (.ref h.objs.size))),g,d,tk,os⟩:=by
  refine hq _ h.objs.size (λb o hb e=>(get?_update_other _ _ (Ne.symm hb)).trans (qA _ e)) ?_;rw[<- hf];exact get?_update_self _ he1 (Obj.isFreed_of_fields (Obj.data_mapFields hdt _))
 show wpAny _ _ (letGo [.ref t]) _ _ _
 unfold letGo
 refine qB (wpAny_holding (wpAny_point ?_));exact qC (qC fin)
def meth_x{env:Env}{o:Expr}{name:Str}{apos pos:Pos}{args:List Expr}{s:Shared}{Q:Value->Shared->Prop}(hbase:attributeBase o name env (eval o env)=eval o env)
  (hfew:((backTo pos (starEach args env)).all (λx=>!x.1)&&(backToKw pos (keywordEach [] env)).all (λx=>x.1.isSome)&&decide (args.length+([]:List Keyword).length+(if([]:List Keyword).isEmpty then 0 else 1)<30))=true) (hline:(apos.endLine==pos.line)=true)
  (h:wpAny (model prog w) A (eval o env) (λov s₁=>∀pl,wpAny (model prog w) A (getMethod ov name pl) (λfx s₂=>wpAny (model prog w) A (callWith pos fx.1 fx.2 (backTo pos (starEach args env)) []) Q E s₂) E s₁) E s) :
  wpAny (model prog w) A (eval (.Call (.Attribute o name apos) args [] pos) env) Q E s:=by
 rw[arm_eval_Call,hbase];refine qB (wpAny_mono h (λov s₁ h₁=>?_) λ_ _ e=>e);refine qB (wpAny_standAt ?_);have hform:methodCallForm (args.length+([]:List Keyword).length) (backTo pos (starEach args env)) (backToKw pos (keywordEach [] env))=true:=hfew;have hpos:methodCallPos true o env apos pos=pure pos:=by unfold methodCallPos;simp[hline]
 unfold methodCall;rw[hform];refine qB (wpAny_holding (wpAny_mono (h₁ _) (λfx s₂ h₂=>?_) λ_ _ e=>e));exact qB (wpAny_of_eq hpos h₂)
end
structure TGet(K:qH)(T:Addr):Prop where
 rd:readsIn K T (.type "type")=true
 sp:specialIn K (.ref T) "__getattribute__"=some (some (.builtin "type.__getattribute__"))
 fc:findCls K (.ref T) (.type "type") "__init__"=some (.val (.builtin "ValueError.__init__"))
section
variable{X:Cx}{O:L2.St}{H:Hp}
def Q7(N:List Str):Expr->Bool
 | .FormattedValue (.Name x _) c none _=>c == -1&&N.contains x| .Constant (.str y) _ _=>decide (y.length<=1000)|_=>false
theorem Q8{N:List Str}(hv:∀x∈N,∃i,∀p,PE X (.Name x p) (Z0 i)/\∃n:Int,O[i]?=some (some (.int n))/\n.natAbs.log2<1920):∀(vs:List Expr) (acc:Str) (k:Nat) (pins:List (Addr×Obj)) (s:Shared) (Q:Str->Shared->Prop),vs.all (Q7 N)=true->Inv X pins O H s->acc.length<=2000*k->k+vs.length<=100 ->
  (∀out s',Inv X pins O H s'->out.length<=200000->Q out s')->Joins (model X.prog X.w) X.A X.xe (evalEach vs X.env) acc Q s
 | [],acc,k,pins,s,Q,_,I,hl,hk,hq=>hq acc s I (by simp at hk;omega)
 |v::vs,acc,k,pins,s,Q,hp,I,hl,hk,hq=>by
  simp only[all_cons,Bool.and_eq_true]at hp;obtain⟨h1,h2⟩:=hp;simp only[length_cons]at hk;have sz:(200000:Nat)<=sizeLine:=by decide +kernel
  have go:∀(y:Str) (t:Tok) (s1:Shared),Inv X pins O H s1->y.length<=2000->∃y' t',Value.str y t=.str y' t'/\(acc++y').length<=sizeLine/\Joins (model X.prog X.w) X.A X.xe (evalEach vs X.env) (acc++y') Q s1:=λy t s1 I1 hy=>by
   have e:(acc++y).length=acc.length+y.length:=strLen_append acc y;refine⟨y,t,rfl,by rw[e];omega,Q8 hv vs (acc++y) (k+1) pins s1 Q h2 I1 (by rw[e];omega) (by omega) hq⟩
  show wpAny _ _ (eval v X.env) _ _ s
  unfold Q7 at h1;split at h1
  ·rename_i x p c p'
   simp only[Bool.and_eq_true,beq_iff_eq]at h1;obtain⟨rfl,hx⟩:=h1;obtain⟨i,hi⟩:=hv x (by simpa using hx);obtain⟨pe,n,hn,hz⟩:=hi p;refine wpAny_FormattedValue_plain (thn (pe pins s O H (λz H1=>z=.int n/\H1=H) I ⟨_,hn,rfl,rfl⟩) λu s1 ⟨z,H1,I1,rz,e1,e2⟩=>?_);subst e1 e2;obtain⟨tk,rfl⟩:=rz;refine wpAny_formatField_int hz (go _ _ _ (I1.tok _) ?_);have:=int_text_length_le (k:=1920) (by decide) hz;have e:(Str.ofString (toString n)).length=(toString n).length:=PySem.ofString_length _;rw[e];omega
  ·rename_i y k' p
   exact thn (zFe (X:=X) (x:=y) pins s O H (λz H1=>z=.str y/\H1=H) I ⟨rfl,rfl⟩) λu s1 ⟨z,H1,I1,rz,e1,e2⟩=>by
    subst e1 e2;obtain⟨tk,rfl⟩:=rz;exact go _ _ _ I1 (by have:=of_decide_eq_true h1;omega)
  ·cases h1
end
section
variable{X:Cx}{C T:Addr}
def upd_id{H:Hp}{a:Addr}{o:HO}(h:H a=some o):upd H a o=H:=by
 funext b;unfold upd;split
 ·rename_i e;rw[e,h]
 ·rfl
def Nums(X:Cx)(O:L2.St)(ns:List Str):Prop:=∀x∈ns,∃i,∀p,PE X (.Name x p) (Z0 i)/\∃n:Int,O[i]?=some (some (.int n))/\n.natAbs.log2<1920
def pe_init{f:Addr}{ns:List Str}{v1 v2:Expr}{j9:List Expr}{p1 p2 p3 ap cp:Pos}(hx:Gy X.K C f=true)(hg:Gl X "ThrowError")(hm:X.mg "ThrowError"=some (.ref T))(hT:TGet X.K T)(hself:∀p,PE X (.Name "self" p) (Z0 0))(hp:(v1::v2::j9).all (Q7 ns)=true)(hlen:(v1::v2::j9).length<=50)(hline:(ap.endLine==cp.line)=true) :
  PE X (.Call (.Attribute (.Name "ThrowError" p1) "__init__" ap) [.Name "self" p2,.JoinedStr (v1::v2::j9) p3] [] cp) (λO H Q=>∃a,O[0]?=some (some (.ref a))/\H a=some (XO C a none)/\Nums X O ns/\Q .non H):=by
 intro pins s O H Q I ⟨a,h0,ha,hv,q⟩;obtain⟨bm,N,nm,qn,bs,hdct,sn,sub,ab,col,dd,k0,k1,k2,k3,k5,mN,hC,hN,hi,TT⟩:=zF7 I.ok.mod.kin hx;refine meth_x rfl rfl hline ?_;refine Y5 I hg hm (λpl=>?_) (by decide);refine PySem.W.method_cls I.kIn hT.sp (PySem.W.cls_value I.kIn hT.rd hT.fc rfl ?_);refine Calls.callWith_builtin rfl ?_;have I0:Inv X pins O H {s with toks:=s.toks+1}:=I.tok _
 refine Calls.evalArgs_plain (Calls.spliced_cons (thn (hself p2 pins _ O H (λz H1=>z=.ref a/\H1=H) I0 ⟨_,h0,rfl,rfl⟩) λu s1 ⟨z,H1,I1,rz,e1,e2⟩=>?_));subst e1 e2;obtain rfl:u=Value.ref a:=rz;refine Calls.spliced_cons (wpAny_JoinedStr (pos:=p3) (Q8 hv (v1::v2::j9) Str.empty 0 pins s1 _ hp I1 (zero_le _) (by omega) λout s2 I2 ho=>?_));refine⟨le_trans ho (by decide +kernel),?_⟩;refine Calls.spliced_nil ?_;obtain⟨hp2,g,d,tk,os⟩:=s2;obtain⟨⟨oe,t,he,hcls,hdict,hdt⟩,_⟩:=(show yd X.prog X.w H1 hp2 a (XO C a none)from I2.hok a _ ha);have bk:=λ(b:Addr) (o:Obj) (z:X.base.get? b=some o)=>I2.bk b o z
 refine bx_init (TT.keeps bk) (bk _ _ hC) he hcls hdt λh' t' hk hn=>?_
 have J:=I2.write (t':=tk+1) (x:=a) (e:=a) (o:=XO C a none) (h':=h') (by rw[ha];trivial) (.inl rfl) (λb u hb e=>hk b u hb e) ⟨_,hn⟩ (vz (P:=X.prog) (w:=X.w) hn hcls hdict rfl);rw[upd_id ha]at J;exact⟨.non,H1,J,rfl,q⟩
def xd_one{P:Program}{w:World}{H:Hp}{h:Heap}{d:Addr}{nm:Str}{v:V}{u:Value}(hn:h.Ns1 d (λy=>if y=nm then some u else none))(r:yL v u):yd P w H h d (XD d [(nm,v)]):=by
 obtain⟨o,es,ep,e,rr⟩:=id hn;refine⟨⟨_,hn,λf=>?_⟩,⟨o,e⟩,λh1 h2 ⟨mA,⟨o1,es1,ep1,e1,r1⟩,hf⟩ k=>⟨mA,⟨o1,es1,ep1,k _ e1,r1⟩,hf⟩⟩;by_cases hb:f=nm
 ·subst hb;simp[lookup,RelO,r]
 ·have:(f==nm)=false:=by simpa using hb
  simp[lookup,this,hb,RelO]
def zA2{fs:List (Str×V)}{nm f:Str}{v:V}(h:fs.lookup nm=none):(fs++[(nm,v)]).lookup f=if f=nm then some v else fs.lookup f:=by
 induction fs with
 |nil =>
  by_cases hb:f=nm
  ·simp[lookup,hb]
  ·have:(f==nm)=false:=by simpa using hb
   simp[lookup,hb,this]
 |cons p fs ih =>
  obtain⟨k,x⟩:=p;simp only[lookup]at h;split at h
  ·cases h
  ·rename_i hk
   simp only[cons_append,lookup];by_cases hf:f==k
   ·have hf':f=k:=by simpa using hf
    subst hf';have:f≠nm:=λz=>by subst z;simp at hk
    simp[this]
   ·have hf':(f==k)=false:=by simpa using hf
    simp only[hf'];exact ih h
def xd_more{P:Program}{w:World}{H:Hp}{h:Heap}{d:Addr}{nm:Str}{v:V}{u:Value}{fs:List (Str×V)}{mA:Str->Option Value}(hm:∀f,RelO (fs.lookup f) (mA f))(hl:fs.lookup nm=none)(hn:h.Ns1 d (λy=>if y=nm then some u else mA y))(r:yL v u):yd P w H h d (XD d (fs++[(nm,v)])):=by
 obtain⟨o,es,ep,e,rr⟩:=id hn;refine⟨⟨_,hn,λf=>?_⟩,⟨o,e⟩,λh1 h2 ⟨mA,⟨o1,es1,ep1,e1,r1⟩,hf⟩ k=>⟨mA,⟨o1,es1,ep1,k _ e1,r1⟩,hf⟩⟩;rw[zA2 hl];by_cases hb:f=nm
 ·simp only[hb,if_true];exact r
 ·simp only[hb,if_false];exact hm f
theorem vN:∀{fs:List (Str×V)} {f:Str},fs.lookup f≠none->f∈fs.map (·.1)
 | [],f,h=>absurd rfl h
 | (k,x)::fs,f,h=>by
  by_cases hk:f=k
  ·simp[hk]
  ·have:(f==k)=false:=by simpa using hk
   simp only[lookup,this]at h;exact qD _ (vN h)
def ps_attr{i:Nat}{nm:Str}{q1 q2 q3 q4:Pos}(S:XSet X.K C T)(hna:findIn X.K (.ref C) nm=some none)(hself:∀p,PE X (.Name "self" p) (Z0 0))(hv:∀p,PE X (.Name nm p) (Z0 i)) :
  PS X (.Assign [.Attribute (.Name "self" q1) nm q2] (.Name nm q3) q4) (λD O H=>∃a n,O[0]?=some (some (.ref a))/\O[i]?=some (some (.int n)) /\
   ((H a=some (XO C a none)/\∀d,H d=none->D.nx O (upd (upd H d (XD d [(nm,.int n)])) a (XO C a (some d)))) \/
    ∃d fs,H a=some (XO C a (some d))/\H d=some (XD d fs)/\fs.length<=50/\fs.lookup nm=none/\D.nx O (upd H d (XD d (fs++[(nm,.int n)]))))):=by
 intro pins s O H D I ⟨a,n,h0,h1,h⟩;refine plainObj_wpAny_Assign_Attribute (thn (hv q3 pins s O H (λz H1=>z=.int n/\H1=H) I ⟨_,h1,rfl,rfl⟩) λu s1 ⟨z,H1,I1,rz,e1,e2⟩=>?_) rfl;subst e1 e2;refine thn (hself q1 pins s1 O H1 (λz H2=>z=.ref a/\H2=H1) I1 ⟨_,h0,rfl,rfl⟩) λov s2 ⟨z,H2,I2,ro,e1,e2⟩=>?_
 subst e1 e2;obtain rfl:ov=Value.ref a:=ro;obtain⟨hp,g,dr,tk,os⟩:=s2;rcases h with⟨ha,q⟩|⟨d,fs,ha,hd,hl,hk,q⟩
 ·obtain⟨⟨oe,t,he,hcls,hdict,hdt⟩,_⟩:=(show yd X.prog X.w H2 hp a (XO C a none)from I2.hok a _ ha)
  refine zBt S hna I2.kIn he hcls hdt ⟨λ_ h' tk' k1 k2 k3=>?_,λdx z=>by rw[hdict]at z;cases z⟩;have hda:hp.objs.size≠a:=ne_of_gt (lt_size he);have hfr:H2 hp.objs.size=none:=I2.hok.fresh (le_refl _);have w1:HOk X.prog X.w (upd H2 a (XO C a (some hp.objs.size))) h':=I2.hok.write (e:=a) (by rw[ha];trivial) (.inl rfl) (λb u hb e=>k1 b u hb e) ⟨_,k3⟩ (vz (P:=X.prog) (w:=X.w) k3 hcls rfl hdt);have e0:upd (upd H2 hp.objs.size (XD hp.objs.size [(nm,.int n)])) a (XO C a (some hp.objs.size))=upd (upd H2 a (XO C a (some hp.objs.size))) hp.objs.size (XD hp.objs.size [(nm,.int n)]):=by
   funext b
   by_cases hb:b=a
   ·subst hb;rw[zY,zG (Ne.symm hda),zY]
   ·rw[zG hb]
    by_cases hb2:b=hp.objs.size
    ·subst hb2;rw[zY,zY]
    ·rw[zG hb2,zG hb2,zG hb]
  have hf1:upd H2 a (XO C a (some hp.objs.size)) hp.objs.size=none:=by rw[zG hda];exact hfr
  have w2:HOk X.prog X.w (upd (upd H2 a (XO C a (some hp.objs.size))) hp.objs.size (XD hp.objs.size [(nm,.int n)])) h':=λb o e=>by
   by_cases hb:b=hp.objs.size
   ·subst hb;rw[zY]at e;cases e
    exact xd_one k2 rz
   ·rw[zG hb]at e
    refine(w1 b o e).stay (λ_ _ _ z=>z) (λc z=>?_) λc xs z=>?_
    ·rw[zG (yj z hf1)];exact z
    ·rw[zG (yj z hf1)];exact z
  have ne1:∀b o,hp.get? b=some o->b≠hp.objs.size:=λb o e=>ne_of_lt (lt_size e)
  have ne2:∀b,H2 b=none->b≠a:=λb n z=>by subst z;rw[ha]at n;cases n
  have nt:∀{b:Addr} {o:HO},H2 b=some o->¬Mut (some o)->upd (upd H2 a (XO C a (some hp.objs.size))) hp.objs.size (XD hp.objs.size [(nm,.int n)]) b=some o:=λ{b o} e nm=>by
   rw[zG (yj e hfr),zG (λz=>nm (by subst z;rw[ha]at e;cases e;trivial))];exact e
  have un:Un X.fs [] H2 (upd (upd H2 a (XO C a (some hp.objs.size))) hp.objs.size (XD hp.objs.size [(nm,.int n)])) hp h':=by
   refine⟨λb o e n _ _=>k1 b o (ne2 b n) e,λb o e n _ _=>⟨o.slots,k1 b o (ne2 b n) e⟩,λb o e n _=>by rw[zG (ne1 b o e),zG (ne2 b n)];exact n,λb o e _=>?_,λb xs e=>nt e λz=>z,λb o u e=>nt e λz=>z,λb ps e=>⟨#[],by rw[nt e λz=>z];simp⟩⟩;by_cases hb:b=a
   ·subst hb;exact⟨_,k3⟩
   ·exact⟨o,k1 b o hb e⟩
  have J:=I2.un (t':=tk') un w2;rw[<- e0]at J;exact⟨O,_,J,q _ hfr⟩
 ·obtain⟨⟨oe,t,he,hcls,hdict,hdt⟩,_⟩:=(show yd X.prog X.w H2 hp a (XO C a (some d))from I2.hok a _ ha)
  obtain⟨⟨mA,hn,hm⟩,_⟩:=(show yd X.prog X.w H2 hp d (XD d fs)from I2.hok d _ hd);refine zBt S hna I2.kIn he hcls hdt ⟨λz=>(by rw[hdict]at z;cases z),λdx z=>?_⟩;rw[hdict]at z;cases z;refine⟨mA,fs.map (·.1),hn,λy hy=>vN λz=>?_,by rw[length_map];omega,λh' tk' k1 k2=>?_⟩
  ·have:=hm y
   rw[z]at this;cases e:mA y with
   |none=>exact hy e|some u=>rw[e]at this;exact this
  ·obtain⟨o,es,ep,e,_⟩:=id k2
   exact⟨O,_,I2.write (t':=tk') (x:=d) (e:=d) (by rw[hd];trivial) (.inl rfl) (λb u hb e=>k1 b u hb e) ⟨_,e⟩ (xd_more hm hk k2 rz),q⟩
end
def zEo(as:List Str):Stmt->Bool
 | .Expr (.Call (.Attribute (.Name t _) i ap) [.Name s _,.JoinedStr (v1::v2::j9) _] [] cp) _=>t == "ThrowError"&&i == "__init__"&&s == "self"&&ap.endLine==cp.line&&(v1::v2::j9).all (Q7 as)&&decide ((v1::v2::j9).length<=50)|_=>false
def zCY(n:Str):Stmt->Bool
 | .Assign [.Attribute (.Name s _) a _] (.Name b _) _=>s == "self"&&a==n&&b==n|_=>false
def bodyI:List Str->List Stmt->Bool
 | [n],[s0,s1]=>zEo [n] s0&&zCY n s1| [n,m],[s0,s1,s2]=>zEo [n,m] s0&&zCY n s1&&zCY m s2&&n != m|_,_=>false
def zF8(as:List Str)(sc:Scope)(body:List Stmt):Bool:=bodyI as body&&sc.names.lookup ("ThrowError":Str)==some NameKind.globalImplicit&&(("self":Str)::as).all λx=>sc.names.lookup x==some NameKind.local&&!(x==("__debug__":Str))&&!(x==("__classdict__":Str))
structure RiAt(K:qH)(mg:Str->Option Value)(c:Str)(st:Stmt):Prop where
 ex:∃C T f fd qual,mg c=some (.ref C)/\mg "ThrowError"=some (.ref T)/\keepIn K (.ref C)=true/\Gy K C f=true/\typeIn K (.ref f)=some (.type "function")/\Fun K "__init__" qual st f fd/\JP K fd ("self"::jS c) []/\TGet K T/\XSet K C T/\∀n∈jS c,findIn K (.ref C) n=some none
section
variable{X:Cx}{C T:Addr}
def zCZ{f:Addr}{as:List Str}{st:Stmt}(h:zEo as st=true)(hx:Gy X.K C f=true)(hg:Gl X "ThrowError")(hm:X.mg "ThrowError"=some (.ref T))(hT:TGet X.K T)(hself:∀p,PE X (.Name "self" p) (Z0 0)) :
  PS X st (λD O H=>∃a,O[0]?=some (some (.ref a))/\H a=some (XO C a none)/\Nums X O as/\D.nx O H):=by
 unfold zEo at h;split at h
 ·simp only[Bool.and_eq_true,beq_iff_eq,decide_eq_true_eq]at h
  obtain⟨⟨⟨⟨⟨rfl,rfl⟩,rfl⟩,h4⟩,h5⟩,h6⟩:=h;exact yy (G2 (pe_init hx hg hm hT hself h5 h6 (by simpa using h4))) λD O H q=>q
 ·cases h
def st_at{i:Nat}{n:Str}{st:Stmt}(h:zCY n st=true)(S:XSet X.K C T)(hna:findIn X.K (.ref C) n=some none)(hself:∀p,PE X (.Name "self" p) (Z0 0))(hv:∀p,PE X (.Name n p) (Z0 i)) :
  PS X st (λD O H=>∃a k,O[0]?=some (some (.ref a))/\O[i]?=some (some (.int k)) /\
   ((H a=some (XO C a none)/\∀d,H d=none->D.nx O (upd (upd H d (XD d [(n,.int k)])) a (XO C a (some d)))) \/
    ∃d fs,H a=some (XO C a (some d))/\H d=some (XD d fs)/\fs.length<=50/\fs.lookup n=none/\D.nx O (upd H d (XD d (fs++[(n,.int k)]))))):=by
 unfold zCY at h;split at h
 ·simp only[Bool.and_eq_true,beq_iff_eq]at h
  obtain⟨⟨rfl,rfl⟩,rfl⟩:=h;exact ps_attr S hna hself hv
 ·cases h
end
def ris_nil{R:Str->Prop}:∀c∈([]:List Str),R c:=λ_ h=>by cases h
def zEp{R:Str->Prop}{c:Str}{cs:List Str}(h:R c)(t:∀c∈cs,R c):∀d∈c::cs,R d:=λd hd=>by
 rcases mem_cons.mp hd with rfl|hd
 ·exact h
 ·exact t d hd
def ri_of{P:Program}{w:World}{K:qH}{mg:Str->Option Value}{base:Heap}{c:Str}{st:Stmt}(R:RiAt K mg c st)(S:FnScope ("self"::jS c) ("self"::jS c) (zZ st))(h:zF8 (jS c) (zZ st) (yu st)=true):RIok P w K mg base c:=by
 obtain⟨C,T,f,fd,qual,hm,hT,hk,hx,hft,F,hb,tg,xs,hna⟩:=R.ex;refine⟨C,f,fd,hm,hk,hx,hft,hb,?_⟩;obtain⟨oc,od,kV,doc,pm,an,cdv,ct,osl,rfl,lk,hcd⟩:=F.ex;simp only[zF8,Bool.and_eq_true,beq_iff_eq,all_eq_true,Bool.not_eq_true']at h;obtain⟨⟨hbd,hgl⟩,hnm⟩:=h;refine zFl lk hcd S (λvs H Q E ⟨a,ns,e,hl,_⟩=>by rw[e];simp[hl]) λA outer s H vs Q E hd hr ⟨a,ns,ev,hl,hsm,ha,q⟩=>?_
 subst ev;have vis:∀(i:Nat) (x:Str),(("self":Str)::jS c)[i]?=some x->∀p,PE (cxN true P w K mg base ("self"::jS c) qual (zZ st) f cdv A outer s H E) (.Name x p) (Z0 i):=λi x hi p=>by
  obtain⟨⟨h1,h2⟩,h3⟩:=hnm x (mem_of_getElem? hi);exact zFd hi (.inl h1) h2 h3
 have hs:=vis 0 "self" rfl;generalize eA:jS c=as at *;unfold bodyI at hbd;split at hbd
 ·rename_i n s0 s1 hbody
  simp only[Bool.and_eq_true]at hbd;obtain⟨b0,b1⟩:=hbd;obtain⟨k,rfl⟩:∃k,ns=[k]:=by
   match ns,hl with
   | [k],_=>exact⟨k,rfl⟩
  rw[hbody];have hv1:=vis 1 n rfl;refine⟨_,Ze (zCZ (T:=T) b0 hx hgl hT tg hs) (G1 (st_at (i:=1) b1 xs (hna n (by simp)) hs hv1)),?_⟩;refine⟨a,rfl,ha,λx hx'=>?_,a,k,rfl,rfl,.inl ⟨ha,λd hd=>?_⟩⟩
  ·rw[mem_singleton.mp hx'];exact⟨1,λp=>⟨hv1 p,k,rfl,hsm k (by simp)⟩⟩
  ·have:=q d hd
   unfold fsV at this;rw[eA]at this;exact this
 ·rename_i n m s0 s1 s2 hbody
  simp only[Bool.and_eq_true,bne_iff_ne,ne_eq]at hbd;obtain⟨⟨⟨b0,b1⟩,b2⟩,b3⟩:=hbd;obtain⟨k,l,rfl⟩:∃k l,ns=[k,l]:=by
   match ns,hl with
   | [k,l],_=>exact⟨k,l,rfl⟩
  rw[hbody];have hv1:=vis 1 n rfl;have hv2:=vis 2 m rfl;refine⟨_,Ze (zCZ (T:=T) b0 hx hgl hT tg hs) (Ze (st_at (i:=1) b1 xs (hna n (by simp)) hs hv1) (G1 (st_at (i:=2) b2 xs (hna m (by simp)) hs hv2))),?_⟩;refine⟨a,rfl,ha,λx hx'=>?_,a,k,rfl,rfl,.inl ⟨ha,λd hd=>⟨a,l,rfl,rfl,.inr ⟨d,[(n,.int k)],zY,?_,by simp,?_,?_⟩⟩⟩⟩
  ·rcases mem_cons.mp hx' with rfl|hx'
   ·exact⟨1,λp=>⟨hv1 p,k,rfl,hsm k (by simp)⟩⟩
   ·rw[mem_singleton.mp hx'];exact⟨2,λp=>⟨hv2 p,l,rfl,hsm l (by simp)⟩⟩
  ·have hda:d≠a:=λz=>by subst z;rw[ha]at hd;cases hd
   rw[zG hda,zY]
  ·have:(m==n)=false:=by simpa using λz:m=n=>b3 z.symm
   simp[lookup,this]
  ·have:=q d hd
   unfold fsV at this;rw[eA]at this;have hda:d≠a:=λz=>by subst z;rw[ha]at hd;cases hd
   have e:upd (upd (upd H d (XD d [(n,.int k)])) a (XO C a (some d))) d (XD d ([(n,V.int k)]++[(m,V.int l)]))=upd (upd H d (XD d ([n,m].zip ([k,l].map V.int)))) a (XO C a (some d)):=by
    funext b
    by_cases hb:b=a
    ·subst hb;rw[zG (Ne.symm hda),zY,zY]
    ·by_cases hb2:b=d
     ·subst hb2;rw[zY,zG hda,zY];rfl
     ·rw[zG hb2,zG hb,zG hb2,zG hb,zG hb2]
   rw[e];exact this
 ·cases hbd
def RAok(K:qH)(mg:Str->Option Value)(c:Str):Prop:=∃C T,mg c=some (.ref C)/\mg "ThrowError"=some (.ref T)/\XSet K C T/\∀n∈jS c,findIn K (.ref C) n=some none
def ra_of{K:qH}{mg:Str->Option Value}{c:Str}{st:Stmt}(R:RiAt K mg c st):RAok K mg c:=by
 obtain⟨C,T,f,fd,qual,hm,hT,hk,hx,hft,F,hb,tg,xs,hna⟩:=R.ex;exact⟨C,T,hm,hT,xs,hna⟩
def eAtr(ri:List Str)(f:Str)(m:ME):ME:=λE=>match m E with
 | .z=>.z| .exc x E1=>.exc x E1
 | .ok (.v (.exn c vs),E1)=>if ri.contains c=true then(match((jS c).zip vs).lookup f with
  |some n=>.ok (.v (.int n),E1)|none=>.z)else .z
 |_=>.z
theorem vO:∀(as:List Str) (vs:List Int) (f:Str),(as.zip (vs.map V.int)).lookup f=((as.zip vs).lookup f).map V.int
 | [],_,_=>rfl|a::as,[],_=>rfl
 |a::as,v::vs,f=>by
  simp only[map_cons,zip_cons_cons,lookup];cases f==a with
  |true=>rfl|false=>exact vO as vs f
theorem GK:∀{as:List Str} {vs:List Int} {f:Str} {n:Int},(as.zip vs).lookup f=some n->f∈as
 | [],_,_,_,e=>by cases e|a::as,[],_,_,e=>by cases e
 |a::as,v::vs,f,n,e=>by
  simp only[zip_cons_cons,lookup]at e;cases h:f==a with
  |true=>simp[beq_iff_eq.mp h]|false=>rw[h]at e;exact qD _ (GK e)
section
variable{X:Cx}{O:L2.St}{H:Hp}
def pe_atr{ri:List Str}{e:Expr}{f:Str}{pos:Pos}{ta:TE}{T:Addr}(hT:X.mg "ThrowError"=some (.ref T))(hri:∀c∈ri,RAok X.K X.mg c/\∃C,X.mg c=some (.ref C)/\XCls X.K c C T)(he:PE X e ta)(hb:attributeBase e f X.env (eval e X.env)=eval e X.env) :
  PE X (.Attribute e f pos) (λO H Q=>ta O H λx H1=>∃c vs n,Rep X.K X.mg H1 (.exn c vs) x/\c∈ri/\((jS c).zip vs).lookup f=some n/\Q (.int n) H1):=by
 intro pins s O H Q I h;refine attr_of hb (thn (he pins s O H _ I h) λu s1 ⟨x,H1,I1,rx,c,vs,n,rd,hc,hl,q⟩=>?_);simp only[Rep]at rd;obtain⟨a,C,rfl,hm,hd⟩:=rd;obtain⟨⟨C1,T1,hm1,hT1,xs,hna⟩,C2,hm2,xc⟩:=hri c hc;rw[hm]at hm1 hm2;cases hm1;cases hm2;rw[hT]at hT1;cases hT1;obtain rfl:u=Value.ref a:=rx;rcases hd with⟨rfl,_⟩|⟨d,ha,hd⟩
 ·simp only[List.zip_nil_right,lookup]at hl;cases hl
 ·obtain⟨⟨o,e1,e2,e3,ws,e4⟩,_⟩:=(show yd X.prog X.w H1 s1.heap a (ExA C d a)from I1.hok a _ ha)
  obtain⟨⟨mA,hn,hm⟩,_⟩:=(show yd X.prog X.w H1 s1.heap d (XD d (fsV c vs))from I1.hok d _ hd);have hf:=hm f;unfold fsV at hf;rw[vO,hl]at hf;cases ev:mA f with
  |none=>rw[ev]at hf;exact hf.elim
  |some v =>
   rw[ev]at hf;obtain⟨tk,rfl⟩:=(show ∃t,v=Value.int n t from hf);exact ga_attr xc xs (hna f (GK hl)) I1.kIn e1 e2 e4 e3 hn ev rfl ⟨.int n,H1,I1.tok _,⟨_,rfl⟩,q⟩
def atr_run{ri:List Str}{f:Str}{m:ME}{Q:VK}(h:tM X (eAtr ri f m) O H Q):tM X m O H λx H1=>∃c vs n,Rep X.K X.mg H1 (.exn c vs) x/\c∈ri/\((jS c).zip vs).lookup f=some n/\Q (.int n) H1:=by
 obtain⟨M,E,hl,fr,k⟩:=h;unfold eAtr at k;refine z0 (T0:=[]) hl fr ?_;cases ea:m E with
 |z=>rw[ea]at k;exact k|exc x E1=>rw[ea]at k;exact k
 |ok pr =>
  obtain⟨r,E1⟩:=pr;rw[ea]at k;cases r with
  |own ds=>exact k.elim
  |v d =>
   cases d with
   |exn c vs =>
    dsimp only at k;intro v H' g;cases hc:ri.contains c with
    |false=>rw[hc]at k;exact k.elim
    |true =>
     rw[hc]at k;cases hn:((jS c).zip vs).lookup f with
     |none=>rw[hn]at k;exact k.elim
     |some n =>
      rw[hn]at k;exact⟨c,vs,n,g.rep.mono zK,by simpa using hc,hn,k _ H' (g.flat (d:=.int n) rfl)⟩
   |_=>exact k.elim
def ok_atr{ri:List Str}{e:Expr}{f:Str}{m:ME}{pos:Pos}{T:Addr}(hT:X.mg "ThrowError"=some (.ref T))(hri:∀c∈ri,RAok X.K X.mg c/\∃C,X.mg c=some (.ref C)/\XCls X.K c C T)(he:EOk X e m)(hb:attributeBase e f X.env (eval e X.env)=eval e X.env) :
  EOk X (.Attribute e f pos) (eAtr ri f m):=zq (pe_atr hT hri he hb) λO H Q=>atr_run
end
end DV
namespace DV
open PySem L2
section
variable{X:Cx}{O:L2.St}{H:Hp}{K:qH}{mg:Str->Option Value}{M:Addr->Prop}{E E1:zN}{T0:Fz}
def whN(c:MT)(b:MS):Nat->MS
 |0=>λ_=>.z
 |n+1=>λE=>match c E with
  | .z=>.z| .exc x E1=>.exc x E1| .ok (false,E1)=>.ok (.nx,E1)
  | .ok (true,E1)=>match b E1 with
   | .ok (.nx,E2)=>whN c b n E2| .ok (.ct,E2)=>whN c b n E2| .ok (.bk,E2)=>.ok (.nx,E2)|o=>o
def whN_run{c:MT}{b:MS}{D:Ends}{n:Nat}(h:tS X (whN c b n) D O H):zFf (tMT X c) (tS X b) D O H:=by
 refine⟨λm O H=>tS X (whN c b m) D O H,⟨n,h⟩,λm O H h=>?_⟩;cases m with
 |zero=>obtain⟨M,E,hl,fr,k⟩:=h;exact k.elim
 |succ m =>
  obtain⟨M,E,hl,fr,k⟩:=h;unfold whN at k;refine YO (T0:=[]) hl fr ?_;cases ec:c E with
  |z=>rw[ec]at k;exact k|exc x E1=>rw[ec]at k;exact λH' g=>k O H' g
  |ok p =>
   obtain⟨t,E1⟩:=p;rw[ec]at k;intro H1 g1;cases t with
   |false=>exact zFj (k O H1 g1)
   |true =>
    refine zFk ⟨λO' H'=>tS X (whN c b m) D O' H',λO' H' q=>⟨m,lt_succ_self m,q⟩,?_⟩;refine WC (T0:=[]) g1.len g1.fr ?_;dsimp only at k;cases eb:b E1 with
    |z=>rw[eb]at k;exact k|exc x E2=>rw[eb]at k;exact λO' H' g=>k O' H' (g1.trans' g)
    |ok p =>
     obtain⟨fl,E2⟩:=p;rw[eb]at k;cases fl with
     |ret r=>exact λv O' H' g=>k v O' H' (g1.trans' g)|bk=>exact λO' H' g=>k O' H' (g1.trans' g)|nx=>exact λO' H' g=>go g1 g k|ct=>exact λO' H' g=>go g1 g k
where
 go {c:MT} {b:MS} {D:Ends} {n:Nat} {M:Addr->Prop} {O O1 O':L2.St} {E E1 E2:zN} {H H1 H':Hp} (g1:Got X.K X.mg M O E H [] O1 E1 H1 []) (g:Got X.K X.mg M O1 E1 H1 [] O' E2 H' [])
  (k:match whN c b n E2 with
   | .z=>False| .ok (.nx,E')=>∀O' H',Got X.K X.mg M O E H [] O' E' H' []->D.nx O' H'| .ok (.bk,E')=>∀O' H',Got X.K X.mg M O E H [] O' E' H' []->D.bk O' H'| .ok (.ct,E')=>∀O' H',Got X.K X.mg M O E H [] O' E' H' []->D.ct O' H'| .ok (.ret r,E')=>∀v O' H',Got X.K X.mg M O E H [] O' E' H' [(some v,r.slot)]->D.rt v H'
   | .exc x E'=>∀O' H',Got X.K X.mg M O E H [] O' E' H' []->XE X O' H' x):tS X (whN c b n) D O' H':=by
  have gg:=g1.trans' g;refine WC (T0:=[]) gg.len gg.fr ?_;cases e:whN c b n E2 with
  |z=>rw[e]at k;exact k|exc x E3=>rw[e]at k;exact λO3 H3 g3=>k O3 H3 (gg.trans' g3)
  |ok p =>
   obtain⟨fl,E3⟩:=p;rw[e]at k;cases fl with
   |nx=>exact λO3 H3 g3=>k O3 H3 (gg.trans' g3)|bk=>exact λO3 H3 g3=>k O3 H3 (gg.trans' g3)|ct=>exact λO3 H3 g3=>k O3 H3 (gg.trans' g3)|ret r=>exact λv O3 H3 g3=>k v O3 H3 (gg.trans' g3)
def sWhile(c:MT)(b:MS):MS:=whN c b 1000000
def zEq{c:Expr}{body:List Stmt}{mc:MT}{mb:MS}{pos:Pos}(hp:PassesOwn (model X.prog X.w) X.A X.env X.xe)(hc:TOk X c mc)(hb:QE X body mb):SOk X (.While c body [] pos) (sWhile mc mb) :=
 yy (zDw hp hc hb) λD O H h=>whN_run h
def sAug(i:Nat)(f:Int->Int->Option Int)(m:ME):MS:=λE=>match E[i]? with
 |some (.v (.int a))=>(match m E with
  | .z=>.z| .exc x E1=>.exc x E1
  | .ok (r,E1)=>match r.d with
   | .int b=>(match E1[i]?,f a b with
    |some (.v (.int a')),some z=>if a'=a then .ok (.nx,E1.set i (.v (.int z)))else .z|_,_=>.z)
   |_=>.z)
 |_=>.z
def QJ{i:Nat}{f:Int->Int->Option Int}{ti:TIp}{m:ME}{D:Ends}(hi:∀a b z H Q,f a b=some z->Q (.int z) H->ti (.int a) (.int b) H Q)(h:tS X (sAug i f m) D O H):tAug i (tM X m) ti D O H:=by
 obtain⟨M,E,hl,fr,k⟩:=h;unfold sAug at k;cases e0:E[i]? with
 |none=>rw[e0]at k;exact k.elim
 |some s0 =>
  rw[e0]at k;cases s0 with
  |v d =>
   cases d with
   |int a =>
    dsimp only at k;obtain⟨o,h1,h2⟩:=wS hl e0;obtain⟨v,rfl,rv⟩:=fr.val o (.int a) h2;have ev:=zM rv;subst ev;refine⟨.int a,h1,?_⟩;refine z0 (T0:=[]) hl fr ?_;cases em:m E with
    |z=>rw[em]at k;exact k|exc x E1=>rw[em]at k;exact λH' g=>k O H' g
    |ok p =>
     obtain⟨r,E1⟩:=p;rw[em]at k;intro y H1 g;dsimp only at k;cases ed:r.d with
     |int b =>
      rw[ed]at k;dsimp only at k;have ry:=g.rep;rw[ed]at ry;have ey:=zM ry;subst ey;cases e1:E1[i]? with
      |none=>rw[e1]at k;exact k.elim
      |some s1 =>
       cases ef:f a b with
       |none=>rw[e1,ef]at k;cases s1<;>first|exact k.elim|(rename_i d;cases d<;>exact k.elim)
       |some z =>
        rw[e1,ef]at k;cases s1 with
        |v d1 =>
         cases d1 with
         |int a' =>
          dsimp only at k;by_cases ha:a'=a
          ·rw[if_pos ha]at k
           refine hi a b z _ _ ef (k _ H1 ?_);have gz:=g.dropAll.flat (d:=.int z) rfl;exact WD (r:=.v (.int z)) gz (by simp only[Yg,e1];rfl)
          ·rw[if_neg ha]at k;exact k.elim
         |_=>exact k.elim
        |_=>exact k.elim
     |_=>rw[ed]at k;exact k.elim
   |_=>exact k.elim
  |_=>exact k.elim
def ip_mulB:PIp X .Mult (λx y H Q=>∃i j,x=.int i/\y=.int j/\CMulB i j/\Q (.int (i*j)) H):=by
 intro pins s O H x y v u Q I r1 r2 h;obtain⟨i,j,e1,e2,hc,q⟩:=h;subst e1;subst e2;obtain⟨t,rfl⟩:=r1;obtain⟨t',rfl⟩:=r2;refine PyProof.Rows.imul_int ⟨.int _,H,I.tok _,⟨_,rfl⟩,q⟩ ?_;rcases hc with h|h
 ·exact h.ok
 ·exact zB3 h.1 h.2
def zCa:Int->Int->Option Int:=λa b=>if((-(2^64)<a/\a<2^64)\/(-(2^64)<b/\b<2^64))\/(a.natAbs<Big/\b.natAbs<Big)then some (a*b)else none
def zCb{i:Nat}{x:Str}{e:Expr}{m:ME}{pos pos':Pos}(hN:X.N.Nodup)(hi:X.N[i]?=some x)(hx:Loc X.env.scope x)(hf:X.fn x=true\/X.env.scope.names.lookup x=some .local)(he:EOk X e m):SOk X (.AugAssign (.Name x pos') .Add e pos) (sAug i (λa b=>some (a+b)) m) :=
 yy (zBQ hN hi hx he ip_add hf) λD O H h=>QJ (λa b z H Q ez q=>by cases ez;exact⟨a,b,rfl,rfl,q⟩) h
def zCc{i:Nat}{x:Str}{e:Expr}{m:ME}{pos pos':Pos}(hN:X.N.Nodup)(hi:X.N[i]?=some x)(hx:Loc X.env.scope x)(hf:X.fn x=true\/X.env.scope.names.lookup x=some .local)(he:EOk X e m):SOk X (.AugAssign (.Name x pos') .Sub e pos) (sAug i (λa b=>some (a-b)) m) :=
 yy (zBQ hN hi hx he ip_sub hf) λD O H h=>QJ (λa b z H Q ez q=>by cases ez;exact⟨a,b,rfl,rfl,q⟩) h
def zCd{i:Nat}{x:Str}{e:Expr}{m:ME}{pos pos':Pos}(hN:X.N.Nodup)(hi:X.N[i]?=some x)(hx:Loc X.env.scope x)(hf:X.fn x=true\/X.env.scope.names.lookup x=some .local)(he:EOk X e m):SOk X (.AugAssign (.Name x pos') .Mult e pos) (sAug i zCa m) :=
 yy (zBQ hN hi hx he ip_mulB hf) λD O H h=>QJ (λa b z H Q ez q=>by
  unfold zCa at ez;split at ez
  ·rename_i hc
   cases ez;exact⟨a,b,rfl,rfl,hc,q⟩
  ·cases ez) h
end
mutual
def pyD:D->Option PyData
 | .non=>some .none| .bl b=>some (.bool b)| .int i=>some (.int i)| .str x=>some (.str x)| .t ds=>(pyDs ds).map .tuple| .l ds=>(pyDs ds).map .list| .dic=>some (.dict [])|_=>none
def pyDs:List D->Option (List PyData)
 | []=>some []
 |d::ds=>match pyD d,pyDs ds with
  |some x,some xs=>some (x::xs)|_,_=>none
end
section
variable{X:Cx}{O:L2.St}{pins:List (Addr×Obj)}{H:Hp}{s:Shared}
def zF9(K:qH):Prop:=∃o es n,K.lookup sysModules=some o/\o.data=.dict es n
def sm_ne(I:Inv X pins O H s)(S:zF9 X.K){a:Addr}{o:Obj}{vs:Array Value}{n:Nat}(e1:s.heap.get? a=some o)(e2:o.data=.seq vs n):sysModules≠a:=by
 obtain⟨p,es,m,q1,q2⟩:=S;intro e;have:=I.kIn _ _ q1;rw[e,e1]at this;cases this;rw[q2]at e2;cases e2
mutual
theorem Q9(I:Inv X pins O H s)(S:zF9 X.K):∀{d:D} {v:V} {u:Value} {x:PyData},Rep X.K X.mg H d v->yL v u->pyD d=some x->∃as,Reads s.heap u x as/\sysModules∉as
 | .non,v,u,x,r,rv,e=>by cases e;rw[jl r]at rv;cases (show u=Value.none from rv);exact⟨_,.none,by simp⟩| .bl b,v,u,x,r,rv,e=>by cases e;rw[yz r]at rv;cases (show u=Value.bool b from rv);exact⟨_,.bool b,by simp⟩| .int i,v,u,x,r,rv,e=>by cases e;rw[zM r]at rv;obtain⟨t,q⟩:=(show ∃t,u=Value.int i t from rv);subst q;exact⟨_,.int i t,by simp⟩| .str y,v,u,x,r,rv,e=>by cases e;rw[wT r]at rv;obtain⟨t,q⟩:=(show ∃t,u=Value.str y t from rv);subst q;exact⟨_,.str y t,by simp⟩
 | .t ds,v,u,x,r,rv,e=>by
  obtain⟨a,xs,rfl,h1,h2⟩:=ze r;cases (show u=Value.ref a from rv);obtain⟨its,r1,p,_⟩:=I.tuple h1;obtain⟨o,e1,e2,n,e3⟩:=p;simp only[pyD]at e;cases eq:pyDs ds with
  |none=>rw[eq]at e;cases e
  |some ys =>
   rw[eq]at e;cases e;obtain⟨as,q,z⟩:=readss_of I S h2 r1 eq;exact⟨_,.tuple e1 e2 e3 (by simpa using q),z⟩
 | .l ds,v,u,x,r,rv,e=>by
  obtain⟨a,xs,rfl,h1,h2⟩:=zT r;cases (show u=Value.ref a from rv);obtain⟨its,r1,p,_⟩:=I.list h1;obtain⟨o,n,e1,e2,_,e3⟩:=p;simp only[pyD]at e;cases eq:pyDs ds with
  |none=>rw[eq]at e;cases e
  |some ys =>
   rw[eq]at e;cases e;obtain⟨as,q,z⟩:=readss_of I S h2 r1 eq;exact⟨_,.list e1 e2 e3 (by simpa using q),λhm=>(mem_cons.mp hm).elim (sm_ne I S e1 e3) z⟩
 | .fn y,v,u,x,r,rv,e=>by cases e
 | .dic,v,u,x,r,rv,e=>by
  cases e;simp only[Rep]at r;obtain⟨a,rfl,h1⟩:=r;cases (show u=Value.ref a from rv);obtain⟨_,hS,vs,kv,o,es,ep,g1,g2,g3,_,g5,_⟩:(([]:List (Key×V)).length<=sizeLine)/\(a==sysModules)=false/\∃vs,KV [] vs/\s.heap.DictOf (Gz X.prog X.w) a vs:=I.hok a _ h1;cases kv;have e0:es.toList=[]:=by cases h:es.toList with|nil=>rfl|cons y ys=>rw[h]at g5;cases g5
  refine⟨_,.dict g1 g2.1 g3 (kvs:=[]) (by rw[e0];exact .nil) (by rw[e0];exact .nil),λhm=>?_⟩;rcases mem_cons.mp hm with hm|hm
  ·exact beq_eq_false_iff_ne.mp hS hm.symm
  ·cases hm
 | .exn y z,v,u,x,r,rv,e=>by cases e
theorem readss_of(I:Inv X pins O H s)(S:zF9 X.K):∀{ds:List D} {vs:List V} {us:List Value} {xs:List PyData},Reps X.K X.mg H ds vs->yc vs us->pyDs ds=some xs->∃as,ReadsAll s.heap us xs as/\sysModules∉as
 | [],vs,us,xs,r,rv,e=>by
  cases e;simp only[Reps]at r;subst r;cases rv;exact⟨_,.nil,by simp⟩
 |d::ds,vs,us,xs,r,rv,e=>by
  simp only[Reps]at r;obtain⟨v,vs',rfl,r1,r2⟩:=r;cases rv with
  |cons p q =>
   simp only[pyDs]at e;cases e1:pyD d with
   |none=>rw[e1]at e;cases e
   |some x =>
    cases e2:pyDs ds with
    |none=>rw[e1,e2]at e;cases e
    |some ys =>
     rw[e1,e2]at e;cases e;obtain⟨as,a1,z1⟩:=Q9 I S r1 p e1;obtain⟨bs,a2,z2⟩:=readss_of I S r2 q e2;exact⟨_,.cons a1 a2,λhm=>(mem_append.mp hm).elim z1 z2⟩
end
def JL(d:D):Option R:=match pyD d with
 |some x=>if x.showable=true/\x.depth<=60/\x.shown.length<=cap then some (.v (.str x.shown))else none|none=>none
def vP(S:zF9 X.K)(hg:X.A.guards=some [])(hu:X.A.units+64<cLine):JO X (.builtin "repr") (λxs H Q=>∃x d r,xs=[x]/\Rep X.K X.mg H d x/\JL d=some r/\∃t,r=.v (.str t)/\Q (.str t) H):=by
 intro pins s O H xs us Q I rv h;obtain⟨x,d,r,rfl,rd,er,t,rfl,q⟩:=h;obtain⟨u,rfl,ru⟩:=rv.one;unfold JL at er;cases ep:pyD d with
 |none=>rw[ep]at er;cases er
 |some p =>
  rw[ep]at er;dsimp only at er;split at er
  ·rename_i hc
   cases er;obtain⟨as,rs,z⟩:=Q9 I S rd ru ep;have fin:∀h' tk tk2,(∀b o,s.heap.get? b=some o->h'.get? b=some o)->EP X pins O Q (.str p.shown tk) {s with heap:=h',toks:=tk2}:=λh' tk tk2 hk=>⟨.str _,H,I.kept (t':=tk2) hk,⟨_,rfl⟩,q⟩
   have fin0:EP X pins O Q (.str p.shown s.toks) {s with toks:=s.toks+1}:=⟨.str _,H,I.tok _,⟨_,rfl⟩,q⟩
   cases rs with
   |none=>exact PySem.P.repr_of_none fin0|bool b=>exact PySem.P.repr_of_bool fin0
   |int i t =>
    have hi:(decide (i.natAbs.log2<1920))=true:=hc.1;exact PySem.P.repr_of_int (of_decide_eq_true hi) fin0
   |str y t=>exact PySem.P.repr_of_str fin0 (wb hc.2.2)|list h1 h2 h3 h4=>exact repr_of_reads' (.list h1 h2 h3 h4) hc.1 (λ_=>z) hg (by have:=hc.2.1;omega) (λ_ _ e=>e) (λh' u tk hk=>fin h' u tk hk) (wb hc.2.2)|tuple h1 h2 h3 h4=>exact repr_of_reads' (.tuple h1 h2 h3 h4) hc.1 (λ_=>z) hg (by have:=hc.2.1;omega) (λ_ _ e=>e) (λh' u tk hk=>fin h' u tk hk) (wb hc.2.2)|dict h1 h2 h3 h4 h5=>exact repr_of_reads' (.dict h1 h2 h3 h4 h5) hc.1 (λ_=>z) hg (by have:=hc.2.1;omega) (λ_ _ e=>e) (λh' u tk hk=>fin h' u tk hk) (wb hc.2.2)
  ·cases er
def zEr:List D->Option R
 | [d]=>JL d|_=>none
def co_repr{K:qH}{mg:Str->Option Value}:COk K mg (λxs H Q=>∃x d r,xs=[x]/\Rep K mg H d x/\JL d=some r/\∃t,r=.v (.str t)/\Q (.str t) H) zEr:=by
 intro M H Z xs ds res Q f r e k
 match ds,e with
 | [d],e =>
  simp only[Reps]at r;obtain⟨v,r',rfl,r1,rfl⟩:=r;have e':=e;replace e':JL d=some res:=e';unfold JL at e';cases ep:pyD d with
  |none=>rw[ep]at e';cases e'
  |some p =>
   rw[ep]at e';dsimp only at e';split at e'
   ·cases e'
    exact⟨v,d,_,rfl,r1.mono zK,e,_,rfl,k.flat f rfl⟩
   ·cases e'
def reprS:Slot->Option R
 | .own ds=>JL (.l ds)| .par ds=>JL (.l ds)| .v d=>JL d| .e=>none
def vQ(i:Nat):ME:=λE=>match E[i]? with
 |some s=>match reprS s with
  |some r=>.ok (r,E)|none=>.z
 |none=>.z
def zCe{d:D}{r:R}(h:JL d=some r):∃t,r=.v (.str t):=by
 unfold JL at h;cases ep:pyD d with
 |none=>rw[ep]at h;cases h
 |some p =>
  rw[ep]at h;dsimp only at h;split at h
  ·cases h;exact⟨_,rfl⟩
  ·cases h
def zCf{i:Nat}{Q:VK}(h:tM X (vQ i) O H Q):tCB (λxs H Q=>∃x d r,xs=[x]/\Rep X.K X.mg H d x/\JL d=some r/\∃t,r=.v (.str t)/\Q (.str t) H) (zAn (Z0 i) tNil) O H Q:=by
 obtain⟨M,E,hl,f,k⟩:=h;unfold vQ at k;cases e1:E[i]? with
 |none=>rw[e1]at k;exact k.elim
 |some s =>
  rw[e1]at k;dsimp only at k;obtain⟨o,h1,h2⟩:=wS hl e1;cases e2:reprS s with
  |none=>rw[e2]at k;exact k.elim
  |some r =>
   rw[e2]at k;have fin:∀{v:V} {d:D},o=some v->Rep X.K X.mg H d v->JL d=some r->tCB (λxs H Q=>∃x d r,xs=[x]/\Rep X.K X.mg H d x/\JL d=some r/\∃t,r=.v (.str t)/\Q (.str t) H) (zAn (Z0 i) tNil) O H Q:=λ{v d} ev rr er=>by
    obtain⟨t,rfl⟩:=zCe er;subst ev;exact⟨v,h1,v,d,_,rfl,rr,er,t,rfl,k _ H ((Got.refl (T0:=[]) hl f).flat (d:=.str t) rfl)⟩
   have key:∀{ds:List D},s.list?=some ds->∃v,o=some v/\Rep X.K X.mg H (.l ds) v:=λ{ds} hl1=>by
    obtain⟨a,xs,ev,q1,_,q3⟩:=f.own _ s ds h2 hl1;exact⟨_,ev,by simp only[Rep];exact⟨a,xs,rfl,SqL.of q1,q3.mono zK⟩⟩
   cases s with
   |e=>cases e2|own ds=>obtain⟨v,ev,rr⟩:=key rfl;exact fin ev rr e2|par ds=>obtain⟨v,ev,rr⟩:=key rfl;exact fin ev rr e2
   |v d =>
    obtain⟨v',ev,rr⟩:=f.val _ _ h2;exact fin ev (rr.mono zK) e2
def zEs:bootBuiltins "repr"=some (.builtin "repr"):=by decide +kernel
def zEt(i:Nat){x:Str}{p p1 pos:Pos}(S:zF9 X.K)(hgd:X.A.guards=some [])(hu:X.A.units+64<cLine)(hv:PE X (.Name x p1) (Z0 i))(hg:Gl X "repr")(hm:X.mg "repr"=none) :
  EOk X (.Call (.Name "repr" p) [.Name x p1] [] pos) (vQ i) :=
 zq (Yn (vP S hgd hu) hg hm zEs (jC hv YA (zL rfl)) (by decide) (by decide) (zL rfl) (jF rfl)) λO H Q=>zCf
end
end DV
namespace L2
open PySem PySem.Spec PyProof.Rows
section
variable{X:Cx}{pins:List (Addr×Obj)}{O:List (Option V)}{H:Hp}{s:Shared}{h':Heap}
def Inv.turnLay{t':Nat}{fp:List Addr}{q:Addr}{xs:List V}(I:Inv X pins O H s)(hf:∀b∈fp,G3 X pins H b)(k:∀b o,b∉fp->s.heap.get? b=some o->h'.get? b=some o)(hq:s.heap.objs.size<=q)(new:yd X.prog X.w (upd H q (.t xs)) h' q (.t xs)):Inv X pins O (upd H q (.t xs)) {s with heap:=h',toks:=t'}:=by
 have hn:H q=none:=I.hok.fresh hq;have nq:∀b u,H b=some u->b≠q:=λb u e z=>by rw[z,hn]at e;cases e
 have nf:∀b u,H b=some u->b∉fp:=λb u e z=>by rw[(hf b z).1]at e;cases e
 refine I.step (g':=s.gens) (d':=s.drawn) (ch:=fp) (λb hb=>?_) (λb o _ _ hc e _=>k b o hc e) (λb o _ _ hc e _=>⟨o.slots,k b o hc e⟩) (λb o _ e n=>?_) (λb o hc e=>⟨o,k b o hc e⟩)
  (λb ys e=>?_) (λb o u e=>?_) (λb ps e=>⟨#[],?_⟩) (λm hm=>?_) (λb u e=>?_) I.bare
 ·obtain⟨_,f1,_,f3,f4,f5⟩:=hf b hb
  exact⟨f3,f1,f4,f5⟩
 ·have:b≠q:=λz=>by subst z;exact absurd (lt_of_lt_of_le (lt_size e) hq) (lt_irrefl _)
  rw[zG this];exact n
 ·rw[zG (nq b _ e)];exact e
 ·rw[zG (nq b _ e)];exact e
 ·rw[zG (nq b _ e),e];simp
 ·obtain⟨o,es,ep,ho,r⟩:=hm
  exact⟨o,es,ep,k _ o (λz=>(hf _ z).2.1 rfl) ho,r⟩
 ·by_cases hb:b=q
  ·subst hb;rw[zY]at e;cases e;exact new
  ·rw[zG hb]at e
   refine(I.hok b u e).stay (λc v hc q'=>k c v ?_ q') (λc q'=>?_) λc ys q'=>?_
   ·rcases hc with z|z
    ·rw[z];exact nf b u e
    ·exact nf c _ z
   ·rw[zG (nq c _ q')];exact q'
   ·rw[zG (nq c _ q')];exact q'
def Inv.turnL{t':Nat}{fp:List Addr}(I:Inv X pins O H s)(hf:∀b∈fp,G3 X pins H b)(k:∀b o,b∉fp->s.heap.get? b=some o->h'.get? b=some o):Inv X pins O H {s with heap:=h',toks:=t'}:=by
 have nf:∀b u,H b=some u->b∉fp:=λb u e z=>by rw[(hf b z).1]at e;cases e
 refine I.step (g':=s.gens) (d':=s.drawn) (ch:=fp) (λb hb=>?_) (λb o _ _ hc e _=>k b o hc e) (λb o _ _ hc e _=>⟨o.slots,k b o hc e⟩) (λ_ _ _ _ n=>n) (λb o hc e=>⟨o,k b o hc e⟩)
  (λ_ _ e=>e) (λ_ _ _ e=>e) (λb ps e=>⟨#[],by rw[e];simp⟩) (λm hm=>?_) (λb u e=>?_) I.bare
 ·obtain⟨_,f1,_,f3,f4,f5⟩:=hf b hb
  exact⟨f3,f1,f4,f5⟩
 ·obtain⟨o,es,ep,ho,r⟩:=hm
  exact⟨o,es,ep,k _ o (λz=>(hf _ z).2.1 rfl) ho,r⟩
 ·refine(I.hok b u e).stay (λc v hc q'=>k c v ?_ q') (λ_ q=>q) λ_ _ q=>q
  rcases hc with z|z
  ·rw[z];exact nf b u e
  ·exact nf c _ z
end
end L2
namespace DV
open PySem
section
variable{prog:Program}{w:World}{A:Around}{E:Value->Shared->Prop}{s:Shared}
def st_iter{α:Type}{Q:α->Shared->Prop}(hh:A.handled=none)(hE:∀h' e,(∀b o,s.heap.get? b=some o->h'.get? b=some o)->(∃o,h'.get? e=some o/\o.cls=.type "StopIteration")->E (.ref e) {s with heap:=h'}):wpAny (model prog w) A.in1 (Builtin.SmallTypes.stopIteration:Sem α) Q E s:=by
 unfold Builtin.SmallTypes.stopIteration;refine qB ?_;unfold newExc newTuple;refine qB (wpAny_newObj_type ?_ (by size_fits));refine qB (m:=firstArgMember _ _) (wpAny_of_eq (a:=Value.none) rfl ?_);refine wpAny_newObj_type ?_ (by size_fits);unfold raiseNew;have hh':A.in1.handled=none:=hh;refine qB (wpAny_handled ?_);rw[hh'];refine qB (qC (wpAny_throw ?_));exact hE _ _ (λb o eb=>qA _ (qA _ eb)) ⟨_,get?_push_size _ rfl,rfl⟩
def sp_tup{it t:Addr}{i:Nat}{items:Array Value}{Q:Option Value->Shared->Prop}(hh:A.handled=none)(hit:s.heap.IsTupleIter it t i)(ht:s.heap.IsTuple t items)
  (h1:∀x,items[i]?=some x->∀h',h'.IsTupleIter it t (i+1)->Heap.SameBut it s.heap h'->Q (some x) {s with heap:=h'})
  (h2:items[i]?=none->∀h' e,Heap.ExtBut it s.heap h'->(∃o,h'.get? e=some o/\o.cls=.type "StopIteration")->E (.ref e) {s with heap:=h'}) :
  wpAny (model prog w) A (callSpecial? (.ref it) (Str.ofString "__next__")) Q E s:=by
 have⟨o,ho,hc,hd⟩:=id hit;obtain⟨u,hu,_,n,du⟩:=ht;refine wpAny_callSpecial?_slot hit.typeIs F.slot_tuple_iterator_next (wpAny_call_entry F.slot_tuple_iterator_next hit.typeIs F.entry_tuple_iterator_next ?_ (F.args_tuple_iterator_next_1 _));refine qB (m:=field (.ref it) 0) (wpAny_field ho hd (x:=.ref t) rfl ?_);have nn:¬(Value.ref t==Value.none)=true:=qF;simp only[nn,Bool.false_eq_true,if_false];refine qB (m:=field (.ref it) 1) (wpAny_field ho hd (x:=.int i 0) rfl ?_);refine qB (m:=seqItems? (.ref t)) (wpAny_seqItems hu du ?_);cases hx:items[i]? with
 |some x =>
  simp only[Int.toNat_natCast,hx];refine qB (wpAny_setField ho hd (by simp) (qC ⟨x,rfl,h1 x hx _ ?_ (Heap.SameBut.update ..)⟩));exact⟨_,get?_update_self _ ho (Obj.isFreed_of_fields (Obj.data_mapFields hd _)),(Obj.cls_mapFields ..).trans hc,by rw[Obj.data_mapFields hd];simp[rawInt]⟩
 |none =>
  simp only[Int.toNat_natCast,hx];refine qB (wpAny_rule (qB (wpAny_setField ho hd (by simp) ?_)));refine st_iter hh λh' e k q=>h2 hx h' e (λb o nb eb=>k b o ?_) q
  exact(Heap.SameBut.update ..).extBut b o nb eb
structure Src(prog:Program)(w:World)(A:Around)(it l:Addr)(items:Array Value)(st:Nat->Heap->Prop):Prop where
 keep:∀{i:Nat} {h h':Heap},st i h->(∀b,b=it\/b=l->∀o,h.get? b=some o->h'.get? b=some o)->st i h'
 lt:∀{i:Nat} {h:Heap},st i h->it<h.objs.size
 next:∀{i:Nat} {s:Shared} {Q:Value->Shared->Prop} {E:Value->Shared->Prop},st i s.heap->(∀x,items[i]?=some x->∀h',st (i+1) h'->Heap.SameBut it s.heap h'->Q x {s with heap:=h'}) ->
  (items[i]?=none->∀h' e,Heap.ExtBut it s.heap h'->(∃o,h'.get? e=some o/\o.cls=.type "StopIteration")->E (.ref e) {s with heap:=h'})->wpAny (model prog w) A (Builtin.SmallTypes.nextOf (.ref it)) Q E s
def src_tup(hh:A.handled=none){it t:Addr}(ne:t≠it)(items:Array Value):Src prog w A it t items (λi h=>h.IsTupleIter it t i/\h.IsTuple t items) where
 keep:=λst k=>⟨st.1.at λo e=>k it (.inl rfl) o e,st.2.at λo e=>k t (.inr rfl) o e⟩
 lt:=λst=>by obtain⟨⟨o,e,_⟩,_⟩:=st;exact lt_size e
 next:=λ{i s Q E} st h1 h2=>by
  unfold Builtin.SmallTypes.nextOf;exact qB (sp_tup hh st.1 st.2 (λx hx h' a b=>qC (h1 x hx h' ⟨a,st.2.extBut b.extBut ne⟩ b)) h2)
def zEu(hh:A.handled=none){it t:Addr}(ne:t≠it)(items:Array Value):Src prog w A it t items (λi h=>h.IsListIter it t i/\h.IsList t items) where
 keep:=λst k=>⟨st.1.at λo e=>k it (.inl rfl) o e,st.2.at λo e=>k t (.inr rfl) o e⟩
 lt:=λst=>by obtain⟨⟨o,e,_⟩,_⟩:=st;exact lt_size e
 next:=λ{i s Q E} st h1 h2=>by
  cases hx:items[i]? with
  |some x=>exact wpAny_nextOf_list_item st.1 st.2 hx λh' a b=>h1 x hx h' ⟨a,st.2.extBut b.extBut ne⟩ b|none=>exact wpAny_nextOf_list_end hh st.1 st.2 hx (h2 hx)
def zp_next{z TI TO i1 i2 l1 l2:Addr}{k:Nat}{xs ys:Array Value}{st1 st2:Nat->Heap->Prop}{a b:Value}{Q:Value->Shared->Prop}(S1:Src prog w A i1 l1 xs st1)(S2:Src prog w A i2 l2 ys st2)(D:ZipApart z TI TO i1 i2 l1 l2)
  (hz:IsZip s.heap z TI TO .none) (hTI:IsPair s.heap TI (.ref i1) (.ref i2)) (hTO:IsPair s.heap TO a b) (h1:st1 k s.heap) (h2:st2 k s.heap)
  (hQ:∀x y,xs[k]?=some x->ys[k]?=some y->∀h',IsZip h' z TI TO (rawInt s.heap.objs.size)->IsPair h' TO x y->st1 (k+1) h'->st2 (k+1) h'->IsPair h' s.heap.objs.size x y ->
   (∀c o,c≠z->c≠TO->c≠i1->c≠i2->s.heap.get? c=some o->h'.get? c=some o)->Q (.ref s.heap.objs.size) {s with heap:=h'})
  (hE:xs[k]?=none\/ys[k]?=none->∀h' e,(∀c o,c≠z->c≠TO->c≠i1->c≠i2->s.heap.get? c=some o->h'.get? c=some o)->(∃o,h'.get? e=some o/\o.cls=.type "StopIteration")->E (.ref e) {s with heap:=h'}) :
  wpAny (model prog w) A (Builtin.«zip.__next__» ⟨[.ref z],[]⟩) (λfin s'=>∃v,fin=.done (.ret v)/\Q v s') E s:=by
 refine qB (m:=field (.ref z) 2) (wpAny_field hz rfl (x:=.bool false) rfl ?_);refine qB (m:=field (.ref z) 3) (wpAny_field hz rfl (x:=.ref TI) rfl ?_);refine qB (wpAny_seqItems hTI rfl ?_);refine qB (m:=Builtin.SmallTypes.ownedTupleIsFree (.ref z)) ?_;unfold Builtin.SmallTypes.ownedTupleIsFree;refine qB (wpAny_field hz rfl (x:=.none) rfl (qC ?_));simp only[if_true];refine qB (wpAny_rule (qB (wpAny_field hz rfl (x:=.ref TO) rfl (qB (wpAny_setField_rec hz (by simp) λg1 z1 b1=>?_)))));have z1:IsZip g1 z TI TO .ellipsis:=z1;refine qB ?_;simp only[List.zipIdx_cons,List.zipIdx_nil,forIn_cons,List.forIn_nil];have s1:st1 k g1:=S1.keep h1 λc hc o e=>b1.extBut c o (by rcases hc with rfl|rfl;exact D.i1z;exact D.l1z) e
 refine qB (qB (wpAny_onRaise (qB (m:=Builtin.SmallTypes.nextOf (.ref i1)) (S1.next s1 (λx hx g2 s2 b2=>qC ?_) λhx g2 e b2 he=>?_))))
 ·have t2:IsPair g2 TO a b:=b2.extBut _ _ D.TOi1 (b1.extBut _ _ D.TOz hTO)
  refine qB (wpAny_seqItems t2 rfl (qB (wpAny_updateSeq_pair t2 λg3 t3 b3=>qB (wpAny_letGo (qC ?_)))));have t3:IsPair g3 TO x b:=t3;have k3:∀c o,c≠z->c≠TO->c≠i1->s.heap.get? c=some o->g3.get? c=some o:=λc o c1 c2 c3 e=>b3.extBut _ _ c2 (b2.extBut _ _ c3 (b1.extBut _ _ c1 e))
  have s3:st1 (k+1) g3:=S1.keep s2 λc hc o e=>b3.extBut c o (by rcases hc with rfl|rfl;exact D.TOi1.symm;exact D.l1TO) e
  have r3:st2 k g3:=S2.keep h2 λc hc o e=>k3 c o (by rcases hc with rfl|rfl;exact D.i2z;exact D.l2z) (by rcases hc with rfl|rfl;exact D.TOi2.symm;exact D.l2TO) (by rcases hc with rfl|rfl;exact D.i12.symm;exact D.l2i1) e
  have z3:IsZip g3 z TI TO .ellipsis:=b3.extBut _ _ D.TOz.symm (b2.extBut _ _ D.i1z.symm z1);refine qB (qB (wpAny_onRaise (qB (m:=Builtin.SmallTypes.nextOf (.ref i2)) (S2.next r3 (λy hy g4 r4 b4=>qC ?_) λhy g4 e b4 he=>?_))))
  ·have t4:IsPair g4 TO x b:=b4.extBut _ _ D.TOi2 t3
   refine qB (wpAny_seqItems t4 rfl (qB (wpAny_updateSeq_pair t4 λg5 t5 b5=>qB (wpAny_letGo (qC (qC ?_))))));have t5:IsPair g5 TO x y:=t5;have k5:∀c o,c≠z->c≠TO->c≠i1->c≠i2->s.heap.get? c=some o->g5.get? c=some o:=λc o c1 c2 c3 c4 e=>b5.extBut _ _ c2 (b4.extBut _ _ c4 (k3 c o c1 c2 c3 e))
   have s5:st1 (k+1) g5:=S1.keep s3 λc hc o e=>b5.extBut c o (by rcases hc with rfl|rfl;exact D.TOi1.symm;exact D.l1TO) (b4.extBut c o (by rcases hc with rfl|rfl;exact D.i12;exact D.l1i2) e)
   have r5:st2 (k+1) g5:=S2.keep r4 λc hc o e=>b5.extBut c o (by rcases hc with rfl|rfl;exact D.TOi2.symm;exact D.l2TO) e
   have z5:IsZip g5 z TI TO .ellipsis:=b5.extBut _ _ D.TOz.symm (b4.extBut _ _ D.i2z.symm z3);have sz:g5.objs.size=s.heap.objs.size:=by rw[b5.1,b4.1,b3.1,b2.1,b1.1]
   refine qB (wpAny_seqItems t5 rfl (qB (wpAny_newTuple ?_)));refine qB (m:=Builtin.SmallTypes.ownedTupleHandOut (.ref z) (.ref g5.objs.size)) ?_;unfold Builtin.SmallTypes.ownedTupleHandOut;have z6:IsZip (g5.push {cls:=.type "tuple",data:=.seq #[x,y]}) z TI TO .ellipsis:=qA _ z5;refine qB (wpAny_setField_rec z6 (by simp) λg7 z7 b7=>?_);have z7:IsZip g7 z TI TO (rawInt g5.objs.size):=z7;refine wpAny_setField_rec z7 (by simp) λg8 z8 b8=>?_
   have z8:IsZip g8 z TI TO (rawInt g5.objs.size):=z8;have up:∀c o,c≠z->g5.get? c=some o->g8.get? c=some o:=λc o c1 e=>b8.extBut _ _ c1 (b7.extBut _ _ c1 (qA _ e))
   have zl:z<g5.objs.size:=lt_size z5;have p8:IsPair g8 g5.objs.size x y:=b8.extBut _ _ (ne_of_gt zl) (b7.extBut _ _ (ne_of_gt zl) (get?_push_size _ rfl));rw[sz]at z8 p8;refine qC ⟨_,rfl,?_⟩;show Q (.ref g5.objs.size) _;rw[sz];exact hQ x y hx hy g8 z8 (up _ _ D.TOz t5) (S1.keep s5 λc hc o e=>up c o (by rcases hc with rfl|rfl;exact D.i1z;exact D.l1z) e) (S2.keep r5 λc hc o e=>up c o (by rcases hc with rfl|rfl;exact D.i2z;exact D.l2z) e) p8 λc o c1 c2 c3 c4 e=>up c o c1 (k5 c o c1 c2 c3 c4 e)
  ·have z4:IsZip g4 z TI TO .ellipsis:=b4 _ _ D.i2z.symm z3
   obtain⟨oe,ho,hc⟩:=he;have ez:e≠z:=λq=>by subst q;rw[z4]at ho;cases ho;simp at hc
   exact wpAny_setField_rec z4 (by simp) λg5 _ b5=>hE (.inr hy) g5 e (λc o c1 c2 c3 c4 x=>b5.extBut _ _ c1 (b4 _ _ c4 (k3 c o c1 c2 c3 x))) ⟨oe,b5.extBut _ _ ez ho,hc⟩
 ·have z2:IsZip g2 z TI TO .ellipsis:=b2 _ _ D.i1z.symm z1
  obtain⟨oe,ho,hc⟩:=he;have ez:e≠z:=λq=>by subst q;rw[z2]at ho;cases ho;simp at hc
  exact wpAny_setField_rec z2 (by simp) λg3 _ b3=>hE (.inl hx) g3 e (λc o c1 c2 c3 c4 x=>b3.extBut _ _ c1 (b2 _ _ c3 (b1.extBut _ _ c1 x))) ⟨oe,b3.extBut _ _ ez ho,hc⟩
def GL{z TI TO i1 i2 l1 l2:Addr}{k:Nat}{xs ys:Array Value}{st1 st2:Nat->Heap->Prop}{a b:Value}{Q:Option Value->Shared->Prop}(S1:Src prog w A.in1 i1 l1 xs st1)(S2:Src prog w A.in1 i2 l2 ys st2)(D:ZipApart z TI TO i1 i2 l1 l2)
  (hz:IsZip s.heap z TI TO .none) (hTI:IsPair s.heap TI (.ref i1) (.ref i2)) (hTO:IsPair s.heap TO a b) (h1:st1 k s.heap) (h2:st2 k s.heap)
  (hQ:∀x y,xs[k]?=some x->ys[k]?=some y->∀h',IsZip h' z TI TO (rawInt s.heap.objs.size)->IsPair h' TO x y->st1 (k+1) h'->st2 (k+1) h'->IsPair h' s.heap.objs.size x y ->
   (∀c o,c≠z->c≠TO->c≠i1->c≠i2->s.heap.get? c=some o->h'.get? c=some o)->Q (some (.ref s.heap.objs.size)) {s with heap:=h'})
  (hE:xs[k]?=none\/ys[k]?=none->∀h',(∀c o,c≠z->c≠TO->c≠i1->c≠i2->s.heap.get? c=some o->h'.get? c=some o)->Q none {s with heap:=h'}):wpAny (model prog w) A (pyNext (.ref z)) Q E s:=by
 have hT:s.TypeIs (.ref z) "zip":=⟨_,hz,rfl⟩;unfold pyNext;refine qB (wpAny_attempt (wpAny_callSpecial?_slot hT F.slot_zip_next (wpAny_call_entry F.slot_zip_next hT F.entry_zip_next (zp_next S1 S2 D hz hTI hTO h1 h2 (λx y hx hy h' a1 a2 a3 a4 a5 a6=>?_) λhend h' e hk he=>?_) (F.args_zip_next_1 _))))
 ·exact qC (hQ x y hx hy h' a1 a2 a3 a4 a5 a6)
 ·obtain⟨o,ho,hc⟩:=he
  exact qB (wpAny_isInstance (T:="StopIteration") (b:=true) ⟨o,ho,hc⟩ isSubtype_stop (qC (hE hend h' hk)))
end
abbrev itO(c:String)(l:Addr):Obj:={cls:=.type c,data:=.fields #[.ref l,.int 0 0]}
abbrev zpA(h:Heap)(c1 c2:String)(l1 l2:Addr):Heap:=(h.push (itO c1 l1)).push (itO c2 l2)
abbrev zpB(h:Heap)(c1 c2:String)(l1 l2:Addr):Heap:=(zpA h c1 c2 l1 l2).push {cls:=.type "tuple",data:=.seq #[.ref h.objs.size,.ref (h.push (itO c1 l1)).objs.size]}
abbrev zpC(h:Heap)(c1 c2:String)(l1 l2:Addr):Heap:=(zpB h c1 c2 l1 l2).push {cls:=.type "tuple",data:=.seq #[.none,.none]}
abbrev zpD(h:Heap)(c1 c2:String)(l1 l2:Addr):Heap:=(zpC h c1 c2 l1 l2).push {cls:=.type "zip",data:=.fields #[.none,.bool false,.bool false,.ref (zpA h c1 c2 l1 l2).objs.size,.ref (zpB h c1 c2 l1 l2).objs.size]}
def zEv(l1 l2:Addr)(xs ys:Array Value):Meets (Builtin.«zip.__new__» ⟨[.type "zip",.ref l1,.ref l2],[]⟩) (λ_ R s=>s.heap.IsTuple l1 xs/\s.heap.IsTuple l2 ys/\R (.ok (.ret (.ref (zpC s.heap "tuple_iterator" "tuple_iterator" l1 l2).objs.size))) {s with heap:=zpD s.heap "tuple_iterator" "tuple_iterator" l1 l2}) :=
 .of_wp λprog w A R s h=>by
  obtain⟨hp,g,d,tk,os⟩:=s;obtain⟨h1,h2,h⟩:=h;have hs:=sub_zip;have a1:Heap.IsTuple (Shared.heap ⟨hp,g,d,tk,os⟩) l1 xs:=h1;have a2:Heap.IsTuple (Shared.heap ⟨hp.push (itO "tuple_iterator" l1),g,d,tk,os⟩) l2 ys:=h2.at λo e=>qA _ e
  wp_walk using wpAny_pyIter_tuple a1,wpAny_pyIter_tuple a2
  exact⟨_,rfl,h⟩
def zEw(l1 l2:Addr)(xs ys:Array Value):Meets (Builtin.«zip.__new__» ⟨[.type "zip",.ref l1,.ref l2],[]⟩) (λ_ R s=>s.heap.IsTuple l1 xs/\s.heap.IsList l2 ys/\R (.ok (.ret (.ref (zpC s.heap "tuple_iterator" "list_iterator" l1 l2).objs.size))) {s with heap:=zpD s.heap "tuple_iterator" "list_iterator" l1 l2}) :=
 .of_wp λprog w A R s h=>by
  obtain⟨hp,g,d,tk,os⟩:=s;obtain⟨h1,h2,h⟩:=h;have hs:=sub_zip;have a1:Heap.IsTuple (Shared.heap ⟨hp,g,d,tk,os⟩) l1 xs:=h1;have a2:Heap.IsList (Shared.heap ⟨hp.push (itO "tuple_iterator" l1),g,d,tk,os⟩) l2 ys:=h2.at λo e=>qA _ e
  wp_walk using wpAny_pyIter_tuple a1,wpAny_pyIter_list a2
  exact⟨_,rfl,h⟩
def zEx(l1 l2:Addr)(xs ys:Array Value):Meets (Builtin.«zip.__new__» ⟨[.type "zip",.ref l1,.ref l2],[]⟩) (λ_ R s=>s.heap.IsList l1 xs/\s.heap.IsTuple l2 ys/\R (.ok (.ret (.ref (zpC s.heap "list_iterator" "tuple_iterator" l1 l2).objs.size))) {s with heap:=zpD s.heap "list_iterator" "tuple_iterator" l1 l2}) :=
 .of_wp λprog w A R s h=>by
  obtain⟨hp,g,d,tk,os⟩:=s;obtain⟨h1,h2,h⟩:=h;have hs:=sub_zip;have a1:Heap.IsList (Shared.heap ⟨hp,g,d,tk,os⟩) l1 xs:=h1;have a2:Heap.IsTuple (Shared.heap ⟨hp.push (itO "list_iterator" l1),g,d,tk,os⟩) l2 ys:=h2.at λo e=>qA _ e
  wp_walk using wpAny_pyIter_list a1,wpAny_pyIter_tuple a2
  exact⟨_,rfl,h⟩
def zEy(l1 l2:Addr)(xs ys:Array Value):Meets (Builtin.«zip.__new__» ⟨[.type "zip",.ref l1,.ref l2],[]⟩) (λ_ R s=>s.heap.IsList l1 xs/\s.heap.IsList l2 ys/\R (.ok (.ret (.ref (zpC s.heap "list_iterator" "list_iterator" l1 l2).objs.size))) {s with heap:=zpD s.heap "list_iterator" "list_iterator" l1 l2}):=meets_zip_new l1 l2 xs ys
structure Zp(h h':Heap)(c1 c2:String)(l1 l2:Addr):Prop where
 z:IsZip h' (h.objs.size+4) (h.objs.size+2) (h.objs.size+3) .none
 a:IsPair h' (h.objs.size+2) (.ref h.objs.size) (.ref (h.objs.size+1))
 b:IsPair h' (h.objs.size+3) .none .none
 i1:h'.get? h.objs.size=some (itO c1 l1)
 i2:h'.get? (h.objs.size+1)=some (itO c2 l2)
 kp:∀c o,h.get? c=some o->h'.get? c=some o
def zp_of(h:Heap)(c1 c2:String)(l1 l2:Addr):Zp h (zpD h c1 c2 l1 l2) c1 c2 l1 l2/\(zpC h c1 c2 l1 l2).objs.size=h.objs.size+4:=by
 have n1:(h.push (itO c1 l1)).objs.size=h.objs.size+1:=size_push ..;have n2:(zpA h c1 c2 l1 l2).objs.size=h.objs.size+2:=by rw[size_push,n1]
 have n3:(zpB h c1 c2 l1 l2).objs.size=h.objs.size+3:=by rw[size_push,n2]
 have n4:(zpC h c1 c2 l1 l2).objs.size=h.objs.size+4:=by rw[size_push,n3]
 have u:=λ(h:Heap) (o:Obj) {b:Addr} {q:Obj} (e:h.get? b=some q)=>qA (h:=h) o e
 have g5:(zpD h c1 c2 l1 l2).get? (zpC h c1 c2 l1 l2).objs.size=some _:=get?_push_size _ rfl;have g4:(zpD h c1 c2 l1 l2).get? (zpB h c1 c2 l1 l2).objs.size=some _:=qA _ (get?_push_size _ rfl);have g3:(zpD h c1 c2 l1 l2).get? (zpA h c1 c2 l1 l2).objs.size=some _:=qA _ (qA _ (get?_push_size _ rfl));have g2:(zpD h c1 c2 l1 l2).get? (h.push (itO c1 l1)).objs.size=some (itO c2 l2):=qA _ (qA _ (qA _ (get?_push_size _ rfl)));have g1:(zpD h c1 c2 l1 l2).get? h.objs.size=some (itO c1 l1):=qA _ (qA _ (qA _ (qA _ (get?_push_size _ rfl))));rw[n2,n3,n4]at g5;rw[n1,n2]at g3;rw[n3]at g4;rw[n1]at g2;exact⟨⟨g5,g3,g4,g1,g2,λc o e=>qA _ (qA _ (qA _ (qA _ (qA _ e))))⟩,n4⟩
section
variable{prog:Program}{w:World}{A:Around}{E:Value->Shared->Prop}{s:Shared}
def SqO(h:Heap)(t:Bool)(l:Addr)(xs:Array Value):Prop:=if t then h.IsTuple l xs else h.IsList l xs
def itC(t:Bool):String:=if t then "tuple_iterator" else "list_iterator"
def zp_call{t1 t2:Bool}{l1 l2:Addr}{xs ys:Array Value}{Q:Value->Shared->Prop}(h1:SqO s.heap t1 l1 xs)(h2:SqO s.heap t2 l2 ys)(h:∀h',Zp s.heap h' (itC t1) (itC t2) l1 l2->Q (.ref (s.heap.objs.size+4)) {s with heap:=h'}):wpAny (model prog w) A (call (.type "zip") [.ref l1,.ref l2]) Q E s:=by
 obtain⟨z,n⟩:=zp_of s.heap (itC t1) (itC t2) l1 l2;have hz:=h _ z;have fin:∀{P:Heap->Prop},P s.heap->Meets (Builtin.«zip.__new__» ⟨[.type "zip",.ref l1,.ref l2],[]⟩) (λ_ R s=>P s.heap/\R (.ok (.ret (.ref (zpC s.heap (itC t1) (itC t2) l1 l2).objs.size))) {s with heap:=zpD s.heap (itC t1) (itC t2) l1 l2})->wpAny (model prog w) A (call (.type "zip") [.ref l1,.ref l2]) Q E s:=λ{P} hP m=>by
  refine callType_new F.called_zip (by decide) (F.typeCall_zip_2 _ _) (F.newCall_zip_2 _ _) (λobj=>F.args_object_init_3 obj _ _) F.entry_zip_new m ⟨hP,?_⟩;show _/\_;rw[n];exact⟨⟨_,z.z,rfl⟩,hz⟩
 cases t1<;>cases t2
 ·exact fin (P:=λh=>h.IsList l1 xs/\h.IsList l2 ys) ⟨h1,h2⟩ (Meets.of_imp (zEy l1 l2 xs ys) λA R s q=>⟨q.1.1,q.1.2,q.2⟩)
 ·exact fin (P:=λh=>h.IsList l1 xs/\h.IsTuple l2 ys) ⟨h1,h2⟩ (Meets.of_imp (zEx l1 l2 xs ys) λA R s q=>⟨q.1.1,q.1.2,q.2⟩)
 ·exact fin (P:=λh=>h.IsTuple l1 xs/\h.IsList l2 ys) ⟨h1,h2⟩ (Meets.of_imp (zEw l1 l2 xs ys) λA R s q=>⟨q.1.1,q.1.2,q.2⟩)
 ·exact fin (P:=λh=>h.IsTuple l1 xs/\h.IsTuple l2 ys) ⟨h1,h2⟩ (Meets.of_imp (zEv l1 l2 xs ys) λA R s q=>⟨q.1.1,q.1.2,q.2⟩)
end
end DV
namespace DV
open PySem L2 PySem.Spec PyProof.Rows
def SqH(K:qH)(H:Hp)(t:Bool)(a:Addr)(xs:List V):Prop:=if t then SqT K H a xs else SqL K H a xs
section
variable{X:Cx}{pins:List (Addr×Obj)}{O:L2.St}{H:Hp}{s:Shared}{a b:Addr}{xs ys:List V}
def ZD{t:Bool}(I:Inv X pins O H s)(h:SqH X.K H t a xs):∃its:List Value,yc xs its/\SqO s.heap t a its.toArray:=by
 cases t with
 |true =>
  obtain⟨its,r,p,_⟩:=I.tuple h;exact⟨its,r,p⟩
 |false =>
  obtain⟨its,r,p,_⟩:=I.list h;exact⟨its,r,p.isList⟩
def zCg{t:Bool}(I:Inv X pins O H s)(h:SqH X.K H t a xs)(h':SqH X.K H t a ys):xs=ys:=by
 cases t with
 |true=>exact I.tuple_inj h h'|false=>exact I.list_inj h h'
def zAA{t:Bool}(I:Inv X pins O H s)(h:SqH X.K H t a xs)(f:G3 X pins H b):a≠b:=by
 intro z;subst z;have key:∀o,X.K.lookup a=some o->False:=λo hk=>by
  have hb:=I.ok.mod.kin a o hk;have e:=I.ok.bs a o hb;rcases f.2.2.2.1 with q|q
  ·exact I.ok.noex a o hb q
  ·exact absurd (lt_of_lt_of_le (lt_size e.1) q) (lt_irrefl _)
 have key2:∀u,Rd H a u->False:=λu r=>by
  rcases r with r|⟨o,r⟩<;>rw[f.1]at r<;>cases r
 cases t with
 |true =>
  rcases h with h|⟨o,its,n,hk,_⟩
  ·exact key2 _ h
  ·exact key o hk
 |false =>
  rcases h with h|⟨o,its,n,hk,_⟩
  ·exact key2 _ h
  ·exact key o hk
end
def Itz(K:qH)(t1 t2:Bool)(a b:Addr):It :=
 ⟨λi H=>∃xs ys,SqH K H t1 a xs/\SqH K H t2 b ys/\i<xs.length/\i<ys.length,
  λi H x H'=>∃q u v,(∀xs,SqH K H t1 a xs->xs[i]?=some u)/\(∀ys,SqH K H t2 b ys->ys[i]?=some v)/\H q=none/\H'=upd H q (.t [u,v])/\x=.ref q,
  λi H=>∃xs ys,SqH K H t1 a xs/\SqH K H t2 b ys/\(xs.length<=i\/ys.length<=i)⟩
def ItA(t:Bool)(h:Heap)(it l:Addr)(i:Nat):Prop:=if t then h.IsTupleIter it l i else h.IsListIter it l i
def zAB{t:Bool}{h h':Heap}{it l:Addr}{i:Nat}(x:ItA t h it l i)(k:∀o,h.get? it=some o->h'.get? it=some o):ItA t h' it l i:=by
 cases t with
 |true=>exact Heap.IsTupleIter.at x k|false=>exact Heap.IsListIter.at x k
def uA{t:Bool}{h:Heap}{it l:Addr}{i:Nat}(x:ItA t h it l i):∃o,h.get? it=some o/\∀v,o.data≠.cell v:=by
 cases t with
 |true=>obtain⟨o,e,c,d⟩:=x;exact⟨o,e,λv z=>by rw[d]at z;cases z⟩|false=>obtain⟨o,e,c,d⟩:=x;exact⟨o,e,λv z=>by rw[d]at z;cases z⟩
def srcA{prog:Program}{w:World}{A:Around}(hh:A.handled=none)(t:Bool){it l:Addr}(ne:l≠it)(items:Array Value):Src prog w A it l items (λi h=>ItA t h it l i/\SqO h t l items):=by
 cases t with
 |true=>exact src_tup hh ne items|false=>exact zEu hh ne items
structure Five(z TI TO i1 i2:Addr):Prop where
 a1:TI≠z
 a2:TO≠z
 a3:i1≠z
 a4:i2≠z
 a5:TI≠TO
 a6:TI≠i1
 a7:TI≠i2
 a8:TO≠i1
 a9:TO≠i2
 a10:i1≠i2
def ZSt(z TI TO i1 i2:Addr)(t1 t2:Bool)(a b:Addr)(i:Nat)(h:Heap):Prop:=IsZip h z TI TO .none/\IsPair h TI (.ref i1) (.ref i2)/\(∃u v,IsPair h TO u v)/\ItA t1 h i1 a i/\ItA t2 h i2 b i
def zEz{P:Program}{w:World}{K:qH}{elts:List Expr}{x1}{pos:Pos}{z TI TO i1 i2:Addr}(F:Five z TI TO i1 i2)(t1 t2:Bool)(a b:Addr):Turn P w K (.Tuple elts x1 pos) (Itz K t1 t2 a b) [z,TI,TO,i1,i2] z (ZSt z TI TO i1 i2 t1 t2 a b) where
 mem:=by simp
 obj:=λi h st c hc=>by
  obtain⟨hz,hI,⟨u,v,hO⟩,h1,h2⟩:=st;simp only[mem_cons,mem_nil_iff,or_false]at hc;rcases hc with rfl|rfl|rfl|rfl|rfl
  ·exact⟨_,hz,λv z=>by cases z⟩
  ·exact⟨_,hI,λv z=>by cases z⟩
  ·exact⟨_,hO,λv z=>by cases z⟩
  ·exact uA h1
  ·exact uA h2
 keep:=λi h h' st k=>by
  obtain⟨hz,hI,⟨u,v,hO⟩,h1,h2⟩:=st;exact⟨k z (by simp) _ hz,k TI (by simp) _ hI,⟨u,v,k TO (by simp) _ hO⟩,zAB h1 λo e=>k i1 (by simp) o e,zAB h2 λo e=>k i2 (by simp) o e⟩
 item:=by
  intro X hP hw hK hc i pins s O H E I hf st hg;subst hP hw hK;obtain⟨hz,hI,⟨u0,v0,hO⟩,h1,h2⟩:=st;obtain⟨xs,ys,q1,q2,l1,l2⟩:=hg;obtain⟨us,r1,p1⟩:=ZD I q1;obtain⟨vs,r2,p2⟩:=ZD I q2;have na:∀c∈[z,TI,TO,i1,i2],a≠c:=λc hc=>zAA I q1 (hf c hc)
  have nb:∀c∈[z,TI,TO,i1,i2],b≠c:=λc hc=>zAA I q2 (hf c hc)
  have D:ZipApart z TI TO i1 i2 a b:=⟨F.a1,F.a2,F.a3,F.a4,F.a5,F.a6,F.a7,F.a8,F.a9,F.a10,na z (by simp),na TO (by simp),na i1 (by simp),na i2 (by simp),nb z (by simp),nb TO (by simp),nb i1 (by simp),nb i2 (by simp)⟩;have hh:X.A.in1.handled=none:=I.ok.hd hc;obtain⟨u,eu⟩:∃u,xs[i]?=some u:=⟨_,getElem?_eq_getElem l1⟩;obtain⟨v,ev⟩:∃v,ys[i]?=some v:=⟨_,getElem?_eq_getElem l2⟩;obtain⟨u',eu',ru⟩:=r1.get eu;obtain⟨v',ev',rv⟩:=r2.get ev;refine GL (srcA hh t1 (na i1 (by simp)) us.toArray) (srcA hh t2 (nb i2 (by simp)) vs.toArray) D hz hI hO ⟨h1,p1⟩ ⟨h2,p2⟩ (λx y hx hy h' z1 o1 s1 s2 pq kk=>?_) (λhe=>?_)
  ·have ex:x=u':=by simp[eu']at hx;exact hx.symm
   have ey:y=v':=by simp[ev']at hy;exact hy.symm
   subst ex ey;refine⟨_,rfl,wpAny_letOwnedTupleGo_zip z1 λh2 z2 b2=>?_⟩;have lt:∀{c o},s.heap.get? c=some o->s.heap.objs.size≠c:=λe=>ne_of_gt (lt_size e)
   have pq2:IsPair h2 s.heap.objs.size x y:=b2.extBut _ _ (lt hz) pq;have k2:∀c o,c∉[z,TI,TO,i1,i2]->s.heap.get? c=some o->h2.get? c=some o:=λc o hc e=>b2.extBut _ _ (λq=>hc (by simp[q])) (kk c o (λq=>hc (by simp[q])) (λq=>hc (by simp[q])) (λq=>hc (by simp[q])) (λq=>hc (by simp[q])) e)
   have new:yd X.prog X.w (upd H s.heap.objs.size (.t [u,v])) h2 s.heap.objs.size (.t [u,v]):=⟨by simp[sizeLine_eq],[x,y],.cons ru (.cons rv .nil),⟨_,pq2,rfl,_,rfl⟩⟩;have I2:=I.turnLay (t':=s.toks) hf k2 (le_refl _) new;have fresh:H s.heap.objs.size=none:=I.hok.fresh (le_refl _);refine⟨.ref s.heap.objs.size,_,I2,rfl,⟨_,u,v,λzs hz=>by rw[zCg I hz q1];exact eu,λzs hz=>by rw[zCg I hz q2];exact ev,fresh,rfl,rfl⟩,⟨z2,b2.extBut _ _ F.a1 (kk TI _ F.a1 F.a5 F.a6 F.a7 hI),⟨_,_,b2.extBut _ _ F.a2 o1⟩,zAB s1.1 λo e=>b2.extBut _ _ F.a3 e,zAB s2.1 λo e=>b2.extBut _ _ F.a4 e⟩,λc hc=>?_⟩;have:c≠s.heap.objs.size:=λq=>by
    obtain⟨o,e⟩:∃o,s.heap.get? c=some o:=by
     simp only[mem_cons,mem_nil_iff,or_false]at hc;rcases hc with rfl|rfl|rfl|rfl|rfl
     ·exact⟨_,hz⟩
     ·exact⟨_,hI⟩
     ·exact⟨_,hO⟩
     ·obtain⟨o,e,_⟩:=uA h1;exact⟨o,e⟩
     ·obtain⟨o,e,_⟩:=uA h2;exact⟨o,e⟩
    exact lt e q.symm
   rw[zG this];exact(hf c hc).1
  ·exfalso
   rcases he with he|he
   ·simp[eu']at he
   ·simp[ev']at he
 done:=by
  intro X hP hw hK hc i pins s O H E I hf st hg;subst hP hw hK;obtain⟨hz,hI,⟨u0,v0,hO⟩,h1,h2⟩:=st;obtain⟨xs,ys,q1,q2,l12⟩:=hg;obtain⟨us,r1,p1⟩:=ZD I q1;obtain⟨vs,r2,p2⟩:=ZD I q2;have na:∀c∈[z,TI,TO,i1,i2],a≠c:=λc hc=>zAA I q1 (hf c hc)
  have nb:∀c∈[z,TI,TO,i1,i2],b≠c:=λc hc=>zAA I q2 (hf c hc)
  have D:ZipApart z TI TO i1 i2 a b:=⟨F.a1,F.a2,F.a3,F.a4,F.a5,F.a6,F.a7,F.a8,F.a9,F.a10,na z (by simp),na TO (by simp),na i1 (by simp),na i2 (by simp),nb z (by simp),nb TO (by simp),nb i1 (by simp),nb i2 (by simp)⟩;have hh:X.A.in1.handled=none:=I.ok.hd hc;have e1:=r1.length;have e2:=r2.length;refine GL (srcA hh t1 (na i1 (by simp)) us.toArray) (srcA hh t2 (nb i2 (by simp)) vs.toArray) D hz hI hO ⟨h1,p1⟩ ⟨h2,p2⟩ (λx y hx hy=>?_) (λhe h' kk=>⟨rfl,?_⟩)
  ·exfalso
   simp at hx hy
   have a1:=(qG.mp hx).1;have a2:=(qG.mp hy).1;omega
  ·exact I.turnL (t':=s.toks) hf λc o hc e=>kk c o (λq=>hc (by simp[q])) (λq=>hc (by simp[q])) (λq=>hc (by simp[q])) (λq=>hc (by simp[q])) e
 self:=λ_ _ _ _ _ st h=>wpAny_pyIter_zip st.1 h
section
variable{X:Cx}{K:qH}{mg:Str->Option Value}{O:L2.St}{H:Hp}
def iZip(K:qH)(t1 t2:Bool)(ta:TA):TI:=λO H R=>ta O H λvs H1=>∃a b xs ys,vs=[.ref a,.ref b]/\SqH K H1 t1 a xs/\SqH K H1 t2 b ys/\R (Itz K t1 t2 a b) H1
def bt_zip:bootBuiltins "zip"=some (.type "zip"):=by decide +kernel
def zCh{t:Bool}{h:Heap}{it l:Addr}(e:h.get? it=some (itO (itC t) l)):ItA t h it l 0:=by
 cases t with
 |true=>exact⟨_,e,rfl,rfl⟩|false=>exact⟨_,e,rfl,rfl⟩
def five(n:Addr):Five (n+4) (n+2) (n+3) n (n+1) :=
 have e:∀i j:Nat,i≠j->n+i≠n+j:=λi j h q=>h (Nat.add_left_cancel q)
 ⟨e 2 4 (by decide),e 3 4 (by decide),e 0 4 (by decide),e 1 4 (by decide),e 2 3 (by decide),e 2 0 (by decide),e 2 1 (by decide),e 3 0 (by decide),e 3 1 (by decide),e 0 1 (by decide)⟩
def pi_zip{t1 t2:Bool}{e f:Expr}{ta:TA}{elts:List Expr}{x1}{tp p pos:Pos}(hg:Gl X "zip")(hm:X.mg "zip"=none)(ha:PA X [e,f] ta)(hs:starEach [e,f] X.env=[(false,eval e X.env),(false,eval f X.env)]:=by rfl)(hs2:starEach [f] X.env=[(false,eval f X.env)]:=by rfl) :
  PI X (.Tuple elts x1 tp) (.Call (.Name "zip" p) [e,f] [] pos) (iZip X.K t1 t2 ta):=by
 intro pins s O H R I h;refine Call_ (Ym I hg hm bt_zip (PyProof.Rows.callWith_type1 (thn (ha pos pins s O H _ I h) λus s1 ⟨vs,H1,I1,r1,q1⟩=>?_) (by rw[hs,hs2]) (by rw[hs2];rfl)));obtain⟨a,b,xs,ys,ev,qa,qb,q⟩:=q1;subst ev;cases r1 with
 |cons r rr =>
  cases rr with
  |cons r' rr =>
   cases rr;cases r;cases r';obtain⟨u1,v1,p1⟩:=ZD I1 qa;obtain⟨u2,v2,p2⟩:=ZD I1 qb;refine zp_call p1 p2 λh' z=>?_
   refine wpAny_pyIter_zip (s:={s1 with heap:=h'}) z.z ?_
   have n:∀j,s1.heap.objs.size<=s1.heap.objs.size+j:=λj=>Nat.le_add_right _ _
   have fr:∀c,s1.heap.objs.size<=c->G3 X pins H1 c:=λc hc=>I1.fpOk hc (I1.hok.fresh hc)
   refine⟨_,[s1.heap.objs.size+4,s1.heap.objs.size+2,s1.heap.objs.size+3,s1.heap.objs.size,s1.heap.objs.size+1],_,_,H1,rfl,I1.kept (t':=s1.toks) z.kp,zEz (five _) t1 t2 a b,⟨z.z,z.a,⟨_,_,z.b⟩,zCh z.i1,zCh z.i2⟩,λc hc=>?_,q⟩;simp only[mem_cons,mem_nil_iff,or_false]at hc;rcases hc with rfl|rfl|rfl|rfl|rfl
   ·exact fr _ (n 4)
   ·exact fr _ (n 2)
   ·exact fr _ (n 3)
   ·exact fr _ (n 0)
   ·exact fr _ (n 1)
def W0(d e:D):D:=.t [d,e]
def jh{t:Bool}{a:Addr}{xs:List V}{H H':Hp}(e:Za H H')(h:SqH K H t a xs):SqH K H' t a xs:=by
 cases t with
 |true=>exact yH e h|false=>exact e.seq h
def it_zip{t1 t2:Bool}{a b:Addr}{xs ys:List V}{ds es:List D}:ItOk K mg (Itz K t1 t2 a b) (zipWith W0 ds es) (λH=>SqH K H t1 a xs/\Reps K mg H ds xs/\SqH K H t2 b ys/\Reps K mg H es ys) where
 mono:=λH H' s h=>⟨jh s h.1,h.2.1.mono s,jh s h.2.2.1,h.2.2.2.mono s⟩
 go:=λi Hh H s h hi=>by
  rw[List.length_zipWith]at hi;exact⟨xs,ys,jh s h.1,jh s h.2.2.1,by rw[h.2.1.length];omega,by rw[h.2.2.2.length];omega⟩
 yld:=λi Hh H x H' s h hi y=>by
  obtain⟨q,u,v,h1,h2,hq,rfl,rfl⟩:=y;have e1:=h1 xs (jh s h.1);have e2:=h2 ys (jh s h.2.2.1);obtain⟨d,g1,r1⟩:=h.2.1.get e1;obtain⟨e,g2,r2⟩:=h.2.2.2.get e2;refine⟨W0 d e,by rw[List.getElem?_zipWith,g1,g2],.inr ⟨q,[u,v],[d,e],hq,rfl,rfl,rfl,Reps.cons r1 (Reps.cons r2 Reps.nil)⟩⟩
 stop:=λi Hh H s h hi=>by
  rw[List.length_zipWith]at hi;refine⟨xs,ys,jh s h.1,jh s h.2.2.1,?_⟩;rw[h.2.1.length,h.2.2.2.length];omega
end
end DV
namespace DV
open PySem L2
section
variable{X:Cx}
def seqD:Bool->D->Option (List D)
 |true,.t ds=>some ds|false,.l ds=>some ds|_,_=>none
def iZ(t1 t2:Bool)(m:MA):MI:=λE=>match m E with
 | .z=>.z| .exc x E1=>.exc x E1
 | .ok ([r,r'],E1)=>match seqD t1 r.d,seqD t2 r'.d with
  |some ds,some es=>.ok (zipWith W0 ds es,E1)|_,_=>.z
 |_=>.z
def zCi{K:qH}{mg:Str->Option Value}{H:Hp}{t:Bool}{d:D}{ds:List D}{v:V}(e:seqD t d=some ds)(r:Rep K mg H d v):∃a xs,v=.ref a/\SqH K H t a xs/\Reps K mg H ds xs:=by
 cases t with
 |true =>
  cases d with
  |t es=>cases e;exact ze r|_=>cases e
 |false =>
  cases d with
  |l es=>cases e;exact zT r|_=>cases e
def io_zip{t1 t2:Bool}{a b:Expr}{m:MA}{elts:List Expr}{x1}{tp p cpos:Pos}(hgl:Gl X "zip")(hm:X.mg "zip"=none)(ha:AOk X [a,b] m)(hst:zH a=false:=by rfl)(hst2:zH b=false:=by rfl) :
  IOk X (.Tuple elts x1 tp) (.Call (.Name "zip" p) [a,b] [] cpos) (iZ t1 t2 m):=WL (pi_zip hgl hm ha (star2 hst hst2) (zAs hst2)) λO H R ⟨M,E,hl,fr,k⟩=>by
 unfold iZ at k;refine wt (T0:=[]) hl fr ?_;cases ea:m E with
 |z=>rw[ea]at k;exact k|exc x E1=>rw[ea]at k;exact k
 |ok p =>
  obtain⟨rs,E1⟩:=p;rw[ea]at k
  match rs,k with
  | [r,r'],k =>
   intro vs H1 hv g1;have rp:=Got.reps hv g1;dsimp only at k;cases ed:seqD t1 r.d with
   |none=>rw[ed]at k;exact k.elim
   |some ds =>
    cases ed':seqD t2 r'.d with
    |none=>rw[ed,ed']at k;exact k.elim
    |some es =>
     rw[ed,ed']at k;simp only[List.map]at rp;obtain⟨v,w,rfl,h1,h2⟩:=reps2 rp;obtain⟨c,xs,rfl,c1,c2⟩:=zCi ed h1;obtain⟨d,ys,rfl,d1,d2⟩:=zCi ed' h2;exact⟨c,d,xs,ys,rfl,jh zK c1,jh zK d1,k _ _ H1 it_zip ⟨c1,c2,d1,d2⟩ g1.dropAll⟩
  | [],k=>exact k.elim| [_],k=>exact k.elim|_::_::_::_,k=>exact k.elim
end
section
variable{X:Cx}{K:qH}{mg:Str->Option Value}{O:L2.St}{M:Addr->Prop}{E:zN}{H:Hp}
def zE0{J:It}{ds:List D}{Iv:Hp->Prop}{O0 O':L2.St}{E0 E':zN}{H1 H' H'':Hp}{i:Nat}{x:V}(it:ItOk K mg J ds Iv)(hlt:i<ds.length)(gb:Got K mg M O0 E0 H1 [] O' E' H' [])(ivb:Iv (Hm (Mo M (O'.zip E')) H'))(y:J.yld i H' x H'') :
  ∃d,ds[i]?=some d/\Got K mg M O0 E0 H1 [] O' E' H'' []/\Iv (Hm (Mo M (O'.zip E')) H'')/\Rep K mg (Hm (Mo M (O'.zip E')) H'') d x:=by
 obtain⟨d,hd,h⟩:=it.yld i _ _ x _ zK ivb hlt y;rcases h with⟨rfl,rx⟩|⟨q,xs,es,hq,rfl,rfl,rfl,rs⟩
 ·exact⟨d,hd,gb,ivb,rx⟩
 ·have f:FR K mg M H' (O'.zip E'):=gb.fr
  have f1:=f.newTup hq rs;have s1:Step M H' (O'.zip E') (upd H' q (.t xs)) ((some (.ref q),.v (.t es))::O'.zip E'):=Step.newVal hq;obtain⟨v,ev,rv⟩:=f1.val _ _ qE;cases ev;have sm:=s1.same;rw[YB]at rv sm;have s2:Step M H' (O'.zip E') (upd H' q (.t xs)) (O'.zip E'):=⟨sm,s1.keep⟩;exact⟨_,hd,⟨gb.len,f1.tail,gb.st.trans s2,gb.pk⟩,it.mono _ _ sm ivb,rv⟩
def sForI(mi:MI)(tg:MG)(body:MS):MS:=λE=>match mi E with
 | .z=>.z| .exc x E1=>.exc x E1| .ok (ds,E1)=>JN tg body ds E1
def zE1{mi:MI}{tg:MG}{g:TG}{body:MS}{D:Ends}(hg:GOk X g tg)(h:tS X (sForI mi tg body) D O H):tFor (tMI X mi) g (tS X body) D O H:=by
 obtain⟨M,E,hl,fr,k⟩:=Qw h;unfold sForI at k;refine⟨M,E,hl,fr,?_⟩;cases ei:mi E with
 |z=>rw[ei]at k;exact k|exc x E1=>rw[ei]at k;exact λH' g=>k O H' g
 |ok p =>
  obtain⟨ds,E1⟩:=p;rw[ei]at k;intro J Iv H1 it iv g1;refine⟨λi m O1 H2=>m=ds.length-i/\i<=ds.length/\∃E2,Got X.K X.mg M O E H [] O1 E2 H2 []/\Iv (Hm (Mo M (O1.zip E2)) H2)/\Fin X M O E H D (JN tg body (ds.drop i) E2),⟨ds.length,by simp,zero_le _,E1,g1,iv,k⟩,?_⟩
  rintro i m O1 H2 ⟨rfl,hi,E2,g2,iv2,fin⟩
  by_cases hlt:i<ds.length
  ·refine .inr ⟨it.go i _ H2 zK iv2 hlt,λO3 H3=>i+1<=ds.length/\∃E3,Got X.K X.mg M O E H [] O3 E3 H3 []/\Iv (Hm (Mo M (O3.zip E3)) H3)/\Fin X M O E H D (JN tg body (ds.drop (i+1)) E3),λO3 H3 q=>⟨ds.length-(i+1),by omega,rfl,q⟩,λx H3 y=>?_⟩
   obtain⟨d,hd,g3,iv3,rx⟩:=zE0 it hlt g2 iv2 y;have ed:ds.drop i=d::ds.drop (i+1):=by
    obtain⟨hi',rfl⟩:=qG.mp hd;exact List.drop_eq_getElem_cons hi'
   rw[ed]at fin;exact vn hg g3 rx fin λO4 E4 H4 g4 st fin4=>⟨hlt,E4,g4,it.mono _ _ st.same iv3,fin4⟩
  ·have e:i=ds.length:=by omega
   subst e;rw[drop_length]at fin;exact .inl ⟨it.stop _ _ H2 zK iv2 (le_refl _),fin O1 H2 g2⟩
def sk_forI{tgt iter:Expr}{body:List Stmt}{mi:MI}{g:TG}{tg:MG}{mb:MS}{pos:Pos}(hp:PassesOwn (model X.prog X.w) X.A X.env X.xe)(hc:X.calm=true)(hi:IOk X tgt iter mi)(hg:PG X tgt g)(ho:GOk X g tg)(hb:QE X body mb)
  (hs:∀x,foldedSetIterable iter X.env x=pure x:=by intro _;rfl):SOk X (.For tgt iter body [] pos) (sForI mi tg mb):=yy (Qh hp hc hi hg hb hs) λD O H=>zE1 ho
end
end DV
namespace DV
open PySem L2 PySem.Spec PyProof.Rows
end DV
namespace DV
open PySem L2 PySem.Spec PyProof.Rows
open AutoSeq1 (wpAny_loadPart')
section
variable{prog:Program}{w:World}{A:Around}{E:Value->Shared->Prop}{s:Shared}
structure En(h h':Heap)(c:String)(l:Addr):Prop where
 e:IsEnum h' (h.objs.size+1) h.objs.size 0 .none
 i:h'.get? h.objs.size=some (itO c l)
 kp:∀b o,h.get? b=some o->h'.get? b=some o
end
end DV
namespace PySem
open Sem (wp)
open AutoSeq1 (wpAny_loadPart')
end PySem
namespace L2
open PySem PySem.Spec PyProof.Rows
end L2
namespace DV
open PySem L2
section
variable{X:Cx}{K:qH}{mg:Str->Option Value}{P P':Addr->Prop}{H:Hp}{a:Addr}{xs:List V}
def zCj(mi:MI)(tg:MG)(body:MS):MS:=λE=>match mi E with
 | .exc x E1=>.exc x E1
 |_=>(match sForI mi tg body E with
  | .exc _ _=>.z|o=>o)
def ps_forX{tg iter:Expr}{body:List Stmt}{wi:TI}{pos:Pos}(hi:PI X tg iter wi)(hs:∀x,foldedSetIterable iter X.env x=pure x):PS X (.For tg iter body [] pos) (λD O H=>wi O H λ_ _=>False):=by
 intro pins s O H D I h;refine wpAny_For (thn (hi pins s O H _ I h) λv s1 h1=>thn h1 λitv s2 h2=>?_) hs;obtain⟨it,fp,tn,J,H2,e,I2,T,st2,f2,f⟩:=h2;exact f.elim
end
end DV
namespace DV
open PySem L2 PyProof.Rows PySem.Calls
end DV
namespace DV
open PySem L2
end DV
namespace DV
open PySem PyProof.Rows
end DV
namespace DV
open PySem L2
section
variable{prog:Program}{w:World}{A:Around}{R:Result->Shared->Prop}{s:Shared}{elt t0 i0 t1 i1:Expr}{f0 f1:List Expr}{scope:Scope}{pos:Pos}{it acc:Value}{env:Env}
def start1(h0:codeAny (model prog w) A (.compLoop (.ListComp elt [⟨t0,i0,f0,0⟩,⟨t1,i1,f1,0⟩] scope pos) 1 it acc env) R s)
  (h:wpAny (model prog w) A (pyIter it) (λit' s'=>codeAny (model prog w) A (.compLoop (.ListComp elt [⟨t0,i0,f0,0⟩,⟨t1,i1,f1,0⟩] scope pos) 1 it' acc env) R s') (notedBy (model prog w) A env λx s'=>R (.error x) s') s) :
  codeAny (model prog w) A (.compStart (.ListComp elt [⟨t0,i0,f0,0⟩,⟨t1,i1,f1,0⟩] scope pos) 1 it acc env) R s:=by
 refine codeAny_of_tree (wpAny_notedAt ?_);refine qB (wpAny_askSetting (wpAny_ite ?_));split
 ·exact qB (qC (qC ⟨rfl,h0⟩))
 ·exact qB (wpAny_rule (qB (wpAny_standAt (qB (wpAny_mono h (λit' s' h'=>qC ⟨rfl,h'⟩) λx x_1 x_2=>x_2)))))
def turn2_0:compTurn (.ListComp elt [⟨t0,i0,f0,0⟩,⟨t1,i1,f1,0⟩] scope pos) 0 it acc env=(do
  standAt i0.pos
  let r <- pyNext it
  match r with
  |none=>pure (.done .next)
  |some v=>do
   letOwnedTupleGo t0 it v
   assign t0 env v
   let ok <- forIn f0 true λc r=>if r=true then do let ok <- isTrue c env (eval c env);pure (ForInStep.yield ok)else pure (ForInStep.yield r)
   if ok=true then do
    let x <- eval i1 env
    standAt i1.pos
    let x <- foldedSetIterable i1 env x
    let j <- holding [x] (pyIter x)
    let _ <- runOwn (.compStart (.ListComp elt [⟨t0,i0,f0,0⟩,⟨t1,i1,f1,0⟩] scope pos) 1 j acc env) env
    again (.compLoop (.ListComp elt [⟨t0,i0,f0,0⟩,⟨t1,i1,f1,0⟩] scope pos) 0 it acc env)
   else again (.compLoop (.ListComp elt [⟨t0,i0,f0,0⟩,⟨t1,i1,f1,0⟩] scope pos) 0 it acc env)):=rfl
def turn2_1:compTurn (.ListComp elt [⟨t0,i0,f0,0⟩,⟨t1,i1,f1,0⟩] scope pos) 1 it acc env=(do
  standAt i1.pos
  let r <- pyNext it
  match r with
  |none=>pure (.done .next)
  |some v=>do
   letOwnedTupleGo t1 it v
   assign t1 env v
   let ok <- forIn f1 true λc r=>if r=true then do let ok <- isTrue c env (eval c env);pure (ForInStep.yield ok)else pure (ForInStep.yield r)
   if ok=true then do
    (do let x <- eval elt env;let _ <- call (.builtin "list.append") [acc,x];pure ())
    again (.compLoop (.ListComp elt [⟨t0,i0,f0,0⟩,⟨t1,i1,f1,0⟩] scope pos) 1 it acc env)
   else again (.compLoop (.ListComp elt [⟨t0,i0,f0,0⟩,⟨t1,i1,f1,0⟩] scope pos) 1 it acc env)):=rfl
def loopG{gens:List Comprehension}{d:Nat}{p:Pos}{t:Expr}{fs:List Expr}{act:Sem PySem.Fin->Sem PySem.Fin}
  (hT:compTurn (.ListComp elt gens scope pos) d it acc env=(do
   standAt p
   let r <- pyNext it
   match r with
   |none=>pure (.done .next)
   |some v=>do
    letOwnedTupleGo t it v
    assign t env v
    let ok <- forIn fs true λc r=>if r=true then do let ok <- isTrue c env (eval c env);pure (ForInStep.yield ok)else pure (ForInStep.yield r)
    if ok=true then act (again (.compLoop (.ListComp elt gens scope pos) d it acc env))else again (.compLoop (.ListComp elt gens scope pos) d it acc env)))
  (I:Nat->Shared->Prop)
  (turn:∀n s,I n s->wpAny (model prog w) A (pyNext it) (λr s₁=>match r with
   |none=>R (.ok .next) s₁
   |some v=>wpAny (model prog w) A (letOwnedTupleGo t it v) (λ_ s₁=>wpAny (model prog w) A (assign t env v) (λ_ s₂ =>
     wpAny (model prog w) A (forIn fs true λc r=>if r=true then do let ok <- isTrue c env (eval c env);pure (ForInStep.yield ok)else pure (ForInStep.yield r)) (λok s₃ =>
      if ok=true then ∀(k:Sem PySem.Fin) (Q:PySem.Fin->Shared->Prop),(∀s',(∃m,m<n/\I m s')->wpAny (model prog w) A k Q (notedBy (model prog w) A env λe s'=>R (.error e) s') s')->wpAny (model prog w) A (act k) Q (notedBy (model prog w) A env λe s'=>R (.error e) s') s₃
      else ∃m,m<n/\I m s₃) (notedBy (model prog w) A env λe s'=>R (.error e) s') s₂) (notedBy (model prog w) A env λe s'=>R (.error e) s') s₁) (notedBy (model prog w) A env λe s'=>R (.error e) s') s₁) (notedBy (model prog w) A env λe s'=>R (.error e) s') s)
  (n:Nat) (h:I n s):codeAny (model prog w) A (.compLoop (.ListComp elt gens scope pos) d it acc env) R s:=by
 refine codeAny_loop rfl I (λn s hI=>?_) n h;show wpAny _ A ((compTurn (.ListComp elt gens scope pos) d it acc env).onRaise (λx=>do noteFrame x env;theTreesLotGoes x)) _ _ s;refine wpAny_noted ?_;rw[hT];refine qB (wpAny_standAt (qB (wpAny_mono (turn n s hI) (λr s₁ h₁=>?_) λ_ _ h'=>h')));cases r with
 |none=>exact qC h₁
 |some v =>
  refine qB (wpAny_mono h₁ (λ_ s₁' h₁'=>?_) λ_ _ h'=>h');refine qB (wpAny_mono h₁' (λ_ s₂ h₂=>qB (wpAny_mono h₂ (λok s₃ h₃=>?_) λ_ _ h'=>h')) λ_ _ h'=>h');cases ok with
  |false=>exact qC ⟨rfl,h₃⟩|true=>exact h₃ _ _ λs' q=>qC ⟨rfl,q⟩
end
abbrev TA:=Addr->St->Hp->(St->Hp->Prop)->Prop
def PA(Y:Cx)(act:Value->Env->Sem PySem.Fin->Sem PySem.Fin)(ta:TA):Prop:=∀(D:Addr) (pins:List (Addr×Obj)) (s:Shared) (O:St) (H:Hp) (Nx:St->Hp->Prop) (k:Sem PySem.Fin) (Q:PySem.Fin->Shared->Prop) (E:Value->Shared->Prop),Inv Y pins O H s->ta D O H Nx ->
 (∀O' H' s',Inv Y pins O' H' s'->Nx O' H'->wpAny (model Y.prog Y.w) Y.A k Q E s')->wpAny (model Y.prog Y.w) Y.A (act (.ref D) Y.env k) Q E s
def act1(elt:Expr):Value->Env->Sem PySem.Fin->Sem PySem.Fin:=λacc env k=>do
 (do let x <- eval elt env;let _ <- call (.builtin "list.append") [acc,x];pure ())
 k
def act2(elt t0 i0:Expr)(f0:List Expr)(t1 i1:Expr)(f1:List Expr)(scope:Scope)(pos:Pos):Value->Env->Sem PySem.Fin->Sem PySem.Fin:=λacc env k=>do
 let x <- eval i1 env
 standAt i1.pos
 let x <- foldedSetIterable i1 env x
 let j <- holding [x] (pyIter x)
 let _ <- runOwn (.compStart (.ListComp elt [⟨t0,i0,f0,0⟩,⟨t1,i1,f1,0⟩] scope pos) 1 j acc env) env
 k
def ta1(te:TE):TA:=λD O H Nx=>te O H λy H4=>∃ys,H4 D=some (.l ys)/\ys.length<sizeLine/\Nx O (upd H4 D (.l (ys++[y])))
def taL(wi:TI)(g:TG)(tt:TT)(ta:TA):TA:=λD O H Nx=>wi O H λJ H1=>∃W:Nat->Nat->St->Hp->Prop,(∃m,W 0 m O H1)/\∀i m O' H',W i m O' H' ->
 (J.stop i H'/\Nx O' H')\/(J.go i H'/\∃N2:St->Hp->Prop,(∀O'' H'',N2 O'' H''->∃m',m'<m/\W (i+1) m' O'' H'')/\∀x H'',J.yld i H' x H''->g x O' H'' λO2 H2 =>
  tt O2 H2 λb H3=>if b=true then ta D O2 H3 N2 else N2 O2 H3)
def zAC(nl:Nat)(caps:List Nat)(wi:TI)(g:TG)(tt:TT)(ta:TA):TE:=λO H Q=>wi O H λJ H1=>∀D,H1 D=none->∃W:Nat->Nat->St->Hp->Prop,(∃m,W 0 m (L2.za nl caps O) (upd H1 D (.l [])))/\∀i m O' H',W i m O' H' ->
 (J.stop i H'/\Q (.ref D) H')\/(J.go i H'/\∃Nx:St->Hp->Prop,(∀O'' H'',Nx O'' H''->∃m',m'<m/\W (i+1) m' O'' H'')/\∀x H'',J.yld i H' x H''->g x O' H'' λO2 H2 =>
  tt O2 H2 λb H3=>if b=true then ta D O2 H3 Nx else Nx O2 H3)
def zGA{Y:Cx}{elt:Expr}{te:TE}(hx:∀e s,¬Y.xe e s)(he:PE Y elt te):PA Y (act1 elt) (ta1 te):=λD pins s O H Nx k Q E I h hk=>by
 unfold act1;refine qB (qB (wpAny_mono (he pins s O H _ I h) (λy s10 h10=>?_) λ_ _ z=>absurd z (hx _ _)));obtain⟨vy,H10,I10,r10,ys,hy,hz,n10⟩:=h10;have ap:=Z6 (X:=Y) _ s10 O H10 (.ref D) [vy] (.ref D) [y] (λv H'=>Nx O H') I10 rfl (.cons r10 .nil) ⟨_,ys,vy,rfl,rfl,hy,hz,n10⟩;refine qB (wpAny_mono ap (λ_ s11 h11=>?_) λ_ _ z=>absurd z (hx _ _));obtain⟨v11,H11,I11,_,n11⟩:=h11;exact qC (hk O H11 s11 I11 n11)
def zCk{Y:Cx}{elt t0 i0 t1 i1:Expr}{f0 f1:List Expr}{scope:Scope}{pos:Pos}{wi:TI}{g:TG}{tt:TT}{ta:TA}(hx:∀e s,¬Y.xe e s)(hc:Y.calm=true)(hi:PI Y t1 i1 wi)(hg:PG Y t1 g)(ht:zBJ Y f1 tt)(he:PA Y (act1 elt) ta)
  (hs:∀x,foldedSetIterable i1 Y.env x=pure x):PA Y (act2 elt t0 i0 f0 t1 i1 f1 scope pos) (taL wi g tt ta):=λD pins s O H Nx k Q E I h hk=>by
 unfold act2;refine qB (wpAny_mono (hi pins s O H _ I h) (λxv s1 h1=>qB (wpAny_standAt ?_)) λ_ _ z=>absurd z (hx _ _));rw[hs];refine qB (qC (qB (wpAny_holding (wpAny_mono h1 (λitv s2 h2=>qB ?_) λ_ _ z=>absurd z (hx _ _)))));obtain⟨it,fp,tn,J,H2,e,I2,T,st2,f2,W,⟨m0,w0⟩,step⟩:=h2;subst e;have fpY:∀{H':Hp},(∀b∈fp,H' b=none)->∀b∈fp,G3 Y pins H' b:=λhn b hb=>⟨hn b hb,(f2 b hb).2⟩
 have fin:∀R:Result->Shared->Prop,(∀O' H' s',Inv Y pins O' H' s'->Nx O' H'->R (.ok .next) s')->codeAny (model Y.prog Y.w) Y.A (.compLoop (.ListComp elt [⟨t0,i0,f0,0⟩,⟨t1,i1,f1,0⟩] scope pos) 1 (.ref it) (.ref D) Y.env) R s2:=by
  intro R hR;refine loopG (act:=act1 elt (.ref D) Y.env) turn2_1 (λn s'=>∃i O' H',Inv Y pins O' H' s'/\tn i s'.heap/\(∀b∈fp,H' b=none)/\W i n O' H') ?_ m0 ⟨0,O,H2,I2,st2,λb hb=>(f2 b hb).1,w0⟩
  rintro n s5 ⟨i,O5,H5,I5,st5,fr5,w5⟩
  rcases step i n O5 H5 w5 with⟨stop,q⟩|⟨go,N2,hN,turn⟩
  ·refine wpAny_mono (T.done Y rfl rfl rfl hc i pins s5 O5 H5 (λ_ _=>False) I5 (fpY fr5) st5 stop) (λr s6 h6=>?_) (λ_ _ z=>z.elim)
   obtain⟨hr,I6⟩:=h6;subst hr;exact hR O5 H5 s6 I6 q
  ·refine wpAny_mono (T.item Y rfl rfl rfl hc i pins s5 O5 H5 (λ_ _=>False) I5 (fpY fr5) st5 go) (λr s6 h6=>?_) (λ_ _ z=>z.elim)
   obtain⟨u,hr,h6⟩:=h6;subst hr;refine wpAny_mono h6 (λ_ s7 h7=>?_) (λ_ _ z=>z.elim);obtain⟨x,H7,I7,r7,y7,st7,fr7⟩:=h7;have I7':=I7.pinned (fpY fr7) (T.obj _ _ st7);refine wpAny_mono (hg _ s7 O5 H7 x u _ I7' r7 (turn x H7 y7)) (λ_ s8 h8=>?_) (λ_ _ z=>absurd z (hx _ _));obtain⟨O8,H8,I8,q8⟩:=h8;refine wpAny_mono (ht _ s8 O8 H8 _ I8 q8) (λb s9 h9=>?_) (λ_ _ z=>absurd z (hx _ _));obtain⟨H9,I9,q9⟩:=h9;have again:∀{O7:St} {H':Hp} {s':Shared},Inv Y (pins++Z3 fp s7.heap) O7 H' s'->N2 O7 H'->∃m,m<n/\∃i O' H',Inv Y pins O' H' s'/\tn i s'.heap/\(∀b∈fp,H' b=none)/\W i m O' H':=λ{O7 H' s'} I' n7=>by
    obtain⟨m',hm,w7⟩:=hN O7 H' n7;refine⟨m',hm,i+1,O7,H',I'.unpinned,T.keep _ _ _ st7 λb hb o e=>(I'.pin (b,o) (qK _ (qK _ (yx hb e)))).1,λb hb=>?_,w7⟩;obtain⟨o,e,d⟩:=T.obj _ _ st7 b hb;exact(I'.pin (b,o) (qK _ (qK _ (yx hb e)))).2.1
   cases b with
   |false =>
    rw[if_neg qF]at q9 ⊢;exact again I9 q9
   |true =>
    rw[if_pos rfl]at q9 ⊢;exact λk Qk hk=>he D _ s9 O8 H9 N2 k Qk _ I9 q9 λO' H' s' I' n'=>hk s' (again I' n')
 have go:∀R:Result->Shared->Prop,(∀O' H' s',Inv Y pins O' H' s'->Nx O' H'->R (.ok .next) s')->codeAny (model Y.prog Y.w) Y.A (.compStart (.ListComp elt [⟨t0,i0,f0,0⟩,⟨t1,i1,f1,0⟩] scope pos) 1 (.ref it) (.ref D) Y.env) R s2:=λR hR=>start1 (fin R hR) (T.self Y.A 0 _ _ _ st2 (fin R hR))
 exact wpAny_runOwn (go _ λO' H' s' I' n'=>hk O' H' s' I' n')
section
variable{X:Cx}{elt target iter:Expr}{ifs:List Expr}{scope:Scope}{pos:Pos}{nl:Nat}{caps:List Nat}{N':List Str}
def vR{wi:TI}{g:TG}{tt:TT}{ta:TA}{t1 i1:Expr}{f1:List Expr}{use:Option (Value->Sem Unit)}{QQ:Value->Shared->Prop}{pins:List (Addr×Obj)}{s:Shared}{O:St}{H:Hp}{Q:VK}{p0:Pos}(hx:∀e s,¬X.xe e s)(hc:X.calm=true)(hkind:scope.kind=.function)(hnames:∀y∈scope.names,y.2=.local->scope.names.lookup y.1=some .local)(hcell:∀y∈scope.names,y.2=.cell->scope.names.lookup y.1=some .cell)
  (hfree:(scope.names.all λy=>y.2 != .free||X.env.kindOf y.1==some .cell)=true)
  (hlen:N'.length=nl+caps.length) (hcap:∀(i j:Nat),caps[i]?=some j->∃x,N'[nl+i]?=some x/\X.N[j]?=some x/\scope.names.lookup x=some .free)
  (hi:PI X target iter wi) (hg:∀cl C ex s H,PG (cxB X N' scope cl C ex s H) target g) (ht:∀cl C ex s H,zBJ (cxB X N' scope cl C ex s H) ifs tt) (he:∀cl C ex s H,PA (cxB X N' scope cl C ex s H) (act2 elt target iter ifs t1 i1 f1 scope pos) ta)
  (hs:∀x,foldedSetIterable iter X.env x=pure x) (I:Inv X pins O H s) (h:zAC nl caps wi g tt ta O H Q)
  (hfin:∀(D C:Addr) (H5:Hp) (s6:Shared) (m6:Str->Option Value),Inv X pins O H5 s6->G3 X pins H5 C->s6.heap.Ns C m6->Q (.ref D) H5->compPost (model X.prog X.w) X.A X.xe use QQ (.ref D) C (.ok .next) s6) :
  wpAny (model X.prog X.w) X.A (comprehension (.ListComp elt [⟨target,iter,ifs,0⟩,⟨t1,i1,f1,0⟩] scope pos) scope X.env p0 (newList []) false (eval iter X.env) use) QQ X.xe s:=by
 have hfr:∀y∈scope.names,y.2=.free->X.env.kindOf y.1=some .cell:=λy hy e=>by
  have:=all_eq_true.mp hfree y hy;rw[e]at this;simpa using this
 have hcl:∀y∈scope.names,y.2=.free->∃c,X.env.cells.lookup y.1=some c:=λy hy e=>I.ok.has y.1 (.inl (hfr y hy e))
 have hclos:closureFor scope X.env=pure (Gw X.env scope.names []):=by
  simp only[closureFor];rw[Jq scope.names [] hcl];rfl
 have cl1:∀x c,(Gw X.env scope.names []).lookup x=some c->X.env.cells.lookup x=some c:=λx c e=>(jT scope.names [] x hcl (λ_ z=>by cases z)).1 c e
 have cl2:∀x,(∃y∈scope.names,y.1=x/\y.2=.free)->∃c,(Gw X.env scope.names []).lookup x=some c:=λx q=>(jT scope.names [] x hcl (λ_ z=>by cases z)).2 (.inr q)
 generalize Gw X.env scope.names []=cl at hclos cl1 cl2;refine wpAny_comprehension_free (use:=use) rfl hs hclos hkind hnames (thn (hi pins s O H _ I h) λxv s1 h1=>thn h1 λitv s2 h2=>?_);obtain⟨it,fp,tn,J,H2,e,I2,T,st2,f2,turn⟩:=h2;subst e;refine wpAny_newObj_type (JH ?_) (by show(#[]:Array Value).size<=sizeLine;simp);dsimp only;generalize hH3:s2.heap.push {cls:=.type "list",dict:=none,data:=.seq ([]:List Value).toArray}=h3;have hC:h3.objs.size=s2.heap.objs.size+1:=by rw[<- hH3,size_push]
 have hD:H2 s2.heap.objs.size=none:=I2.hok.fresh (le_refl _);obtain⟨W,⟨m0,w0⟩,step⟩:=turn s2.heap.objs.size hD
 -- the state at the block's entry
 have I3:Inv X pins O (upd H2 s2.heap.objs.size (.l [])) {s2 with heap:=h3}:=by
  rw[<- hH3];exact I2.laid (t':=s2.toks) (λb o q=>qA _ q) (le_refl _) ⟨zero_le _,[],0,.nil,get?_push_size _ rfl⟩
 have hcfr:∀x,scope.names.lookup x=some .free->(x,NameKind.cell)∉scope.names:=λx e z=>by
  have:=hcell _ z rfl;rw[e]at this;cases this
 have szp:(h3.push {cls:=.type "dict",data:=.dict #[]}).objs.size=h3.objs.size+1:=size_push ..;have cw:∀x c,(cellsFrom (h3.objs.size+1) scope.names cl).lookup x=some c->cl.lookup x=some c\/((x,NameKind.cell)∈scope.names/\h3.objs.size+1<=c/\(pushCells (h3.push {cls:=.type "dict",data:=.dict #[]}) scope.names).IsCell c none):=λx c e=>by
  rw[<- szp]at e ⊢;exact Yu _ _ _ x c e
 have cfr:∀x,scope.names.lookup x=some .free->(cellsFrom (h3.objs.size+1) scope.names cl).lookup x=cl.lookup x:=λx e=>WK _ _ _ x (hcfr x e)
 have chas:∀x,scope.names.lookup x=some .cell->∃c,(cellsFrom (h3.objs.size+1) scope.names cl).lookup x=some c:=λx e=>by
  have:=cellsFrom_some scope.names (h3.objs.size+1) cl (x:=x) (.inl e);exact Option.isSome_iff_exists.mp this
 have clt:∀x c,cl.lookup x=some c->c<h3.objs.size:=λx c e=>by
  obtain⟨v,q⟩:=I3.cell x c (cl1 x c e);exact q.lt
 have cinj:=Qz scope.names (h3.objs.size+1) cl (λx y c e1 e2=>I.ok.inj x y c (cl1 x c e1) (cl1 y c e2)) λx c e=>lt_succ_of_lt (clt x c e)
 have hns₁:(pushCells (h3.push {cls:=.type "dict",data:=.dict #[]}) scope.names).Ns h3.objs.size λ_=>none:=(Heap.Ns.new h3 (.type "dict")).keeps (pushCells_keeps _ _)
 have old:∀b o,h3.get? b=some o->(pushCells (h3.push {cls:=.type "dict",data:=.dict #[]}) scope.names).get? b=some o:=λb o e=>pushCells_keeps _ _ b o (qA _ e)
 generalize hh1:pushCells (h3.push {cls:=.type "dict",data:=.dict #[]}) scope.names=h₁ at hns₁ old cw ⊢;generalize hcs:cellsFrom (h3.objs.size+1) scope.names cl=cs at cw cfr chas cinj ⊢;have fpD:∀b∈fp,b≠s2.heap.objs.size:=λb hb z=>by
  obtain⟨o,e,_⟩:=T.obj 0 s2.heap st2 b hb;subst z;exact absurd (lt_size e) (lt_irrefl _)
 have fp3:∀b∈fp,upd H2 s2.heap.objs.size (.l []) b=none:=λb hb=>by rw[zG (fpD b hb)];exact(f2 b hb).1
 have fpC:∀b∈fp,b≠h3.objs.size:=λb hb z=>by
  obtain⟨o,e,_⟩:=T.obj 0 s2.heap st2 b hb;have q:b<s2.heap.objs.size:=lt_size e;rw[z,hC]at q;exact absurd q (not_lt.mpr (le_succ _))
 have hCn:upd H2 s2.heap.objs.size (.l []) h3.objs.size=none:=I3.hok.fresh (le_refl _);have fpok:∀b∈fp,(b∈X.ex\/X.s₀.heap.objs.size<=b)/\b≠X.env.locals/\(∀x c,X.env.cells.lookup x=some c->c≠b)/\∀p∈X.pn++pins,p.1≠b:=λb hb=>by
  obtain⟨_,q2,_,q4,q5,q6⟩:=f2 b hb;exact⟨q4,q2,q5,q6⟩
 have fpH:∀b∈fp,b<h3.objs.size:=λb hb=>by
  obtain⟨o,e,_⟩:=T.obj 0 s2.heap st2 b hb;have q:b<s2.heap.objs.size:=lt_size e;rw[hC];exact lt_succ_of_lt q
 have fpcs:∀b∈fp,∀x c,cs.lookup x=some c->c≠b:=λb hb x c e=>by
  rcases cw x c e with q|⟨_,q,_⟩
  ·exact(fpok b hb).2.2.1 x c (cl1 x c q)
  ·intro z;subst z
   exact absurd (lt_of_lt_of_le (fpH _ hb) (Nat.le_of_succ_le q)) (lt_irrefl _)
 let Y:Cx:=cxB X N' scope cs h3.objs.size fp {s2 with heap:=h3} (upd H2 s2.heap.objs.size (.l []))
 have kindY:∀x k,Y.env.kindOf x=some k->∃k0,scope.names.lookup x=some k0/\(k=k0\/(k0=.free/\k=.cell)):=λx k e=>wU e
 have okY:Y.Ok:={
  mod:=I.ok.mod
  kind:=hkind
  glob:=I.ok.glob
  blt:=I.ok.blt
  above:=le_refl _
  inj:=cinj
  has:=λx q=>by
   have:scope.names.lookup x=some .cell\/scope.names.lookup x=some .free:=by
    rcases q with q|q
    ·obtain⟨k0,e,z⟩:=kindY x _ q
     rcases z with z|z
     ·subst z;exact .inl e
     ·rw[z.1]at e;exact .inr e
    ·obtain⟨k0,e,z⟩:=kindY x _ q
     rcases z with z|z
     ·subst z;exact .inr e
     ·rw[z.1]at e;exact .inr e
   rcases this with q|q
   ·exact chas x q
   ·obtain⟨c,e⟩:=cl2 x ⟨(x,.free),PySem.mem_of_lookup q,rfl,rfl⟩
    exact⟨c,by show cs.lookup x=_;rw[cfr x q];exact e⟩
  cab:=λx c z e=>by
   have z:scope.names.lookup x=some .cell:=by
    have z:(scope.names.lookup x==some NameKind.cell)=true:=z;simpa using z
   have e:cs.lookup x=some c:=e;rw[<- hcs]at e;exact le_trans (le_succ _) (Qy _ _ _ x c (PySem.mem_of_lookup z) e)
  hd:=I.ok.hd
  frames:=I.ok.frames
  stk:=.inl rfl
  exf:=λb hb=>⟨fpC b hb,fpcs b hb⟩
  bs:=λb o e=>I3.bs b o e
  bsz:=le_trans I.ok.bsz I3.sz
  noex:=λb o e hb=>by
   obtain⟨q,_⟩:=fpok b hb;rcases q with q|q
   ·exact I.ok.noex b o e q
   ·exact absurd (lt_of_lt_of_le (lt_size e) I.ok.bsz) (not_lt.mpr q)
  exfs:=λb hb z=>by
   have:=I2.stkSub b z;rcases mem_cons.mp this with q|q
   ·exact(fpok b hb).2.1 q
   ·exact(f2 b hb).2.2.1 q
  funs:=I3.stack
  frf:=I3.stkFree}
 have keep1:∀b o,h3.get? b=some o->h₁.get? b=some o:=old;have lenY:(L2.za nl caps O).length=N'.length:=by unfold L2.za;simp[hlen]
 have IY:Inv Y [] (L2.za nl caps O) (upd H2 s2.heap.objs.size (.l [])) {s2 with heap:=h₁}:={
  ok:=okY
  os:=rfl
  bare:=I3.bare
  base:=Un.kept keep1
  loc:=by
   refine⟨_,hns₁,λi x v e1 e2 e3=>?_⟩;have e1:N'[i]?=some x:=e1;have hi:nl<=i:=by
    by_cases z:nl<=i
    ·exact z
    ·unfold L2.za at e2
     rw[getElem?_append_left (by simp;omega),List.getElem?_replicate]at e2;split at e2<;>cases e2
   unfold L2.za at e2;rw[getElem?_append_right (by simpa using hi),length_replicate,getElem?_map]at e2;cases ej:caps[i-nl]? with
   |none=>rw[ej]at e2;cases e2
   |some j =>
    rw[ej]at e2;simp only[Option.map_some,Option.some.injEq]at e2;obtain⟨x',c1,c2,c3⟩:=hcap (i-nl) j ej;have ex:x'=x:=by
     rw[show nl+(i-nl)=i by omega,e1]at c1;exact(qJ c1).symm
    subst ex;have e4:O[j]?=some (some v):=by
     cases z:O[j]? with
     |none=>rw[z]at e2;cases e2|some o=>rw[z]at e2;simp at e2;rw[e2]
    have kx:X.env.kindOf x'=some .cell:=hfr (x',.free) (PySem.mem_of_lookup c3) rfl;obtain⟨mm,_,lk⟩:=I3.loc;obtain⟨u,ru,lu⟩:=lk j x' v c2 e4 (.inr (.inl kx));refine⟨u,ru,?_⟩;rcases lu with⟨z,_⟩|⟨_,c,d1,d2⟩
    ·rw[kx]at z;cases z
    ·obtain⟨c',d3⟩:=cl2 x' ⟨(x',.free),PySem.mem_of_lookup c3,rfl,rfl⟩
     have:c'=c:=by have:=cl1 x' c' d3;rw[d1]at this;exact(qJ this).symm
     subst this;exact .inr ⟨.inl (JQ c3 I.ok.kind kx),c',by show cs.lookup _=_;rw[cfr x' c3];exact d3,d2.keeps old⟩
  cell:=λx c e=>by
   rcases cw x c e with e|⟨_,_,q⟩
   ·obtain⟨v,q⟩:=I3.cell x c (cl1 x c e)
    exact⟨v,q.keeps old⟩
   ·exact⟨_,q⟩
  free:=hCn
  freeC:=λx c e=>by
   rcases cw x c e with e|⟨_,q,_⟩
   ·exact I3.freeC x c (cl1 x c e)
   ·exact I3.hok.fresh (le_trans (le_succ _) q)
  pin:=λp hp=>absurd (show p∈([]:List (Addr×Obj))from hp) (by simp)
  hok:=I3.hok.kept old
  len:=lenY}
 have st1:tn 0 h₁:=T.keep 0 s2.heap h₁ st2 λb hb o e=>old b o (by rw[<- hH3];exact qA _ e)
 have fpY:∀{H':Hp},(∀b∈fp,H' b=none)->∀b∈fp,G3 Y [] H' b:=λhn b hb =>
  ⟨hn b hb,fpC b hb,okY.exfs b hb,.inl hb,fpcs b hb,λp hp=>absurd (show p∈([]:List (Addr×Obj))from hp) (by simp)⟩
 have hA:Y.A=X.A:=rfl;have noE:∀{E':Value->Shared->Prop} {e:Value} {s:Shared},X.xe e s->E' e s:=λq=>absurd q (hx _ _)
 have fin:∀s₄:Shared,s₄={s2 with heap:=h₁} ->
   codeAny (model X.prog X.w) X.A (.compLoop (.ListComp elt [⟨target,iter,ifs,0⟩,⟨t1,i1,f1,0⟩] scope pos) 0 (.ref it) (.ref s2.heap.objs.size) Y.env)
    (compPost (model X.prog X.w) X.A X.xe use QQ (.ref s2.heap.objs.size) h3.objs.size) s₄:=by
  rintro s₄ rfl
  refine loopG (act:=act2 elt target iter ifs t1 i1 f1 scope pos (.ref s2.heap.objs.size) Y.env) turn2_0 (λn s'=>∃i O' H',Inv Y [] O' H' s'/\tn i s'.heap/\(∀b∈fp,H' b=none)/\W i n O' H') ?_ m0 ⟨0,L2.za nl caps O,_,IY,st1,fp3,w0⟩
  rintro n s5 ⟨i,O5,H5,I5,st5,fr5,w5⟩
  rcases step i n O5 H5 w5 with⟨stop,q⟩|⟨go,Nx,hN,turn⟩
  ·refine wpAny_mono (T.done Y rfl rfl rfl hc i [] s5 O5 H5 (λ_ _=>False) I5 (fpY fr5) st5 stop) (λr s6 ⟨hr,I6⟩=>?_) (λ_ _ z=>z.elim)
   subst hr;obtain⟨m6,n6,_⟩:=I6.loc;have u:Un (frs X.stack) fp (upd H2 s2.heap.objs.size (.l [])) H5 h3 s6.heap:=I6.base;have I7:Inv X pins O H5 s6:=I3.call' (s':=s6) (ch:=fp) I6.os u I6.hok I6.bare fpok;exact hfin _ _ H5 s6 m6 I7 (I3.fpOk (le_refl _) I6.free) n6 q
  ·refine wpAny_mono (T.item Y rfl rfl rfl hc i [] s5 O5 H5 (λ_ _=>False) I5 (fpY fr5) st5 go) (λr s6 ⟨u,hr,h6⟩=>?_) (λ_ _ z=>z.elim)
   subst hr;refine wpAny_mono h6 (λ_ s7 ⟨x,H7,I7,r7,y7,st7,fr7⟩=>?_) (λ_ _ z=>z.elim);have I7':=I7.pinned (fpY fr7) (T.obj _ _ st7);refine wpAny_mono (hg _ _ _ _ _ _ s7 O5 H7 x u _ I7' r7 (turn x H7 y7)) (λ_ s8 ⟨O8,H8,I8,q8⟩=>?_) (λ_ _ z=>noE z);refine wpAny_mono (ht _ _ _ _ _ _ s8 O8 H8 _ I8 q8) (λb s9 ⟨H9,I9,q9⟩=>?_) (λ_ _ z=>noE z);have again:∀{O7:St} {H':Hp} {s':Shared},Inv Y ([]++Z3 fp s7.heap) O7 H' s'->Nx O7 H'->∃m,m<n/\∃i O' H',Inv Y [] O' H' s'/\tn i s'.heap/\(∀b∈fp,H' b=none)/\W i m O' H':=λ{O7 H' s'} I' n7=>by
    obtain⟨m',hm,w7⟩:=hN O7 H' n7;refine⟨m',hm,i+1,O7,H',I'.unpinned,T.keep _ _ _ st7 λb hb o e=>(I'.pin (b,o) (qK _ (qK _ (yx hb e)))).1,λb hb=>?_,w7⟩;obtain⟨o,e,d⟩:=T.obj _ _ st7 b hb;exact(I'.pin (b,o) (qK _ (qK _ (yx hb e)))).2.1
   cases b with
   |false =>
    rw[if_neg qF]at q9 ⊢;exact again I9 q9
   |true =>
    rw[if_pos rfl]at q9 ⊢;exact λk Qk hk=>he _ _ _ _ _ _ _ s9 O8 H9 Nx k Qk _ I9 q9 λO' H' s' I' n'=>hk s' (again I' n')
 exact codeAny_compStart_list (fin _ rfl) (T.self X.A 0 _ _ _ st1 (fin _ rfl))
def zE2{wi:TI}{g:TG}{tt:TT}{ta:TA}{t1 i1:Expr}{f1:List Expr}(hx:∀e s,¬X.xe e s)(hc:X.calm=true)(hkind:scope.kind=.function)(hnames:∀y∈scope.names,y.2=.local->scope.names.lookup y.1=some .local)(hcell:∀y∈scope.names,y.2=.cell->scope.names.lookup y.1=some .cell)
  (hfree:(scope.names.all λy=>y.2 != .free||X.env.kindOf y.1==some .cell)=true)
  (hlen:N'.length=nl+caps.length) (hcap:∀(i j:Nat),caps[i]?=some j->∃x,N'[nl+i]?=some x/\X.N[j]?=some x/\scope.names.lookup x=some .free)
  (hi:PI X target iter wi) (hg:∀cl C ex s H,PG (cxB X N' scope cl C ex s H) target g) (ht:∀cl C ex s H,zBJ (cxB X N' scope cl C ex s H) ifs tt) (he:∀cl C ex s H,PA (cxB X N' scope cl C ex s H) (act2 elt target iter ifs t1 i1 f1 scope pos) ta)
  (hs:∀x,foldedSetIterable iter X.env x=pure x:=by intro _;rfl):PE X (.ListComp elt [⟨target,iter,ifs,0⟩,⟨t1,i1,f1,0⟩] scope pos) (zAC nl caps wi g tt ta):=by
 intro pins s O H Q I h;rw[eval_ListComp];refine vR (use:=none) hx hc hkind hnames hcell hfree hlen hcap hi hg ht he hs I h λD C H5 s6 m6 I7 f n6 q=>?_
 refine⟨m6,n6,λh' hs'=>?_⟩;obtain⟨f1,f2,f3,f4,f5,f6⟩:=f;exact⟨.ref D,H5,I7.turned (it:=C) (t':=s6.toks) (λb o hb e=>hs'.extBut b o hb e) f1 (λz=>f2 z) f4 f5 f6,rfl,q⟩
def zE3{i:Nat}{y:Str}{py spos:Pos}{wi:TI}{g:TG}{tt:TT}{ta:TA}{t1 i1:Expr}{f1:List Expr}(hN:X.N.Nodup)(hi':X.N[i]?=some y)(hy:Loc X.env.scope y)(hf:X.fn y=true\/X.env.scope.names.lookup y=some .local)(hx:∀e s,¬X.xe e s)(hc:X.calm=true)(hkind:scope.kind=.function)(hnames:∀y∈scope.names,y.2=.local->scope.names.lookup y.1=some .local)(hcell:∀y∈scope.names,y.2=.cell->scope.names.lookup y.1=some .cell)
  (hfree:(scope.names.all λy=>y.2 != .free||X.env.kindOf y.1==some .cell)=true)
  (hlen:N'.length=nl+caps.length) (hcap:∀(i j:Nat),caps[i]?=some j->∃x,N'[nl+i]?=some x/\X.N[j]?=some x/\scope.names.lookup x=some .free)
  (hi:PI X target iter wi) (hg:∀cl C ex s H,PG (cxB X N' scope cl C ex s H) target g) (ht:∀cl C ex s H,zBJ (cxB X N' scope cl C ex s H) ifs tt) (he:∀cl C ex s H,PA (cxB X N' scope cl C ex s H) (act2 elt target iter ifs t1 i1 f1 scope pos) ta)
  (hs:∀x,foldedSetIterable iter X.env x=pure x) (hsw:swapsWith (.ListComp elt [⟨target,iter,ifs,0⟩,⟨t1,i1,f1,0⟩] scope pos) (some (.Name y py)) spos.line X.env=pure true) :
  PS X (.Assign [.Name y py] (.ListComp elt [⟨target,iter,ifs,0⟩,⟨t1,i1,f1,0⟩] scope pos) spos) (tAsg (zAC nl caps wi g tt ta) (ud i)):=by
 intro pins s O H D I h;rw[exec_Assign_Name_used _ _ _ _ hsw];refine qB (wpAny_standAt (qB ?_));show wpAny _ X.A (do let _ <- comprehension (.ListComp elt [⟨target,iter,ifs,0⟩,⟨t1,i1,f1,0⟩] scope pos) scope X.env _ (newList []) false (eval iter X.env) (some (assign (.Name y py) X.env))) _ _ s;refine qB (wpAny_mono (vR (use:=some (assign (.Name y py) X.env)) (QQ:=λ_ s'=>SP X pins D .next s') hx hc hkind hnames hcell hfree hlen hcap hi hg ht he hs I h λDa C H5 s6 m6 I7 f n6 q=>?_) (λ_ s' hq=>qC (qC hq)) λ_ _ e=>e);obtain⟨f1,f2,f3,f4,f5,f6⟩:=f;show wpAny _ X.A (assign (.Name y py) X.env (.ref Da)) _ _ s6;refine wpAny_assign_Name (Zz I7 hN hi' hy (v:=.ref Da) rfl (λs7 I8 ⟨a,sb,ha⟩=>?_) hf);have hne:C≠a:=by
  rcases ha with ha|ha
  ·rw[ha];exact f2
  ·exact λz=>f5 y a ha z.symm
 refine⟨m6,n6.sameBut sb hne,λh' hs'=>?_⟩;exact⟨_,H5,I8.turned (it:=C) (t':=s7.toks) (λb o hb e=>hs'.extBut b o hb e) f1 (λz=>f2 z) f4 f5 f6,q⟩
end
section
variable{X:Cx}{K:qH}{mg:Str->Option Value}{O:St}{M:Addr->Prop}{E:zN}{H:Hp}{T0 Z T:Fz}
structure GA(K:qH)(mg:Str->Option Value)(M:Addr->Prop)(D:Addr)(O:St)(E:zN)(H:Hp)(acc:List DV.D)(O':St)(E':zN)(H':Hp)(acc':List DV.D):Prop where
 len:E'.length=O'.length
 fr:FR K mg M H' ((some (.ref D),.own acc')::O'.zip E')
 st:Step M H ((some (.ref D),.own acc)::O.zip E) H' ((some (.ref D),.own acc')::O'.zip E')
 pk:PKp O E O' E'
def GA.of{D:Addr}{acc:List DV.D}{O':St}{E':zN}{H':Hp}(g:Got K mg M O E H [(some (.ref D),.own acc)] O' E' H' []):GA K mg M D O E H acc O' E' H' acc:=⟨g.len,g.fr,g.st,g.pk⟩
theorem GA.trans{D:Addr}{acc acc1 acc2:List DV.D}{O1 O2:St}{E1 E2:zN}{H1 H2:Hp}(a:GA K mg M D O E H acc O1 E1 H1 acc1)(b:GA K mg M D O1 E1 H1 acc1 O2 E2 H2 acc2):GA K mg M D O E H acc O2 E2 H2 acc2:=⟨b.len,b.fr,a.st.trans b.st,a.pk.trans b.pk⟩
abbrev MC:=zN->List D->Out (List D×zN)
def zCl(K:qH)(mg:Str->Option Value)(ma:MC)(ta:TA):Prop:=∀(M:Addr->Prop) (D:Addr) (O:St) (E:zN) (H:Hp) (acc acc':List DV.D) (E':zN) (Nx:St->Hp->Prop),E.length=O.length->FR K mg M H ((some (.ref D),.own acc)::O.zip E)->ma E acc=.ok (acc',E')->(∀O' H',GA K mg M D O E H acc O' E' H' acc'->Nx O' H')->ta D O H Nx
def JT(tg:MG)(tt:MT)(ma:MC):List D->zN->List D->Out (List D×zN)
 | [],E,acc=>.ok (acc,E)
 |d::ds,E,acc=>match tg d E with
  | .ok E1=>match tt E1 with
   | .ok (true,E2)=>match ma E2 acc with
    | .ok (acc',E3)=>JT tg tt ma ds E3 acc'|_=>.z
   | .ok (false,E2)=>JT tg tt ma ds E2 acc|_=>.z
  |_=>.z
def ma1(el:ME):MC:=λE acc=>match el E with
 | .ok (r,E3)=>if acc.length<cap then .ok (acc++[r.d],E3)else .z|_=>.z
def maL(mi:MI)(tg:MG)(tt:MT)(ma:MC):MC:=λE acc=>match mi E with
 | .ok (ds,E1)=>JT tg tt ma ds E1 acc|_=>.z
def WQ(nl:Nat)(caps:List Nat)(mi:MI)(tg:MG)(tt:MT)(ma:MC):ME:=λE=>match mi E with
 | .z=>.z| .exc x E1=>.exc x E1
 | .ok (ds,E1)=>match Jx E1 caps with
  | .ok ars=>match zI ars E1 with
   | .ok (ss,E2)=>match JT tg tt ma ds (replicate nl .e++ss) []with
    | .ok (res,Eb)=>match zJ ars ((zw (replicate nl .e++ss) Eb).drop nl) E1 E2 with
     | .ok E3=>.ok (.own res,E3)|_=>.z
    |_=>.z
   |_=>.z
  |_=>.z
def tNI(K:qH)(mg:Str->Option Value)(m:MI):TI:=λO H R=>∃M E,E.length=O.length/\FR K mg M H (O.zip E)/\match m E with
 | .ok (ds,E')=>∀J Iv H',ItOk K mg J ds Iv->Iv (Hm (Mo M (O.zip E')) H')->Got K mg M O E H [] O E' H' []->R J H'|_=>False
def tNI_M{m:MI}{R:It->Hp->Prop}(h:tNI X.K X.mg m O H R):tMI X m O H R:=by
 obtain⟨M,E,hl,fr,k⟩:=h;refine⟨M,E,hl,fr,?_⟩;cases e:m E with
 |z=>rw[e]at k;exact k|exc x E1=>rw[e]at k;exact k.elim|ok p=>rw[e]at k;exact k
def yld_ga{J:It}{ds:List D}{Iv:Hp->Prop}{O0 O':St}{E0 E':zN}{H1 H' H'':Hp}{Da:Addr}{acc0 acc:List D}{i:Nat}{x:V}(it:ItOk K mg J ds Iv)(hlt:i<ds.length)(gb:GA K mg M Da O0 E0 H1 acc0 O' E' H' acc)(ivb:Iv (Hm (Mo M ((some (.ref Da),Slot.own acc)::O'.zip E')) H'))(y:J.yld i H' x H'') :
  ∃d,ds[i]?=some d/\GA K mg M Da O0 E0 H1 acc0 O' E' H'' acc/\Iv (Hm (Mo M ((some (.ref Da),Slot.own acc)::O'.zip E')) H'')/\Rep K mg (Hm (Mo M ((some (.ref Da),Slot.own acc)::O'.zip E')) H'') d x:=by
 obtain⟨d,hd,h⟩:=it.yld i _ _ x _ zK ivb hlt y;rcases h with⟨rfl,rx⟩|⟨q,xs,es,hq,rfl,rfl,rfl,rs⟩
 ·exact⟨d,hd,gb,ivb,rx⟩
 ·have f1:=gb.fr.newTup hq rs
  have s1:Step M H' ((some (.ref Da),Slot.own acc)::O'.zip E') (upd H' q (.t xs)) ((some (.ref q),.v (.t es))::((some (.ref Da),Slot.own acc)::O'.zip E')):=Step.newVal hq;obtain⟨v,ev,rv⟩:=f1.val _ _ qE;cases ev;have sm:=s1.same;rw[YB]at rv sm;exact⟨_,hd,⟨gb.len,f1.tail,gb.st.trans ⟨sm,s1.keep⟩,gb.pk⟩,it.mono _ _ sm ivb,rv⟩
def zCm{el:ME}:zCl K mg (ma1 el) (ta1 (tN K mg el)):=λM D O E H acc acc' E' Nx hl fr em hN=>by
 unfold ma1 at em;cases e3:el E with
 |z=>rw[e3]at em;cases em|exc _ _=>rw[e3]at em;cases em
 |ok p =>
  obtain⟨r,Ec⟩:=p;rw[e3]at em;dsimp only at em;by_cases hcap:acc.length<cap
  ·rw[if_pos hcap]at em
   cases em;refine zFv (T0:=[(some (.ref D),.own acc)]) hl fr e3 λyv H4 ge=>?_
   have fz:FR K mg M H4 ((some yv,.v r.d)::((some (.ref D),Slot.own acc)::O.zip E')):=FR.frz (r:=r) ge.fr;obtain⟨yv',ey,ry⟩:=fz.val _ _ qE;cases ey;rw[YB]at ry;have fo:=fz.tail;obtain⟨a,ys,ea,ha,_,rys⟩:=fo.own _ _ acc qE rfl;cases ea;refine⟨ys,ha,by rw[rys.length];exact lt_of_lt_of_le hcap (wb (le_refl _)),hN O _ ?_⟩;obtain⟨fm,sm⟩:=FR.mut (i:=0) (s:=.own acc) fo rfl rfl (rys.append (Reps.cons ry Reps.nil));have sz:Step M H ((some (.ref D),Slot.own acc)::O.zip E) H4 ((some (.ref D),Slot.own acc)::O.zip E'):=ge.st.weak (zC (sublist_cons_self _ _));exact⟨ge.len,fm,sz.trans sm,ge.pk⟩
  ·rw[if_neg hcap]at em;cases em
def zGB{tg:MG}{tt:MT}{ma:MC}{ta:TA}{g:TG}(ho:GOk X g tg)(ha:zCl X.K X.mg ma ta){J:It}{ds:List D}{Iv:Hp->Prop}(it:ItOk X.K X.mg J ds Iv){Da:Addr}{acc accF:List DV.D}{EF:zN}{Nx:St->Hp->Prop}(hl:E.length=O.length)(fr:FR X.K X.mg M H ((some (.ref Da),.own acc)::O.zip E))(iv:Iv (Hm (Mo M ((some (.ref Da),Slot.own acc)::O.zip E)) H))(em:JT tg tt ma ds E acc=.ok (accF,EF))
  (hN:∀O' H',GA X.K X.mg M Da O E H acc O' EF H' accF->Nx O' H'):∃W:Nat->Nat->St->Hp->Prop,(∃m,W 0 m O H)/\∀i m O' H',W i m O' H' ->
   (J.stop i H'/\Nx O' H')\/(J.go i H'/\∃N2:St->Hp->Prop,(∀O'' H'',N2 O'' H''->∃m',m'<m/\W (i+1) m' O'' H'')/\∀x H'',J.yld i H' x H''->g x O' H'' λO2 H2 =>
    tNT X.K X.mg tt O2 H2 λb H3=>if b=true then ta Da O2 H3 N2 else N2 O2 H3):=by
 refine⟨λi m O' H'=>m=ds.length-i/\i<=ds.length/\∃E' acc',GA X.K X.mg M Da O E H acc O' E' H' acc'/\Iv (Hm (Mo M ((some (.ref Da),Slot.own acc')::O'.zip E')) H')/\JT tg tt ma (ds.drop i) E' acc'=.ok (accF,EF),
  ⟨ds.length,by simp,zero_le _,E,acc,⟨hl,fr,Step.refl,PKp.refl⟩,iv,em⟩,?_⟩
 rintro i m O' H' ⟨rfl,hi,E',acc',gb,ivb,cm⟩
 by_cases hlt:i<ds.length
 ·refine .inr ⟨it.go i _ H' zK ivb hlt,λO'' H''=>(i+1<=ds.length/\∃E' acc',GA X.K X.mg M Da O E H acc O'' E' H'' acc'/\Iv (Hm (Mo M ((some (.ref Da),Slot.own acc')::O''.zip E')) H'')/\JT tg tt ma (ds.drop (i+1)) E' acc'=.ok (accF,EF)),
   λO'' H'' q=>⟨ds.length-(i+1),by omega,rfl,q⟩,λx H'' y=>?_⟩
  obtain⟨d,hd,gb,ivb,rx⟩:=yld_ga it hlt gb ivb y;have ed:ds.drop i=d::ds.drop (i+1):=by
   obtain⟨hi',rfl⟩:=qG.mp hd;exact List.drop_eq_getElem_cons hi'
  rw[ed]at cm;simp only[JT]at cm;cases e1:tg d E' with
  |z=>rw[e1]at cm;cases cm|exc _ _=>rw[e1]at cm;cases cm
  |ok Ea =>
   rw[e1]at cm;dsimp only at cm;refine ho _ O' E' _ [(some (.ref Da),.own acc')] x d Ea _ gb.len (gb.fr.add rx) e1 λO2 ga=>?_
   have g2:=gb.trans (GA.of ga);cases e2:tt Ea with
   |z=>rw[e2]at cm;cases cm|exc _ _=>rw[e2]at cm;cases cm
   |ok p =>
    obtain⟨b,Eb2⟩:=p;rw[e2]at cm;refine zCD ga.len ga.fr e2 λH3 gt=>?_
    have gt':GA X.K X.mg M Da O2 Ea H'' acc' O2 Eb2 H3 acc':=⟨gt.len,gt.fr,gt.st,gt.pk⟩;have g3:=g2.trans gt';have iv3:=it.mono _ _ (ga.st.same.trans gt.st.same) ivb;cases b with
    |false=>exact zFj ⟨hlt,Eb2,acc',g3,iv3,cm⟩
    |true =>
     refine zFk ?_;dsimp only at cm;cases e3:ma Eb2 acc' with
     |z=>rw[e3]at cm;cases cm|exc _ _=>rw[e3]at cm;cases cm
     |ok p =>
      obtain⟨acc2,Ec⟩:=p;rw[e3]at cm;exact ha M Da O2 Eb2 H3 acc' acc2 Ec _ g3.len g3.fr e3 λO4 H4 g4=>⟨hlt,Ec,acc2,g3.trans g4,it.mono _ _ g4.st.same iv3,cm⟩
 ·have ei2:i=ds.length:=by omega
  subst ei2;rw[drop_length]at cm;simp only[JT]at cm;cases cm;exact .inl ⟨it.stop _ _ H' zK ivb (le_refl _),hN O' H' gb⟩
def zAD{mi:MI}{tg:MG}{tt:MT}{ma:MC}{ta:TA}{g:TG}(ho:GOk X g tg)(ha:zCl X.K X.mg ma ta):zCl X.K X.mg (maL mi tg tt ma) (taL (tNI X.K X.mg mi) g (tNT X.K X.mg tt) ta):=λM D O E H acc accF EF Nx hl fr em hN=>by
 unfold maL at em;cases ei:mi E with
 |z=>rw[ei]at em;cases em|exc _ _=>rw[ei]at em;cases em
 |ok p =>
  obtain⟨ds,E1⟩:=p;rw[ei]at em;refine⟨Mo M [(some (.ref D),.own acc)],E,hl,FR.inner (T:=[(some (.ref D),.own acc)]) fr,?_⟩;rw[ei];intro J Iv H1 it iv g1;have g2:Got X.K X.mg M O E H [(some (.ref D),.own acc)] O E1 H1 []:=g1.outer (T0:=[(some (.ref D),.own acc)]) fr;rw[<- jD]at iv;exact zGB ho ha it g2.len g2.fr iv em λO' H' ga=>hN O' H' ((GA.of g2).trans ga)
def GM{nl:Nat}{caps:List Nat}{mi:MI}{tg:MG}{tt:MT}{ma:MC}{ta:TA}{g:TG}{Q:VK}(ho:GOk X g tg)(ha:zCl X.K X.mg ma ta)(h:tM X (WQ nl caps mi tg tt ma) O H Q):zAC nl caps (tMI X mi) g (tNT X.K X.mg tt) ta O H Q:=by
 obtain⟨M,E,hl,fr,k⟩:=h;unfold WQ at k;refine⟨M,E,hl,fr,?_⟩;cases ei:mi E with
 |z=>rw[ei]at k;exact k|exc x E1=>rw[ei]at k;exact k
 |ok p =>
  obtain⟨ds,E1⟩:=p;rw[ei]at k;intro J Iv H1 it iv g1 D hD;dsimp only at k;cases ec:Jx E1 caps with
  |z=>rw[ec]at k;exact k.elim|exc _ _=>rw[ec]at k;exact k.elim
  |ok ars =>
   rw[ec]at k;dsimp only at k;cases el1:zI ars E1 with
   |z=>rw[el1]at k;exact k.elim|exc _ _=>rw[el1]at k;exact k.elim
   |ok p =>
    obtain⟨ss,E2⟩:=p;rw[el1]at k;dsimp only at k;cases em:JT tg tt ma ds (replicate nl .e++ss) []with
    |z=>rw[em]at k;exact k.elim|exc _ _=>rw[em]at k;exact k.elim
    |ok p =>
     obtain⟨res,Eb⟩:=p;rw[em]at k;dsimp only at k;cases eb:zJ ars ((zw (replicate nl .e++ss) Eb).drop nl) E1 E2 with
     |z=>rw[eb]at k;exact k.elim|exc _ _=>rw[eb]at k;exact k.elim
     |ok E3 =>
      rw[eb]at k;obtain⟨vs,av,evs,f1,o1⟩:=Q0 (T:=[]) caps g1.len ec g1.fr;obtain⟨f2,o2,l2,l3⟩:=Y9 (T:=[]) ars g1.len av el1 f1;have hv:=av.length;have f2':FR X.K X.mg M H1 (O.zip E2++(vs.map some).zip ss):=FR.perm (T:=O.zip E2++(vs.map some).zip ss) (Z:=(vs.map some).zip ss++O.zip E2) f2 perm_append_comm;have osub:∀b,b∈yM (O.zip E2++(vs.map some).zip ss)->b∈yM (O.zip E1):=λb hb =>
       o1 b ((o2 b).mpr (zD (T:=O.zip E2++(vs.map some).zip ss) (Z:=(vs.map some).zip ss++O.zip E2) perm_append_comm b hb))
      have st1:Step M H (O.zip E) H1 (O.zip E2++(vs.map some).zip ss):=g1.st.weak osub;have eO:za nl caps O=replicate nl none++vs.map some:=by unfold L2.za;rw[evs]
      rw[eO];have ez:(replicate nl (none:Option V)++vs.map some).zip (replicate nl Slot.e++ss)=replicate nl (none,.e)++(vs.map some).zip ss:=by
       rw[zip_append (by simp),vt]
      have f4:FR X.K X.mg (Mo M (O.zip E2)) H1 ((replicate nl (none:Option V)++vs.map some).zip (replicate nl Slot.e++ss)):=by
       rw[ez];exact(FR.inner f2').emps0 nl
      have oo:yM ((replicate nl (none:Option V)++vs.map some).zip (replicate nl Slot.e++ss))=yM ((vs.map some).zip ss):=by rw[ez,GE]
      generalize hO0:replicate nl (none:Option V)++vs.map some=O0 at f4 oo ⊢;generalize hE0:replicate nl Slot.e++ss=E0 at f4 oo em eb ⊢;have hl0:E0.length=O0.length:=by rw[<- hO0,<- hE0];simp[l2,hv]
      have f5:=f4.newOwn (ds:=[]) (xs:=[]) hD Reps.nil;have s5:=Step.newOwn (ds:=[]) (xs:=[]) f4 hD;have iv5:Iv (Hm (Mo (Mo M (O.zip E2)) ((some (.ref D),Slot.own [])::O0.zip E0)) (upd H1 D (.l []))):=by
       refine it.mono _ _ s5.same (it.mono _ _ (j5 λb hb=>?_) iv);rcases hb with hb|hb
       ·rcases hb with hb|hb
        ·exact .inl hb
        ·exact .inr (osub b (by rw[zW];exact mem_append_left _ hb))
       ·rw[oo]at hb
        exact .inr (osub b (by rw[zW];exact qK _ hb))
      refine zGB ho ha it hl0 f5 iv5 em λO' H' ga=>k _ H' ?_
      have gb:Got X.K X.mg (Mo M (O.zip E2)) O0 E0 H1 [] O' Eb H' [(some (.ref D),.own res)]:=⟨ga.len,ga.fr,s5.trans ga.st,ga.pk⟩;have mk0:Mask (O'.zip Eb) (O0.zip (zw E0 Eb)):=Yt E0 O0 O' Eb gb.len (hl0.symm) λj ds' e=>(gb.pk j ds' e).2
      have mk:Mask (O'.zip Eb) ((vs.map some).zip ((zw E0 Eb).drop nl)):=by
       have:=JR nl mk0;have e:(O0.zip (zw E0 Eb)).drop nl=(vs.map some).zip ((zw E0 Eb).drop nl):=by
        rw[WM,<- hO0];congr 1;rw[List.drop_left' (by simp)]
       rw[e]at this;exact this
      refine GF (r:=.own res) el1 eb av f2' st1 l3 g1.pk (gb.fr.mask (.keep mk)) ?_;refine(gb.st.weak λb hb=>(Mask.keep mk).sub.subset hb).left λb hb=>?_
      show b∈yM _
      rw[nil_append,oo]at hb;exact hb
end
section
variable{X:Cx}{elt target iter t1 i1:Expr}{scope:Scope}{pos:Pos}{mi mi1:MI}{tg tg1:MG}{el:ME}{g g1:TG}{nl:Nat}{caps:List Nat}
def ok_lc2(loc capn:List Str)(hnl:loc.length=nl)(hx:∀e s,¬X.xe e s)(hc:X.calm=true)(hkind:scope.kind=.function)(hnames:∀y∈scope.names,y.2=.local->scope.names.lookup y.1=some .local)(hcell:∀y∈scope.names,y.2=.cell->scope.names.lookup y.1=some .cell)
  (hfree:(scope.names.all λy=>y.2 != .free||X.env.kindOf y.1==some .cell)=true) (hcap:QI X scope caps capn)
  (hi:IOk X target iter mi) (hg:∀cl C ex s H,PG (cxB X (loc++capn) scope cl C ex s H) target g) (ho:GOk X g tg) (hi1:∀cl C ex s H,IOk (cxB X (loc++capn) scope cl C ex s H) t1 i1 mi1) (hg1:∀cl C ex s H,PG (cxB X (loc++capn) scope cl C ex s H) t1 g1) (ho1:GOk X g1 tg1) (he:∀cl C ex s H,EOk (cxB X (loc++capn) scope cl C ex s H) elt el)
  (hs:∀x,foldedSetIterable iter X.env x=pure x) (hs1:∀cl C ex s H x,foldedSetIterable i1 (cxB X (loc++capn) scope cl C ex s H).env x=pure x) :
  EOk X (.ListComp elt [⟨target,iter,[],0⟩,⟨t1,i1,[],0⟩] scope pos) (WQ nl caps mi tg jj (maL mi1 tg1 jj (ma1 el))):=by
 obtain⟨c1,c2⟩:=GH (loc:=loc) hcap;refine zq (zE2 (N':=loc++capn) (tt:=tNT X.K X.mg jj) (ta:=taL (tNI X.K X.mg mi1) g1 (tNT X.K X.mg jj) (ta1 (tN X.K X.mg el))) hx hc hkind hnames hcell hfree (by simp[hnl,c1]) (λi j e=>by
  obtain⟨x,q1,q2,q3⟩:=c2 i j e;refine⟨x,?_,q2,q3⟩;rw[getElem?_append_right (by omega),hnl,Nat.add_sub_cancel_left];exact q1) hi hg (λcl C ex s H=>ww ZA λO H Q q=>zAw (X:=cxB X (loc++capn) scope cl C ex s _) q)
  (λcl C ex s H=>zCk (Y:=cxB X (loc++capn) scope cl C ex s H) (ta:=ta1 (tN X.K X.mg el)) hx hc (WL (hi1 cl C ex s H) λO H R q=>tNI_M (X:=cxB X (loc++capn) scope cl C ex s _) q) (hg1 cl C ex s H) (ww ZA λO H Q q=>zAw (X:=cxB X (loc++capn) scope cl C ex s _) q) (zGA hx (zq (he cl C ex s H) λO H Q q=>tN_M (X:=cxB X (loc++capn) scope cl C ex s _) q)) (hs1 cl C ex s H)) hs) λO H Q=>GM ho (zAD ho1 zCm)
def sk_lc2{i:Nat}{y:Str}{py spos:Pos}(loc capn:List Str)(hN:X.N.Nodup)(hi':X.N[i]?=some y)(hy:Loc X.env.scope y)(hf:X.fn y=true\/X.env.scope.names.lookup y=some .local)(hnl:loc.length=nl)(hx:∀e s,¬X.xe e s)(hc:X.calm=true)(hkind:scope.kind=.function)(hnames:∀y∈scope.names,y.2=.local->scope.names.lookup y.1=some .local)(hcell:∀y∈scope.names,y.2=.cell->scope.names.lookup y.1=some .cell)
  (hfree:(scope.names.all λy=>y.2 != .free||X.env.kindOf y.1==some .cell)=true) (hcap:QI X scope caps capn)
  (hi:IOk X target iter mi) (hg:∀cl C ex s H,PG (cxB X (loc++capn) scope cl C ex s H) target g) (ho:GOk X g tg) (hi1:∀cl C ex s H,IOk (cxB X (loc++capn) scope cl C ex s H) t1 i1 mi1) (hg1:∀cl C ex s H,PG (cxB X (loc++capn) scope cl C ex s H) t1 g1) (ho1:GOk X g1 tg1) (he:∀cl C ex s H,EOk (cxB X (loc++capn) scope cl C ex s H) elt el)
  (hs:∀x,foldedSetIterable iter X.env x=pure x) (hs1:∀cl C ex s H x,foldedSetIterable i1 (cxB X (loc++capn) scope cl C ex s H).env x=pure x)
  (hsw:swapsWith (.ListComp elt [⟨target,iter,[],0⟩,⟨t1,i1,[],0⟩] scope pos) (some (.Name y py)) spos.line X.env=pure true) :
  SOk X (.Assign [.Name y py] (.ListComp elt [⟨target,iter,[],0⟩,⟨t1,i1,[],0⟩] scope pos) spos) (sSet i (WQ nl caps mi tg jj (maL mi1 tg1 jj (ma1 el)))):=by
 obtain⟨c1,c2⟩:=GH (loc:=loc) hcap;refine yy (zE3 (N':=loc++capn) (tt:=tNT X.K X.mg jj) (ta:=taL (tNI X.K X.mg mi1) g1 (tNT X.K X.mg jj) (ta1 (tN X.K X.mg el))) hN hi' hy hf hx hc hkind hnames hcell hfree (by simp[hnl,c1]) (λi j e=>by
  obtain⟨x,q1,q2,q3⟩:=c2 i j e;refine⟨x,?_,q2,q3⟩;rw[getElem?_append_right (by omega),hnl,Nat.add_sub_cancel_left];exact q1) hi hg (λcl C ex s H=>ww ZA λO H Q q=>zAw (X:=cxB X (loc++capn) scope cl C ex s _) q)
  (λcl C ex s H=>zCk (Y:=cxB X (loc++capn) scope cl C ex s H) (ta:=ta1 (tN X.K X.mg el)) hx hc (WL (hi1 cl C ex s H) λO H R q=>tNI_M (X:=cxB X (loc++capn) scope cl C ex s _) q) (hg1 cl C ex s H) (ww ZA λO H Q q=>zAw (X:=cxB X (loc++capn) scope cl C ex s _) q) (zGA hx (zq (he cl C ex s H) λO H Q q=>tN_M (X:=cxB X (loc++capn) scope cl C ex s _) q)) (hs1 cl C ex s H)) hs hsw) λD O H h=>GM ho (zAD ho1 zCm) (QF h)
end
section
variable{prog:Program}{w:World}{A:Around}{E:Value->Shared->Prop}{s:Shared}
def WR:isSubtype (.type "range_iterator") (.type "reversed")=pure false:=by rw[isSubtype_type];kernel_rfl
def zA3(n:Int):Obj:={cls:=.type "range_iterator",data:=.fields #[rawInt (0+(Builtin.Range.rangeSize 0 n 1-1)*1),rawInt (Builtin.Range.rangeSize 0 n 1),rawInt (-1)]}
def zE4{n:Int}(h1:-(2^62)<=n)(h2:n<2^62):(Builtin.Range.rangeFitsLong 0&&Builtin.Range.rangeFitsLong n&&Builtin.Range.rangeFitsLong 1&&Builtin.Range.rangeFitsLong (-1)&&Builtin.Range.rangeFitsLong (0-1)&&Builtin.Range.rangeFitsLong (Builtin.Range.rangeSize 0 n 1))=true:=by
 have e:Builtin.Range.rangeSize 0 n 1=if 0<n then n else 0:=by rw[rangeSize_one];simp
 rw[e];simp only[Builtin.Range.rangeFitsLong];split<;>simp<;>omega
def W1{r:Addr}{n:Int}{t u v:Tok}{Q:Value->Shared->Prop}(hr:IsRange s.heap r 0 n 1 t u v)(h1:-(2^62)<=n)(h2:n<2^62)
  (h:Q (.ref s.heap.objs.size) {s with heap:=s.heap.push (zA3 n)}):wpAny (model prog w) A (call (.builtin "range.__reversed__") [.ref r]) Q E s:=by
 refine wpAny_call_entry F.slot_range_reversed ⟨_,hr,rfl⟩ F.entry_range_reversed ?_ (F.args_range_reversed_1 _);unfold Builtin.«range.__reversed__»;refine qB (wpAny_of_eq (a:=Value.ref r) rfl ?_);have hf:∀(A:Around) (E':Value->Shared->Prop),wpAny (model prog w) A (Builtin.Range.rangeFields (.ref r)) (λx s'=>x=(0,n,1)/\s'=s) E' s:=by
  intro A E';unfold Builtin.Range.rangeFields
  repeat (any_goals (first|assumption|wp_step))
  exact⟨rfl,rfl⟩
 refine qB (wpAny_mono (hf _ _) (λx s' hx=>?_) λ_ _ z=>z);obtain⟨rfl,rfl⟩:=hx;dsimp only;rw[zE4 h1 h2];simp only[Bool.not_true,Bool.false_eq_true,if_false,if_true]
 repeat (any_goals (first|assumption|wp_step))
 exact⟨_,rfl,h⟩
def GN{r:Addr}{n:Int}{t u v:Tok}{Q₁:Value->Shared->Prop}(hr:IsRange s.heap r 0 n 1 t u v)(h1:-(2^62)<=n)(h2:n<2^62)
  (h:Q₁ (.ref s.heap.objs.size) {s with heap:=s.heap.push (zA3 n)}) :
  codeAny (model prog w) A (.call (.builtin "reversed.__new__") ⟨[.type "reversed",.ref r],[]⟩) (PySem.wants Q₁ E) s:=by
 refine codeAny_of_tree ?_;show wpAny _ A.in1 (do checkBuiltinCall "reversed.__new__" ⟨[.type "reversed",.ref r],[]⟩;again (.builtin "reversed.__new__" ⟨[.type "reversed",.ref r],[]⟩)) _ _ s;refine qB (wpAny_of_eq (F.newCall_reversed_1 _) (qC ⟨plainId_quiet F.plain_reversed_new _,codeAny_builtin F.entry_reversed_new ?_⟩));rw[Around.under_plainId F.plain_reversed_new _];unfold Builtin.«reversed.__new__»;refine qB (wpAny_of_eq (newClass_reversed _) ?_)
 try dsimp only
 refine qB (wpAny_of_eq (a:=()) (by first|rfl|kernel_rfl) ?_);refine qB (wpAny_of_eq (a:=()) (by first|rfl|kernel_rfl) ?_)
 try dsimp only
 refine qB (wpAny_specialOf ⟨_,hr,rfl⟩ F.slot_range_reversed.lookup ?_)
 try dsimp only
 refine qB (wpAny_of_eq (F.slot_range_reversed.bind _) ?_)
 try dsimp only
 rw[if_neg (show ¬((Value.builtin "range.__reversed__" == Value.none)=true)from qF)];refine qB (wpAny_rule ?_);refine qB (m:=runValue (.call (.builtin "range.__reversed__") ⟨[.ref r],[]⟩)) (show wpAny _ _ (call (.builtin "range.__reversed__") [.ref r]) _ _ _ from W1 hr h1 h2 ?_)
 first
 |exact qC h
 |exact qB (qC (qC h))
def ZE{r:Addr}{n:Int}{t u v:Tok}{Q:Value->Shared->Prop}(hr:IsRange s.heap r 0 n 1 t u v)(h1:-(2^62)<=n)(h2:n<2^62)
  (h:Q (.ref s.heap.objs.size) {s with heap:=s.heap.push (zA3 n)}):wpAny (model prog w) A (call (.type "reversed") [.ref r]) Q E s:=by
 refine callType_other (U:="range_iterator") (Q₁:=λobj s₁=>obj=.ref s.heap.objs.size/\s₁={s with heap:=s.heap.push (zA3 n)}) (by decide +kernel) F.create_reversed ⟨_,_,F.mro_reversed⟩ F.made_reversed WR (F.typeCall_reversed_1 _) (GN hr h1 h2 ⟨rfl,rfl⟩) ?_
 rintro obj s₁ ⟨rfl,rfl⟩
 exact⟨⟨_,get?_push_size _ rfl,rfl⟩,h⟩
end
def Itv(n:Nat):It:=⟨λi _=>i<n,λi H x H'=>H'=H/\x=.int ((n:Int)-1-i),λi _=>n<=i⟩
def zE5{P:Program}{w:World}{K:qH}{tg:Expr}(it:Addr)(n:Nat):Turn P w K tg (Itv n) [it] it (λi h=>IsRangeIter h it ((n:Int)-1+(i:Nat)*(-1)) ((n:Int)-(i:Nat)) (-1)) where
 mem:=by simp
 obj:=λi h st b hb=>by
  have e:b=it:=by simpa using hb
  subst e;exact⟨_,st,λv z=>by
   have z':Data.fields _=Data.cell v:=z;cases z'⟩
 keep:=λi h h' st k=>k it (by simp) _ st
 item:=by
  intro X hP hw hK hc i pins s O H E I hf st hg;subst hP hw hK;obtain⟨f0,f1,f2,f3,f4,f5⟩:=hf it (by simp);have W:=Walks.range (prog:=X.prog) (w:=X.w) (I.ok.hd hc) it ((n:Int)-1) (-1) n;refine W.item i s _ _ hg st λv h' tk hv st' kk=>?_
  obtain⟨t,rfl⟩:=hv;have I1:Inv X pins O H {s with heap:=h',toks:=tk}:=I.turned (λb o hb e=>kk b o (by simpa using hb) e) f0 f1 f3 f4 f5
  refine⟨_,rfl,YN (s:={s with heap:=h',toks:=tk}) (n:="range_iterator") st' rfl rfl (by decide) ⟨.int ((n:Int)-1-i),H,I1,⟨t,?_⟩,⟨rfl,rfl⟩,st',λb hb=>(hf b hb).1⟩⟩
  rw[show(n:Int)-1+(i:Int)*(-1)=(n:Int)-1-i by omega]
 done:=by
  intro X hP hw hK hc i pins s O H E I hf st hg;subst hP hw hK;obtain⟨f0,f1,f2,f3,f4,f5⟩:=hf it (by simp);exact wpAny_pyNext_range_end (I.ok.hd hc) st (by have:n<=i:=hg;omega) λh' eb=>⟨rfl,I.turned (t':=s.toks) (λb o hb e=>eb b o hb e) f0 f1 f3 f4 f5⟩
 self:=λ_ _ _ _ _ st h=>wpAny_pyIter_rangeiter st h
def iRev(ta:L2.TA):TI:=λO H R=>ta O H λvs H1=>∃j:Int,vs=[.int j]/\-(2^62)<=j/\j<2^62/\R (Itv j.toNat) H1
def pi_rev{X:Cx}{tg a:Expr}{ta:L2.TA}{p p2 pos pos2:Pos}(hg:Gl X "reversed")(hm:X.mg "reversed"=none)(hg2:Gl X "range")(hm2:X.mg "range"=none)(ha:L2.PA X [a] ta)(hs:starEach [a] X.env=[(false,eval a X.env)]) :
  PI X tg (.Call (.Name "reversed" p) [.Call (.Name "range" p2) [a] [] pos2] [] pos) (iRev ta):=by
 intro pins s O H R I h;refine PyProof.Rows.Call_ (Ym I hg hm PyProof.Rows.boot_reversed (PyProof.Rows.callWith_type1 ?_ rfl rfl));show wpAny _ _ (spliced ((false,eval (.Call (.Name "range" p2) [a] [] pos2) X.env)::backTo pos (starEach [] X.env))) _ _ s;refine Calls.spliced_cons (PyProof.Rows.Call_ (Ym I hg2 hm2 PyProof.Rows.boot_range (PyProof.Rows.callWith_type1 (thn (ha pos2 pins s O H _ I h) λus s1 h1=>?_) hs rfl)));obtain⟨vs,H1,I1,r1,j,e,q1,q2,q⟩:=h1;subst e;cases r1 with
 |cons r rr =>
  cases rr;obtain⟨t,rfl⟩:=r;refine call_range_1 ?_;refine Calls.spliced_nil ?_;refine ZE (IsRange.new ..) q1 q2 ?_;have rs:Builtin.Range.rangeSize 0 j 1=((j.toNat:Nat):Int):=by rw[rangeSize_one];split<;>omega
  have hst:IsRangeIter ((s1.heap.push {cls:=.type "range",data:=.fields #[.int 0 s1.toks,.int j t,.int 1 (s1.toks+1)]}).push (zA3 j)) (s1.heap.push {cls:=.type "range",data:=.fields #[.int 0 s1.toks,.int j t,.int 1 (s1.toks+1)]}).objs.size (((j.toNat:Nat):Int)-1+((0:Nat):Int)*(-1)) (((j.toNat:Nat):Int)-((0:Nat):Int)) (-1):=by
   rw[show((j.toNat:Nat):Int)-1+((0:Nat):Int)*(-1)=0+(Builtin.Range.rangeSize 0 j 1-1)*1 by rw[rs];omega,show((j.toNat:Nat):Int)-((0:Nat):Int)=Builtin.Range.rangeSize 0 j 1 by rw[rs];omega];exact get?_push_size _ rfl
  have I2:Inv X pins O H1 {s1 with heap:=(s1.heap.push {cls:=.type "range",data:=.fields #[.int 0 s1.toks,.int j t,.int 1 (s1.toks+1)]}).push (zA3 j),toks:=s1.toks+1+1}:=I1.kept λb o e=>qA _ (qA _ e)
  refine wpAny_pyIter_rangeiter hst ⟨_,[_],_,_,H1,rfl,I2,zE5 _ j.toNat,hst,λb hb=>?_,q⟩;have e:b=(s1.heap.push {cls:=.type "range",data:=.fields #[.int 0 s1.toks,.int j t,.int 1 (s1.toks+1)]}).objs.size:=by simpa using hb
  subst e;have I3:Inv X pins O H1 {s1 with heap:=s1.heap.push {cls:=.type "range",data:=.fields #[.int 0 s1.toks,.int j t,.int 1 (s1.toks+1)]},toks:=s1.toks+1+1}:=I1.kept λb o e=>qA _ e
  exact I3.fpOk (le_refl _) (I3.hok.fresh (le_refl _))
section
variable{X:Cx}{K:qH}{mg:Str->Option Value}
def yt(n:Nat):List D:=(List.range n).map λi=>.int ((n:Int)-1-(i:Nat))
def it_rev{n:Nat}:ItOk K mg (Itv n) (yt n) (λ_=>True) where
 mono:=λ_ _ _ _=>trivial
 go:=λi _ _ _ _ h=>show i<n by simpa[yt]using h
 yld:=λi Hh H x H' _ _ h y=>by
  obtain⟨rfl,rfl⟩:=y;have h:i<n:=by simpa[yt]using h
  refine⟨.int ((n:Int)-1-(i:Nat)),by simp[yt,h],.inl ⟨rfl,?_⟩⟩;simp only[Rep]
 stop:=λi _ _ _ _ h=>show n<=i by simpa[yt]using h
def iRv(m:MA):MI:=λE=>match m E with
 | .z=>.z| .exc x E1=>.exc x E1
 | .ok ([r],E1)=>match r.d with
  | .int j=>if -(2^62)<=j/\j<2^62 then .ok (yt j.toNat,E1)else .z|_=>.z
 |_=>.z
def io_rv{tg a:Expr}{m:MA}{p p2 cpos pos2:Pos}(hgl:Gl X "reversed")(hm:X.mg "reversed"=none)(hgl2:Gl X "range")(hm2:X.mg "range"=none)(ha:AOk X [a] m)(hst:zH a=false):IOk X tg (.Call (.Name "reversed" p) [.Call (.Name "range" p2) [a] [] pos2] [] cpos) (iRv m):=WL (pi_rev hgl hm hgl2 hm2 ha (zAs hst)) λO H R h=>by
 obtain⟨M,E,hl,fr,k⟩:=h;unfold iRv at k;refine wt (T0:=[]) hl fr ?_;cases ea:m E with
 |z=>rw[ea]at k;exact k|exc x E1=>rw[ea]at k;exact k
 |ok p =>
  obtain⟨rs,E1⟩:=p;rw[ea]at k
  match rs,k with
  | [r],k =>
   intro vs H1 hv g1;have rp:=Got.reps hv g1;dsimp only at k;cases ed:r.d with
   |int j =>
    rw[ed]at k;simp only[List.map,ed]at rp;obtain⟨v,rfl,h1⟩:=Zc rp;dsimp only at k;by_cases hc:-(2^62)<=j/\j<2^62
    ·rw[if_pos hc]at k
     exact⟨j,by rw[zM h1],hc.1,hc.2,k _ _ H1 it_rev trivial g1.dropAll⟩
    ·rw[if_neg hc]at k;exact k.elim
   |_=>rw[ed]at k;exact k.elim
  | [],k=>exact k.elim|_::_::_,k=>exact k.elim
end
inductive Op2 where
 |add|sub|mul|fdiv|mod|pow
def Op2.op:Op2->Operator
 | .add=>.Add | .sub=>.Sub | .mul=>.Mult | .fdiv=>.FloorDiv | .mod=>.Mod | .pow=>.Pow
def Op2.f:Op2->D->D->Option R
 | .add=>Wt | .sub=>Qt | .mul=>ZR | .fdiv=>zEL | .mod=>modD | .pow=>powD
inductive Cp where
 |lt|le|gt|ge|eq|ne|is
def Cp.op:Cp->CmpOp
 | .lt=>.Lt | .le=>.LtE | .gt=>.Gt | .ge=>.GtE | .eq=>.Eq | .ne=>.NotEq | .is=>.Is
def Cp.f:Cp->D->D->Option R
 | .lt=>ltD | .le=>leD | .gt=>gtD | .ge=>geD | .eq=>eqG | .ne=>neG | .is=>isG false
def Cp.isI:Cp->Bool
 | .lt | .le | .gt | .ge=>true
 |_=>false
def Cp.b:Cp->Int->Int->Bool
 | .lt=>ltB | .le=>leB | .gt=>gtB|_=>geB
inductive Bi where
 |len|max|all|int|tuple|sum|repr
def Bi.nm:Bi->Str
 | .len=>"len" | .max=>"max" | .all=>"all" | .int=>"int" | .tuple=>"tuple" | .sum=>"sum" | .repr=>"repr"
def Bi.f:Bi->List D->Option R
 | .len=>lenD | .max=>QC | .all=>allD | .int=>intF | .tuple=>zFs | .sum=>zEi | .repr=>zEr
inductive Ty where
 |int|bool|tuple|list|str|dict
def Ty.s:Ty->String
 | .int=>"int" | .bool=>"bool" | .tuple=>"tuple" | .list=>"list" | .str=>"str" | .dict=>"dict"
def Ty.nm:Ty->Str
 | .int=>"int" | .bool=>"bool" | .tuple=>"tuple" | .list=>"list" | .str=>"str" | .dict=>"dict"
inductive Tg where
 |n (i:Nat)
 |t (is:List Nat)
def Tg.m:Tg->MG
 | .n i=>gN i| .t is=>gT is
mutual
inductive Ex where
 |c (d:D)|gl (d:D)|fn (k:Nat)|var (i:Nat)|mov (i:Nat)
 |bin (o:Op2) (a b:Ex)|cmp (o:Cp) (a b:Ex)|chain (o o':Cp) (a b c:Ex)
 |neg (a:Ex)|not (a:Ex)|and (a b:Ex)
 |t (as:Ax)|l (as:Ax)
 |ix (a b:Ex)|ixO (i:Nat) (b:Ex)|reprO (i:Nat)|sl (a:Ex) (l h:Ox)
 |comp (nl:Nat) (loc capn:List Str) (caps:List Nat) (it:Ix) (tg:Tg) (tt:Tx) (el:Ex)
 |comp2 (nl:Nat) (loc capn:List Str) (caps:List Nat) (it:Ix) (tg:Tg) (jt:Ix) (tg2:Tg) (el:Ex)
 |is (T:Ty) (a:Ex)|cB (b:Bi) (as:Ax)|call (k:Nat) (as:Gx)|callV (ks:List Nat) (f:Ex) (as:Gx)
 |maxd (a d:Ex)
 |isC (cl:List Str) (y:Str) (a:Ex)|isV (cl:List Str) (a:Ex)|cnt (a b:Ex)|idx (a b:Ex)
 |atr (ri:List Str) (f:Str) (a:Ex)
inductive Tx where
 |tAnd (a b:Tx)|tOr (a b:Tx)|tNot (a:Tx)|tE (a:Ex)|tTr
inductive Ax where
 |nil|cons (a:Ex) (as:Ax)
inductive Gx where
 |nil|ev (a:Ex) (as:Gx)|lend (i:Nat) (as:Gx)
inductive Ox where
 |oN|oS (a:Ex)
inductive Ix where
 |iL (a:Ex)|iT (a:Ex)|iR1 (as:Ax)|iRv (as:Ax)|iZ (t1 t2:Bool) (as:Ax)
end
mutual
inductive Sx where
 |sIf (t:Tx) (a b:Bx)|sSet (i:Nat) (a:Ex)|sRet (a:Ex)|sDrop (a:Ex)|sIx (i:Nat) (b a:Ex)|sApp (i:Nat) (a:Ex)
 |sForL (a:Ex) (tg:Tg) (b:Bx)|sForR1 (as:Ax) (tg:Tg) (b:Bx)|sForR2 (as:Ax) (tg:Tg) (b:Bx)|sForI (it:Ix) (tg:Tg) (b:Bx)
 |sAny|sPar (i j:Nat) (as:Ax)|sRaiseA (c:Str) (as:Ax)
 |sRaise (c:Str)|sTry (cl:List Str) (b:Bx) (i:Nat) (h:Bx)
 |sWhile (t:Tx) (b:Bx)|sAug (i:Nat) (o:Op2) (a:Ex)
inductive Bx where
 |bNil|bOne (s:Sx)|bSeq (s:Sx) (b:Bx)
end
structure FI where
 x:Str
 n:Nat
 lv:Nat
 wild:Bool
 F:MF
def fiF(fs:List FI)(k:Nat):MF:=match fs[k]? with
 |some i=>i.F|none=>λ_=>.z
def fiX(fs:List FI)(k:Nat):Str:=match fs[k]? with
 |some i=>i.x|none=>""
def Op2.aug:Op2->Int->Int->Option Int
 | .add=>λa b=>some (a+b)| .sub=>λa b=>some (a-b)| .mul=>zCa|_=>λ_ _=>none
def Op2.isAug:Op2->Bool
 | .add | .sub | .mul=>true
 |_=>false
def Wu(m:ME):ME:=λE=>match m E with
 | .exc _ _=>.z|o=>o
def ZF(m:MS):MS:=λE=>match m E with
 | .exc _ _=>.z|o=>o
def zCn{m:ME}{E:zN}{p:R×zN}(h:m E=.ok p):Wu m E=.ok p:=by simp only[Wu,h]
def uB{m:MS}{E:zN}{p:Fl×zN}(h:m E=.ok p):ZF m E=.ok p:=by simp only[ZF,h]
def no_E{X:Cx}{e:Expr}{m:ME}(h:EOk X.nox e m):EOk X e (Wu m):=zq h.nox λO H Q ⟨M,E,hl,fr,k⟩=>by
 unfold Wu at k;refine⟨M,E,hl,fr,?_⟩;cases e:m E with
 |z=>rw[e]at k;exact k|exc x E1=>rw[e]at k;exact k.elim|ok p=>rw[e]at k;exact k
def no_S{X:Cx}{st:Stmt}{m:MS}(h:SOk X.nox st m):SOk X st (ZF m):=λpins s O H D I ⟨M,E,hl,fr,k⟩=>by
 refine wpAny_mono (h pins s O H D (I.wish _) ⟨M,E,hl,fr,?_⟩) (λ_ _ q=>q.unwish) λ_ _ z=>False.elim z
 unfold ZF at k;cases e:m E with
 |z=>rw[e]at k;exact k|exc x E1=>rw[e]at k;exact k.elim
 |ok p =>
  rw[e]at k;obtain⟨fl,E1⟩:=p;cases fl<;>exact k
def sk_forN{X:Cx}{st:Stmt}{mi:MI}{tg:MG}{body:MS}(h1:PS X st (λD O H=>tMI X mi O H λ_ _=>False))(h2:SOk X st (ZF (sForI mi tg body))):SOk X st (zCj mi tg body):=λpins s O H D I ⟨M,E,hl,fr,k⟩=>by
 unfold zCj at k;cases e:mi E with
 |exc x E1=>rw[e]at k;exact h1 pins s O H D I ⟨M,E,hl,fr,by rw[e];exact λH' g=>k O H' g⟩|z=>rw[e]at k;exact h2 pins s O H D I ⟨M,E,hl,fr,k⟩|ok p=>rw[e]at k;exact h2 pins s O H D I ⟨M,E,hl,fr,k⟩
def zGC{i:Nat}{m:ME}:ZF (sSet i m)=sSet i (Wu m):=by
 funext E
 simp only[ZF,sSet,Wu];cases m E with
 |z=>rfl|exc x E1=>rfl
 |ok p =>
  obtain⟨r,E1⟩:=p;dsimp only;cases Yg i r E1<;>rfl
mutual
def dE(fs:List FI):Ex->ME
 | .c d=>eC d| .gl d=>eC d| .fn k=>eC (.fn (fiX fs k))| .var i=>vL i| .mov i=>zAu i| .bin o a b=>Jo o.f (dE fs a) (dE fs b)| .cmp o a b=>Jo o.f (dE fs a) (dE fs b)| .chain o o' a b c=>jR o.b o'.b (dE fs a) (dE fs b) (dE fs c)| .neg a=>eNeg (dE fs a)| .not a=>Gq (dE fs a)| .and a b=>uy (dE fs a) (dE fs b)| .t as=>Gs (dA fs as)| .l as=>Gu (dA fs as)| .ix a b=>Jo ixD (dE fs a) (dE fs b)| .ixO i b=>zEQ i (dE fs b)| .reprO i=>vQ i| .sl a l h=>eSl slD (dE fs a) (dO fs l) (dO fs h)| .comp nl _ _ caps it tg tt el=>Wu (Wz nl caps (dI fs it) tg.m (dT fs tt) (dE fs el))| .comp2 nl _ _ caps it tg jt tg2 el=>Wu (WQ nl caps (dI fs it) tg.m jj (maL (dI fs jt) tg2.m jj (ma1 (dE fs el))))| .is T a=>eIs T.s (dE fs a)| .cB b as=>eCB b.f (dA fs as)| .call k as=>yp (fiF fs k) (dG fs as)| .maxd a d=>Jo zA0 (dE fs a) (dE fs d)| .isC cl y a=>zF5 cl (·==y) (dE fs a)| .isV cl a=>zF5 cl (λ_=>true) (dE fs a)| .cnt a b=>eMet cntD (dE fs a) (dE fs b)| .idx a b=>eMet idxD (dE fs a) (dE fs b)| .atr ri f a=>eAtr ri f (dE fs a)| .callV ks f as=>WJ (vw (ks.map λk=>(fiX fs k,fiF fs k))) (dE fs f) (dG fs as)
def dT(fs:List FI):Tx->MT
 | .tAnd a b=>wu (dT fs a) (dT fs b)| .tOr a b=>vk (dT fs a) (dT fs b)| .tNot a=>JJ (dT fs a)| .tE a=>tT (dE fs a)| .tTr=>jj
def dA(fs:List FI):Ax->MA
 | .nil=>Gr| .cons a as=>JK (dE fs a) (dA fs as)
def dG(fs:List FI):Gx->List Arg
 | .ev a as=>.ev (dE fs a)::dG fs as| .lend i as=>.lend i::dG fs as| .nil=>[]
def dO(fs:List FI):Ox->MO
 | .oN=>zEN| .oS a=>zB5 (dE fs a)
def dI(fs:List FI):Ix->MI
 | .iL a=>iL (dE fs a)| .iT a=>iT (dE fs a)| .iR1 as=>iR1 (dA fs as)| .iRv as=>DV.iRv (dA fs as)| .iZ t1 t2 as=>iZ t1 t2 (dA fs as)
end
mutual
def dS(fs:List FI):Sx->MS
 | .sIf t a b=>sIf (dT fs t) (dB fs a) (dB fs b)| .sSet i a=>sSet i (dE fs a)| .sRet a=>sRet (dE fs a)| .sDrop a=>sDrop (dE fs a)| .sIx i b a=>ZQ i (dE fs b) (dE fs a)| .sApp i a=>sApp i (dE fs a)| .sRaiseA c as=>DV.sRaiseA c (dA fs as)| .sPar i j as=>sPar i j (dA fs as)| .sForL a tg b=>ZF (sForL (dE fs a) tg.m (dB fs b))| .sForI it tg b=>zCj (dI fs it) tg.m (dB fs b)| .sForR1 a tg b=>ZF (sForR1 (dA fs a) tg.m (dB fs b))| .sForR2 a tg b=>ZF (sForR2 (dA fs a) tg.m (dB fs b))| .sAny=>λ_=>.z| .sRaise c=>DV.sRaise c| .sTry cl b i h=>DV.sTry cl i (dB fs b) (dB fs h)| .sWhile t b=>ZF (DV.sWhile (dT fs t) (dB fs b))| .sAug i o a=>DV.sAug i o.aug (dE fs a)
def dB(fs:List FI):Bx->MS
 | .bNil=>Gv| .bOne s=>dS fs s| .bSeq s b=>Wy (dS fs s) (dB fs b)
end
def zCo{fs d}:dE fs (.c d)=eC d:=rfl
def rE_gl{fs d}:dE fs (.gl d)=eC d:=rfl
def rE_fn{fs k}:dE fs (.fn k)=eC (.fn (fiX fs k)):=rfl
def wI{fs i}:dE fs (.var i)=vL i:=rfl
def GO{fs i}:dE fs (.mov i)=zAu i:=rfl
def YC{fs o a b}:dE fs (.bin o a b)=Jo o.f (dE fs a) (dE fs b):=rfl
def Yx{fs o a b}:dE fs (.cmp o a b)=Jo o.f (dE fs a) (dE fs b):=rfl
def zAE{fs o o' a b c}:dE fs (.chain o o' a b c)=jR o.b o'.b (dE fs a) (dE fs b) (dE fs c):=rfl
def rE_neg{fs a}:dE fs (.neg a)=eNeg (dE fs a):=rfl
def zGD{fs a b}:dE fs (.and a b)=uy (dE fs a) (dE fs b):=rfl
def GP{fs as}:dE fs (.t as)=Gs (dA fs as):=rfl
def YD{fs as}:dE fs (.l as)=Gu (dA fs as):=rfl
def zA4{fs a b}:dE fs (.ix a b)=Jo ixD (dE fs a) (dE fs b):=rfl
def zAF{fs i b}:dE fs (.ixO i b)=zEQ i (dE fs b):=rfl
def zE6{fs i}:dE fs (.reprO i)=vQ i:=rfl
def rE_sl{fs a l h}:dE fs (.sl a l h)=eSl slD (dE fs a) (dO fs l) (dO fs h):=rfl
def zCp{fs nl u1 u2 caps it tg tt el}:dE fs (.comp nl u1 u2 caps it tg tt el)=Wu (Wz nl caps (dI fs it) tg.m (dT fs tt) (dE fs el)):=rfl
def zE7{fs nl u1 u2 caps it tg jt tg2 el}:dE fs (.comp2 nl u1 u2 caps it tg jt tg2 el)=Wu (WQ nl caps (dI fs it) tg.m jj (maL (dI fs jt) tg2.m jj (ma1 (dE fs el)))):=rfl
def QK{fs b as}:dE fs (.cB b as)=eCB b.f (dA fs as):=rfl
def yX{fs k as}:dE fs (.call k as)=yp (fiF fs k) (dG fs as):=rfl
def rE_maxd{fs a d}:dE fs (.maxd a d)=Jo zA0 (dE fs a) (dE fs d):=rfl
def rE_isC{fs cl y a}:dE fs (.isC cl y a)=zF5 cl (·==y) (dE fs a):=rfl
def rE_atr{fs ri f a}:dE fs (.atr ri f a)=eAtr ri f (dE fs a):=rfl
def zAG{fs ks f as}:dE fs (.callV ks f as)=WJ (vw (ks.map λk=>(fiX fs k,fiF fs k))) (dE fs f) (dG fs as):=rfl
def zCq{fs a b}:dT fs (.tAnd a b)=wu (dT fs a) (dT fs b):=rfl
def WS{fs a b}:dT fs (.tOr a b)=vk (dT fs a) (dT fs b):=rfl
def rT_tNot{fs a}:dT fs (.tNot a)=JJ (dT fs a):=rfl
def W2{fs a}:dT fs (.tE a)=tT (dE fs a):=rfl
def zAH{fs}:dT fs (.tTr)=jj:=rfl
def JU{fs}:dA fs (.nil)=Gr:=rfl
def YU{fs a as}:dA fs (.cons a as)=JK (dE fs a) (dA fs as):=rfl
def wc{fs a as}:dG fs (.ev a as)=.ev (dE fs a)::dG fs as:=rfl
def rG_lend{fs i as}:dG fs (.lend i as)=.lend i::dG fs as:=rfl
def yo{fs}:dG fs (.nil)=[]:=rfl
def rO_oN{fs}:dO fs (.oN)=zEN:=rfl
def rO_oS{fs a}:dO fs (.oS a)=zB5 (dE fs a):=rfl
def rI_iL{fs a}:dI fs (.iL a)=iL (dE fs a):=rfl
def rI_iT{fs a}:dI fs (.iT a)=iT (dE fs a):=rfl
def rI_iR1{fs as}:dI fs (.iR1 as)=iR1 (dA fs as):=rfl
def rI_iRv{fs as}:dI fs (.iRv as)=DV.iRv (dA fs as):=rfl
def rI_iZ{fs t1 t2 as}:dI fs (.iZ t1 t2 as)=iZ t1 t2 (dA fs as):=rfl
def Yy{fs t a b}:dS fs (.sIf t a b)=sIf (dT fs t) (dB fs a) (dB fs b):=rfl
def wV{fs i a}:dS fs (.sSet i a)=sSet i (dE fs a):=rfl
def jH{fs a}:dS fs (.sRet a)=sRet (dE fs a):=rfl
def Jt{fs a}:dS fs (.sDrop a)=sDrop (dE fs a):=rfl
def zCr{fs i b a}:dS fs (.sIx i b a)=ZQ i (dE fs b) (dE fs a):=rfl
def WT{fs i a}:dS fs (.sApp i a)=sApp i (dE fs a):=rfl
def zA5{fs c as}:dS fs (.sRaiseA c as)=DV.sRaiseA c (dA fs as):=rfl
def rS_sPar{fs i j as}:dS fs (.sPar i j as)=sPar i j (dA fs as):=rfl
def zE8{fs a tg b}:dS fs (.sForL a tg b)=ZF (sForL (dE fs a) tg.m (dB fs b)):=rfl
def zE9{fs it tg b}:dS fs (.sForI it tg b)=zCj (dI fs it) tg.m (dB fs b):=rfl
def zCs{fs a tg b}:dS fs (.sForR1 a tg b)=ZF (sForR1 (dA fs a) tg.m (dB fs b)):=rfl
def JV{fs a tg b}:dS fs (.sForR2 a tg b)=ZF (sForR2 (dA fs a) tg.m (dB fs b)):=rfl
def zCt{fs c}:dS fs (.sRaise c)=DV.sRaise c:=rfl
def zCu{fs cl b i h}:dS fs (.sTry cl b i h)=DV.sTry cl i (dB fs b) (dB fs h):=rfl
def zCv{fs t b}:dS fs (.sWhile t b)=ZF (DV.sWhile (dT fs t) (dB fs b)):=rfl
def rS_sAug{fs i o a}:dS fs (.sAug i o a)=DV.sAug i o.aug (dE fs a):=rfl
def JW{fs}:dB fs (.bNil)=Gv:=rfl
def jI{fs s}:dB fs (.bOne s)=dS fs s:=rfl
def jU{fs s b}:dB fs (.bSeq s b)=Wy (dS fs s) (dB fs b):=rfl
structure Sg where
 N:List Str
 sc:Scope
 top:Bool
 cs:List (Str×D)
 fs:List FI
 bs:List Str
 lv:Nat
 calm:Bool
 cl:List Str
 rs:List Str
 oc:List Str
 ri:List Str
def kIs(sg:Sg)(x:Str)(k:NameKind):Bool:=sg.sc.names.lookup x==some k
def vis(sg:Sg)(i:Nat)(x:Str):Bool:=sg.N[i]?==some x&&(kIs sg x .local||(kIs sg x .cell||kIs sg x .free))&&(!(x==("__debug__":Str))&&!(x==("__classdict__":Str)))
def glb(sg:Sg)(x:Str):Bool:=kIs sg x .globalImplicit&&!(x==("__debug__":Str))
def zGE(sg:Sg)(i:Nat)(x:Str):Bool:=sg.N[i]?==some x&&(kIs sg x .local||(kIs sg x .cell&&(sg.top||sg.oc.contains x)))
def cIs:D->Const->Bool
 | .non,.none=>true| .bl b,.bool c=>b==c| .int i,.int j=>i==j| .str x,.str y=>x==y|_,_=>false
def feq:D->D->Bool
 | .non,.non=>true| .bl b,.bl c=>b==c| .int i,.int j=>i==j| .str x,.str y=>x==y|_,_=>false
def geq:D->D->Bool
 | .t [.int a,.int b],.t [.int c,.int d]=>a==c&&b==d| .t [.non,.int b],.t [.non,.int d]=>b==d|d,e=>feq d e
def gIs(sg:Sg)(x:Str)(d:D):Bool:=match sg.cs.lookup x with
 |some d'=>geq d d'|none=>false
def fIs(sg:Sg)(k:Nat)(x:Str):Bool:=match sg.fs[k]? with
 |some i=>i.x==x|none=>false
def zGF(sg:Sg)(n:Nat)(k:Nat):Bool:=match sg.fs[k]? with
 |some i=>i.n==n&&decide (i.lv<=sg.lv)&&(sg.calm||i.wild)
 |none=>false
def bIn(sg:Sg)(x:Str):Bool:=sg.bs.contains x
def zGG:Gx->Nat
 | .ev _ as=>zGG as+1| .lend _ as=>zGG as+1| .nil=>0
def Wv:Tg->Sg->Expr->Bool
 | .n i,sg,e=>match e with
  | .Name x _=>zGE sg i x|_=>false
 | .t is,sg,e=>match e with
  | .Tuple es _ _=>all2 sg is es|_=>false
where all2 (sg:Sg):List Nat->List Expr->Bool
 | [],[]=>true
 |i::is,e::es=>(match e with | .Name x _=>zGE sg i x|_=>false)&&all2 sg is es
 |_,_=>false
def relab(scope:Scope)(sc:Scope):Scope:={scope with names:=scope.names.map λ(n,k)=>if(k==NameKind.free&&sc.kind==.function&&sc.names.lookup n==some .cell)then(n,NameKind.cell)else(n,k)}
def capB(sg:Sg)(scope:Scope):List Nat->List Str->Bool
 | [],[]=>true|j::js,x::xs=>sg.N[j]?==some x&&scope.names.lookup x==some .free&&capB sg scope js xs|_,_=>false
def JI(sg:Sg)(N:List Str)(scope:Scope):Sg:={sg with N:=N,sc:=relab scope sg.sc,top:=false,oc:=(scope.names.filter λy=>y.2==.cell).map Prod.fst}
def W3(sg:Sg)(nl:Nat)(loc capn:List Str)(caps:List Nat)(scope:Scope):Bool :=
 loc.length==nl&&scope.kind==.function&&decide (loc++capn).Nodup&&scope.names.all (λy=>y.2 != .local||scope.names.lookup y.1==some .local)&&scope.names.all (λy=>y.2 != .cell||scope.names.lookup y.1==some .cell)
  && scope.names.all (λy=>y.2 != .free||sg.sc.names.lookup y.1==some .cell)&&capB sg scope caps capn
def isCmp:Ex->Bool
 | .cmp _ _ _=>true| .chain _ _ _ _ _=>true|_=>false
def swB(sg:Sg)(x:Str)(px:Pos)(scope:Scope)(vp:Pos):Bool:=kIs sg x .local&&px.line==vp.line&&!(scope.names.any λy=>y.1==x&&(y.2==.local||y.2==.cell))
def isCo:Ex->Bool
 | .comp _ _ _ _ _ _ _ _=>true| .comp2 _ _ _ _ _ _ _ _ _=>true|_=>false
def setOk(sg:Sg)(x:Str)(px:Pos)(a:Ex)(v:Expr):Bool:=match v with
 | .ListComp _ _ scope vp=>sg.sc.kind==.function&&(!swB sg x px scope vp||isCo a)
 |v=>YQ v
def zCw(sg:Sg)(i j:Nat)(x y:Str)(px py:Pos)(a b:Expr):Bool :=
 sg.sc.kind==.function&&sg.N[i]?==some x&&sg.N[j]?==some y&&i != j&&kIs sg x .local&&kIs sg y .local&&py.line==px.line&&!(x==y)&&!zH a&&!zH b&&!([a,b].all (foldedForSure 8))&&!([a,b].all (constantsAlone 8))
def isTr:Tx->Bool
 | .tTr=>true|_=>false
def zBK:Ix->Expr->Bool
 | .iZ _ _ _,e=>match e with
  | .Tuple _ _ _=>true|_=>false
 |_,_=>true
mutual
def yD:Ex->Sg->Expr->Bool
 | .c d,_,e=>match e with
  | .Constant k _ _=>cIs d k|_=>false
 | .gl d,sg,e=>match e with
  | .Name x _=>glb sg x&&gIs sg x d|_=>false
 | .fn k,sg,e=>match e with
  | .Name x _=>glb sg x&&fIs sg k x|_=>false
 | .var i,sg,e=>match e with
  | .Name x _=>vis sg i x|_=>false
 | .mov i,sg,e=>match e with
  | .Name x _=>vis sg i x|_=>false
 | .bin o a b,sg,e=>match e with
  | .BinOp x op y _=>op==o.op&&(yD a sg x&&yD b sg y)|_=>false
 | .cmp o a b,sg,e=>match e with
  | .Compare x [op] [y] _=>op==o.op&&yZ y&&(yD a sg x&&yD b sg y)|_=>false
 | .chain o o' a b c,sg,e=>match e with
  | .Compare x [op,op'] [y,z] _=>op==o.op&&op'==o'.op&&o.isI&&o'.isI&&yZ z&&(yD a sg x&&(yD b sg y&&yD c sg z))|_=>false
 | .neg a,sg,e=>match e with
  | .UnaryOp .USub x _=>yD a sg x|_=>false
 | .not a,sg,e=>match e with
  | .UnaryOp .Not x _=>yD a sg x|_=>false
 | .and a b,sg,e=>match e with
  | .BoolOp .And (x::y::r) p=>yD a sg x&&(match r with | []=>yD b sg y|z::r'=>yD b sg (.BoolOp .And (y::z::r') p))
  |_=>false
 | .t as,sg,e=>match e with
  | .Tuple es _ _=>chkA as sg es|_=>false
 | .l as,sg,e=>match e with
  | .List es _=>chkA as sg es|_=>false
 | .ix a b,sg,e=>match e with
  | .Subscript x y _=>uu y&&(yD a sg x&&yD b sg y)|_=>false
 | .ixO i b,sg,e=>match e with
  | .Subscript (.Name x _) y _=>vis sg i x&&uu y&&yD b sg y|_=>false
 | .reprO i,sg,e=>match e with
  | .Call (.Name f _) [.Name x _] [] _=>f == "repr"&&glb sg "repr"&&bIn sg "repr"&&vis sg i x|_=>false
 | .sl a l h,sg,e=>match e with
  | .Subscript x (.Slice lo hi none _) _=>yD a sg x&&(chkO l sg lo&&chkO h sg hi)|_=>false
 | .comp nl loc capn caps it tg tt el,sg,e=>match e with
  | .ListComp elt [⟨target,iter,ifs,0⟩] scope _=>sg.calm&&(W3 sg nl loc capn caps scope&&yZ iter&&((zBK it target&&chkI it sg iter)&&(Wv tg (JI sg (loc++capn) scope) target&&((match ifs with | []=>isTr tt|c::cs=>cs.isEmpty&&chkT tt (JI sg (loc++capn) scope) c)&&yD el (JI sg (loc++capn) scope) elt))))
  |_=>false
 | .comp2 nl loc capn caps it tg jt tg2 el,sg,e=>match e with
  | .ListComp elt [⟨target,iter,[],0⟩,⟨target2,iter2,[],0⟩] scope _=>sg.calm&&(W3 sg nl loc capn caps scope&&yZ iter&&((zBK it target&&chkI it sg iter)&&(Wv tg (JI sg (loc++capn) scope) target&&(yZ iter2&&((zBK jt target2&&chkI jt (JI sg (loc++capn) scope) iter2)&&(Wv tg2 (JI sg (loc++capn) scope) target2&&yD el (JI sg (loc++capn) scope) elt))))))|_=>false
 | .is T a,sg,e=>match e with
  | .Call (.Name f _) [x,.Name y _] [] _=>f == "isinstance"&&y==T.nm&&glb sg "isinstance"&&bIn sg "isinstance"&&glb sg T.nm&&bIn sg T.nm&&!zH x&&yD a sg x|_=>false
 | .cB b as,sg,e=>match e with
  | .Call (.Name f _) (x::es) [] _=>sg.calm&&(f==b.nm&&glb sg b.nm&&bIn sg b.nm&&yG (x::es)&&chkA as sg (x::es))|_=>false
 | .call k as,sg,e=>match e with
  | .Call (.Name f _) (x::es) [] _=>glb sg f&&fIs sg k f&&zGF sg (zGG as) k&&yG (x::es)&&chkG as sg (x::es)|_=>false
 | .maxd a d,sg,e=>match e with
  | .Call (.Name f _) [x] [⟨some nm,y,_⟩] _=>sg.calm&&(f == "max"&&nm==Str.ofString "default"&&glb sg "max"&&bIn sg "max"&&!zH x&&(yD a sg x&&yD d sg y))|_=>false
 | .isC cl y a,sg,e=>match e with
  | .Call (.Name f _) [x,.Name z _] [] _=>f == "isinstance"&&z==y&&glb sg "isinstance"&&bIn sg "isinstance"&&glb sg y&&(cl==sg.cl&&sg.cl.contains y)&&!zH x&&yD a sg x|_=>false
 | .isV cl a,sg,e=>match e with
  | .Call (.Name f _) [x,.Name z _] [] _=>f == "isinstance"&&z == "ValueError"&&glb sg "isinstance"&&bIn sg "isinstance"&&glb sg "ValueError"&&bIn sg "ValueError"&&(cl==sg.cl&&!sg.cl.isEmpty)&&!zH x&&yD a sg x|_=>false
 | .cnt a b,sg,e=>match e with
  | .Call (.Attribute (.Name x p) m ap) [v] [] cp=>m == "count"&&ap.endLine==cp.line&&!zH v&&(yD a sg (.Name x p)&&yD b sg v)|_=>false
 | .idx a b,sg,e=>match e with
  | .Call (.Attribute (.Name x p) m ap) [v] [] cp=>m == "index"&&ap.endLine==cp.line&&!zH v&&(yD a sg (.Name x p)&&yD b sg v)|_=>false
 | .atr ri f a,sg,e=>match e with
  | .Attribute (.Name x p) g _=>g==f&&(ri==sg.ri&&!sg.cl.isEmpty)&&sg.ri.all (λc=>sg.cl.contains c)&&yD a sg (.Name x p)|_=>false
 | .callV ks g as,sg,e=>match e with
  | .Call fe (x::es) [] _=>QB fe&&ks.all (zGF sg (zGG as))&&yG (x::es)&&(yD g sg fe&&chkG as sg (x::es))|_=>false
def chkT:Tx->Sg->Expr->Bool
 | .tAnd a b,sg,e=>match e with
  | .BoolOp .And (x::y::r) p=>chkT a sg x&&(match r with | []=>chkT b sg y|z::r'=>chkT b sg (.BoolOp .And (y::z::r') p))
  |_=>false
 | .tOr a b,sg,e=>match e with
  | .BoolOp .Or (x::y::r) p=>chkT a sg x&&(match r with | []=>chkT b sg y|z::r'=>chkT b sg (.BoolOp .Or (y::z::r') p))
  |_=>false
 | .tNot a,sg,e=>match e with
  | .UnaryOp .Not x _=>chkT a sg x|_=>false
 | .tE a,sg,e=>(zFo e||isCmp a)&&yD a sg e
 | .tTr,_,_=>false
def chkA:Ax->Sg->List Expr->Bool
 | .nil,_,es=>es.isEmpty
 | .cons a as,sg,es=>match es with
  |x::r=>!zH x&&(yD a sg x&&chkA as sg r)| []=>false
def chkG:Gx->Sg->List Expr->Bool
 | .nil,_,es=>es.isEmpty
 | .ev a as,sg,es=>match es with
  |x::r=>!zH x&&(yD a sg x&&chkG as sg r)| []=>false
 | .lend i as,sg,es=>match es with
  | .Name x _::r=>vis sg i x&&chkG as sg r|_=>false
def chkO:Ox->Sg->Option Expr->Bool
 | .oN,_,o=>o.isNone
 | .oS a,sg,o=>match o with
  |some e=>yD a sg e|none=>false
def chkI:Ix->Sg->Expr->Bool
 | .iL a,sg,e=>yD a sg e| .iT a,sg,e=>yD a sg e
 | .iRv as,sg,e=>match e with
  | .Call (.Name f _) [.Call (.Name f2 _) [x] [] _] [] _=>f == "reversed"&&glb sg "reversed"&&bIn sg "reversed"&&(f2 == "range"&&glb sg "range"&&bIn sg "range"&&!zH x&&chkA as sg [x])|_=>false
 | .iR1 as,sg,e=>match e with
  | .Call (.Name f _) [x] [] _=>f == "range"&&glb sg "range"&&bIn sg "range"&&!zH x&&chkA as sg [x]|_=>false
 | .iZ t1 t2 as,sg,e=>match e with
  | .Call (.Name f _) [x,y] [] _=>f == "zip"&&glb sg "zip"&&bIn sg "zip"&&!zH x&&!zH y&&chkA as sg [x,y]|_=>false
end
mutual
def chkS:Sx->Sg->Stmt->Bool
 | .sIf t a b,sg,e=>match e with
  | .If c x y _=>chkT t sg c&&(chkB a sg x&&chkB b sg y)|_=>false
 | .sSet i a,sg,e=>match e with
  | .Assign [.Name x px] v _=>zGE sg i x&&setOk sg x px a v&&yD a sg v|_=>false
 | .sAny,_,_=>true
 | .sRaise c,sg,e=>match e with
  | .Raise (some (.Call (.Name x _) [] [] _)) none _=>sg.calm&&(x==c&&glb sg c&&sg.rs.contains c)|_=>false
 | .sWhile t b,sg,e=>match e with
  | .While c body [] _=>chkT t sg c&&chkB b sg body|_=>false
 | .sAug i o a,sg,e=>match e with
  | .AugAssign (.Name x _) op v _=>zGE sg i x&&op==o.op&&o.isAug&&yD a sg v|_=>false
 | .sTry cl b i h,sg,e=>match e with
  | .Try body [.ExceptHandler (some (.Name t _)) (some n) (b0::suite) _] [] [] _=>t == "ThrowError"&&glb sg "ThrowError"&&(cl==sg.cl&&!sg.cl.isEmpty)&&sg.top&&(sg.N[i]?==some n&&kIs sg n .local)&&(chkB b sg body&&chkB h {sg with calm:=false} (b0::suite))
  |_=>false
 | .sRaiseA c as,sg,e=>match e with
  | .Raise (some (.Call (.Name x _) (y::es) [] _)) none _=>sg.calm&&(x==c&&glb sg c&&sg.ri.contains c&&decide (3<=sg.lv)&&yG (y::es)&&chkA as sg (y::es))|_=>false
 | .sPar i j as,sg,e=>match e with
  | .Assign [.Tuple [.Name x px,.Name y py] _ _] (.Tuple [a,b] _ _) _=>sg.calm&&(zCw sg i j x y px py a b&&chkA as sg [a,b])|_=>false
 | .sRet a,sg,e=>match e with
  | .Return (some v) _=>yD a sg v|_=>false
 | .sDrop a,sg,e=>match e with
  | .Expr v _=>YQ v&&yD a sg v|_=>false
 | .sIx i b a,sg,e=>match e with
  | .Assign [.Subscript (.Name x _) y _] v _=>vis sg i x&&uu y&&YQ v&&(yD b sg y&&yD a sg v)|_=>false
 | .sApp i a,sg,e=>match e with
  | .Expr (.Call (.Attribute (.Name x _) m ap) [v] [] cp) _=>m == "append"&&ap.endLine==cp.line&&vis sg i x&&!zH v&&yD a sg v|_=>false
 | .sForL a tg b,sg,e=>match e with
  | .For t it body [] _=>sg.calm&&(yZ it&&Wv tg sg t&&(yD a sg it&&chkB b sg body))|_=>false
 | .sForI ix tg b,sg,e=>match e with
  | .For t it body [] _=>sg.calm&&(yZ it&&Wv tg sg t&&((zBK ix t&&chkI ix sg it)&&chkB b sg body))|_=>false
 | .sForR1 as tg b,sg,e=>match e with
  | .For t (.Call (.Name f _) [x] [] _) body [] _=>sg.calm&&(f == "range"&&glb sg "range"&&bIn sg "range"&&!zH x&&Wv tg sg t&&(chkA as sg [x]&&chkB b sg body))|_=>false
 | .sForR2 as tg b,sg,e=>match e with
  | .For t (.Call (.Name f _) [x,y] [] _) body [] _=>sg.calm&&(f == "range"&&glb sg "range"&&bIn sg "range"&&!zH x&&!zH y&&Wv tg sg t&&(chkA as sg [x,y]&&chkB b sg body))|_=>false
def chkB:Bx->Sg->List Stmt->Bool
 | .bNil,_,l=>l.isEmpty
 | .bOne a,sg,l=>match l with
  | [s]=>chkS a sg s|_=>false
 | .bSeq a b,sg,l=>match l with
  |s::r=>chkS a sg s&&chkB b sg r|_=>false
end
structure SgOk(X:Cx)(sg:Sg):Prop where
 N:X.N=sg.N
 sc:X.env.scope=sg.sc
 fn:sg.top=true->∀x,X.fn x=true
 oc:∀x∈sg.oc,X.env.scope.names.lookup x=some .cell->X.fn x=true
 calm:sg.calm=true->X.calm=true
 hd:sg.calm=true->X.A.handled=none
 stk:sg.top=true->X.stack=X.env::X.outer/\X.env.frame=some X.env.locals
 nd:X.N.Nodup
 cs:∀x d,sg.cs.lookup x=some d->∃u v,X.mg x=some u/\yL v u/\∀H,Rep X.K X.mg H d v
 fs:∀i∈sg.fs,∃f fd ps,X.mg i.x=some (.ref f)/\keepIn X.K (.ref f)=true/\JP X.K fd ps []/\ps.length=i.n/\FnOkN (!i.wild) X.prog X.w X.K X.mg X.base i.lv f fd ps (spM X.K X.mg i.n i.F)
 bs:∀x∈sg.bs,X.mg x=none
 room:RoomN sg.lv X.A
 cl:sg.cl≠[]->∃T,X.mg "ThrowError"=some (.ref T)/\TCls X.K T/\∀c∈sg.cl,∃C,X.mg c=some (.ref C)/\XCls X.K c C T/\C≠T
 rs:∀c∈sg.rs,∃C,X.mg c=some (.ref C)/\excIn X.K C VB "ValueError.__new__"=true
 sm:zF9 X.K
 ri:∀c∈sg.ri,RIok X.prog X.w X.K X.mg X.base c/\RAok X.K X.mg c
section
variable{X:Cx}{sg:Sg}
def we(G:SgOk X sg){x:Str}{k:NameKind}(h:kIs sg x k=true):X.env.scope.names.lookup x=some k:=by
 rw[G.sc];simpa[kIs]using h
def yN(G:SgOk X sg){x:Str}(h:glb sg x=true):Gl X x/\(x==("__debug__":Str))=false:=by
 simp only[glb,Bool.and_eq_true,Bool.not_eq_true']at h;exact⟨we G h.1,h.2⟩
def WU(G:SgOk X sg){x:Str}{i:Nat}{pos:Pos}(h:vis sg i x=true):PE X (.Name x pos) (Z0 i):=by
 simp only[vis,Bool.and_eq_true,Bool.or_eq_true,Bool.not_eq_true']at h;refine zFd (by rw[G.N];simpa using h.1.1) ?_ h.2.1 h.2.2;rcases h.1.2 with q|q|q
 ·exact .inl (we G q)
 ·exact .inr (.inl (we G q))
 ·exact .inr (.inr (we G q))
def uC(G:SgOk X sg){x:Str}{i:Nat}(h:zGE sg i x=true):X.N[i]?=some x/\Loc X.env.scope x/\(X.fn x=true\/X.env.scope.names.lookup x=some .local):=by
 simp only[zGE,Bool.and_eq_true,Bool.or_eq_true]at h;refine⟨by rw[G.N];simpa using h.1,?_⟩;rcases h.2 with q|q
 ·exact⟨.inl (we G q),.inr (we G q)⟩
 ·refine⟨.inr (we G q.1),.inl ?_⟩
  rcases q.2 with q2|q2
  ·exact G.fn q2 x
  ·exact G.oc x (by simpa using q2) (we G q.1)
def wJ(G:SgOk X sg){x:Str}(h:bIn sg x=true):X.mg x=none:=G.bs x (by simpa[bIn]using h)
def feq_of{d d':D}(h:feq d d'=true):d=d':=by
 cases d<;>cases d'<;>simp[feq]at h<;>first|rfl|(subst h;rfl)
def geq_of{d d':D}(h:geq d d'=true):d=d':=by
 unfold geq at h;split at h
 ·obtain⟨h1,h2⟩:=Bool.and_eq_true_iff.mp h
  have:=beq_iff_eq.mp h1;have:=beq_iff_eq.mp h2
  subst_vars;rfl
 ·have:=beq_iff_eq.mp h
  subst_vars;rfl
 ·exact feq_of h
def ok_glR{x:Str}{d:D}{u:Value}{v:V}{pos:Pos}(hg:Gl X x)(hm:X.mg x=some u)(r:yL v u)(hr:∀H,Rep X.K X.mg H d v)(hd:(x==("__debug__":Str))=false):EOk X (.Name x pos) (eC d) :=
 zq (G0 hg hm r hd) λO H Q ⟨M,E,hl,fr,k⟩=>k _ H ((Got.refl (T0:=[]) hl fr).more (T:=[(some v,.v d)]) (FR.add fr (hr _)) Step.refl.add)
def zGH{k:Nat}{x:Str}(h:fIs sg k x=true):∃i,sg.fs[k]?=some i/\i.x=x:=by
 unfold fIs at h;split at h
 ·rename_i i e;exact⟨i,e,by simpa using h⟩
 ·cases h
def zCx{k n:Nat}(h:zGF sg n k=true):∃i,sg.fs[k]?=some i/\i.n=n/\i.lv<=sg.lv/\(sg.calm||i.wild)=true:=by
 unfold zGF at h;split at h
 ·rename_i i e
  simp only[Bool.and_eq_true,decide_eq_true_eq,beq_iff_eq]at h;exact⟨i,e,h.1.1,h.1.2,by simpa using h.2⟩
 ·cases h
def hd_of(G:SgOk X sg){b:Bool}(h:(sg.calm||b)=true):(!b)=true->X.A.handled=none:=λhb=>G.hd (by
 cases b with
 |true=>cases hb|false=>simpa using h)
def zAI{fs:List FI}{k:Nat}{i:FI}(h:fs[k]?=some i):fiF fs k=i.F/\fiX fs k=i.x:=by
 unfold fiF fiX;rw[h];exact⟨rfl,rfl⟩
def vS{b:Expr}(h:uu b=true):ve b:=by
 intro o i;cases b<;>first|rfl|(cases h)
def GQ(es:List Expr)(is:List Nat)(G:SgOk X sg)(h:Wv.all2 sg is es=true):PGs X es (WE is)/\(assignEach es X.env).length=is.length/\(assignEach es X.env).findIdx? (·.1)=none:=by
 induction es generalizing is with
 |nil =>
  cases is with
  |nil=>exact⟨pgs_nil,rfl,rfl⟩|cons i is=>cases h
 |cons e es ih =>
  cases is with
  |nil=>cases h
  |cons i is =>
   simp only[Wv.all2,Bool.and_eq_true]at h;obtain⟨h1,h2⟩:=h;cases e with
   |Name x pos =>
    obtain⟨q1,q2,q3⟩:=uC G h1;obtain⟨i1,i2,i3⟩:=ih is h2;refine⟨zDv (zBP G.nd q1 q2 q3) i1 rfl,?_,?_⟩
    ·show(assignEach es X.env).length+1=_
     rw[i2];rfl
    ·show List.findIdx? _ ((false,_)::assignEach es X.env)=none
     simp only[List.findIdx?_cons,i3];rfl
   |_=>cases h1
def gOf(K:qH):Tg->TG
 | .n i=>ud i| .t is=>gTup K is.length (WE is)
def YN(tg:Tg):GOk X (gOf X.K tg) tg.m:=by
 cases tg with
 |n i=>exact go_name i|t is=>exact go_tup is rfl
def W4{tg:Tg}{t:Expr}(hcm:sg.calm=true)(G:SgOk X sg)(h:Wv tg sg t=true):PG X t (gOf X.K tg):=by
 cases tg with
 |n i =>
  simp only[Wv]at h;cases t with
  |Name x pos =>
   obtain⟨q1,q2,q3⟩:=uC G h;exact zBP G.nd q1 q2 q3
  |_=>cases h
 |t is =>
  simp only[Wv]at h;cases t with
  |Tuple es k pos =>
   obtain⟨q1,q2,q3⟩:=GQ es is G h;exact pg_tup (G.calm hcm) q1 q2 q3
  |_=>cases h
def Zl(G:SgOk X sg){N:List Str}{scope:Scope}(hn:N.Nodup)(hcell:∀y∈scope.names,y.2=.cell->scope.names.lookup y.1=some .cell){cl C ex s H}:SgOk (cxB X N scope cl C ex s H) (JI sg N scope) where
 N:=rfl
 sc:=by
  show relabel scope X.env=relab scope sg.sc
  rw[<- G.sc];rfl
 fn:=λh=>by cases h
 oc:=λx h _=>by
  obtain⟨y,hy,rfl⟩:=mem_map.mp (show x∈(scope.names.filter λy=>y.2==.cell).map Prod.fst from h);obtain⟨q1,q2⟩:=mem_filter.mp hy;show(scope.names.lookup y.1==some NameKind.cell)=true;rw[hcell y q1 (by simpa using q2)];rfl
 calm:=G.calm
 hd:=G.hd
 stk:=λh=>by cases h
 nd:=hn
 cs:=G.cs
 fs:=G.fs
 bs:=G.bs
 room:=G.room
 cl:=G.cl
 rs:=G.rs
 sm:=G.sm
 ri:=G.ri
def yB(G:SgOk X sg):SgOk X.nox sg:=⟨G.N,G.sc,G.fn,G.oc,G.calm,G.hd,G.stk,G.nd,G.cs,G.fs,G.bs,G.room,G.cl,G.rs,G.sm,G.ri⟩
def tr_ok(G:SgOk X sg)(pn:List (Addr×Obj))(E:Value->Shared->Prop):SgOk (trX X pn E) sg:=⟨G.N,G.sc,G.fn,G.oc,G.calm,G.hd,G.stk,G.nd,G.cs,G.fs,G.bs,G.room,G.cl,G.rs,G.sm,G.ri⟩
def hd_ok(G:SgOk X sg)(a:Addr):SgOk (hdX X a) {sg with calm:=false}:=⟨G.N,G.sc,G.fn,G.oc,λh=>by(cases h),λh=>by(cases h),G.stk,G.nd,G.cs,G.fs,G.bs,⟨G.room.gd,G.room.dp,G.room.un⟩,G.cl,G.rs,G.sm,G.ri⟩
end
section
open Bool
def kit_of(K:qH)(T:Ty):Kit K T.s:=by
 cases T
 ·exact kit_int K
 ·exact zEd K
 ·exact zCE K
 ·exact zEe K
 ·exact kit_str K
 ·exact zEf K
def bt_of(T:Ty):bootBuiltins T.nm=some (.type T.s):=by
 cases T
 ·exact zFx
 ·exact bt_bool
 ·exact Q2
 ·exact bt_list
 ·exact bt_str
 ·exact bt_dict
def nm_of(T:Ty):T.nm≠"__name__":=by cases T<;>decide +kernel
def bin_of{X:Cx}{o:Op2}{a b:Expr}{ma mb:ME}{pos:Pos}(ha:EOk X a ma)(hb:EOk X b mb):EOk X (.BinOp a o.op b pos) (Jo o.f ma mb):=by
 cases o
 ·exact zAt op_addD ro_add ha hb
 ·exact zAt op_sub ro_sub ha hb
 ·exact zAt (op_mulD.or op_repL) ro_mulG ha hb
 ·exact zAt zEK ro_fdiv ha hb
 ·exact zAt op_mod ro_mod ha hb
 ·exact zAt op_pow ro_pow ha hb
def zAJ{X:Cx}{sg:Sg}(G:SgOk X sg):X.A.units+20<cLine:=by have:=G.room.un;omega
def bt_sum:bootBuiltins "sum"=some (.builtin "sum"):=by decide +kernel
def bt_repr:bootBuiltins "repr"=some (.builtin "repr"):=by decide +kernel
def zGI{X:Cx}{sg:Sg}(G:SgOk X sg):X.A.units+64<cLine:=by have:=G.room.un;omega
def yR{op:CmpOp}{b:Expr}(h:yZ b=true):behindInMarks op b=false:=by
 cases b<;>first|rfl|(cases h)
def cmp_of{X:Cx}{sg:Sg}(G:SgOk X sg){o:Cp}{a b:Expr}{ma mb:ME}{pos:Pos}(hn:yZ b=true)(ha:EOk X a ma)(hb:EOk X b mb):EOk X (.Compare a [o.op] [b] pos) (Jo o.f ma mb):=by
 cases o
 ·exact WA op_lt ro_lt (yR hn) ha hb
 ·exact WA op_le ro_le (yR hn) ha hb
 ·exact WA op_gt ro_gt (yR hn) ha hb
 ·exact WA op_ge ro_ge (yR hn) ha hb
 ·exact WA (op_eq.or (zFy (zAJ G))) zF2 (yR hn) ha hb
 ·exact WA (op_ne.or (zFz (zAJ G))) zF3 (yR hn) ha hb
 ·exact WA op_is ro_is (yR hn) ha hb
def cmpT_of{X:Cx}{sg:Sg}(G:SgOk X sg){o:Cp}{a b:Expr}{ma mb:ME}{pos:Pos}(hn:yZ b=true)(ha:EOk X a ma)(hb:EOk X b mb):TOk X (.Compare a [o.op] [b] pos) (tT (Jo o.f ma mb)):=by
 cases o
 ·exact YS op_lt ro_lt (yR hn) ha hb
 ·exact YS op_le ro_le (yR hn) ha hb
 ·exact YS op_gt ro_gt (yR hn) ha hb
 ·exact YS op_ge ro_ge (yR hn) ha hb
 ·exact YS (op_eq.or (zFy (zAJ G))) zF2 (yR hn) ha hb
 ·exact YS (op_ne.or (zFz (zAJ G))) zF3 (yR hn) ha hb
 ·exact YS op_is ro_is (yR hn) ha hb
def zCy{o o':CmpOp}{b c:Expr}(h:yZ c=true):lastMarks [o,o'] [b,c]=false:=yR h
def zAK{X:Cx}{o:Cp}(h:o.isI=true):OpR X (compareOp o.op) (rI0 λi j=>.bl (o.b i j)):=by
 cases o<;>first|exact op_lt|exact op_le|exact op_gt|exact op_ge|(cases h)
def bi_of{X:Cx}{sg:Sg}(hcm:sg.calm=true)(G:SgOk X sg)(b:Bi){x:Expr}{es:List Expr}{m:MA}{p pos:Pos}(hg:Gl X b.nm)(hm:X.mg b.nm=none)(hs:yG (x::es)=true)(ha:AOk X (x::es) m):EOk X (.Call (.Name b.nm p) (x::es) [] pos) (eCB b.f m):=by
 have h1:zH x=false:=by simp only[yG,Bool.and_eq_true,Bool.not_eq_true']at hs;exact hs.1
 have h2:yG es=true:=by simp only[yG,Bool.and_eq_true,Bool.not_eq_true']at hs;exact hs.2
 cases b with
 |len=>exact Yq ul co_len hg hm bt_len ha (by decide +kernel) (by decide +kernel) h1 h2|max=>exact Yq (zBa (G.calm hcm)) co_max hg hm zFw ha (by decide +kernel) (by decide +kernel) h1 h2|all=>exact Yq (zEG (G.calm hcm)) co_all hg hm bt_all ha (by decide +kernel) (by decide +kernel) h1 h2|int=>exact uz zBb co_int hg hm zFx ha (by decide +kernel) (by decide +kernel) h1 h2|tuple=>exact uz vh zEM hg hm Q2 ha (by decide +kernel) (by decide +kernel) h1 h2|sum=>exact Yq (call_or (zCK (G.calm hcm)) (zCL (G.calm hcm))) co_sumG hg hm bt_sum ha (by decide +kernel) (by decide +kernel) h1 h2|repr=>exact Yq (vP G.sm G.room.gd (zGI G)) co_repr hg hm bt_repr ha (by decide +kernel) (by decide +kernel) h1 h2
theorem zAL(fs:List FI):∀as:Gx,(dG fs as).length=zGG as
 | .nil=>rfl| .ev a as=>congrArg (·+1) (zAL fs as)| .lend i as=>congrArg (·+1) (zAL fs as)
def call_ok{X:Cx}{sg:Sg}(G:SgOk X sg){k:Nat}{as:Gx}{f:Str}{x:Expr}{es:List Expr}{p pos:Pos}(h1:glb sg f=true)(h2:fIs sg k f=true)(h3:zGF sg (zGG as) k=true)(h4:yG (x::es)=true)(ha:zEX X (x::es) (dG sg.fs as)):EOk X (.Call (.Name f p) (x::es) [] pos) (yp (fiF sg.fs k) (dG sg.fs as)):=by
 obtain⟨g1,g2⟩:=yN G h1;obtain⟨i,e1,e2⟩:=zGH h2;obtain⟨i',e1',e3,e4,e5⟩:=zCx h3;rw[e1]at e1';cases e1';obtain⟨a,fd,ps,m1,m2,m3,m4,m5⟩:=G.fs i (mem_of_getElem? e1);rw[(zAI e1).1];subst e2;simp only[yG,Bool.and_eq_true,Bool.not_eq_true']at h4;rw[<- m4]at m5;exact ok_call m5 (hd_of G e5) (G.room.mono e4) g1 m1 m2 m3 ha (by rw[zAL,m4,e3]) g2 h4.1 h4.2
theorem zGJ{X:Cx}{sg:Sg}(G:SgOk X sg){n:Nat}:∀{ks:List Nat},ks.all (zGF sg n)=true->zAv X n (vw (ks.map λk=>(fiX sg.fs k,fiF sg.fs k)))
 | [],_=>tab_nil
 |k::ks,h=>by
  simp only[all_cons,Bool.and_eq_true]at h;obtain⟨i,e1,e3,e4,e5⟩:=zCx h.1;obtain⟨a,fd,ps,m1,m2,m3,m4,m5⟩:=G.fs i (mem_of_getElem? e1);simp only[map_cons];rw[(zAI e1).1,(zAI e1).2];rw[e3]at m5;exact zEh m1 m2 m5 (hd_of G e5) (G.room.mono e4) m3 (zGJ G h.2)
theorem GR{X:Cx}{sg:Sg}(G:SgOk X sg){scope:Scope}:∀{caps:List Nat} {capn:List Str},capB sg scope caps capn=true->QI X scope caps capn
 | [],[],_=>trivial| [],_::_,h=>by cases h|_::_,[],h=>by cases h
 |j::js,x::xs,h=>by
  simp only[capB,Bool.and_eq_true]at h;exact⟨by rw[G.N];simpa using h.1.1,by simpa using h.1.2,GR G h.2⟩
end
section
def set_of{x:Str}{p p1:Pos}{b:Expr}{env:Env}(h:uu b=true):∀v,assign (.Subscript (.Name x p) b p1) env v=(do
   let ov <- holding [v] (eval (.Name x p) env)
   let iv <- holding [v,ov] (eval b env)
   standAt p1
   holding [v,ov,iv] (setItem ov iv v)
   release [v,ov,iv] []):=by
 intro v;cases b<;>first|rfl|(cases h)
def zCz{t e:Expr}{l:Nat}{env:Env}(h:YQ e=true):swapsWithSole [t] e l env=pure false:=by
 show swapsWith e (some t) l env=pure false
 exact vj h
def zC0{X:Cx}{sg:Sg}(G:SgOk X sg)(h:(sg.sc.kind==ScopeKind.function)=true):X.env.blockKind=.function:=by
 have:X.env.scope.kind=.function:=by rw[G.sc];exact beq_iff_eq.mp h
 unfold Env.blockKind;rw[this];rfl
def zC1{X:Cx}{sg:Sg}(G:SgOk X sg)(hk:(sg.sc.kind==ScopeKind.function)=true){el:Expr}{gs:List Comprehension}{scope:Scope}{vp px:Pos}{x:Str}{l:Nat}:swapsWith (.ListComp el gs scope vp) (some (.Name x px)) l X.env=pure (swB sg x px scope vp):=by
 show(pure (X.env.blockKind==.function&&X.env.kindOf x==some .local&&px.line==vp.line&&!(scope.names.any λ(n,k)=>n==x&&(k==.local||k==.cell))):Sem Bool)=_
 rw[zC0 G hk];unfold swB kIs Env.kindOf;rw[G.sc];simp
def sw_par0{env:Env}{x y:Str}{px py p p2:Pos}{a b:Expr}{kt k2:Nat}(hk:env.blockKind=.function)(hx:env.kindOf x=some .local)(hy:env.kindOf y=some .local)(hl:py.line=px.line)(hxy:(x==y)=false)(ha:zH a=false)(hb:zH b=false)(hf:[a,b].all (foldedForSure 8)=false)(hc:[a,b].all (constantsAlone 8)=false) :
  swappedStores [.Tuple [.Name x px,.Name y py] kt p] (.Tuple [a,b] k2 p2) env=pure (some [x,y]):=by
 have sa:∀e:Expr,(match e with | .Starred _ _=>true|_=>false)=zH e:=λe=>by cases e<;>rfl
 have e1:([Expr.Name x px,Expr.Name y py].filterMap fun
  | .Name id pos=>if env.kindOf id==some .local&&pos.line==px.line then some id else none|_=>none)=[x,y]:=by simp[hx,hy,hl]
 have e2:[x,y].eraseDups.length=2:=by
  have:y≠x:=λz=>by subst z;simp at hxy
  have h2:(y==x)=false:=by simpa using this
  simp[List.eraseDups,List.eraseDupsBy,List.eraseDupsBy.loop,h2]
 have e3:([a,b].any fun | .Starred ..=>true|_=>false)=false:=by
  simp only[List.any_cons,List.any_nil,Bool.or_false];rw[sa,sa,ha,hb];rfl
 show(if !(2==2||2==3)||2 != 2||env.blockKind != .function then pure none else if([a,b].any fun | .Starred ..=>true|_=>false)then pure none else
  (let names:=([Expr.Name x px,Expr.Name y py].filterMap fun
  | .Name id pos=>if env.kindOf id==some .local&&pos.line==px.line then some id else none|_=>none)
  if names.length != 2||names.eraseDups.length != names.length then pure none else if [a,b].all (foldedForSure 8)then pure none else if [a,b].all (constantsAlone 8)then(do unsupported "assign.tuple-of-constant-expressions:order-of-the-stores";pure (some names))else pure (some names)):Sem (Option (List Str)))=_
 rw[hk,e3,e1,hf,hc];simp[e2]
def sw_par{X:Cx}{sg:Sg}(G:SgOk X sg){i j:Nat}{x y:Str}{px py p p2:Pos}{a b:Expr}{kt k2:Nat}(h:zCw sg i j x y px py a b=true):swappedStores [.Tuple [.Name x px,.Name y py] kt p] (.Tuple [a,b] k2 p2) X.env=pure (some [x,y]):=by
 unfold zCw at h;simp only[Bool.and_eq_true,Bool.not_eq_true',beq_iff_eq,bne_iff_ne]at h;obtain⟨⟨⟨⟨⟨⟨⟨⟨⟨⟨⟨kk,_⟩,_⟩,_⟩,l1⟩,l2⟩,ln⟩,xy⟩,sa⟩,sb⟩,f1⟩,f2⟩:=h;exact sw_par0 (zC0 G (by rw[kk];rfl)) (we G l1) (we G l2) ln xy sa sb f1 f2
def zGK{X:Cx}{op:BoolOp}{vs:List Expr}{p:Pos}{m:MT}(h:TOk X (.BoolOp op vs p) m):WOk X (.BoolOp op vs p) m:=λwh=>h
def zC2{e:Expr}{env:Env}{cpos:Pos}(h:zH e=false):((backTo cpos (starEach (e::[]) env)).all (λx=>!x.1)&&(backToKw cpos (keywordEach [] env)).all (λx=>x.1.isSome)
   && decide ((e::([]:List Expr)).length+([]:List Keyword).length+(if([]:List Keyword).isEmpty then 0 else 1)<30))=true:=by
 rw[zL h];rfl
def zE{a b:Bool}(h:(a&&b)=true):a=true/\b=true:=by simpa using h
def nst{a:Bool}(h:(!a)=true):a=false:=by simpa using h
def uD:bootBuiltins "ValueError"=some (.type "ValueError"):=by decide +kernel
mutual
theorem sE:∀(t:Ex) {X:Cx} {sg:Sg} {e:Expr},SgOk X sg->yD t sg e=true->EOk X e (dE sg.fs t)
 | .c d,X,sg,e,G,h=>by
  cases e with
  |Constant k w1 w2 =>
   replace h:(cIs d k)=true:=h;unfold cIs at h;split at h
   ·exact ok_non
   ·have:=(beq_iff_eq.mp h);subst this;exact ok_bl
   ·have:=(beq_iff_eq.mp h);subst this;exact ok_int
   ·have:=(beq_iff_eq.mp h);subst this;exact ok_str
   ·cases h
  |_=>exact nf h
 | .gl d,X,sg,e,G,h=>by
  cases e with
  |Name x w1 =>
   replace h:(glb sg x&&gIs sg x d)=true:=h;obtain⟨h1,h2⟩:=zE h;obtain⟨g1,g2⟩:=yN G h1;unfold gIs at h2;split at h2
   ·rename_i d' e
    have:=geq_of h2;subst this;obtain⟨u,v,q1,q2,q3⟩:=G.cs x d e;exact ok_glR g1 q1 q2 q3 g2
   ·cases h2
  |_=>exact nf h
 | .fn k,X,sg,e,G,h=>by
  cases e with
  |Name x w1 =>
   replace h:(glb sg x&&fIs sg k x)=true:=h;obtain⟨h1,h2⟩:=zE h;obtain⟨g1,g2⟩:=yN G h1;obtain⟨i,e1,e2⟩:=zGH h2;obtain⟨a,fd,ps,m1,m2,m3,m4,m5⟩:=G.fs i (mem_of_getElem? e1);show EOk X _ (eC (.fn (fiX sg.fs k)));rw[(zAI e1).2];subst e2;exact ok_fn g1 m1 g2
  |_=>exact nf h
 | .var i,X,sg,e,G,h=>by
  cases e with
  |Name x w1 =>
   replace h:(vis sg i x)=true:=h;exact ok_var i (WU G h)
  |_=>exact nf h
 | .mov i,X,sg,e,G,h=>by
  cases e with
  |Name x w1 =>
   replace h:(vis sg i x)=true:=h;exact ok_move i (WU G h)
  |_=>exact nf h
 | .bin o a b,X,sg,e,G,h=>by
  cases e with
  |BinOp x op y w1 =>
   replace h:(op==o.op&&(yD a sg x&&yD b sg y))=true:=h;obtain⟨h1,h2⟩:=zE h;obtain⟨h2,h3⟩:=zE h2;have:=beq_iff_eq.mp h1;subst this;exact bin_of (sE a G h2) (sE b G h3)
  |_=>exact nf h
 | .cmp o a b,X,sg,e,G,h=>by
  cases e with
  |Compare x v1 v2 w1 =>
   cases v1 with
   |cons op v3 =>
    cases v3 with
    |nil =>
     cases v2 with
     |cons y v4 =>
      cases v4 with
      |nil =>
       replace h:(op==o.op&&yZ y&&(yD a sg x&&yD b sg y))=true:=h;obtain⟨h1,h2⟩:=zE h;obtain⟨h1,h0⟩:=zE h1;obtain⟨h2,h3⟩:=zE h2;have:=beq_iff_eq.mp h1;subst this;exact cmp_of G h0 (sE a G h2) (sE b G h3)
      |_=>exact nf h
     |_=>exact nf h
    |_=>exact nf h
   |_=>exact nf h
  |_=>exact nf h
 | .chain o o' a b c,X,sg,e,G,h=>by
  cases e with
  |Compare x v5 v6 w1 =>
   cases v5 with
   |cons op v7 =>
    cases v7 with
    |cons op' v8 =>
     cases v8 with
     |nil =>
      cases v6 with
      |cons y v9 =>
       cases v9 with
       |cons z v10 =>
        cases v10 with
        |nil =>
         replace h:(op==o.op&&op'==o'.op&&o.isI&&o'.isI&&yZ z&&(yD a sg x&&(yD b sg y&&yD c sg z)))=true:=h;obtain⟨h1,h2⟩:=zE h;obtain⟨h1,k5⟩:=zE h1;obtain⟨h1,k4⟩:=zE h1;obtain⟨h1,k3⟩:=zE h1;obtain⟨k1,k2⟩:=zE h1;obtain⟨h2,h3⟩:=zE h2;obtain⟨h3,h4⟩:=zE h3;have:=beq_iff_eq.mp k1;subst this;have:=beq_iff_eq.mp k2;subst this;exact zEg (zAK k3) (zAK k4) (sE a G h2) (sE b G h3) (sE c G h4) (zCy k5)
        |_=>exact nf h
       |_=>exact nf h
      |_=>exact nf h
     |_=>exact nf h
    |_=>exact nf h
   |_=>exact nf h
  |_=>exact nf h
 | .neg a,X,sg,e,G,h=>by
  cases e with
  |UnaryOp v11 x w1 =>
   cases v11 with
   |USub =>
    replace h:(yD a sg x)=true:=h;exact ok_neg (sE a G h)
   |_=>exact nf h
  |_=>exact nf h
 | .not a,X,sg,e,G,h=>by
  cases e with
  |UnaryOp v12 x w1 =>
   cases v12 with
   |Not =>
    replace h:(yD a sg x)=true:=h;exact ok_not (sE a G h)
   |_=>exact nf h
  |_=>exact nf h
 | .and a b,X,sg,e,G,h=>by
  cases e with
  |BoolOp v13 v14 p =>
   cases v13 with
   |And =>
    cases v14 with
    |cons x v15 =>
     cases v15 with
     |cons y r =>
      replace h:(yD a sg x&&_)=true:=h;obtain⟨h1,h2⟩:=zE h;cases r with
      |nil=>exact zFr (sE a G h1) (ok_one (sE b G h2))|cons z r'=>exact zFr (sE a G h1) (sE b G h2)
     |_=>exact nf h
    |_=>exact nf h
   |_=>exact nf h
  |_=>exact nf h
 | .t as,X,sg,e,G,h=>by
  cases e with
  |Tuple es w1 w2 =>
   replace h:(chkA as sg es)=true:=h;exact ok_tup (sA as G h)
  |_=>exact nf h
 | .l as,X,sg,e,G,h=>by
  cases e with
  |List es w1 =>
   replace h:(chkA as sg es)=true:=h;exact ok_lst (sA as G h)
  |_=>exact nf h
 | .ix a b,X,sg,e,G,h=>by
  cases e with
  |Subscript x y w1 =>
   replace h:(uu y&&(yD a sg x&&yD b sg y))=true:=h;obtain⟨h1,h2⟩:=zE h;obtain⟨h2,h3⟩:=zE h2;exact ok_ix ix_both ro_ix (vS h1) (sE a G h2) (sE b G h3)
  |_=>exact nf h
 | .ixO i b,X,sg,e,G,h=>by
  cases e with
  |Subscript v21 y w2 =>
   cases v21 with
   |Name x w1 =>
    replace h:(vis sg i x&&uu y&&yD b sg y)=true:=h;obtain⟨h1,h2⟩:=zE h;obtain⟨h1,h3⟩:=zE h1;exact ok_ixO i (WU G h1) (sE b G h2) (vS h3)
   |_=>exact nf h
  |_=>exact nf h
 | .reprO i,X,sg,e,G,h=>by
  cases e with
  |Call v22 v23 v24 w3 =>
   cases v22 with
   |Name f w1 =>
    cases v23 with
    |cons v25 v26 =>
     cases v25 with
     |Name x w2 =>
      cases v26 with
      |nil =>
       cases v24 with
       |nil =>
        replace h:(f == "repr"&&glb sg "repr"&&bIn sg "repr"&&vis sg i x)=true:=h;obtain⟨h1,h2⟩:=zE h;obtain⟨h1,h3⟩:=zE h1;obtain⟨h1,h4⟩:=zE h1;have:=beq_iff_eq.mp h1;subst this;exact zEt i G.sm G.room.gd (zGI G) (WU G h2) (yN G h4).1 (wJ G h3)
       |_=>exact nf h
      |_=>exact nf h
     |_=>exact nf h
    |_=>exact nf h
   |_=>exact nf h
  |_=>exact nf h
 | .sl a l hh,X,sg,e,G,h=>by
  cases e with
  |Subscript x v27 w2 =>
   cases v27 with
   |Slice lo hi v28 w1 =>
    cases v28 with
    |none =>
     replace h:(yD a sg x&&(chkO l sg lo&&chkO hh sg hi))=true:=h;obtain⟨h1,h2⟩:=zE h;obtain⟨h2,h3⟩:=zE h2;exact ok_sl (sE a G h1) (sO l G h2) (sO hh G h3)
    |_=>exact nf h
   |_=>exact nf h
  |_=>exact nf h
 | .comp nl loc capn caps it tg tt el,X,sg,e,G,h=>by
  cases e with
  |ListComp elt v29 scope w1 =>
   cases v29 with
   |cons v30 v31 =>
    cases v30 with
    |mk target iter ifs v32 =>
     cases v32 with
     |ofNat v33 =>
      cases v33 with
      |zero =>
       cases v31 with
       |nil =>
        replace h:(sg.calm&&(W3 sg nl loc capn caps scope&&yZ iter&&((zBK it target&&chkI it sg iter)&&(Wv tg (JI sg (loc++capn) scope) target&&(_&&yD el (JI sg (loc++capn) scope) elt)))))=true:=h;obtain⟨hcm,h⟩:=zE h;obtain⟨h1,h2⟩:=zE h;obtain⟨h1,k9⟩:=zE h1;unfold W3 at h1;obtain⟨h1,k7⟩:=zE h1;obtain⟨h1,k6⟩:=zE h1;obtain⟨h1,k5⟩:=zE h1;obtain⟨h1,k4⟩:=zE h1;obtain⟨h1,k3⟩:=zE h1;obtain⟨k1,k2⟩:=zE h1;obtain⟨q1,q2⟩:=zE h2;obtain⟨q0,q1⟩:=zE q1;obtain⟨q2,q3⟩:=zE q2;obtain⟨q3,q4⟩:=zE q3;have nd:(loc++capn).Nodup:=of_decide_eq_true k3;have kc:∀y∈scope.names,y.2=.cell->scope.names.lookup y.1=some .cell:=λy hy hc=>by
         have:=all_eq_true.mp k5 y hy;rw[hc]at this;simpa using this
        have I:∀cl C ex s H,SgOk (cxB X.nox (loc++capn) scope cl C ex s H) (JI sg (loc++capn) scope):=λ_ _ _ _ _=>Zl (yB G) nd kc
        refine no_E (ok_lc (X:=X.nox) loc capn (beq_iff_eq.mp k1) (λe s z=>z) (G.calm hcm) (beq_iff_eq.mp k2) (λy hy hl=>?_) (λy hy hc=>?_) (by rw[show X.env.kindOf=λn=>X.env.scope.names.lookup n from rfl,G.sc];exact k6) (GR (yB G) k7) (sI it (yB G) q1 q0) (g:=gOf X.K tg) (λcl C ex s H=>W4 (sg:=JI sg (loc++capn) scope) hcm (I cl C ex s H) q2) (YN tg) (λcl C ex s H=>?_) (λcl C ex s H=>sE (sg:=JI sg (loc++capn) scope) el (I cl C ex s H) q4) (yf k9))
        ·have:=all_eq_true.mp k4 y hy
         rw[hl]at this;simpa using this
        ·exact kc y hy hc
        ·cases ifs with
         |nil =>
          cases tt<;>first|(cases q3;done)|skip;exact ZA
         |cons c cs =>
          obtain⟨q3,q5⟩:=zE q3;have:=isEmpty_iff.mp q3;subst this;exact zCC (sT (sg:=JI sg (loc++capn) scope) tt (I cl C ex s H) q5)
       |_=>exact nf h
      |_=>exact nf h
     |_=>exact nf h
   |_=>exact nf h
  |_=>exact nf h
 | .comp2 nl loc capn caps it tg jt tg2 el,X,sg,e,G,h=>by
  cases e with
  |ListComp elt y1 scope w1 =>
   cases y1 with
   |cons y2 y3 =>
    cases y2 with
    |mk target iter y4 y5 =>
     cases y4 with
     |nil =>
      cases y5 with
      |ofNat y6 =>
       cases y6 with
       |zero =>
        cases y3 with
        |cons y7 y8 =>
         cases y7 with
         |mk target2 iter2 y9 y10 =>
          cases y9 with
          |nil =>
           cases y10 with
           |ofNat y11 =>
            cases y11 with
            |zero =>
             cases y8 with
             |nil =>
              replace h:(sg.calm&&(W3 sg nl loc capn caps scope&&yZ iter&&((zBK it target&&chkI it sg iter)&&(Wv tg (JI sg (loc++capn) scope) target&&(yZ iter2&&((zBK jt target2&&chkI jt (JI sg (loc++capn) scope) iter2)&&(Wv tg2 (JI sg (loc++capn) scope) target2&&yD el (JI sg (loc++capn) scope) elt)))))))=true:=h;obtain⟨hcm,h⟩:=zE h;obtain⟨h1,h2⟩:=zE h;obtain⟨h1,k9⟩:=zE h1;unfold W3 at h1;obtain⟨h1,k7⟩:=zE h1;obtain⟨h1,k6⟩:=zE h1;obtain⟨h1,k5⟩:=zE h1;obtain⟨h1,k4⟩:=zE h1;obtain⟨h1,k3⟩:=zE h1;obtain⟨k1,k2⟩:=zE h1;obtain⟨q1,q2⟩:=zE h2;obtain⟨q0,q1⟩:=zE q1;obtain⟨q2,q3⟩:=zE q2;obtain⟨q3,q4⟩:=zE q3;obtain⟨q4,q5⟩:=zE q4;obtain⟨q40,q4⟩:=zE q4;obtain⟨q5,q6⟩:=zE q5;have nd:(loc++capn).Nodup:=of_decide_eq_true k3;have kc:∀y∈scope.names,y.2=.cell->scope.names.lookup y.1=some .cell:=λy hy hc=>by
               have:=all_eq_true.mp k5 y hy;rw[hc]at this;simpa using this
              have I:∀cl C ex s H,SgOk (cxB X.nox (loc++capn) scope cl C ex s H) (JI sg (loc++capn) scope):=λ_ _ _ _ _=>Zl (yB G) nd kc
              have kl:∀y∈scope.names,y.2=.local->scope.names.lookup y.1=some .local:=λy hy hl=>by
               have:=all_eq_true.mp k4 y hy;rw[hl]at this;simpa using this
              exact no_E (ok_lc2 (X:=X.nox) loc capn (beq_iff_eq.mp k1) (λe s z=>z) (G.calm hcm) (beq_iff_eq.mp k2) kl kc (by rw[show X.env.kindOf=λn=>X.env.scope.names.lookup n from rfl,G.sc];exact k6) (GR (yB G) k7) (sI it (yB G) q1 q0) (g:=gOf X.K tg) (λcl C ex s H=>W4 (sg:=JI sg (loc++capn) scope) hcm (I cl C ex s H) q2) (YN tg) (λcl C ex s H=>sI (sg:=JI sg (loc++capn) scope) jt (I cl C ex s H) q4 q40) (g1:=gOf X.K tg2) (λcl C ex s H=>W4 (sg:=JI sg (loc++capn) scope) hcm (I cl C ex s H) q5) (YN tg2) (λcl C ex s H=>sE (sg:=JI sg (loc++capn) scope) el (I cl C ex s H) q6) (yf k9) (λcl C ex s H=>yf q3))
             |_=>exact nf h
            |_=>exact nf h
           |_=>exact nf h
          |_=>exact nf h
        |_=>exact nf h
       |_=>exact nf h
      |_=>exact nf h
     |_=>exact nf h
   |_=>exact nf h
  |_=>exact nf h
 | .is T a,X,sg,e,G,h=>by
  cases e with
  |Call v34 v35 v36 w3 =>
   cases v34 with
   |Name f w1 =>
    cases v35 with
    |cons x v37 =>
     cases v37 with
     |cons v38 v39 =>
      cases v38 with
      |Name y w2 =>
       cases v39 with
       |nil =>
        cases v36 with
        |nil =>
         replace h:(f == "isinstance"&&y==T.nm&&glb sg "isinstance"&&bIn sg "isinstance"&&glb sg T.nm&&bIn sg T.nm&&!zH x&&yD a sg x)=true:=h;obtain⟨h1,h2⟩:=zE h;obtain⟨h1,k7⟩:=zE h1;obtain⟨h1,k6⟩:=zE h1;obtain⟨h1,k5⟩:=zE h1;obtain⟨h1,k4⟩:=zE h1;obtain⟨h1,k3⟩:=zE h1;obtain⟨k1,k2⟩:=zE h1;have:=beq_iff_eq.mp k1;subst this;have:=beq_iff_eq.mp k2;subst this;exact ok_is (kit_of _ T) (yN G k3).1 (wJ G k4) (yN G k5).1 (wJ G k6) (bt_of T) (sE a G h2) wx (nm_of T) (yN G k5).2 (nst k7)
        |_=>exact nf h
       |_=>exact nf h
      |_=>exact nf h
     |_=>exact nf h
    |_=>exact nf h
   |_=>exact nf h
  |_=>exact nf h
 | .cB b as,X,sg,e,G,h=>by
  cases e with
  |Call v40 v41 v42 w2 =>
   cases v40 with
   |Name f w1 =>
    cases v41 with
    |cons x es =>
     cases v42 with
     |nil =>
      replace h:(sg.calm&&(f==b.nm&&glb sg b.nm&&bIn sg b.nm&&yG (x::es)&&chkA as sg (x::es)))=true:=h;obtain⟨hcm,h⟩:=zE h;obtain⟨h1,h2⟩:=zE h;obtain⟨h1,k4⟩:=zE h1;obtain⟨h1,k3⟩:=zE h1;obtain⟨k1,k2⟩:=zE h1;have:=beq_iff_eq.mp k1;subst this;exact bi_of hcm G b (yN G k2).1 (wJ G k3) k4 (sA as G h2)
     |_=>exact nf h
    |_=>exact nf h
   |_=>exact nf h
  |_=>exact nf h
 | .call k as,X,sg,e,G,h=>by
  cases e with
  |Call v43 v44 v45 w2 =>
   cases v43 with
   |Name f w1 =>
    cases v44 with
    |cons x es =>
     cases v45 with
     |nil =>
      replace h:(glb sg f&&fIs sg k f&&zGF sg (zGG as) k&&yG (x::es)&&chkG as sg (x::es))=true:=h;obtain⟨h1,h2⟩:=zE h;obtain⟨h1,k4⟩:=zE h1;obtain⟨h1,k3⟩:=zE h1;obtain⟨k1,k2⟩:=zE h1;exact call_ok G k1 k2 k3 k4 (sG as G h2)
     |_=>exact nf h
    |_=>exact nf h
   |_=>exact nf h
  |_=>exact nf h
 | .maxd a d,X,sg,e,G,h=>by
  cases e with
  |Call v50 v51 v52 w3 =>
   cases v50 with
   |Name f w1 =>
    cases v51 with
    |cons x v53 =>
     cases v53 with
     |nil =>
      cases v52 with
      |cons v54 v55 =>
       cases v54 with
       |mk v56 y w2 =>
        cases v56 with
        |some nm =>
         cases v55 with
         |nil =>
          replace h:(sg.calm&&(f == "max"&&nm==Str.ofString "default"&&glb sg "max"&&bIn sg "max"&&!zH x&&(yD a sg x&&yD d sg y)))=true:=h;obtain⟨hcm,h⟩:=zE h;obtain⟨h1,h2⟩:=zE h;obtain⟨h2,h3⟩:=zE h2;obtain⟨h1,k5⟩:=zE h1;obtain⟨h1,k4⟩:=zE h1;obtain⟨h1,k3⟩:=zE h1;obtain⟨k1,k2⟩:=zE h1;have:=beq_iff_eq.mp k1;subst this;have:=beq_iff_eq.mp k2;subst this;exact ok_maxd (G.calm hcm) (yN G k3).1 (wJ G k4) (sE a G h2) (sE d G h3) (nst k5)
         |_=>exact nf h
        |_=>exact nf h
      |_=>exact nf h
     |_=>exact nf h
    |_=>exact nf h
   |_=>exact nf h
  |_=>exact nf h
 | .callV ks g as,X,sg,e,G,h=>by
  cases e with
  |Call fe v57 v58 w1 =>
   cases v57 with
   |cons x es =>
    cases v58 with
    |nil =>
     replace h:(QB fe&&ks.all (zGF sg (zGG as))&&yG (x::es)&&(yD g sg fe&&chkG as sg (x::es)))=true:=h;obtain⟨h1,h2⟩:=zE h;obtain⟨h1,k3⟩:=zE h1;obtain⟨k1,k2⟩:=zE h1;obtain⟨h2,h3⟩:=zE h2;simp only[yG,Bool.and_eq_true,Bool.not_eq_true']at k3;exact zEb (zGJ G k2) (sE g G h2) (sG as G h3) (zAL _ _) (call_of k1) k3.1 k3.2
    |_=>exact nf h
   |_=>exact nf h
  |_=>exact nf h
 | .isC cl y a,X,sg,e,G,h=>by
  cases e with
  |Call v200 v201 v202 w1 =>
   cases v200 with
   |Name f w2 =>
    cases v201 with
    |cons x v203 =>
     cases v203 with
     |cons v204 v205 =>
      cases v204 with
      |Name z w3 =>
       cases v205 with
       |nil =>
        cases v202 with
        |nil =>
         replace h:(f == "isinstance"&&z==y&&glb sg "isinstance"&&bIn sg "isinstance"&&glb sg y&&(cl==sg.cl&&sg.cl.contains y)&&!zH x&&yD a sg x)=true:=h;obtain⟨h,h2⟩:=zE h;obtain⟨h,k7⟩:=zE h;obtain⟨h,k6⟩:=zE h;obtain⟨h,k5⟩:=zE h;obtain⟨h,k4⟩:=zE h;obtain⟨h,k3⟩:=zE h;obtain⟨k1,k2⟩:=zE h;obtain⟨k10,k8⟩:=zE k6;have:=beq_iff_eq.mp k1;subst this;have:=beq_iff_eq.mp k2;subst this;have ecl:cl=sg.cl:=by simpa using k10
         subst ecl;have hy:z∈sg.cl:=by simpa using k8
         obtain⟨T,t1,t2,t3⟩:=G.cl (List.ne_nil_of_mem hy);obtain⟨Y,y1,y2,y3⟩:=t3 z hy;exact ok_isC (λc hc=>let ⟨C,c1,c2,_⟩:=t3 c hc;⟨C,c1,c2⟩) y1 y2 y3 (yN G k3).1 (wJ G k4) (yN G k5).1 (sE a G h2) wx (yN G k5).2 (nst k7)
        |_=>exact nf h
       |_=>exact nf h
      |_=>exact nf h
     |_=>exact nf h
    |_=>exact nf h
   |_=>exact nf h
  |_=>exact nf h
 | .isV cl a,X,sg,e,G,h=>by
  cases e with
  |Call v200 v201 v202 w1 =>
   cases v200 with
   |Name f w2 =>
    cases v201 with
    |cons x v203 =>
     cases v203 with
     |cons v204 v205 =>
      cases v204 with
      |Name z w3 =>
       cases v205 with
       |nil =>
        cases v202 with
        |nil =>
         replace h:(f == "isinstance"&&z == "ValueError"&&glb sg "isinstance"&&bIn sg "isinstance"&&glb sg "ValueError"&&bIn sg "ValueError"&&(cl==sg.cl&&!sg.cl.isEmpty)&&!zH x&&yD a sg x)=true:=h;obtain⟨h,h2⟩:=zE h;obtain⟨h,k7⟩:=zE h;obtain⟨h,k6⟩:=zE h;obtain⟨h,k9⟩:=zE h;obtain⟨h,k5⟩:=zE h;obtain⟨h,k4⟩:=zE h;obtain⟨h,k3⟩:=zE h;obtain⟨k1,k2⟩:=zE h;obtain⟨k10,k8⟩:=zE k6;have:=beq_iff_eq.mp k1;subst this;have:=beq_iff_eq.mp k2;subst this;have ecl:cl=sg.cl:=by simpa using k10
         subst ecl;obtain⟨T,t1,t2,t3⟩:=G.cl (λz=>by rw[z]at k8;cases k8);exact ok_isV (T:=T) (λc hc=>let ⟨C,c1,c2,_⟩:=t3 c hc;⟨C,c1,c2⟩) (yN G k3).1 (wJ G k4) (yN G k5).1 (wJ G k9) uD (sE a G h2) wx (nst k7)
        |_=>exact nf h
       |_=>exact nf h
      |_=>exact nf h
     |_=>exact nf h
    |_=>exact nf h
   |_=>exact nf h
  |_=>exact nf h
 | .cnt a b,X,sg,e,G,h=>by
  cases e with
  |Call v200 v201 v202 cp =>
   cases v200 with
   |Attribute v206 m ap =>
    cases v206 with
    |Name x p =>
     cases v201 with
     |cons v v203 =>
      cases v203 with
      |nil =>
       cases v202 with
       |nil =>
        replace h:(m == "count"&&ap.endLine==cp.line&&!zH v&&(yD a sg (.Name x p)&&yD b sg v))=true:=h;obtain⟨h,h2⟩:=zE h;obtain⟨h2,h3⟩:=zE h2;obtain⟨h,k3⟩:=zE h;obtain⟨k1,k2⟩:=zE h;have:=beq_iff_eq.mp k1;subst this;exact ok_cnt (sE a G h2) (sE b G h3) rfl (nst k3) k2 (zC2 (nst k3))
       |_=>exact nf h
      |_=>exact nf h
     |_=>exact nf h
    |_=>exact nf h
   |_=>exact nf h
  |_=>exact nf h
 | .atr ri f a,X,sg,e,G,h=>by
  cases e with
  |Attribute v1 g w1 =>
   cases v1 with
   |Name x p =>
    replace h:(g==f&&(ri==sg.ri&&!sg.cl.isEmpty)&&sg.ri.all (λc=>sg.cl.contains c)&&yD a sg (.Name x p))=true:=h;obtain⟨h,h2⟩:=zE h;obtain⟨h,k3⟩:=zE h;obtain⟨k1,k2⟩:=zE h;obtain⟨k2,k4⟩:=zE k2;have e1:=beq_iff_eq.mp k1;subst e1;have e2:=beq_iff_eq.mp k2;obtain⟨T,t1,t2,t3⟩:=G.cl (λz=>by rw[z]at k4;cases k4);refine ok_atr (T:=T) t1 (λc hc=>?_) (sE a G h2) rfl;rw[e2]at hc;have q:=all_eq_true.mp k3 c hc;obtain⟨C,c1,c2,_⟩:=t3 c (by simpa using q);exact⟨(G.ri c hc).2,C,c1,c2⟩
   |_=>exact nf h
  |_=>exact nf h
 | .idx a b,X,sg,e,G,h=>by
  cases e with
  |Call v200 v201 v202 cp =>
   cases v200 with
   |Attribute v206 m ap =>
    cases v206 with
    |Name x p =>
     cases v201 with
     |cons v v203 =>
      cases v203 with
      |nil =>
       cases v202 with
       |nil =>
        replace h:(m == "index"&&ap.endLine==cp.line&&!zH v&&(yD a sg (.Name x p)&&yD b sg v))=true:=h;obtain⟨h,h2⟩:=zE h;obtain⟨h2,h3⟩:=zE h2;obtain⟨h,k3⟩:=zE h;obtain⟨k1,k2⟩:=zE h;have:=beq_iff_eq.mp k1;subst this;exact ok_idx (sE a G h2) (sE b G h3) rfl (nst k3) k2 (zC2 (nst k3))
       |_=>exact nf h
      |_=>exact nf h
     |_=>exact nf h
    |_=>exact nf h
   |_=>exact nf h
  |_=>exact nf h
theorem sT:∀(t:Tx) {X:Cx} {sg:Sg} {e:Expr},SgOk X sg->chkT t sg e=true->TOk X e (dT sg.fs t)
 | .tAnd a b,X,sg,e,G,h=>by
  cases e with
  |BoolOp v59 v60 p =>
   cases v59 with
   |And =>
    cases v60 with
    |cons x v61 =>
     cases v61 with
     |cons y r =>
      replace h:(chkT a sg x&&_)=true:=h;obtain⟨h1,h2⟩:=zE h;cases r with
      |nil=>exact tk_w (zFq (sT a G h1) (wk_and1 (sT b G h2)))|cons z r'=>exact tk_w (zFq (sT a G h1) (zGK (sT b G h2)))
     |_=>exact nf h
    |_=>exact nf h
   |_=>exact nf h
  |_=>exact nf h
 | .tOr a b,X,sg,e,G,h=>by
  cases e with
  |BoolOp v62 v63 p =>
   cases v62 with
   |Or =>
    cases v63 with
    |cons x v64 =>
     cases v64 with
     |cons y r =>
      replace h:(chkT a sg x&&_)=true:=h;obtain⟨h1,h2⟩:=zE h;cases r with
      |nil=>exact tk_w (wk_or (sT a G h1) (wk_or1 (sT b G h2)))|cons z r'=>exact tk_w (wk_or (sT a G h1) (zGK (sT b G h2)))
     |_=>exact nf h
    |_=>exact nf h
   |_=>exact nf h
  |_=>exact nf h
 | .tNot a,X,sg,e,G,h=>by
  cases e with
  |UnaryOp v65 x w1 =>
   cases v65 with
   |Not =>
    replace h:(chkT a sg x)=true:=h;exact tk_not (sT a G h)
   |_=>exact nf h
  |_=>exact nf h
 | .tE a,X,sg,e,G,h=>by
  obtain⟨h1,h2⟩:=zE h;rcases Bool.or_eq_true _ _ |>.mp h1 with h1|h1
  ·exact ok_test (sE a G h2) (test_of h1)
  ·cases a with
   |cmp o a b =>
    cases e with
    |Compare x v66 v67 w1 =>
     cases v66 with
     |cons op v68 =>
      cases v68 with
      |nil =>
       cases v67 with
       |cons y v69 =>
        cases v69 with
        |nil =>
         replace h2:(op==o.op&&yZ y&&(yD a sg x&&yD b sg y))=true:=h2;obtain⟨h1,k1⟩:=zE h2;obtain⟨h1,h0⟩:=zE h1;obtain⟨k2,k3⟩:=zE k1;have:=beq_iff_eq.mp h1;subst this;exact cmpT_of G h0 (sE a G k2) (sE b G k3)
        |_=>exact absurd h2 qF
       |_=>exact absurd h2 qF
      |_=>exact absurd h2 qF
     |_=>exact absurd h2 qF
    |_=>exact absurd h2 qF
   |chain o o' a b c =>
    cases e with
    |Compare x v70 v71 w1 =>
     cases v70 with
     |cons op v72 =>
      cases v72 with
      |cons op' v73 =>
       cases v73 with
       |nil =>
        cases v71 with
        |cons y v74 =>
         cases v74 with
         |cons z v75 =>
          cases v75 with
          |nil =>
           replace h2:(op==o.op&&op'==o'.op&&o.isI&&o'.isI&&yZ z&&(yD a sg x&&(yD b sg y&&yD c sg z)))=true:=h2;obtain⟨h1,j2⟩:=zE h2;obtain⟨h1,k5⟩:=zE h1;obtain⟨h1,k4⟩:=zE h1;obtain⟨h1,k3⟩:=zE h1;obtain⟨k1,k2⟩:=zE h1;obtain⟨j2,j3⟩:=zE j2;obtain⟨j3,j4⟩:=zE j3;have:=beq_iff_eq.mp k1;subst this;have:=beq_iff_eq.mp k2;subst this;exact zCF (zAK k3) (zAK k4) (sE a G j2) (sE b G j3) (sE c G j4) (zCy k5)
          |_=>exact absurd h2 qF
         |_=>exact absurd h2 qF
        |_=>exact absurd h2 qF
       |_=>exact absurd h2 qF
      |_=>exact absurd h2 qF
     |_=>exact absurd h2 qF
    |_=>exact absurd h2 qF
   |_=>cases h1
 | .tTr,X,sg,e,G,h=>absurd h qF
theorem sA:∀(t:Ax) {X:Cx} {sg:Sg} {e:List Expr},SgOk X sg->chkA t sg e=true->AOk X e (dA sg.fs t)
 | .nil,X,sg,e,G,h=>by
  have:=isEmpty_iff.mp h;subst this;exact ak_nil
 | .cons a as,X,sg,e,G,h=>by
  cases e with
  |cons x r =>
   replace h:(!zH x&&(yD a sg x&&chkA as sg r))=true:=h;obtain⟨h1,h2⟩:=zE h;obtain⟨h2,h3⟩:=zE h2;exact ak_cons (sE a G h2) (sA as G h3) (nst h1)
  |_=>exact nf h
theorem sG:∀(t:Gx) {X:Cx} {sg:Sg} {e:List Expr},SgOk X sg->chkG t sg e=true->zEX X e (dG sg.fs t)
 | .nil,X,sg,e,G,h=>by
  have:=isEmpty_iff.mp h;subst this;exact ga_nil
 | .ev a as,X,sg,e,G,h=>by
  cases e with
  |cons x r =>
   replace h:(!zH x&&(yD a sg x&&chkG as sg r))=true:=h;obtain⟨h1,h2⟩:=zE h;obtain⟨h2,h3⟩:=zE h2;exact ga_ev (sE a G h2) (sG as G h3) (nst h1)
  |_=>exact nf h
 | .lend i as,X,sg,e,G,h=>by
  cases e with
  |cons v76 r =>
   cases v76 with
   |Name x w1 =>
    replace h:(vis sg i x&&chkG as sg r)=true:=h;obtain⟨h1,h2⟩:=zE h;exact ga_lend (WU G h1) (sG as G h2)
   |_=>exact nf h
  |_=>exact nf h
theorem sO:∀(t:Ox) {X:Cx} {sg:Sg} {e:Option Expr},SgOk X sg->chkO t sg e=true->OOk X e (dO sg.fs t)
 | .oN,X,sg,e,G,h=>by
  cases e with
  |none=>exact oo_none|some e=>cases h
 | .oS a,X,sg,e,G,h=>by
  cases e with
  |none=>cases h|some e=>exact oo_some (sE a G h)
theorem sI:∀(t:Ix) {X:Cx} {sg:Sg} {tg e:Expr},SgOk X sg->chkI t sg e=true->zBK t tg=true->IOk X tg e (dI sg.fs t)
 | .iL a,X,sg,tg,e,G,h,hz=>by
  exact io_list (sE a G h)
 | .iT a,X,sg,tg,e,G,h,hz=>by
  exact io_tup (sE a G h)
 | .iRv as,X,sg,tg,e,G,h,hz=>by
  cases e with
  |Call y1 y2 y3 w2 =>
   cases y1 with
   |Name f w1 =>
    cases y2 with
    |cons y4 y5 =>
     cases y4 with
     |Call y6 y7 y8 w3 =>
      cases y6 with
      |Name f2 w4 =>
       cases y7 with
       |cons x y9 =>
        cases y9 with
        |nil =>
         cases y8 with
         |nil =>
          cases y5 with
          |nil =>
           cases y3 with
           |nil =>
            replace h:(f == "reversed"&&glb sg "reversed"&&bIn sg "reversed"&&(f2 == "range"&&glb sg "range"&&bIn sg "range"&&!zH x&&chkA as sg [x]))=true:=h;obtain⟨h0,h⟩:=zE h;obtain⟨h0,j3⟩:=zE h0;obtain⟨j1,j2⟩:=zE h0;obtain⟨h1,h2⟩:=zE h;obtain⟨h1,k4⟩:=zE h1;obtain⟨h1,k3⟩:=zE h1;obtain⟨k1,k2⟩:=zE h1;have:=beq_iff_eq.mp j1;subst this;have:=beq_iff_eq.mp k1;subst this;exact io_rv (yN G j2).1 (wJ G j3) (yN G k2).1 (wJ G k3) (sA as G h2) (nst k4)
           |_=>exact nf h
          |_=>exact nf h
         |_=>exact nf h
        |_=>exact nf h
       |_=>exact nf h
      |_=>exact nf h
     |_=>exact nf h
    |_=>exact nf h
   |_=>exact nf h
  |_=>exact nf h
 | .iR1 as,X,sg,tg,e,G,h,hz=>by
  cases e with
  |Call v77 v78 v79 w2 =>
   cases v77 with
   |Name f w1 =>
    cases v78 with
    |cons x v80 =>
     cases v80 with
     |nil =>
      cases v79 with
      |nil =>
       replace h:(f == "range"&&glb sg "range"&&bIn sg "range"&&!zH x&&chkA as sg [x])=true:=h;obtain⟨h1,h2⟩:=zE h;obtain⟨h1,k4⟩:=zE h1;obtain⟨h1,k3⟩:=zE h1;obtain⟨k1,k2⟩:=zE h1;have:=beq_iff_eq.mp k1;subst this;exact io_r1 (yN G k2).1 (wJ G k3) (sA as G h2) (nst k4)
      |_=>exact nf h
     |_=>exact nf h
    |_=>exact nf h
   |_=>exact nf h
  |_=>exact nf h
 | .iZ t1 t2 as,X,sg,tg,e,G,h,hz=>by
  cases e with
  |Call v81 v82 v83 w2 =>
   cases v81 with
   |Name f w1 =>
    cases v82 with
    |cons x v84 =>
     cases v84 with
     |cons y v85 =>
      cases v85 with
      |nil =>
       cases v83 with
       |nil =>
        replace h:(f == "zip"&&glb sg "zip"&&bIn sg "zip"&&!zH x&&!zH y&&chkA as sg [x,y])=true:=h;obtain⟨h1,h2⟩:=zE h;obtain⟨h1,k5⟩:=zE h1;obtain⟨h1,k4⟩:=zE h1;obtain⟨h1,k3⟩:=zE h1;obtain⟨k1,k2⟩:=zE h1;have:=beq_iff_eq.mp k1;subst this;cases tg with
        |Tuple tE tX tP=>exact io_zip (yN G k2).1 (wJ G k3) (sA as G h2) (nst k4) (nst k5)|_=>exact absurd hz qF
       |_=>exact nf h
      |_=>exact nf h
     |_=>exact nf h
    |_=>exact nf h
   |_=>exact nf h
  |_=>exact nf h
end
def zC3{X:Cx}{sg:Sg}(G:SgOk X sg){i:Nat}{x:Str}{px spos:Pos}{nl:Nat}{loc capn:List Str}{caps:List Nat}{it jt:Ix}{tg tg2:Tg}{el:Ex}{e:Expr}(hi:X.N[i]?=some x)(hx:Loc X.env.scope x)(hf:X.fn x=true\/X.env.scope.names.lookup x=some .local)
  (hsw:swapsWith e (some (.Name x px)) spos.line X.env=pure true) (h:yD (.comp2 nl loc capn caps it tg jt tg2 el) sg e=true):SOk X (.Assign [.Name x px] e spos) (sSet i (dE sg.fs (.comp2 nl loc capn caps it tg jt tg2 el))):=by
 cases e with
 |ListComp elt y1 scope w1 =>
  cases y1 with
  |cons y2 y3 =>
   cases y2 with
   |mk target iter y4 y5 =>
    cases y4 with
    |nil =>
     cases y5 with
     |ofNat y6 =>
      cases y6 with
      |zero =>
       cases y3 with
       |cons y7 y8 =>
        cases y7 with
        |mk target2 iter2 y9 y10 =>
         cases y9 with
         |nil =>
          cases y10 with
          |ofNat y11 =>
           cases y11 with
           |zero =>
            cases y8 with
            |nil =>
             replace h:(sg.calm&&(W3 sg nl loc capn caps scope&&yZ iter&&((zBK it target&&chkI it sg iter)&&(Wv tg (JI sg (loc++capn) scope) target&&(yZ iter2&&((zBK jt target2&&chkI jt (JI sg (loc++capn) scope) iter2)&&(Wv tg2 (JI sg (loc++capn) scope) target2&&yD el (JI sg (loc++capn) scope) elt)))))))=true:=h;obtain⟨hcm,h⟩:=zE h;obtain⟨h1,h2⟩:=zE h;obtain⟨h1,k9⟩:=zE h1;unfold W3 at h1;obtain⟨h1,k7⟩:=zE h1;obtain⟨h1,k6⟩:=zE h1;obtain⟨h1,k5⟩:=zE h1;obtain⟨h1,k4⟩:=zE h1;obtain⟨h1,k3⟩:=zE h1;obtain⟨k1,k2⟩:=zE h1;obtain⟨q1,q2⟩:=zE h2;obtain⟨q0,q1⟩:=zE q1;obtain⟨q2,q3⟩:=zE q2;obtain⟨q3,q4⟩:=zE q3;obtain⟨q4,q5⟩:=zE q4;obtain⟨q40,q4⟩:=zE q4;obtain⟨q5,q6⟩:=zE q5;have nd:(loc++capn).Nodup:=of_decide_eq_true k3;have kc:∀y∈scope.names,y.2=.cell->scope.names.lookup y.1=some .cell:=λy hy hc=>by
              have:=all_eq_true.mp k5 y hy;rw[hc]at this;simpa using this
             have I:∀cl C ex s H,SgOk (cxB X.nox (loc++capn) scope cl C ex s H) (JI sg (loc++capn) scope):=λ_ _ _ _ _=>Zl (yB G) nd kc
             have kl:∀y∈scope.names,y.2=.local->scope.names.lookup y.1=some .local:=λy hy hl=>by
              have:=all_eq_true.mp k4 y hy;rw[hl]at this;simpa using this
             exact zGC▸no_S (sk_lc2 (X:=X.nox) loc capn G.nd hi hx hf (beq_iff_eq.mp k1) (λe s z=>z) (G.calm hcm) (beq_iff_eq.mp k2) kl kc (by rw[show X.env.kindOf=λn=>X.env.scope.names.lookup n from rfl,G.sc];exact k6) (GR (yB G) k7) (sI it (yB G) q1 q0) (g:=gOf X.K tg) (λcl C ex s H=>W4 (sg:=JI sg (loc++capn) scope) hcm (I cl C ex s H) q2) (YN tg) (λcl C ex s H=>sI (sg:=JI sg (loc++capn) scope) jt (I cl C ex s H) q4 q40) (g1:=gOf X.K tg2) (λcl C ex s H=>W4 (sg:=JI sg (loc++capn) scope) hcm (I cl C ex s H) q5) (YN tg2) (λcl C ex s H=>sE (sg:=JI sg (loc++capn) scope) el (I cl C ex s H) q6) (yf k9) (λcl C ex s H=>yf q3) hsw)
            |_=>exact nf h
           |_=>exact nf h
          |_=>exact nf h
         |_=>exact nf h
       |_=>exact nf h
      |_=>exact nf h
     |_=>exact nf h
    |_=>exact nf h
  |_=>exact nf h
 |_=>exact nf h
def zFA{X:Cx}{sg:Sg}(G:SgOk X sg){i:Nat}{x:Str}{px spos:Pos}{nl:Nat}{loc capn:List Str}{caps:List Nat}{it:Ix}{tg:Tg}{tt:Tx}{el:Ex}{v:Expr}(hi:X.N[i]?=some x)(hx:Loc X.env.scope x)(hf:X.fn x=true\/X.env.scope.names.lookup x=some .local)
  (hsw:swapsWith v (some (.Name x px)) spos.line X.env=pure true) (h:yD (.comp nl loc capn caps it tg tt el) sg v=true):SOk X (.Assign [.Name x px] v spos) (sSet i (dE sg.fs (.comp nl loc capn caps it tg tt el))):=by
 cases v with
 |ListComp elt v86 scope w1 =>
  cases v86 with
  |cons v87 v88 =>
   cases v87 with
   |mk target iter ifs v89 =>
    cases v89 with
    |ofNat v90 =>
     cases v90 with
     |zero =>
      cases v88 with
      |nil =>
       replace h:(sg.calm&&(W3 sg nl loc capn caps scope&&yZ iter&&((zBK it target&&chkI it sg iter)&&(Wv tg (JI sg (loc++capn) scope) target&&(_&&yD el (JI sg (loc++capn) scope) elt)))))=true:=h;obtain⟨hcm,h⟩:=zE h;obtain⟨h1,h2⟩:=zE h;obtain⟨h1,k9⟩:=zE h1;unfold W3 at h1;obtain⟨h1,k7⟩:=zE h1;obtain⟨h1,k6⟩:=zE h1;obtain⟨h1,k5⟩:=zE h1;obtain⟨h1,k4⟩:=zE h1;obtain⟨h1,k3⟩:=zE h1;obtain⟨k1,k2⟩:=zE h1;obtain⟨q1,q2⟩:=zE h2;obtain⟨q0,q1⟩:=zE q1;obtain⟨q2,q3⟩:=zE q2;obtain⟨q3,q4⟩:=zE q3;have nd:(loc++capn).Nodup:=of_decide_eq_true k3;have kc:∀y∈scope.names,y.2=.cell->scope.names.lookup y.1=some .cell:=λy hy hc=>by
        have:=all_eq_true.mp k5 y hy;rw[hc]at this;simpa using this
       have I:∀cl C ex s H,SgOk (cxB X.nox (loc++capn) scope cl C ex s H) (JI sg (loc++capn) scope):=λ_ _ _ _ _=>Zl (yB G) nd kc
       refine zGC▸no_S (sk_lc (X:=X.nox) loc capn G.nd hi hx hf (beq_iff_eq.mp k1) (λe s z=>z) (G.calm hcm) (beq_iff_eq.mp k2) (λy hy hl=>?_) (λy hy hc=>?_) (by rw[show X.env.kindOf=λn=>X.env.scope.names.lookup n from rfl,G.sc];exact k6) (GR (yB G) k7) (sI it (yB G) q1 q0) (g:=gOf X.K tg) (λcl C ex s H=>W4 (sg:=JI sg (loc++capn) scope) hcm (I cl C ex s H) q2) (YN tg) (λcl C ex s H=>?_) (λcl C ex s H=>sE (sg:=JI sg (loc++capn) scope) el (I cl C ex s H) q4) (yf k9) hsw)
       ·have:=all_eq_true.mp k4 y hy
        rw[hl]at this;simpa using this
       ·exact kc y hy hc
       ·cases ifs with
        |nil =>
         cases tt<;>first|(cases q3;done)|skip;exact ZA
        |cons c cs =>
         obtain⟨q3,q5⟩:=zE q3;have:=isEmpty_iff.mp q3;subst this;exact zCC (sT (sg:=JI sg (loc++capn) scope) tt (I cl C ex s H) q5)
      |_=>exact nf h
     |_=>exact nf h
    |_=>exact nf h
  |_=>exact nf h
 |_=>exact nf h
mutual
theorem sS:∀(t:Sx) {X:Cx} {sg:Sg} {e:Stmt},SgOk X sg->chkS t sg e=true->SOk X e (dS sg.fs t)
 | .sIf t a b,X,sg,e,G,h=>by
  cases e with
  |If c x y w1 =>
   replace h:(chkT t sg c&&(chkB a sg x&&chkB b sg y))=true:=h;obtain⟨h1,h2⟩:=zE h;obtain⟨h2,h3⟩:=zE h2;exact sk_if (sT t G h1) (sB a G h2) (sB b G h3)
  |_=>exact nf h
 | .sSet i a,X,sg,e,G,h=>by
  cases e with
  |Assign v91 v w1 =>
   cases v91 with
   |cons v92 v93 =>
    cases v92 with
    |Name x px =>
     cases v93 with
     |nil =>
      replace h:(zGE sg i x&&setOk sg x px a v&&yD a sg v)=true:=h;obtain⟨h1,h2⟩:=zE h;obtain⟨h1,h3⟩:=zE h1;obtain⟨q1,q2,q3⟩:=uC G h1;unfold setOk at h3;split at h3
      ·obtain⟨k1,k2⟩:=zE h3
       rename_i el gs scope vp;cases hb:swB sg _ _ scope vp with
       |false=>exact zFu G.nd q1 q2 (sE a G h2) (by rw[zC1 G k1,hb]) q3
       |true =>
        rw[hb]at k2;cases a with
        |comp nl loc capn caps it tg tt el'=>exact zFA G q1 q2 q3 (by rw[zC1 G k1,hb]) h2|comp2 nl loc capn caps it tg jt tg2 el'=>exact zC3 G q1 q2 q3 (by rw[zC1 G k1,hb]) h2|_=>cases k2
      ·exact zFu G.nd q1 q2 (sE a G h2) (vj h3) q3
     |_=>exact nf h
    |_=>exact nf h
   |_=>exact nf h
  |_=>exact nf h
 | .sAny,X,sg,e,G,h=>by
  exact sk_any
 | .sRaiseA c as,X,sg,e,G,h=>by
  cases e with
  |Raise v1 v2 w1 =>
   cases v1 with
   |some v3 =>
    cases v3 with
    |Call v4 v5 v6 w2 =>
     cases v4 with
     |Name x w3 =>
      cases v5 with
      |cons y es =>
       cases v6 with
       |nil =>
        cases v2 with
        |none =>
         replace h:(sg.calm&&(x==c&&glb sg c&&sg.ri.contains c&&decide (3<=sg.lv)&&yG (y::es)&&chkA as sg (y::es)))=true:=h;obtain⟨hcm,h⟩:=zE h;obtain⟨h,h2⟩:=zE h;obtain⟨h,k5⟩:=zE h;obtain⟨h,k4⟩:=zE h;obtain⟨h,k3⟩:=zE h;obtain⟨k1,k2⟩:=zE h;have e1:=beq_iff_eq.mp k1;subst e1;have s1:zH y=false:=by simp only[yG,Bool.and_eq_true,Bool.not_eq_true']at k5;exact k5.1
         have s2:yG es=true:=by simp only[yG,Bool.and_eq_true,Bool.not_eq_true']at k5;exact k5.2
         exact zCX (G.calm hcm) (G.room.mono (of_decide_eq_true k4)) (yN G k2).1 (G.ri _ (by simpa using k3)).1 (yN G k2).2 (sA as G h2) s1 s2
        |_=>exact nf h
       |_=>exact nf h
      |_=>exact nf h
     |_=>exact nf h
    |_=>exact nf h
   |_=>exact nf h
  |_=>exact nf h
 | .sPar i j as,X,sg,e,G,h=>by
  cases e with
  |Assign v97 v98 w5 =>
   cases v97 with
   |cons v99 v100 =>
    cases v99 with
    |Tuple v101 w1 w2 =>
     cases v101 with
     |cons v102 v103 =>
      cases v102 with
      |Name x px =>
       cases v103 with
       |cons v104 v105 =>
        cases v104 with
        |Name y py =>
         cases v105 with
         |nil =>
          cases v100 with
          |nil =>
           cases v98 with
           |Tuple v106 w3 w4 =>
            cases v106 with
            |cons a v107 =>
             cases v107 with
             |cons b v108 =>
              cases v108 with
              |nil =>
               replace h:(sg.calm&&(zCw sg i j x y px py a b&&chkA as sg [a,b]))=true:=h;obtain⟨hcm,h⟩:=zE h;obtain⟨h1,h2⟩:=zE h;have h1':=h1;unfold zCw at h1;simp only[Bool.and_eq_true,Bool.not_eq_true',beq_iff_eq,bne_iff_ne]at h1;obtain⟨⟨⟨⟨⟨⟨⟨⟨⟨⟨⟨_,n1⟩,n2⟩,n3⟩,l1⟩,l2⟩,_⟩,_⟩,_⟩,_⟩,_⟩,_⟩:=h1;exact yy (ps_par (G.calm hcm) G.nd (by rw[G.N];exact n1) (by rw[G.N];exact n2) n3 (we G l1) (we G l2) (sA as G h2) (sw_par G h1') (zCz rfl)) λD O H=>zEj
              |_=>exact nf h
             |_=>exact nf h
            |_=>exact nf h
           |_=>exact nf h
          |_=>exact nf h
         |_=>exact nf h
        |_=>exact nf h
       |_=>exact nf h
      |_=>exact nf h
     |_=>exact nf h
    |_=>exact nf h
   |_=>exact nf h
  |_=>exact nf h
 | .sRet a,X,sg,e,G,h=>by
  cases e with
  |Return v109 w1 =>
   cases v109 with
   |some v =>
    replace h:(yD a sg v)=true:=h;exact sk_ret (sE a G h)
   |_=>exact nf h
  |_=>exact nf h
 | .sDrop a,X,sg,e,G,h=>by
  cases e with
  |Expr v w1 =>
   replace h:(YQ v&&yD a sg v)=true:=h;obtain⟨h1,h2⟩:=zE h;exact sk_drop (sE a G h2) (vj h1)
  |_=>exact nf h
 | .sIx i b a,X,sg,e,G,h=>by
  cases e with
  |Assign v110 v w3 =>
   cases v110 with
   |cons v111 v112 =>
    cases v111 with
    |Subscript v113 y w2 =>
     cases v113 with
     |Name x w1 =>
      cases v112 with
      |nil =>
       replace h:(vis sg i x&&uu y&&YQ v&&(yD b sg y&&yD a sg v))=true:=h;obtain⟨h1,h2⟩:=zE h;obtain⟨h1,h0⟩:=zE h1;obtain⟨h1,h4⟩:=zE h1;obtain⟨h2,h3⟩:=zE h2;exact zER i (WU G h1) (sE b G h2) (sE a G h3) (set_of h4) (zCz h0)
      |_=>exact nf h
     |_=>exact nf h
    |_=>exact nf h
   |_=>exact nf h
  |_=>exact nf h
 | .sApp i a,X,sg,e,G,h=>by
  cases e with
  |Expr v114 w2 =>
   cases v114 with
   |Call v115 v116 v117 cp =>
    cases v115 with
    |Attribute v118 m ap =>
     cases v118 with
     |Name x w1 =>
      cases v116 with
      |cons v v119 =>
       cases v119 with
       |nil =>
        cases v117 with
        |nil =>
         replace h:(m == "append"&&ap.endLine==cp.line&&vis sg i x&&!zH v&&yD a sg v)=true:=h;obtain⟨h1,h2⟩:=zE h;obtain⟨h1,k4⟩:=zE h1;obtain⟨h1,k3⟩:=zE h1;obtain⟨k1,k2⟩:=zE h1;have:=beq_iff_eq.mp k1;subst this;exact sk_app i (WU G k3) (sE a G h2) rfl (zC2 (nst k4)) k2 (zL (nst k4)) rfl rfl
        |_=>exact nf h
       |_=>exact nf h
      |_=>exact nf h
     |_=>exact nf h
    |_=>exact nf h
   |_=>exact nf h
  |_=>exact nf h
 | .sForL a tg b,X,sg,e,G,h=>by
  cases e with
  |For t it body v120 w1 =>
   cases v120 with
   |nil =>
    replace h:(sg.calm&&(yZ it&&Wv tg sg t&&(yD a sg it&&chkB b sg body)))=true:=h;obtain⟨hcm,h⟩:=zE h;obtain⟨h1,h2⟩:=zE h;obtain⟨h1,h0⟩:=zE h1;obtain⟨h2,h3⟩:=zE h2;exact no_S (sk_forL (X:=X.nox) PassesOwn.never (G.calm hcm) (sE a (yB G) h2) (W4 hcm (yB G) h0) (YN tg) (sB b (yB G) h3) (yf h1))
   |_=>exact nf h
  |_=>exact nf h
 | .sForI ix tg b,X,sg,e,G,h=>by
  cases e with
  |For t it body v120 w1 =>
   cases v120 with
   |nil =>
    replace h:(sg.calm&&(yZ it&&Wv tg sg t&&((zBK ix t&&chkI ix sg it)&&chkB b sg body)))=true:=h;obtain⟨hcm,h⟩:=zE h;obtain⟨h1,h2⟩:=zE h;obtain⟨h1,h0⟩:=zE h1;obtain⟨h2,h3⟩:=zE h2;obtain⟨h4,h2⟩:=zE h2;exact sk_forN (ps_forX (sI ix G h2 h4) (yf h1)) (no_S (sk_forI (X:=X.nox) PassesOwn.never (G.calm hcm) (sI ix (yB G) h2 h4) (W4 hcm (yB G) h0) (YN tg) (sB b (yB G) h3) (yf h1)))
   |_=>exact nf h
  |_=>exact nf h
 | .sForR1 as tg b,X,sg,e,G,h=>by
  cases e with
  |For t v122 body v123 w3 =>
   cases v122 with
   |Call v124 v125 v126 w2 =>
    cases v124 with
    |Name f w1 =>
     cases v125 with
     |cons x v127 =>
      cases v127 with
      |nil =>
       cases v126 with
       |nil =>
        cases v123 with
        |nil =>
         replace h:(sg.calm&&(f == "range"&&glb sg "range"&&bIn sg "range"&&!zH x&&Wv tg sg t&&(chkA as sg [x]&&chkB b sg body)))=true:=h;obtain⟨hcm,h⟩:=zE h;obtain⟨h1,h2⟩:=zE h;obtain⟨h1,k5⟩:=zE h1;obtain⟨h1,k4⟩:=zE h1;obtain⟨h1,k3⟩:=zE h1;obtain⟨k1,k2⟩:=zE h1;obtain⟨h2,h3⟩:=zE h2;have:=beq_iff_eq.mp k1;subst this;exact no_S (zET (X:=X.nox) PassesOwn.never (G.calm hcm) (yN (yB G) k2).1 (wJ (yB G) k3) (sA as (yB G) h2) (W4 hcm (yB G) k5) (YN tg) (sB b (yB G) h3) (nst k4) (yf rfl))
        |_=>exact nf h
       |_=>exact nf h
      |_=>exact nf h
     |_=>exact nf h
    |_=>exact nf h
   |_=>exact nf h
  |_=>exact nf h
 | .sForR2 as tg b,X,sg,e,G,h=>by
  cases e with
  |For t v128 body v129 w3 =>
   cases v128 with
   |Call v130 v131 v132 w2 =>
    cases v130 with
    |Name f w1 =>
     cases v131 with
     |cons x v133 =>
      cases v133 with
      |cons y v134 =>
       cases v134 with
       |nil =>
        cases v132 with
        |nil =>
         cases v129 with
         |nil =>
          replace h:(sg.calm&&(f == "range"&&glb sg "range"&&bIn sg "range"&&!zH x&&!zH y&&Wv tg sg t&&(chkA as sg [x,y]&&chkB b sg body)))=true:=h;obtain⟨hcm,h⟩:=zE h;obtain⟨h1,h2⟩:=zE h;obtain⟨h1,k6⟩:=zE h1;obtain⟨h1,k5⟩:=zE h1;obtain⟨h1,k4⟩:=zE h1;obtain⟨h1,k3⟩:=zE h1;obtain⟨k1,k2⟩:=zE h1;obtain⟨h2,h3⟩:=zE h2;have:=beq_iff_eq.mp k1;subst this;exact no_S (zEU (X:=X.nox) PassesOwn.never (G.calm hcm) (yN (yB G) k2).1 (wJ (yB G) k3) (sA as (yB G) h2) (W4 hcm (yB G) k6) (YN tg) (sB b (yB G) h3) (nst k4) (nst k5) (yf rfl))
         |_=>exact nf h
        |_=>exact nf h
       |_=>exact nf h
      |_=>exact nf h
     |_=>exact nf h
    |_=>exact nf h
   |_=>exact nf h
  |_=>exact nf h
 | .sWhile t b,X,sg,e,G,h=>by
  cases e with
  |While c body v200 w1 =>
   cases v200 with
   |nil =>
    replace h:(chkT t sg c&&chkB b sg body)=true:=h;obtain⟨h1,h2⟩:=zE h;exact no_S (zEq (X:=X.nox) PassesOwn.never (sT t (yB G) h1) (sB b (yB G) h2))
   |_=>exact nf h
  |_=>exact nf h
 | .sAug i o a,X,sg,e,G,h=>by
  cases e with
  |AugAssign v200 op v w1 =>
   cases v200 with
   |Name x w2 =>
    replace h:(zGE sg i x&&op==o.op&&o.isAug&&yD a sg v)=true:=h;obtain⟨h,h2⟩:=zE h;obtain⟨h,k2⟩:=zE h;obtain⟨h1,k1⟩:=zE h;obtain⟨q1,q2,q3⟩:=uC G h1;have:=beq_iff_eq.mp k1;subst this;cases o with
    |add=>exact zCb G.nd q1 q2 q3 (sE a G h2)|sub=>exact zCc G.nd q1 q2 q3 (sE a G h2)|mul=>exact zCd G.nd q1 q2 q3 (sE a G h2)|_=>cases k2
   |_=>exact nf h
  |_=>exact nf h
 | .sRaise c,X,sg,e,G,h=>by
  cases e with
  |Raise v200 v201 w1 =>
   cases v200 with
   |some v202 =>
    cases v202 with
    |Call v203 v204 v205 w2 =>
     cases v203 with
     |Name x w3 =>
      cases v204 with
      |nil =>
       cases v205 with
       |nil =>
        cases v201 with
        |none =>
         replace h:(sg.calm&&(x==c&&glb sg c&&sg.rs.contains c))=true:=h;obtain⟨hcm,h⟩:=zE h;obtain⟨h,k3⟩:=zE h;obtain⟨k1,k2⟩:=zE h;have:=beq_iff_eq.mp k1;subst this;obtain⟨C,c1,c2⟩:=G.rs x (by simpa using k3);exact zEk (G.calm hcm) (yN G k2).1 c1 c2 (yN G k2).2
        |_=>exact nf h
       |_=>exact nf h
      |_=>exact nf h
     |_=>exact nf h
    |_=>exact nf h
   |_=>exact nf h
  |_=>exact nf h
 | .sTry cl b i hb,X,sg,e,G,h=>by
  cases e with
  |Try body v200 v201 v202 w1 =>
   cases v200 with
   |cons v203 v204 =>
    cases v203 with
    |ExceptHandler v205 v206 v207 w2 =>
     cases v205 with
     |some v208 =>
      cases v208 with
      |Name t w3 =>
       cases v206 with
       |some n =>
        cases v207 with
        |cons b0 suite =>
         cases v204 with
         |nil =>
          cases v201 with
          |nil =>
           cases v202 with
           |nil =>
            replace h:(t == "ThrowError"&&glb sg "ThrowError"&&(cl==sg.cl&&!sg.cl.isEmpty)&&sg.top&&(sg.N[i]?==some n&&kIs sg n .local)&&(chkB b sg body&&chkB hb {sg with calm:=false} (b0::suite)))=true:=h
            obtain⟨h,h2⟩:=zE h;obtain⟨h2,h3⟩:=zE h2;obtain⟨h,k5⟩:=zE h;obtain⟨h,k4⟩:=zE h;obtain⟨h,k3⟩:=zE h;obtain⟨k1,k2⟩:=zE h;obtain⟨k3,k6⟩:=zE k3;obtain⟨k5,k7⟩:=zE k5;have:=beq_iff_eq.mp k1;subst this;have ecl:cl=sg.cl:=by simpa using k3
            subst ecl;obtain⟨T,t1,t2,t3⟩:=G.cl (λz=>by rw[z]at k6;cases k6);exact sk_try (G.stk k4) G.nd (by rw[G.N];simpa using k5) (we G k7) (yN G k2).1 (yN G k2).2 t1 t2 (λc hc=>let ⟨C,c1,c2,_⟩:=t3 c hc;⟨C,c1,c2⟩) (λpn E=>sB b (tr_ok G pn E) h2) (λa=>sB (sg:={sg with calm:=false}) hb (hd_ok G a) h3)
           |_=>exact nf h
          |_=>exact nf h
         |_=>exact nf h
        |_=>exact nf h
       |_=>exact nf h
      |_=>exact nf h
     |_=>exact nf h
   |_=>exact nf h
  |_=>exact nf h
theorem sB:∀(t:Bx) {X:Cx} {sg:Sg} {e:List Stmt},SgOk X sg->chkB t sg e=true->QE X e (dB sg.fs t)
 | .bNil,X,sg,e,G,h=>by
  have:=isEmpty_iff.mp h;subst this;exact sk_nil
 | .bOne a,X,sg,e,G,h=>by
  cases e with
  |cons s v135 =>
   cases v135 with
   |nil =>
    replace h:(chkS a sg s)=true:=h;exact sk_one (sS a G h)
   |_=>exact nf h
  |_=>exact nf h
 | .bSeq a b,X,sg,e,G,h=>by
  cases e with
  |cons s r =>
   replace h:(chkS a sg s&&chkB b sg r)=true:=h;obtain⟨h1,h2⟩:=zE h;exact sk_cons (sS a G h1) (sB b G h2)
  |_=>exact nf h
end
end
def ClOk(K:qH)(mg:Str->Option Value)(cl rs:List Str):Prop :=
 (cl≠[]->∃T,mg "ThrowError"=some (.ref T)/\TCls K T/\∀c∈cl,∃C,mg c=some (.ref C)/\XCls K c C T/\C≠T)/\(∀c∈rs,∃C,mg c=some (.ref C)/\excIn K C VB "ValueError.__new__"=true)/\zF9 K
abbrev zC4(P:Program)(w:World)(K:qH)(mg:Str->Option Value)(base:Heap)(ri:List Str):Prop:=∀c∈ri,RIok P w K mg base c/\RAok K mg c
def def_ok{P:Program}{w:World}{K:qH}{mg:Str->Option Value}{base:Heap}{x:Str}{st:Stmt}{ps N:List Str}{n lv:Nat}{cs:List (Str×D)}{fs:List FI}{bs:List Str}{c:Bool}{cl rs:List Str}(t:Bx)(T:Yh K mg x st ps)(S:FnScope N ps (zZ st))(hn:N.length=n)
  (hcs:∀x d,cs.lookup x=some d->∃u v,mg x=some u/\yL v u/\∀H,Rep K mg H d v)
  (hfs:∀i∈fs,∃f fd ps,mg i.x=some (.ref f)/\keepIn K (.ref f)=true/\JP K fd ps []/\ps.length=i.n/\FnOkN (!i.wild) P w K mg base i.lv f fd ps (spM K mg i.n i.F))
  (hbs:∀x∈bs,mg x=none) (hcl:ClOk K mg cl rs) {ri:List Str} (hri:zC4 P w K mg base ri) (h:chkB t ⟨N,zZ st,true,cs,fs,bs,lv,c,cl,rs,[],ri⟩ (yu st)=true):FOk P w K mg base c x (lv+1) ps (fnM n (dB fs t)):=by
 obtain⟨a,fd,hm,F,bnd⟩:=T;subst hn;refine⟨a,fd,hm,F.kp,bnd,fn_ok F S λcdv A outer s H E hd hr=>?_⟩;exact sB (sg:=⟨N,zZ st,true,cs,fs,bs,lv,c,cl,rs,[],ri⟩) t ⟨rfl,rfl,λ_ _=>rfl,(λx h=>by cases h),id,hd,λ_=>⟨rfl,rfl⟩,S.nd,hcs,hfs,hbs,hr,hcl.1,hcl.2.1,hcl.2.2,hri⟩ h
def zFB(K:qH)(mg:Str->Option Value)(cs:List (Str×D)):Prop:=∀x d,cs.lookup x=some d->∃u v,mg x=some u/\yL v u/\∀H,Rep K mg H d v
def BsOk(mg:Str->Option Value)(bs:List Str):Prop:=∀x∈bs,mg x=none
def FsOk(P:Program)(w:World)(K:qH)(mg:Str->Option Value)(base:Heap)(fs:List FI):Prop :=
 ∀i∈fs,∃f fd ps,mg i.x=some (.ref f)/\keepIn K (.ref f)=true/\JP K fd ps []/\ps.length=i.n/\FnOkN (!i.wild) P w K mg base i.lv f fd ps (spM K mg i.n i.F)
section
variable{P:Program}{w:World}{K:qH}{mg:Str->Option Value}{base:Heap}
def cs_nil:zFB K mg []:=λx d h=>by cases h
def cs_put{x:Str}{d:D}{cs:List (Str×D)}(h:∃u v,mg x=some u/\yL v u/\∀H,Rep K mg H d v)(t:zFB K mg cs):zFB K mg ((x,d)::cs):=λy d' e=>by
 rw[lookup_cons]at e;cases hy:y==x with
 |true =>
  rw[hy]at e;cases e;have:y=x:=by simpa using hy
  subst this;exact h
 |false=>rw[hy]at e;exact t y d' e
def WV{x:Str}{i:Int}{cs:List (Str×D)}(h:∃t,mg x=some (.int i t))(t:zFB K mg cs):zFB K mg ((x,.int i)::cs):=by
 obtain⟨k,h⟩:=h;exact cs_put ⟨_,.int i,h,⟨_,rfl⟩,λH=>by simp only[Rep]⟩ t
def bs_nil:BsOk mg []:=λx h=>by cases h
def jV{x:Str}{bs:List Str}(h:mg x=none)(t:BsOk mg bs):BsOk mg (x::bs):=λy e=>by
 rcases mem_cons.mp e with e|e
 ·subst e;exact h
 ·exact t y e
def yJ:FsOk P w K mg base []:=λx h=>by cases h
def zU{x:Str}{n lv:Nat}{F:MF}{fs:List FI}{ps:List Str}{wl:Bool}(h:FOk P w K mg base (!wl) x lv ps F)(hl:ps.length=n)(t:FsOk P w K mg base fs):FsOk P w K mg base (⟨x,n,lv,wl,F⟩::fs):=λi e=>by
 rcases mem_cons.mp e with e|e
 ·subst e
  subst hl;obtain⟨a,fd,h1,h2,h3,h4⟩:=h;exact⟨a,fd,ps,h1,h2,h3,rfl,h4⟩
 ·exact t i e
def def_at{x:Str}{st:Stmt}{ps N:List Str}{n lv:Nat}{cs:List (Str×D)}{fs:List FI}{bs:List Str}{cl rs:List Str}(t:Bx){a:Addr}{fd:FuncData}(F:Fun K x x st a fd)(S:FnScope N ps (zZ st))(hn:N.length=n)
  (hcs:zFB K mg cs) (hfs:FsOk P w K mg base fs) (hbs:BsOk mg bs) (hcl:ClOk K mg cl rs) {ri:List Str} (hri:zC4 P w K mg base ri) (h:chkB t ⟨N,zZ st,true,cs,fs,bs,lv,true,cl,rs,[],ri⟩ (yu st)=true):FnOk P w K mg base (CXx P w) (lv+1) a fd ps (spM K mg ps.length (fnM n (dB fs t))):=by
 subst hn;refine(fn_ok (c:=true) F S λcdv A outer s H E hd hr=>?_).fn;exact sB (sg:=⟨N,zZ st,true,cs,fs,bs,lv,true,cl,rs,[],ri⟩) t ⟨rfl,rfl,λ_ _=>rfl,(λx h=>by cases h),id,hd,λ_=>⟨rfl,rfl⟩,S.nd,hcs,hfs,hbs,hr,hcl.1,hcl.2.1,hcl.2.2,hri⟩ h
def scP(N P:List Str)(sc:Scope):Prop:=sc.kind=.function/\sc.isCoroutine=false/\sc.isGenerator=false/\N.Nodup/\N.take P.length=P/\(∀x∈P,sc.names.lookup x=some .local\/sc.names.lookup x=some .cell)/\∀y∈sc.names,y.2≠.free
instance scD (N P:List Str) (sc:Scope):Decidable (scP N P sc):=by unfold scP;infer_instance
def sc_of{N P:List Str}{sc:Scope}(h:scP N P sc):FnScope N P sc:=⟨h.1,h.2.1,h.2.2.1,h.2.2.2.1,h.2.2.2.2.1,h.2.2.2.2.2.1,h.2.2.2.2.2.2⟩
def zt{x:Str}{st:Stmt}{ps:List Str}{lv:Nat}{cs:List (Str×D)}{fs:List FI}{bs:List Str}{c:Bool}{cl rs:List Str}(t:Bx)(N:List Str)(T:Yh K mg x st ps)
  (hcs:zFB K mg cs) (hfs:FsOk P w K mg base fs) (hbs:BsOk mg bs) (hcl:ClOk K mg cl rs) {ri:List Str} (hri:zC4 P w K mg base ri) (h:(decide (scP N ps (zZ st))&&chkB t ⟨N,zZ st,true,cs,fs,bs,lv,c,cl,rs,[],ri⟩ (yu st))=true):FOk P w K mg base c x (lv+1) ps (fnM N.length (dB fs t)) :=
 def_ok t T (sc_of (of_decide_eq_true (Bool.and_eq_true_iff.mp h).1)) rfl hcs hfs hbs hcl hri (Bool.and_eq_true_iff.mp h).2
def def_atB{x:Str}{st:Stmt}{ps:List Str}{lv:Nat}{cs:List (Str×D)}{fs:List FI}{bs:List Str}{cl rs:List Str}(t:Bx)(N:List Str){a:Addr}{fd:FuncData}(F:Fun K x x st a fd)
  (hcs:zFB K mg cs) (hfs:FsOk P w K mg base fs) (hbs:BsOk mg bs) (hcl:ClOk K mg cl rs) {ri:List Str} (hri:zC4 P w K mg base ri) (h:(decide (scP N ps (zZ st))&&chkB t ⟨N,zZ st,true,cs,fs,bs,lv,true,cl,rs,[],ri⟩ (yu st))=true):FnOk P w K mg base (CXx P w) (lv+1) a fd ps (spM K mg ps.length (fnM N.length (dB fs t))) :=
 def_at t F (sc_of (of_decide_eq_true (Bool.and_eq_true_iff.mp h).1)) rfl hcs hfs hbs hcl hri (Bool.and_eq_true_iff.mp h).2
def zC5{c:Str}{C T:Addr}(h:xIn K c C T=true):XCls K c C T/\C≠T:=by
 unfold xIn at h;simp only[Bool.and_eq_true,beq_iff_eq,Bool.not_eq_true']at h;obtain⟨⟨⟨⟨⟨⟨⟨h1,h2⟩,h3⟩,h4⟩,h5⟩,h6⟩,h7⟩,h8⟩:=h;refine⟨⟨?_,h2,h3,h4,h5,h6,h7⟩,by simpa using h8⟩;cases e:clsIn K C with
 |none=>rw[e]at h1;cases h1
 |some cd =>
  rw[e]at h1;simp only[Bool.and_eq_true,beq_iff_eq]at h1;exact⟨cd,rfl,h1.1,h1.2⟩
def tcls_of{T:Addr}(h:tIn K T=true):TCls K T:=by
 unfold tIn at h;simp only[Bool.and_eq_true,beq_iff_eq]at h;obtain⟨h1,h2⟩:=h;refine⟨?_,h2⟩;cases e:clsIn K T with
 |none=>rw[e]at h1;cases h1|some cd=>rw[e]at h1;exact⟨cd,rfl,by simpa using h1⟩
def spLaw(K:qH):Sp:=λvs H Q _=>∃(a:Addr) (ns:List Int),vs=[.ref a]/\SqL K H a (ns.map V.int)/\ns.length<=63/\∀H',Q (.bl true) H'
theorem GS{H:Hp}:∀ns:List Int,Reps K mg H (ns.map D.int) (ns.map V.int)
 | []=>Reps.nil|n::ns=>Reps.cons (by simp only[Rep]) (GS ns)
def law_imp{F:MF}(hm:∀ns:List Int,ns.length<=63->∃outs,F [.v (.l (ns.map D.int))]=.ok (.v (.bl true),outs))(vs:List V)(H:Hp)(Q:VK)(E:XK)(h:spLaw K vs H Q E):spM K mg 1 F vs H Q E:=by
 obtain⟨a,ns,rfl,hS,hl,k⟩:=h;obtain⟨outs,hF⟩:=hm ns hl;have em:∀b,¬Mo (λ_=>False) [(some (V.ref a),Slot.v (.l (ns.map D.int)))] b:=by
  intro b q;rcases q with q|q
  ·exact q
  ·rw[zy]at q;cases q
 have sm:Za H (Hm (Mo (λ_=>False) [(some (V.ref a),Slot.v (.l (ns.map D.int)))]) H):=λb o q=>zz.mpr ⟨em b,q⟩
 refine⟨rfl,λ_=>False,[.v (.l (ns.map D.int))],rfl,⟨?_,?_,?_,?_⟩,?_⟩
 ·intro o d q
  have q':=mem_singleton.mp q
  cases q';refine⟨_,rfl,?_⟩;simp only[Rep];exact⟨a,_,rfl,sm.seq hS,GS ns⟩
 ·intro o s ds q e
  have q':=mem_singleton.mp q
  cases q';cases e
 ·show(yM [(some (V.ref a),Slot.v (.l (ns.map D.int)))]).Nodup
  rw[zy];exact List.nodup_nil
 ·intro b q;cases q
 ·rw[hF]
  intro v H' _ fr _;obtain⟨v',e,r⟩:=fr.val (some v) (.bl true) qE;cases e;simp only[Rep]at r;subst r;exact k H'
end
def jW{E:zN}:zw [] E=[]:=rfl
def jm{ds:List D}{ss:List Slot}{s:Slot}{E:zN}:zw (.par ds::ss) (s::E)=s::zw ss E:=rfl
def jX{d:D}{ss:List Slot}{s:Slot}{E:zN}:zw (.v d::ss) (s::E)=.e::zw ss E:=rfl
def jn{d:List D}{ss:List Slot}{s:Slot}{E:zN}:zw (.own d::ss) (s::E)=.e::zw ss E:=rfl
def jo{ss:List Slot}{s:Slot}{E:zN}:zw (.e::ss) (s::E)=.e::zw ss E:=rfl
theorem yS{tg:MG}{body:MS}(I:Nat->zN->Prop):∀(ds:List D) (k:Nat) (E:zN),I k E ->
  (∀i d,ds[i]?=some d->∀E,I (k+i) E->∃E1 E2,tg d E=.ok E1/\body E1=.ok (.nx,E2)/\I (k+i+1) E2) ->
  ∃E',JN tg body ds E=.ok (.nx,E')/\I (k+ds.length) E'
 | [],k,E,h,step=>⟨E,rfl,h⟩
 |d::ds,k,E,h,step=>by
  obtain⟨E1,E2,h1,h2,h4⟩:=step 0 d rfl E h;obtain⟨E',q1,q2⟩:=yS I ds (k+1) E2 h4 λi d' e E h=>by
   have:=step (i+1) d' (by simpa using e) E (by rw[show k+(i+1)=k+1+i by omega];exact h);rw[show k+(i+1)=k+1+i by omega]at this;exact this
  refine⟨E',?_,?_⟩
  ·simp only[JN,h1,h2]
   exact q1
  ·rw[length_cons,show k+(ds.length+1)=k+1+ds.length by omega];exact q2
theorem jw:∀(n:Nat) (lo:Int) (i:Nat) (d:D),(zF lo n)[i]?=some d->i<n/\d=.int (lo+i)
 |0,_,_,_,h=>by simp[zF]at h
 |n+1,lo,0,d,h=>by
  simp[zF]at h;exact⟨by omega,by rw[<- h];simp⟩
 |n+1,lo,i+1,d,h=>by
  simp only[zF,List.getElem?_cons_succ]at h;obtain⟨h1,h2⟩:=jw n (lo+1) i d h;refine⟨by omega,?_⟩;rw[h2];congr 1
  push_cast
  omega
theorem jJ:∀(n:Nat) (lo:Int),(zF lo n).length=n
 |0,_=>rfl|n+1,lo=>by simp[zF,jJ n]
def yE:Slot->Bool
 | .par _=>false|_=>true
theorem uE:∀(vs:List D) (E:zN),zI (vs.map AR.tmp) E=.ok (vs.map Slot.v,E)
 | [],_=>rfl|d::vs,E=>by simp only[map_cons,zI,uE vs E]
theorem uF:∀(vs:List D) (outs:List Slot) (E0 E:zN),outs.length=vs.length->zJ (vs.map AR.tmp) outs E0 E=.ok E
 | [],[],_,_,_=>rfl| [],_::_,_,_,h=>by cases h|_::_,[],_,_,h=>by cases h|d::vs,s::outs,E0,E,h=>by simp only[map_cons,zJ];exact uF vs outs E0 E (by simpa using h)
theorem GT{vs:List D}{tg:MG}{tt:MT}{el:ME}{nl:Nat}(pat:D->List DV.Slot)(f:D->Bool)(g:D->D):∀(ds:List D),
  (∀d∈ds,∀S:List DV.Slot,S.length=nl->(∀s∈S,yE s=true)->tg d (S++vs.map Slot.v)=.ok (pat d++vs.map Slot.v)) ->
  (∀d∈ds,(pat d).length=nl/\∀s∈pat d,yE s=true) ->
  (∀d∈ds,tt (pat d++vs.map Slot.v)=.ok (f d,pat d++vs.map Slot.v)) ->
  (∀d∈ds,f d=true->∃r,el (pat d++vs.map Slot.v)=.ok (r,pat d++vs.map Slot.v)/\r.d=g d) ->
  ∀(S:List DV.Slot) (acc:List D),S.length=nl->(∀s∈S,yE s=true)->acc.length+ds.length<=cap->∃S',S'.length=nl/\Zd tg tt el ds (S++vs.map Slot.v) acc=.ok (acc++(ds.filter f).map g,S'++vs.map Slot.v)
 | [],_,_,_,_,S,acc,hS,_,_=>⟨S,hS,by simp[Zd]⟩
 |d::ds,h1,h2,h3,h4,S,acc,hS,hn,hc=>by
  have m:=qE (a:=d) (l:=ds);have r1:=h1 d m S hS hn;have r3:=h3 d m;have r2:=h2 d m;simp only[length_cons]at hc;have go:=GT pat f g ds (λz hz=>h1 z (qD _ hz)) (λz hz=>h2 z (qD _ hz)) (λz hz=>h3 z (qD _ hz)) (λz hz=>h4 z (qD _ hz)) (pat d);cases hf:f d with
  |false =>
   rw[hf]at r3;obtain⟨S',l',e'⟩:=go acc r2.1 r2.2 (by omega);refine⟨S',l',?_⟩;simp only[Zd,r1,r3,e',filter_cons,hf];simp
  |true =>
   rw[hf]at r3;obtain⟨r,r4,r5⟩:=h4 d m hf;obtain⟨S',l',e'⟩:=go (acc++[r.d]) r2.1 r2.2 (by simp;omega);refine⟨S',l',?_⟩;simp only[Zd,r1,r3,r4];rw[if_pos (by omega),e',r5];simp[filter_cons,hf]
def zAM{vs:List D}{tg:MG}{tt:MT}{el:ME}{nl:Nat}{caps:List Nat}(pat:D->List DV.Slot)(f:D->Bool)(g:D->D)(ds:List D)
  (h1:∀d∈ds,∀S:List DV.Slot,S.length=nl->(∀s∈S,yE s=true)->tg d (S++vs.map Slot.v)=.ok (pat d++vs.map Slot.v))
  (h2:∀d∈ds,(pat d).length=nl/\∀s∈pat d,yE s=true)
  (h3:∀d∈ds,tt (pat d++vs.map Slot.v)=.ok (f d,pat d++vs.map Slot.v))
  (h4:∀d∈ds,f d=true->∃r,el (pat d++vs.map Slot.v)=.ok (r,pat d++vs.map Slot.v)/\r.d=g d) (hc:ds.length<=cap)
  {mi:MI} {E E1:zN} (hi:mi E=.ok (ds,E1)) (hcap:Jx E1 caps=.ok (vs.map AR.tmp)):Wz nl caps mi tg tt el E=.ok (.own ((ds.filter f).map g),E1):=by
 obtain⟨S',l',e'⟩:=GT (vs:=vs) (tg:=tg) (tt:=tt) (el:=el) (nl:=nl) pat f g ds h1 h2 h3 h4 (replicate nl .e) [] (by simp) (λs hs=>by rw[(List.mem_replicate.mp hs).2];rfl) (by simpa using hc);simp only[Wz,hi,hcap,uE,e'];rw[uF vs _ _ _ (by rw[length_drop,zr];simp)];simp
def gT_ok3{a b c:D}{S:List DV.Slot}{R:List DV.Slot}(hS:S.length=3)(hn:∀s∈S,yE s=true):gT [0,1,2] (.t [a,b,c]) (S++R)=.ok ([.v a,.v b,.v c]++R):=by
 match S,hS,hn with
 | [x,y,z],_,hn =>
  have hx:=hn x (by simp);have hy:=hn y (by simp);have hz:=hn z (by simp);cases x<;>first|(cases hx;done)|(cases y<;>first|(cases hy;done)|(cases z<;>first|(cases hz;done)|rfl))
def gT_ok2{a b:D}{S:List DV.Slot}{R:List DV.Slot}(hS:S.length=2)(hn:∀s∈S,yE s=true):gT [0,1] (.t [a,b]) (S++R)=.ok ([.v a,.v b]++R):=by
 match S,hS,hn with
 | [x,y],_,hn =>
  have hx:=hn x (by simp);have hy:=hn y (by simp);cases x<;>first|(cases hx;done)|(cases y<;>first|(cases hy;done)|rfl)
def zC6{a:D}{S:List DV.Slot}{R:List DV.Slot}(hS:S.length=1)(hn:∀s∈S,yE s=true):gN 0 a (S++R)=.ok ([.v a]++R):=by
 match S,hS,hn with
 | [x],_,hn =>
  have hx:=hn x (by simp);cases x<;>first|(cases hx;done)|rfl
theorem zAN:∀(l:List Obj) (i:Nat) (as:List Addr) (a:Addr) (o:Obj),(ua l i as).lookup a=some o->∃j,a=i+j/\l[j]?=some o/\isFr o=false
 | [],_,_,a,o,e=>by cases e|_::_,_,[],a,o,e=>by cases e
 |x::os,i,b::as,a,o,e=>by
  have up:∀{as:List Addr},(ua os (i+1) as).lookup a=some o->∃j,a=i+j/\(x::os)[j]?=some o/\isFr o=false:=λe=>by
   obtain⟨j,h1,h2,h3⟩:=zAN os (i+1) _ a o e;exact⟨j+1,h1.trans ((Nat.add_assoc i 1 j).trans (congrArg (i+·) (Nat.add_comm 1 j))),by simpa using h2,h3⟩
  unfold ua at e;cases hb:Nat.beq i b with
  |false=>rw[hb]at e;exact up e
  |true =>
   rw[hb]at e;cases hf:isFr x with
   |true=>rw[hf]at e;exact up e
   |false =>
    rw[hf]at e;replace e:(match a==i with|true=>some x|false=>lookup a (ua os (i+1) as))=some o:=e
    cases ha:a==i with
    |true =>
     rw[ha]at e;cases e;exact⟨0,beq_iff_eq.mp ha,rfl,hf⟩
    |false=>rw[ha]at e;exact up e
def zC7{h:Heap}(as:List Addr):(Yi h as).In h:=λa o e=>by
 obtain⟨j,h1,h2,h3⟩:=zAN _ _ _ _ _ e;rw[zero_add]at h1;subst h1;have h4:h.objs[a]?=some o:=by rw[<- Array.getElem?_toList];exact h2
 unfold Heap.get?;rw[h4];obtain⟨c,d,dt,sl⟩:=o;cases dt<;>first|rfl|(cases h3)
def zAO(as:List Addr)(α:Type)(L:qH->α)(v:α):PySem.W.Hook :=
 ⟨α,λs=>L (Yi s.heap as),λ_=>v,λ_ h=>∃K:qH,K.In h/\L K=v,λ_ s e=>⟨_,zC7 as,e⟩,λ_ _ _ ⟨K,x,e⟩ k=>⟨K,x.keeps k,e⟩⟩
def zFC{K:qH}{n:Str}{st:Stmt}(e:y0 K n=jB n st):∃(f:Addr) (oc:Value) (od:Option Addr) (kV dc pm:Value) (an:Option Addr) (cd ct:Value) (sl:Array (Option Value)),
  nsIn K mainGlobals n=some (some (.ref f))/\K.lookup f=some ⟨oc,od,.func (fnOf n n (wg st) (yu st) (zZ st) .none kV dc pm an cd ct),sl⟩/\codeIn K cd n=true/\keepIn K (.ref f)=true:=by
 unfold y0 at e;split at e
 ·rename_i a ha
  split at e
  ·rename_i oc od fd sl hl
   have e:=qJ e;unfold fvOf at e;injection e with e1 e
   injection e with e2 e
   injection e with e3 e
   injection e with e4 e
   injection e with e5 e
   injection e with e6 e
   injection e with e7 e
   injection e with e8 e
   injection e with e9 e10
   obtain⟨k,p⟩:=zE e1;cases fd;simp only at e2 e3 e4 e5 e6 e7 e8 e9 e10;subst e2 e3 e4 e5 e6 e7 e8 e9 e10;exact⟨_,_,_,_,_,_,_,_,_,_,ha,hl,k,p⟩
  ·cases e
 ·cases e
def nth{α:Type}:List α->Nat->Option α
 | [],_=>none|a::_,0=>some a|_::l,n+1=>nth l n
def ix{α:Type}{l l':List α}(n:Nat)(h:l=l'):nth l n=nth l' n:=congrArg (λl=>nth l n) h
section
variable{K:qH}{h:Heap}{mg:Str->Option Value}
def ar0{P:List Value->Prop}(h:P []):∀us:List Value,us.length=0->P us
 | [],_=>h
def ar1{P:List Value->Prop}(h:∀a:Value,P [a]):∀us:List Value,us.length=1->P us
 | [a],_=>h a
def ar2{P:List Value->Prop}(h:∀a b:Value,P [a,b]):∀us:List Value,us.length=2->P us
 | [a,b],_=>h a b
def ar3{P:List Value->Prop}(h:∀a b c:Value,P [a,b,c]):∀us:List Value,us.length=3->P us
 | [a,b,c],_=>h a b c
def ar4{P:List Value->Prop}(h:∀a b c d:Value,P [a,b,c,d]):∀us:List Value,us.length=4->P us
 | [a,b,c,d],_=>h a b c d
def ar5{P:List Value->Prop}(h:∀a b c d e:Value,P [a,b,c,d,e]):∀us:List Value,us.length=5->P us
 | [a,b,c,d,e],_=>h a b c d e
def jY{n:Str}{st:Stmt}{ps:List Str}(X:K.In h)(G:h.Ns mainGlobals mg)(e:some (y0 K n)=some (jB n st))
  (b:∀(kV doc pm:Value) (an:Option Addr) (cdv ct:Value) (us:List Value),us.length=ps.length->bindArgs (fnOf n n (wg st) (yu st) (zZ st) .none kV doc pm an cdv ct) ⟨us,[]⟩=pure (ps.zip us):=by intro _ _ _ _ _ _;first|exact ar1 (λ_=>rfl)|exact ar2 (λ_ _=>rfl)|exact ar3 (λ_ _ _=>rfl)|exact ar4 (λ_ _ _ _=>rfl)|exact ar5 (λ_ _ _ _ _=>rfl)|exact ar0 rfl):Yh K mg n st ps:=by
 obtain⟨f,oc,od,kV,dc,pm,an,cd,ct,sl,a,l,k,p⟩:=zFC (qJ e);exact⟨_,_,mg_of X G a,Ql (st:=st) l k p,(Ql (st:=st) l k p).binds b⟩
def zC8{n:Str}{i:Int}(X:K.In h)(G:h.Ns mainGlobals mg)(e:some (Zr K n)=some (some i)):∃t,mg n=some (.int i t):=by
 have e:=qJ e;unfold Zr at e;split at e
 ·rename_i j t hj
  cases e;exact⟨_,mg_of X G hj⟩
 ·cases e
def ZG{n:Str}(X:K.In h)(G:h.Ns mainGlobals mg)(e:some (j0 K n)=some true):mg n=none:=by
 have e:=qJ e;unfold j0 at e;split at e
 ·rename_i hj
  exact PySem.W.mg_none_of X G hj
 ·cases e
def WW{n:Str}{a:Addr}(X:K.In h)(G:h.Ns mainGlobals mg)(e:JG K n=some a):mg n=some (.ref a):=by
 unfold JG at e;split at e
 ·rename_i b hb
  cases e;exact mg_of X G hb
 ·cases e
def sm_at(e:zBM K=true):zF9 K:=by
 unfold zBM at e;cases h:K.lookup sysModules with
 |none=>rw[h]at e;cases e
 |some o =>
  rw[h]at e;dsimp only at e;cases hd:o.data with
  |dict es n=>exact⟨o,es,n,h,hd⟩|_=>rw[hd]at e;cases e
def cl_at{cl rs:List Str}(X:K.In h)(G:h.Ns mainGlobals mg)(e:zFc K cl rs=true):ClOk K mg cl rs:=by
 obtain⟨e,e3⟩:=zE e;obtain⟨e1,e2⟩:=zE e;refine⟨λhc=>?_,λc hc=>?_,sm_at e3⟩
 ·cases cl with
  |nil=>exact absurd rfl hc
  |cons c0 cs =>
   replace e1:(match JG K "ThrowError" with
    |some T=>tIn K T&&(c0::cs).all λc=>(match JG K c with|some C=>xIn K c C T|none=>false)
    |none=>false)=true:=e1
   cases hT:JG K "ThrowError" with
   |none=>rw[hT]at e1;cases e1
   |some T =>
    rw[hT]at e1;obtain⟨t1,t2⟩:=zE e1;refine⟨T,WW X G hT,tcls_of t1,λc hc=>?_⟩;have q:=all_eq_true.mp t2 c hc;cases hC:JG K c with
    |none=>rw[hC]at q;cases q
    |some C =>
     rw[hC]at q;exact⟨C,WW X G hC,(zC5 q).1,(zC5 q).2⟩
 ·have q:=all_eq_true.mp e2 c hc
  cases hC:JG K c with
  |none=>rw[hC]at q;cases q
  |some C =>
   rw[hC]at q;exact⟨C,WW X G hC,q⟩
def ri_at{c q:Str}{st:Stmt}(X:K.In h)(G:h.Ns mainGlobals mg)(e:some (iview K c q)=some (iwant q st))
  (b:∀(kV doc pm:Value) (an:Option Addr) (cdv ct:Value) (us:List Value),us.length=(("self":Str)::jS c).length->bindArgs (fnOf "__init__" q (wg st) (yu st) (zZ st) .none kV doc pm an cdv ct) ⟨us,[]⟩=pure ((("self":Str)::jS c).zip us):=by intro _ _ _ _ _ _;first|exact ar2 (λ_ _=>rfl)|exact ar3 (λ_ _ _=>rfl)):RiAt K mg c st:=by
 have e:=qJ e;unfold iview at e;split at e
 ·rename_i C T hC hT
  split at e
  ·rename_i cd hcd
   split at e
   ·rename_i f hf
    split at e
    ·rename_i oc od fd sl hl
     have e:=qJ e;unfold fvOf at e;injection e with e1 e
     injection e with e2 e
     injection e with e3 e
     injection e with e4 e
     injection e with e5 e
     injection e with e6 e
     injection e with e7 e
     injection e with e8 e
     injection e with e9 e10
     obtain⟨k,p⟩:=zE e1;cases fd;simp only at e2 e3 e4 e5 e6 e7 e8 e9 e10;subst e2 e3 e4 e5 e6 e7 e8 e9 e10;simp only[iOk,Bool.and_eq_true,beq_iff_eq,all_eq_true]at p;obtain⟨⟨⟨⟨⟨p1,p2⟩,p3⟩,p4⟩,⟨p5,p6⟩,p7⟩,⟨⟨p8,p9⟩,p10⟩,p11⟩:=p;have fc:findCls K (.ref T) (.type "type") "__init__"=some (.val (.builtin "ValueError.__init__")):=by
      split at p7
      ·rename_i b hb
       rw[hb,beq_iff_eq.mp p7]
      ·cases p7
     exact⟨C,T,f,_,_,WW X G hC,WW X G hT,p1,p2,p3,Ql (st:=st) hl k p4,(Ql (st:=st) hl k p4).binds b,⟨p5,p6,fc⟩,⟨⟨cd,hcd,p8,p9⟩,p10⟩,p11⟩
    ·cases e
   ·cases e
  ·cases e
 ·cases e
end
def walkE{l:PySem.W.OpenLaw}{q:Program}{loose:List Str}{XP:(Str->Option Value)->Heap->Prop}{d:DefRec}{as:List Addr}{α:Type}{L:qH->α}{v:α}{x:Str}{F:MF}(hm:∀ns:List Int,ns.length<=63->∃outs,F [.v (.l (ns.map D.int))]=.ok (.v (.bl true),outs))
  (hn:l.most=some 63) (hdf:d.params.defaults=[])
  (Gk:∀(w:World) (K:qH) (mg:Str->Option Value) (fa:Addr) (h:Heap),K.In h->L K=v->h.Ns mainGlobals mg->mg d.name=some (.ref fa) ->
   ∃fd:FuncData,(∀(s:Shared) (u:Value),BindsTo s fd ⟨[u],[]⟩ [(x,u)])/\∀base:Heap,FnOk l.prog w K mg base (CXx l.prog w) 40 fa fd [x] (spM K mg 1 F)) :
  PySem.W.WalkO q loose XP (zAO as α L v).says l.row.toRowW d [] (λf vs=>PySem.call f vs):=by
 refine Att.attach_call hn hdf λw s₀ s₁ mg mb fa o pm cd doc a vs ns G Y ho hd hcd hmg hobj hints hlen hg=>?_
 obtain⟨K,KX,e⟩:=Y;obtain⟨fd,hb,hF⟩:=Gk w K mg fa _ KX e G.T.g hmg;exact zD5 (sp:=spLaw K) (k:=40) KX G.T.g G.T.b G.T.builtins G.T.nolimit hg hobj hints (le_trans hlen (by decide)) ⟨rfl,rfl,by decide,by decide⟩ (λbase _ _=>(hF base).imp (law_imp hm)) hb (λH hO hS=>⟨a,ns,rfl,hS,hlen,λ_=>rfl⟩) λH e s' ⟨_,_,_,_,_,_,_,_,_,_,_,_,z⟩=>z
end DV
namespace My
open PySem L2 DV
def cs_:List (Str×D):=[("LEAST_SIGNS",.int 2),("MOST_FREE",.int 20),("MOST_LISTED",.int 500),("MOST_SIGNS",.int 3),("MOST_THROWS",.int 20)]
def bs_:List Str:=["ValueError","all","bool","int","isinstance","len","max","range","repr","reversed","sum","tuple","zip"]
def ri_:List Str:=["TooGreat"]
def vT:Bx :=
  (.bOne (.sRet (.and (.is .int (.var 0)) (.not (.is .bool (.var 0))))))
def QL:List FI:=[]
def ZH:MF:=fnM 1 (dB QL vT)
def yk:Bx :=
  (.bOne (.sRet (.and (.call 0 (.ev (.var 0) .nil)) (.chain .le .le (.var 1) (.var 0) (.var 2)))))
def jK:List FI:=[⟨"is_whole",1,1,false,ZH⟩]
def zi:MF:=fnM 3 (dB jK yk)
def WX:Bx :=
  (.bOne (.sRet (.call 0 (.ev (.var 0) (.ev (.c (.int 0)) (.ev (.bin .sub (.gl (.int 3)) (.c (.int 1))) .nil))))))
def GU:List FI:=[⟨"is_whole_within",3,2,false,zi⟩]
def YV:MF:=fnM 1 (dB GU WX)
def vU:Bx :=
  (.bSeq (.sIf (.tOr (.tNot (.tE (.is .tuple (.var 0)))) (.tE (.cmp .gt (.cB .len (.cons (.var 0) .nil)) (.gl (.int 20))))) (.bOne (.sRet (.c (.bl false)))) .bNil)
  (.bOne (.sRet (.cB .all (.cons (.comp 1 ["sign"] [] [] (.iT (.var 0)) (.n 0) .tTr (.call 0 (.ev (.var 0) .nil))) .nil)))))
def j6:List FI:=[⟨"sign_good",1,3,false,YV⟩]
def ZI:MF:=fnM 1 (dB j6 vU)
def vV:Bx :=
  (.bOne (.sIf (.tNot (.tE (.call 0 (.ev (.var 0) .nil)))) (.bOne (.sRaise "NoRow")) .bNil))
def QM:List FI:=[⟨"row_good",1,4,false,ZI⟩]
def ZJ:MF:=fnM 1 (dB QM vV)
def Yz:Bx :=
  (.bOne (.sIf (.tNot (.tE (.call 0 (.ev (.var 0) (.ev (.var 1) (.ev (.var 2) .nil)))))) (.bOne (.sRaise "NoNumber")) .bNil))
def W5:List FI:=[⟨"is_whole_within",3,2,false,zi⟩]
def zP:MF:=fnM 3 (dB W5 Yz)
def ZS:Bx :=
  (.bOne (.sDrop (.call 0 (.ev (.var 0) (.ev (.gl (.int 2)) (.ev (.gl (.int 3)) .nil))))))
def uG:List FI:=[⟨"need_number",3,3,false,zP⟩]
def yO:MF:=fnM 1 (dB uG ZS)
def jZ:Bx :=
  (.bOne (.sRet (.maxd (.comp 3 ["sign","begin","length"] [] [] (.iL (.var 0)) (.t [0,1,2]) .tTr (.var 2)) (.c (.int 0)))))
def wK:List FI:=[]
def yK:MF:=fnM 1 (dB wK jZ)
abbrev QN:Bx :=
  (.bOne (.sIf (.tOr (.tE (.cmp .eq (.var 3) (.cB .len (.cons (.var 0) .nil)))) (.tE (.cmp .ne (.ix (.var 0) (.var 3)) (.ix (.var 0) (.var 2))))) (.bSeq (.sApp 1 (.t (.cons (.ix (.var 0) (.var 2)) (.cons (.var 2) (.cons (.bin .sub (.var 3) (.var 2)) .nil)))))
  (.bOne (.sSet 2 (.var 3)))) .bNil))
def GV:Bx :=
  (.bSeq (.sDrop (.call 0 (.ev (.var 0) .nil)))
  (.bSeq (.sSet 1 (.l .nil))
  (.bSeq (.sSet 2 (.c (.int 0)))
  (.bSeq (.sForR2 (.cons (.c (.int 1)) (.cons (.bin .add (.cB .len (.cons (.var 0) .nil)) (.c (.int 1))) .nil)) (.n 3)
  QN)
  (.bOne (.sRet (.mov 1)))))))
def zj:List FI:=[⟨"need_row",1,5,false,ZJ⟩]
def jk:MF:=fnM 4 (dB zj GV)
def Y0:Bx :=
  (.bOne (.sRet (.call 0 (.ev (.call 1 (.ev (.var 0) .nil)) .nil))))
def W6:List FI:=[⟨"greatest_length",1,1,false,yK⟩,⟨"runs_of",1,6,false,jk⟩]
def yl:MF:=fnM 1 (dB W6 Y0)
abbrev Jy:Bx :=
  (.bSeq (.sSet 5 (.cB .sum (.cons (.comp 1 ["of_sign"] [] [] (.iL (.var 3)) (.n 0) .tTr (.cB .sum (.cons (.var 0) .nil))) .nil)))
  (.bOne (.sSet 3 (.comp 2 ["weight","of_sign"] ["whole"] [5] (.iZ false false (.cons (.var 0) (.cons (.var 3) .nil))) (.t [0,1]) .tTr (.bin .add (.l (.cons (.bin .mul (.var 0) (.bin .sub (.var 2) (.cB .sum (.cons (.var 1) .nil)))) .nil)) (.comp 1 ["end"] ["weight"] [0] (.iL (.sl (.var 1) .oN (.oS (.neg (.c (.int 1)))))) (.n 0) .tTr (.bin .mul (.var 1) (.var 0))))))))
def wL:Bx :=
  (.bSeq (.sIf (.tE (.cmp .eq (.var 1) (.c (.int 0)))) (.bOne (.sRet (.c (.int 1)))) .bNil)
  (.bSeq (.sIf (.tE (.cmp .eq (.var 2) (.c (.int 0)))) (.bOne (.sRet (.c (.int 0)))) .bNil)
  (.bSeq (.sSet 3 (.comp 1 ["weight"] ["k"] [2] (.iL (.var 0)) (.n 0) .tTr (.bin .add (.l (.cons (.var 0) .nil)) (.bin .mul (.l (.cons (.c (.int 0)) .nil)) (.bin .sub (.var 1) (.c (.int 1)))))))
  (.bSeq (.sForR1 (.cons (.bin .sub (.var 1) (.c (.int 1))) .nil) (.n 4)
  Jy)
  (.bOne (.sRet (.cB .sum (.cons (.comp 1 ["of_sign"] [] [] (.iL (.var 3)) (.n 0) .tTr (.cB .sum (.cons (.var 0) .nil))) .nil))))))))
def zk:List FI:=[]
def ya:MF:=fnM 6 (dB zk wL)
def wM:Bx :=
  (.bOne (.sDrop (.call 0 (.ev (.var 0) (.ev (.c (.int 1)) (.ev (.gl (.int 20)) .nil))))))
def YW:List FI:=[⟨"need_number",3,3,false,zP⟩]
def zu:MF:=fnM 1 (dB YW wM)
def YE:Bx :=
  (.bSeq (.sDrop (.call 2 (.ev (.var 0) .nil)))
  (.bSeq (.sDrop (.call 1 (.ev (.var 1) (.ev (.c (.int 0)) (.ev (.gl (.int 20)) .nil)))))
  (.bOne (.sDrop (.call 0 (.ev (.var 2) .nil))))))
def WY:List FI:=[⟨"need_free_length",1,4,false,zu⟩,⟨"need_number",3,3,false,zP⟩,⟨"need_signs",1,4,false,yO⟩]
def zX:MF:=fnM 3 (dB WY YE)
abbrev YX:Bx :=
  (.bOne (.sSet 4 (.bin .add (.l (.cons (.bin .mul (.bin .sub (.var 0) (.c (.int 1))) (.cB .sum (.cons (.var 4) .nil))) .nil)) (.sl (.var 4) .oN (.oS (.neg (.c (.int 1))))))))
def GW:Bx :=
  (.bSeq (.sIf (.tE (.cmp .ge (.call 2 (.ev (.var 2) .nil)) (.var 1))) (.bOne (.sRet (.c (.int 0)))) .bNil)
  (.bSeq (.sIf (.tE (.cmp .eq (.var 2) (.t .nil))) (.bOne (.sRet (.call 1 (.ev (.bin .mul (.l (.cons (.c (.int 1)) .nil)) (.var 0)) (.ev (.var 3) (.ev (.bin .sub (.var 1) (.c (.int 1))) .nil)))))) .bNil)
  (.bSeq (.sSet 4 (.bin .mul (.l (.cons (.c (.int 0)) .nil)) (.bin .sub (.var 1) (.c (.int 1)))))
  (.bSeq (.sIx 4 (.bin .sub (.ix (.ix (.call 0 (.ev (.var 2) .nil)) (.neg (.c (.int 1)))) (.c (.int 2))) (.c (.int 1))) (.c (.int 1)))
  (.bSeq (.sForR1 (.cons (.var 3) .nil) (.n 5)
  YX)
  (.bOne (.sRet (.cB .sum (.cons (.var 4) .nil)))))))))
def Ju:List FI:=[⟨"runs_of",1,6,false,jk⟩,⟨"weigh_alike_upto",3,1,false,ya⟩,⟨"longest_any",1,7,false,yl⟩]
def j7:MF:=fnM 6 (dB Ju GW)
def WZ:Bx :=
  (.bSeq (.sDrop (.call 1 (.ev (.var 0) (.ev (.var 1) (.ev (.var 2) .nil)))))
  (.bOne (.sRet (.call 0 (.ev (.var 0) (.ev (.var 2) (.ev (.t .nil) (.ev (.var 1) .nil))))))))
def GX:List FI:=[⟨"ways_on",4,8,false,j7⟩,⟨"need_ordered",3,5,false,zX⟩]
def zg:MF:=fnM 3 (dB GX WZ)
abbrev JX:Bx :=
  (.bSeq (.sAug 5 .sub (.var 8))
  (.bSeq (.sAug 7 .add (.c (.int 1)))
  (.bOne (.sSet 8 (.call 0 (.ev (.var 0) (.ev (.var 2) (.ev (.bin .add (.var 4) (.t (.cons (.var 7) .nil))) (.ev (.var 6) .nil)))))))))
abbrev ZT:Bx :=
  (.bSeq (.sSet 7 (.c (.int 0)))
  (.bSeq (.sSet 8 (.call 0 (.ev (.var 0) (.ev (.var 2) (.ev (.bin .add (.var 4) (.t (.cons (.var 7) .nil))) (.ev (.var 6) .nil))))))
  (.bSeq (.sWhile (.tE (.cmp .ge (.var 5) (.var 8)))
  JX)
  (.bOne (.sSet 4 (.bin .add (.var 4) (.t (.cons (.var 7) .nil))))))))
def vW:Bx :=
  (.bSeq (.sDrop (.call 1 (.ev (.var 3) (.ev (.c (.int 0)) (.ev (.bin .sub (.call 2 (.ev (.var 0) (.ev (.var 1) (.ev (.var 2) .nil)))) (.c (.int 1))) .nil)))))
  (.bSeq (.sSet 4 (.t .nil))
  (.bSeq (.sSet 5 (.var 3))
  (.bSeq (.sForI (.iRv (.cons (.var 1) .nil)) (.n 6)
  ZT)
  (.bOne (.sRet (.var 4)))))))
def ja:List FI:=[⟨"ways_on",4,8,false,j7⟩,⟨"need_number",3,3,false,zP⟩,⟨"free_many",3,9,false,zg⟩]
def ym:MF:=fnM 9 (dB ja vW)
abbrev JY:Bx :=
  (.bSeq (.sSet 6 (.comp2 2 ["row","sign"] ["m"] [0] (.iL (.var 4)) (.n 0) (.iR1 (.cons (.var 2) .nil)) (.n 1) (.bin .add (.var 0) (.t (.cons (.var 1) .nil)))))
  (.bOne (.sSet 4 (.comp 1 ["row"] ["k"] [2] (.iL (.var 6)) (.n 0) (.tE (.cmp .lt (.call 0 (.ev (.var 0) .nil)) (.var 1))) (.var 0)))))
def vX:Bx :=
  (.bSeq (.sSet 3 (.call 1 (.ev (.var 0) (.ev (.var 1) (.ev (.var 2) .nil)))))
  (.bSeq (.sIf (.tE (.cmp .gt (.var 3) (.gl (.int 500)))) (.bOne (.sRaiseA "TooGreat" (.cons (.var 3) (.cons (.gl (.int 500)) .nil)))) .bNil)
  (.bSeq (.sSet 4 (.l (.cons (.t .nil) .nil)))
  (.bSeq (.sForR1 (.cons (.var 1) .nil) (.n 5)
  JY)
  (.bOne (.sRet (.mov 4)))))))
def yw:List FI:=[⟨"longest_any",1,7,false,yl⟩,⟨"free_many",3,9,false,zg⟩]
def yn:MF:=fnM 7 (dB yw vX)
def wW:Bx :=
  (.bSeq (.sIf (.tE (.cmp .lt (.var 1) (.cB .len (.cons (.var 0) .nil)))) (.bOne (.sRet (.ix (.var 0) (.var 1)))) .bNil)
  (.bOne (.sRet (.c (.int 0)))))
def JZ:List FI:=[]
def yr:MF:=fnM 2 (dB JZ wW)
def YY:Bx :=
  (.bSeq (.sSet 0 (.bin .mod (.bin .add (.var 0) (.c (.int 7919))) (.c (.int 2147483647))))
  (.bOne (.sRet (.bin .mod (.bin .add (.bin .add (.bin .mul (.var 0) (.var 0)) (.bin .mul (.c (.int 48271)) (.var 0))) (.c (.int 12345))) (.c (.int 2147483629))))))
def ZU:List FI:=[]
def w8:MF:=fnM 1 (dB ZU YY)
def w9:Bx :=
  (.bSeq (.sSet 1 (.cB .max (.cons (.var 0) (.cons (.bin .sub (.c (.int 0)) (.var 0)) .nil))))
  (.bOne (.sRet (.l (.cons (.var 1) (.cons (.cB .int (.cons (.cmp .ge (.var 1) (.bin .pow (.c (.int 10)) (.c (.int 18)))) .nil)) (.cons (.bin .mod (.var 1) (.c (.int 1000003))) .nil)))))))
def YF:List FI:=[]
def jL:MF:=fnM 2 (dB YF w9)
def JA:Bx :=
  (.bSeq (.sIf (.tE (.cmp .eq (.ixO 0 (.c (.int 1))) (.c (.int 1)))) (.bSeq (.sSet 2 (.bin .mod (.ixO 0 (.c (.int 0))) (.var 1)))
  (.bSeq (.sIx 0 (.c (.int 0)) (.bin .fdiv (.ixO 0 (.c (.int 0))) (.var 1)))
  (.bOne (.sRet (.var 2))))) .bNil)
  (.bSeq (.sIx 0 (.c (.int 2)) (.call 0 (.ev (.bin .add (.call 0 (.ev (.ixO 0 (.c (.int 2))) .nil)) (.c (.int 7))) .nil)))
  (.bOne (.sRet (.bin .mod (.bin .fdiv (.ixO 0 (.c (.int 2))) (.c (.int 64))) (.var 1))))))
def Ja:List FI:=[⟨"_law_next",1,1,false,w8⟩]
def zm:MF:=fnM 3 (dB Ja JA)
def YG:Bx :=
  (.bSeq (.sSet 1 (.l (.cons (.isC cl_ "NoDie" (.var 0)) (.cons (.isC cl_ "NoRow" (.var 0)) (.cons (.isC cl_ "NoNumber" (.var 0)) (.cons (.isC cl_ "NoLine" (.var 0)) .nil))))))
  (.bSeq (.sSet 1 (.bin .add (.var 1) (.l (.cons (.isC cl_ "NoMachine" (.var 0)) (.cons (.isC cl_ "NoPaper" (.var 0)) (.cons (.isC cl_ "NoText" (.var 0)) (.cons (.isC cl_ "TooGreat" (.var 0)) .nil)))))))
  (.bSeq (.sIf (.tOr (.tNot (.tE (.isV cl_ (.var 0)))) (.tE (.cmp .ne (.cnt (.var 1) (.c (.bl true))) (.c (.int 1))))) (.bOne (.sRet (.c (.str "other")))) .bNil)
  (.bOne (.sRet (.ix (.l (.cons (.c (.str "die")) (.cons (.c (.str "row")) (.cons (.c (.str "number")) (.cons (.c (.str "line")) (.cons (.c (.str "machine")) (.cons (.c (.str "paper")) (.cons (.c (.str "text")) (.cons (.c (.str "great")) .nil))))))))) (.idx (.var 1) (.c (.bl true)))))))))
def Wa:List FI:=[]
def yV:MF:=fnM 2 (dB Wa YG)
abbrev JB:Bx :=
  (.bSeq (.sSet 8 (.bin .add (.var 6) (.t (.cons (.var 7) .nil))))
  (.bOne (.sIf (.tOr (.tE (.cmp .ne (.sl (.var 8) (.oS (.bin .sub (.cB .len (.cons (.var 8) .nil)) (.var 2))) .oN) (.bin .mul (.t (.cons (.var 7) .nil)) (.var 2)))) (.tE (.cmp .lt (.cB .len (.cons (.var 8) .nil)) (.var 2)))) (.bOne (.sApp 5 (.var 8))) .bNil)))
abbrev JC:Bx :=
  (.bOne (.sForR1 (.cons (.var 0) .nil) (.n 7)
  JB))
abbrev Y1:Bx :=
  (.bSeq (.sSet 5 (.l .nil))
  (.bSeq (.sForL (.var 3) (.n 6)
  JC)
  (.bOne (.sSet 3 (.var 5)))))
def Wb:Bx :=
  (.bSeq (.sSet 3 (.l (.cons (.t .nil) .nil)))
  (.bSeq (.sForR1 (.cons (.var 1) .nil) (.n 4)
  Y1)
  (.bOne (.sRet (.var 3)))))
def yh:List FI:=[]
def j8:MF:=fnM 9 (dB yh Wb)
abbrev yT:Bx :=
  (.bSeq (.sIf (.tAnd (.tE (.cmp .lt (.bin .add (.var 6) (.c (.int 1))) (.var 2))) (.tE (.cmp .gt (.var 6) (.c (.int 0))))) (.bOne (.sIx 5 (.bin .add (.var 6) (.c (.int 1))) (.bin .add (.ixO 5 (.bin .add (.var 6) (.c (.int 1)))) (.ixO 3 (.var 6))))) .bNil)
  (.bOne (.sIf (.tE (.cmp .gt (.var 2) (.c (.int 1)))) (.bOne (.sIx 5 (.c (.int 1)) (.bin .add (.ixO 5 (.c (.int 1))) (.bin .mul (.ixO 3 (.var 6)) (.ix (.l (.cons (.bin .sub (.var 0) (.c (.int 1))) (.cons (.var 0) .nil))) (.cB .int (.cons (.cmp .eq (.var 6) (.c (.int 0))) .nil))))))) .bNil)))
abbrev jp:Bx :=
  (.bSeq (.sSet 5 (.bin .mul (.l (.cons (.c (.int 0)) .nil)) (.bin .add (.var 2) (.c (.int 1)))))
  (.bSeq (.sForR1 (.cons (.var 2) .nil) (.n 6)
  yT)
  (.bOne (.sSet 3 (.var 5)))))
def YH:Bx :=
  (.bSeq (.sSet 3 (.bin .mul (.l (.cons (.c (.int 0)) .nil)) (.bin .add (.var 2) (.c (.int 1)))))
  (.bSeq (.sIx 3 (.c (.int 0)) (.c (.int 1)))
  (.bSeq (.sForR1 (.cons (.var 1) .nil) (.n 4)
  jp)
  (.bOne (.sRet (.cB .sum (.cons (.sl (.var 3) .oN (.oS (.var 2))) .nil)))))))
def zS:List FI:=[]
def yW:MF:=fnM 7 (dB zS YH)
def Wc:Bx :=
  (.bOne (.sTry cl_ (.bSeq (.sIf (.tE (.cmp .lt (.var 0) (.c (.int 2)))) (.bOne (.sRet (.callV [1,2] (.ix (.l (.cons (.fn 1) (.cons (.fn 2) .nil))) (.var 0)) (.ev (.var 1) (.ev (.var 2) (.ev (.var 3) .nil)))))) .bNil)
  (.bOne (.sRet (.call 0 (.ev (.var 1) (.ev (.var 2) (.ev (.var 3) (.ev (.var 4) .nil)))))))) 5
  (.bSeq (.sIf (.tE (.isC cl_ "TooGreat" (.var 5))) (.bOne (.sRet (.t (.cons (.call 3 (.ev (.var 5) .nil)) (.cons (.atr ri_ "many" (.var 5)) (.cons (.atr ri_ "most" (.var 5)) .nil)))))) .bNil)
  (.bOne (.sRet (.call 3 (.ev (.var 5) .nil)))))))
def Jb:List FI:=[⟨"free_nth",4,10,false,ym⟩,⟨"free_many",3,9,false,zg⟩,⟨"free_all",3,10,false,yn⟩,⟨"_law_kind_of",1,1,true,yV⟩]
def zQ:MF:=fnM 6 (dB Jb Wc)
abbrev yI:Bx :=
  (.bSeq (.sSet 5 (.call 0 (.ev (.c (.int 1)) (.ev (.var 0) (.ev (.var 1) (.ev (.var 2) (.ev (.c (.int 0)) .nil)))))))
  (.bSeq (.sIf (.tE (.cmp .gt (.cB .len (.cons (.var 3) .nil)) (.c (.int 500)))) (.bOne (.sRet (.cmp .eq (.var 5) (.t (.cons (.c (.str "great")) (.cons (.cB .len (.cons (.var 3) .nil)) (.cons (.c (.int 500)) .nil))))))) .bNil)
  (.bSeq (.sIf (.tE (.cmp .ne (.reprO 5) (.cB .repr (.cons (.var 3) .nil)))) (.bOne (.sRet (.c (.bl false)))) .bNil)
  (.bOne (.sApp 5 (.c (.int 0)))))))
def wN:Bx :=
  (.bSeq (.sSet 3 (.call 1 (.ev (.var 0) (.ev (.var 1) (.ev (.var 2) .nil)))))
  (.bSeq (.sForR1 (.cons (.c (.int 2)) .nil) (.n 4)
  yI)
  (.bOne (.sRet (.cmp .eq (.comp 1 ["_law_at"] ["_law_m","_law_n","_law_k"] [0,1,2] (.iR1 (.cons (.cB .len (.cons (.var 3) .nil)) .nil)) (.n 0) .tTr (.call 0 (.ev (.c (.int 2)) (.ev (.var 1) (.ev (.var 2) (.ev (.var 3) (.ev (.var 0) .nil))))))) (.var 3))))))
def zn:List FI:=[⟨"_law_told",5,11,false,zQ⟩,⟨"_law_free",3,1,false,j8⟩]
def yb:MF:=fnM 6 (dB zn wN)
abbrev QO:Bx :=
  (.bSeq (.sSet 11 (.l (.cons (.call 0 (.ev (.var 10) (.ev (.var 8) (.ev (.var 4) (.ev (.var 5) (.ev (.c (.int 0)) .nil)))))) (.cons (.call 0 (.ev (.var 10) (.ev (.var 3) (.ev (.var 9) (.ev (.var 5) (.ev (.c (.int 0)) .nil)))))) (.cons (.call 0 (.ev (.var 10) (.ev (.var 3) (.ev (.var 4) (.ev (.var 9) (.ev (.c (.int 0)) .nil)))))) .nil)))))
  (.bOne (.sIf (.tE (.cmp .ne (.bin .add (.var 11) (.l (.cons (.call 0 (.ev (.var 10) (.ev (.var 3) (.ev (.var 4) (.ev (.c (.int 0)) (.ev (.c (.int 0)) .nil)))))) .nil))) (.bin .mul (.l (.cons (.c (.str "number")) .nil)) (.c (.int 4))))) (.bOne (.sRet (.c (.bl false)))) .bNil)))
abbrev uH:Bx :=
  (.bSeq (.sIf (.tAnd (.tE (.cmp .is (.var 7) (.c (.bl true)))) (.tE (.cmp .lt (.var 6) (.c (.int 2))))) (.bOne (.sSet 7 (.c .non))) .bNil)
  (.bOne (.sIf (.tE (.cmp .ne (.call 0 (.ev (.c (.int 2)) (.ev (.var 3) (.ev (.var 4) (.ev (.var 5) (.ev (.var 7) .nil)))))) (.c (.str "number")))) (.bOne (.sRet (.c (.bl false)))) .bNil)))
abbrev QP:Bx :=
  (.bSeq (.sSet 2 (.call 4 (.ev (.var 1) .nil)))
  (.bSeq (.sSet 3 (.bin .add (.c (.int 2)) (.call 1 (.lend 2 (.ev (.c (.int 2)) .nil)))))
  (.bSeq (.sIf (.tNot (.tE (.call 3 (.ev (.var 3) (.ev (.call 1 (.lend 2 (.ev (.c (.int 7)) .nil))) (.ev (.bin .add (.c (.int 1)) (.call 1 (.lend 2 (.ev (.c (.int 5)) .nil)))) .nil)))))) (.bOne (.sRet (.c (.bl false)))) .bNil)
  (.bSeq (.sPar 4 5 (.cons (.call 1 (.lend 2 (.ev (.c (.int 21)) .nil))) (.cons (.ix (.l (.cons (.bin .add (.c (.int 1)) (.call 1 (.lend 2 (.ev (.c (.int 20)) .nil)))) (.cons (.c (.int 2)) (.cons (.c (.int 3)) .nil)))) (.call 1 (.lend 2 (.ev (.c (.int 3)) .nil)))) .nil)))
  (.bSeq (.sSet 6 (.call 2 (.ev (.var 3) (.ev (.var 4) (.ev (.var 5) .nil)))))
  (.bSeq (.sIf (.tE (.cmp .ne (.cB .repr (.cons (.call 0 (.ev (.c (.int 0)) (.ev (.var 3) (.ev (.var 4) (.ev (.var 5) (.ev (.c (.int 0)) .nil)))))) .nil)) (.cB .repr (.cons (.var 6) .nil)))) (.bOne (.sRet (.c (.bl false)))) .bNil)
  (.bSeq (.sIf (.tAnd (.tE (.cmp .gt (.var 6) (.c (.int 500)))) (.tE (.cmp .ne (.call 0 (.ev (.c (.int 1)) (.ev (.var 3) (.ev (.var 4) (.ev (.var 5) (.ev (.c (.int 0)) .nil)))))) (.t (.cons (.c (.str "great")) (.cons (.var 6) (.cons (.c (.int 500)) .nil))))))) (.bOne (.sRet (.c (.bl false)))) .bNil)
  (.bSeq (.sForL (.l (.cons (.var 6) (.cons (.bin .add (.var 6) (.c (.int 1))) (.cons (.neg (.c (.int 1))) (.cons (.c (.bl true)) (.cons (.c .non) (.cons (.c (.str "0")) (.cons (.t (.cons (.c (.int 0)) .nil)) .nil)))))))) (.n 7)
  uH)
  (.bSeq (.sSet 8 (.ix (.l (.cons (.c (.int 4)) (.cons (.c (.int 1)) (.cons (.neg (.c (.int 1))) (.cons (.c (.bl true)) (.cons (.c .non) (.cons (.c (.str "2")) (.cons (.bin .pow (.c (.int 10)) (.c (.int 30))) .nil)))))))) (.call 1 (.lend 2 (.ev (.c (.int 7)) .nil)))))
  (.bSeq (.sSet 9 (.ix (.l (.cons (.c (.int 21)) (.cons (.neg (.c (.int 1))) (.cons (.c (.bl true)) (.cons (.c .non) (.cons (.c (.str "2")) (.cons (.bin .pow (.c (.int 10)) (.c (.int 30))) .nil))))))) (.call 1 (.lend 2 (.ev (.c (.int 6)) .nil)))))
  (.bOne (.sForR1 (.cons (.c (.int 3)) .nil) (.n 10)
  QO))))))))))))
def t_law:Bx :=
  (.bSeq (.sForL (.bin .add (.l (.cons (.call 5 (.ev (.var 0) (.ev (.c (.int 0)) .nil))) .nil)) (.sl (.var 0) (.oS (.c (.int 1))) (.oS (.c (.int 4))))) (.n 1)
  QP)
  (.bOne (.sRet (.c (.bl true)))))
def YI:List FI:=[⟨"_law_told",5,11,false,zQ⟩,⟨"_law_draw",2,2,false,zm⟩,⟨"_law_counted",3,1,false,yW⟩,⟨"_law_small_right",3,12,false,yb⟩,⟨"_law_pen_of",1,1,false,jL⟩,⟨"_law_cell_at",2,1,false,yr⟩]
def m_law:MF:=fnM 12 (dB YI t_law)
structure Txt(K:qH)(mg:Str->Option Value):Prop where
 n_ValueError:mg "ValueError"=none
 n_all:mg "all"=none
 n_bool:mg "bool"=none
 n_int:mg "int"=none
 n_isinstance:mg "isinstance"=none
 n_len:mg "len"=none
 n_max:mg "max"=none
 n_range:mg "range"=none
 n_repr:mg "repr"=none
 n_reversed:mg "reversed"=none
 n_sum:mg "sum"=none
 n_tuple:mg "tuple"=none
 n_zip:mg "zip"=none
 c_LEAST_SIGNS:∃t,mg "LEAST_SIGNS"=some (.int 2 t)
 c_MOST_FREE:∃t,mg "MOST_FREE"=some (.int 20 t)
 c_MOST_LISTED:∃t,mg "MOST_LISTED"=some (.int 500 t)
 c_MOST_SIGNS:∃t,mg "MOST_SIGNS"=some (.int 3 t)
 c_MOST_THROWS:∃t,mg "MOST_THROWS"=some (.int 20 t)
 f_is_whole:Yh K mg "is_whole" vC ["thing"]
 f_is_whole_within:Yh K mg "is_whole_within" wY ["thing","low","high"]
 f_sign_good:Yh K mg "sign_good" Zs ["thing"]
 f_row_good:Yh K mg "row_good" vD ["thing"]
 f_need_row:Yh K mg "need_row" vE ["thing"]
 f_need_number:Yh K mg "need_number" Yj ["thing","low","high"]
 f_need_signs:Yh K mg "need_signs" ZN ["thing"]
 f_greatest_length:Yh K mg "greatest_length" wZ ["runs"]
 f_runs_of:Yh K mg "runs_of" ub ["row"]
 f_longest_any:Yh K mg "longest_any" Yk ["row"]
 f_weigh_alike_upto:Yh K mg "weigh_alike_upto" wC ["weights","n","k"]
 f_need_free_length:Yh K mg "need_free_length" wE ["k"]
 f_need_ordered:Yh K mg "need_ordered" Jz ["m","n","k"]
 f_ways_on:Yh K mg "ways_on" uc ["m","k","row","left"]
 f_free_many:Yh K mg "free_many" Zt ["m","n","k"]
 f_free_nth:Yh K mg "free_nth" vF ["m","n","k","number"]
 f_free_all:Yh K mg "free_all" vG ["m","n","k"]
 f__law_cell_at:Yh K mg "_law_cell_at" J0 ["_law_script","_law_k"]
 f__law_next:Yh K mg "_law_next" Zu ["_law_seed"]
 f__law_pen_of:Yh K mg "_law_pen_of" Yl ["_law_cell"]
 f__law_draw:Yh K mg "_law_draw" Zv ["_law_pen","_law_many"]
 f__law_kind_of:Yh K mg "_law_kind_of" J2 ["_law_e"]
 f__law_free:Yh K mg "_law_free" Zw ["_law_m","_law_n","_law_k"]
 f__law_counted:Yh K mg "_law_counted" J4 ["_law_m","_law_n","_law_k"]
 f__law_told:Yh K mg "_law_told" Zx ["_law_way","_law_m","_law_n","_law_k","_law_number"]
 f__law_small_right:Yh K mg "_law_small_right" wF ["_law_m","_law_n","_law_k"]
 f_law:Yh K mg "law" s_law ["_law_script"]
 r_TooGreat:RiAt K mg "TooGreat" vH
 cl:ClOk K mg cl_ rs_
section
variable{P:Program}{w:World}{K:qH}{mg:Str->Option Value}{base:Heap}
def jb(T:Txt K mg):zFB K mg cs_:=(WV T.c_LEAST_SIGNS (WV T.c_MOST_FREE (WV T.c_MOST_LISTED (WV T.c_MOST_SIGNS (WV T.c_MOST_THROWS cs_nil)))))
def jc(T:Txt K mg):zC4 P w K mg base ri_:=(zEp ⟨ri_of T.r_TooGreat (sc_of (of_decide_eq_true (by decide +kernel))) (by decide +kernel),ra_of T.r_TooGreat⟩ ris_nil)
def jd(T:Txt K mg):BsOk mg bs_:=(jV T.n_ValueError (jV T.n_all (jV T.n_bool (jV T.n_int (jV T.n_isinstance (jV T.n_len (jV T.n_max (jV T.n_range (jV T.n_repr (jV T.n_reversed (jV T.n_sum (jV T.n_tuple (jV T.n_zip bs_nil)))))))))))))
def QR(T:Txt K mg):FOk P w K mg base true "is_whole" 1 ["thing"] ZH:=zt vT ["thing"] T.f_is_whole (jb T) yJ (jd T) T.cl (jc T) (by decide +kernel)
def wO(T:Txt K mg):FOk P w K mg base true "is_whole_within" 2 ["thing","low","high"] zi:=zt yk ["thing","low","high"] T.f_is_whole_within (jb T) (zU (QR T) rfl yJ) (jd T) T.cl (jc T) (by decide +kernel)
def GY(T:Txt K mg):FOk P w K mg base true "sign_good" 3 ["thing"] YV:=zt WX ["thing"] T.f_sign_good (jb T) (zU (wO T) rfl yJ) (jd T) T.cl (jc T) (by decide +kernel)
def QS(T:Txt K mg):FOk P w K mg base true "row_good" 4 ["thing"] ZI:=zt vU ["thing"] T.f_row_good (jb T) (zU (GY T) rfl yJ) (jd T) T.cl (jc T) (by decide +kernel)
def QT(T:Txt K mg):FOk P w K mg base true "need_row" 5 ["thing"] ZJ:=zt vV ["thing"] T.f_need_row (jb T) (zU (QS T) rfl yJ) (jd T) T.cl (jc T) (by decide +kernel)
def ji(T:Txt K mg):FOk P w K mg base true "need_number" 3 ["thing","low","high"] zP:=zt Yz ["thing","low","high"] T.f_need_number (jb T) (zU (wO T) rfl yJ) (jd T) T.cl (jc T) (by decide +kernel)
def uI(T:Txt K mg):FOk P w K mg base true "need_signs" 4 ["thing"] yO:=zt ZS ["thing"] T.f_need_signs (jb T) (zU (ji T) rfl yJ) (jd T) T.cl (jc T) (by decide +kernel)
def Y2(T:Txt K mg):FOk P w K mg base true "greatest_length" 1 ["runs"] yK:=zt jZ ["runs"] T.f_greatest_length (jb T) yJ (jd T) T.cl (jc T) (by decide +kernel)
def vY(T:Txt K mg):FOk P w K mg base true "runs_of" 6 ["row"] jk:=zt GV ["row","runs","begin","end"] T.f_runs_of (jb T) (zU (QT T) rfl yJ) (jd T) T.cl (jc T) (by decide +kernel)
def YJ(T:Txt K mg):FOk P w K mg base true "longest_any" 7 ["row"] yl:=zt Y0 ["row"] T.f_longest_any (jb T) (zU (Y2 T) rfl (zU (vY T) rfl yJ)) (jd T) T.cl (jc T) (by decide +kernel)
def YZ(T:Txt K mg):FOk P w K mg base true "weigh_alike_upto" 1 ["weights","n","k"] ya:=zt wL ["weights","n","k","ends","throw","whole"] T.f_weigh_alike_upto (jb T) yJ (jd T) T.cl (jc T) (by decide +kernel)
def Yb(T:Txt K mg):FOk P w K mg base true "need_free_length" 4 ["k"] zu:=zt wM ["k"] T.f_need_free_length (jb T) (zU (ji T) rfl yJ) (jd T) T.cl (jc T) (by decide +kernel)
def Wd(T:Txt K mg):FOk P w K mg base true "need_ordered" 5 ["m","n","k"] zX:=zt YE ["m","n","k"] T.f_need_ordered (jb T) (zU (Yb T) rfl (zU (ji T) rfl (zU (uI T) rfl yJ))) (jd T) T.cl (jc T) (by decide +kernel)
def vZ(T:Txt K mg):FOk P w K mg base true "ways_on" 8 ["m","k","row","left"] j7:=zt GW ["m","k","row","left","ends","throw"] T.f_ways_on (jb T) (zU (vY T) rfl (zU (YZ T) rfl (zU (YJ T) rfl yJ))) (jd T) T.cl (jc T) (by decide +kernel)
def Jd(T:Txt K mg):FOk P w K mg base true "free_many" 9 ["m","n","k"] zg:=zt WZ ["m","n","k"] T.f_free_many (jb T) (zU (vZ T) rfl (zU (Wd T) rfl yJ)) (jd T) T.cl (jc T) (by decide +kernel)
def QU(T:Txt K mg):FOk P w K mg base true "free_nth" 10 ["m","n","k","number"] ym:=zt vW ["m","n","k","number","row","ahead","left","sign","ways"] T.f_free_nth (jb T) (zU (vZ T) rfl (zU (ji T) rfl (zU (Jd T) rfl yJ))) (jd T) T.cl (jc T) (by decide +kernel)
def QV(T:Txt K mg):FOk P w K mg base true "free_all" 10 ["m","n","k"] yn:=zt vX ["m","n","k","many","rows","throw","grown"] T.f_free_all (jb T) (zU (YJ T) rfl (zU (Jd T) rfl yJ)) (jd T) T.cl (jc T) (by decide +kernel)
def We(T:Txt K mg):FOk P w K mg base true "_law_cell_at" 1 ["_law_script","_law_k"] yr:=zt wW ["_law_script","_law_k"] T.f__law_cell_at (jb T) yJ (jd T) T.cl (jc T) (by decide +kernel)
def GZ(T:Txt K mg):FOk P w K mg base true "_law_next" 1 ["_law_seed"] w8:=zt YY ["_law_seed"] T.f__law_next (jb T) yJ (jd T) T.cl (jc T) (by decide +kernel)
def W7(T:Txt K mg):FOk P w K mg base true "_law_pen_of" 1 ["_law_cell"] jL:=zt w9 ["_law_cell","_law_left"] T.f__law_pen_of (jb T) yJ (jd T) T.cl (jc T) (by decide +kernel)
def Ga(T:Txt K mg):FOk P w K mg base true "_law_draw" 2 ["_law_pen","_law_many"] zm:=zt JA ["_law_pen","_law_many","_law_found"] T.f__law_draw (jb T) (zU (GZ T) rfl yJ) (jd T) T.cl (jc T) (by decide +kernel)
def Wf(T:Txt K mg):FOk P w K mg base false "_law_kind_of" 1 ["_law_e"] yV:=zt YG ["_law_e","_law_marks"] T.f__law_kind_of (jb T) yJ (jd T) T.cl (jc T) (by decide +kernel)
def Gb(T:Txt K mg):FOk P w K mg base true "_law_free" 1 ["_law_m","_law_n","_law_k"] j8:=zt Wb ["_law_m","_law_n","_law_k","_law_found","_law_turn","_law_longer","_law_row","_law_sign","_law_more"] T.f__law_free (jb T) yJ (jd T) T.cl (jc T) (by decide +kernel)
def Wg(T:Txt K mg):FOk P w K mg base true "_law_counted" 1 ["_law_m","_law_n","_law_k"] yW:=zt YH ["_law_m","_law_n","_law_k","_law_counts","_law_turn","_law_later","_law_length"] T.f__law_counted (jb T) yJ (jd T) T.cl (jc T) (by decide +kernel)
def ZV(T:Txt K mg):FOk P w K mg base true "_law_told" 11 ["_law_way","_law_m","_law_n","_law_k","_law_number"] zQ:=zt Wc ["_law_way","_law_m","_law_n","_law_k","_law_number","_law_e"] T.f__law_told (jb T) (zU (QU T) rfl (zU (Jd T) rfl (zU (QV T) rfl (zU (Wf T) rfl yJ)))) (jd T) T.cl (jc T) (by decide +kernel)
def Yc(T:Txt K mg):FOk P w K mg base true "_law_small_right" 12 ["_law_m","_law_n","_law_k"] yb:=zt wN ["_law_m","_law_n","_law_k","_law_due","_law_turn","_law_found"] T.f__law_small_right (jb T) (zU (ZV T) rfl (zU (Gb T) rfl yJ)) (jd T) T.cl (jc T) (by decide +kernel)
end
def law_fd{P:Program}{w:World}{K:qH}{mg:Str->Option Value}{fa:Addr}(hfa:mg "law"=some (.ref fa))(T:Txt K mg):∃fd:FuncData,(∀(s:Shared) (u:Value),BindsTo s fd ⟨[u],[]⟩ [("_law_script",u)])/\∀base:Heap,FnOk P w K mg base (CXx P w) 40 fa fd ["_law_script"] (spM K mg 1 m_law):=by
 obtain⟨a,fd,hm,F,bnd⟩:=T.f_law;have e:=hfa.symm.trans hm;cases e;refine⟨fd,?_,λbase=>(def_atB (P:=P) (w:=w) (base:=base) (fs:=YI) (lv:=12) t_law ["_law_script","_law_cell","_law_pen","_law_m","_law_n","_law_k","_law_many","_law_bad","_law_odd","_law_far","_law_way","_law_said"] F (jb T) (zU (ZV T) rfl (zU (Ga T) rfl (zU (Wg T) rfl (zU (Yc T) rfl (zU (W7 T) rfl (zU (We T) rfl yJ)))))) (jd T) T.cl (jc T) (by decide +kernel)).mono (by decide)⟩;obtain⟨oc,od,kV,doc,pm,an,cdv,ct,osl,rfl,lk,hcd⟩:=F.ex;exact λs u=>.of_eq rfl
end My
namespace DV
open PySem L2
section
variable{fs:List FI}{E E1 E2 E3:zN}
def x_c{d:D}:dE fs (.c d) E=.ok (.v d,E):=by simp only[zCo,eC]
def QW{d:D}:dE fs (.gl d) E=.ok (.v d,E):=by simp only[rE_gl,eC]
def zA{i:Nat}{d:D}(h:E[i]?=some (.v d)):dE fs (.var i) E=.ok (.v d,E):=by simp only[wI,vL,h]
def Wh{i:Nat}{ds:List D}(h:E[i]?=some (.own ds))(h':E.set i (.v (.l ds))=E1):dE fs (.var i) E=.ok (.v (.l ds),E1):=by simp only[wI,YD,vL,h,h']
def x_movO{i:Nat}{ds:List D}(h:E[i]?=some (.own ds))(h':E.set i .e=E1):dE fs (.mov i) E=.ok (.own ds,E1):=by simp only[GO,zAu,h,h']
def zo{o:Op2}{a b:_}{r1 r2 r:R}(h1:dE fs a E=.ok (r1,E1))(h2:dE fs b E1=.ok (r2,E2))(h3:o.f r1.d r2.d=some r):dE fs (.bin o a b) E=.ok (r,E2):=by simp only[YC,Jo,h1,h2,h3]
def zp{o:Cp}{a b:_}{r1 r2 r:R}(h1:dE fs a E=.ok (r1,E1))(h2:dE fs b E1=.ok (r2,E2))(h3:o.f r1.d r2.d=some r):dE fs (.cmp o a b) E=.ok (r,E2):=by simp only[Yx,Jo,h1,h2,h3]
def zC9{a b:_}{r1 r2 r:R}(h1:dE fs a E=.ok (r1,E1))(h2:dE fs b E1=.ok (r2,E2))(h3:ixD r1.d r2.d=some r):dE fs (.ix a b) E=.ok (r,E2):=by simp only[zA4,Jo,h1,h2,h3]
def Wi{b:Bi}{as:_}{rs:List R}{r:R}(h1:dA fs as E=.ok (rs,E1))(h2:b.f (rs.map R.d)=some r):dE fs (.cB b as) E=.ok (r,E1):=by simp only[QK,eCB,h1,h2]
def Je{as:_}{rs:List R}{ds:List D}(h1:dA fs as E=.ok (rs,E1))(h2:rs.map R.d=ds)(h3:ds.length<=cap):dE fs (.t as) E=.ok (.v (.t ds),E1):=by
 subst h2;simp only[GP,Gs,eCB,h1];rw[if_pos h3]
def wA{as:_}{rs:List R}{ds:List D}(h1:dA fs as E=.ok (rs,E1))(h2:rs.map R.d=ds)(h3:ds.length<=cap):dE fs (.l as) E=.ok (.own ds,E1):=by
 subst h2;simp only[YD,Gu,eCB,h1];rw[if_pos h3]
def x_sl{a l u:_}{r r':R}{lo hi:Option Int}{E3:zN}(h1:dE fs a E=.ok (r,E1))(h2:dO fs l E1=.ok (lo,E2))(h3:dO fs u E2=.ok (hi,E3))(h4:slD r.d lo hi=some r'):dE fs (.sl a l u) E=.ok (r',E3):=by simp only[rE_sl,eSl,h1,h2,h3,h4]
def jM{k:Nat}{a:_}{F:MF}{r r':R}{o:Slot}(h0:fiF fs k=F)(h1:dE fs a E=.ok (r,E1))(h2:F [.v r.d]=.ok (r',[o])):dE fs (.call k (.ev a .nil)) E=.ok (r',E1):=by
 subst h0;simp only[yX,wc,yo,yp,zh,h1,zI,h2,zJ]
def x_call2{k:Nat}{a b:_}{F:MF}{r r2 r':R}{o o2:Slot}(h0:fiF fs k=F)(h1:dE fs a E=.ok (r,E1))(h1':dE fs b E1=.ok (r2,E2))(h2:F [.v r.d,.v r2.d]=.ok (r',[o,o2])):dE fs (.call k (.ev a (.ev b .nil))) E=.ok (r',E2):=by
 subst h0;simp only[yX,wc,yo,yp,zh,h1,h1',zI,h2,zJ]
def wP{k i:Nat}{a:_}{F:MF}{r r':R}{p p':List D}{o:Slot}(h0:fiF fs k=F)(hE:E[i]?=some (.own p))(h1:dE fs a E=.ok (r,E))(h2:F [.par p,.v r.d]=.ok (r',[.par p',o]))(h3:E.set i (.own p')=E1):dE fs (.call k (.lend i (.ev a .nil))) E=.ok (r',E1):=by
 subst h0 h3;have hi:i<E.length:=(qG.mp hE).1;have hs:(E.set i .e)[i]?=some .e:=by simp[hi]
 simp only[yX,wc,rG_lend,yo,yp,zh,hE,Yr,Bool.false_eq_true,if_false,h1,zI,Slot.list?,h2,zJ,hs,Slot.put,List.set_set]
def yY{k:Nat}{a b c:_}{F:MF}{r r2 r3 r':R}{o o2 o3:Slot}(h0:fiF fs k=F)(h1:dE fs a E=.ok (r,E1))(h1':dE fs b E1=.ok (r2,E2))(h1'':dE fs c E2=.ok (r3,E3))(h2:F [.v r.d,.v r2.d,.v r3.d]=.ok (r',[o,o2,o3])):dE fs (.call k (.ev a (.ev b (.ev c .nil)))) E=.ok (r',E3):=by
 subst h0;simp only[yX,wc,yo,yp,zh,h1,h1',h1'',zI,h2,zJ]
def je{n:Nat}{body:MS}{ss o:List Slot}{r:R}(h:body (ss++replicate (n-ss.length) .e)=.ok (.ret r,E1))(ho:zw ss E1=o):fnM n body ss=.ok (r,o):=by
 subst ho;simp only[fnM,h]
def f_nx{n:Nat}{body:MS}{ss o:List Slot}(h:body (ss++replicate (n-ss.length) .e)=.ok (.nx,E1))(ho:zw ss E1=o):fnM n body ss=.ok (.v .non,o):=by
 subst ho;simp only[fnM,h]
def zO:dA fs .nil E=.ok ([],E):=by simp only[JU,Gr]
def zB{a as:_}{r:R}{rs:List R}(h1:dE fs a E=.ok (r,E1))(h2:dA fs as E1=.ok (rs,E2)):dA fs (.cons a as) E=.ok (r::rs,E2):=by simp only[YU,JK,h1,h2]
def o_N:dO fs .oN E=.ok (none,E):=by simp only[rO_oN,zEN]
def o_S{a:_}{i:Int}(h:dE fs a E=.ok (.v (.int i),E1)):dO fs (.oS a) E=.ok (some i,E1):=by simp only[rO_oS,zB5,h]
def t_E{a:_}{b:Bool}(h:dE fs a E=.ok (.v (.bl b),E1)):dT fs (.tE a) E=.ok (b,E1):=by simp only[W2,tT,h]
def t_or{a b:_}{c:Bool}(h1:dT fs a E=.ok (false,E1))(h2:dT fs b E1=.ok (c,E2)):dT fs (.tOr a b) E=.ok (c,E2):=by simp only[WS,vk,h1,h2]
def t_orT{a b:_}(h1:dT fs a E=.ok (true,E1)):dT fs (.tOr a b) E=.ok (true,E1):=by simp only[WS,vk,h1]
def zDA{a:_}{b c:Bool}(h1:dT fs a E=.ok (b,E1))(h2:(!b)=c):dT fs (.tNot a) E=.ok (c,E1):=by subst h2;simp only[rT_tNot,JJ,h1]
def yU{i:Nat}{a:_}{r:R}(h1:dE fs a E=.ok (r,E1))(h2:Yg i r E1=.ok E2):dS fs (.sSet i a) E=.ok (.nx,E2):=by simp only[wV,sSet,h1,h2]
def jP{t a b:_}{o:Out (Fl×zN)}(h1:dT fs t E=.ok (false,E1))(h2:dB fs b E1=o):dS fs (.sIf t a b) E=o:=by subst h2;simp only[Yy,sIf,h1]
def wf{t a b:_}{o:Out (Fl×zN)}(h1:dT fs t E=.ok (true,E1))(h2:dB fs a E1=o):dS fs (.sIf t a b) E=o:=by subst h2;simp only[Yy,sIf,h1]
def jx{a:_}{r:R}(h1:dE fs a E=.ok (r,E1)):dS fs (.sRet a) E=.ok (.ret r,E1):=by simp only[jH,sRet,h1]
def YK{a:_}{r:R}(h1:dE fs a E=.ok (r,E1)):dS fs (.sDrop a) E=.ok (.nx,E1):=by simp only[Jt,sDrop,h1]
def s_par{i j:Nat}{as:_}{r1 r2:R}(h1:dA fs as E=.ok ([r1,r2],E1))(h2:gNs [i,j] [r1.d,r2.d] E1=.ok E2):dS fs (.sPar i j as) E=.ok (.nx,E2):=by simp only[rS_sPar,sPar,h1,h2]
def zDB{a b:_}{tg:Tg}{r:R}{ds:List D}{p:Fl×zN}(h1:dE fs a E=.ok (r,E1))(h2:r.d=.l ds)(h3:JN tg.m (dB fs b) ds E1=.ok p):dS fs (.sForL a tg b) E=.ok p:=by simp only[zE8];exact uB (by simp only[sForL,h1,h2,h3])
def jq{a b:_}{tg:Tg}{r:R}{j:Int}{p:Fl×zN}(h1:dA fs a E=.ok ([r],E1))(h2:r.d=.int j)(hj:-1000000<=j/\j<=1000000)(h3:JN tg.m (dB fs b) (zF 0 j.toNat) E1=.ok p):dS fs (.sForR1 a tg b) E=.ok p:=by
 simp only[zCs];refine uB ?_;simp only[sForR1,h1,h2];rw[if_pos ⟨by omega,by omega⟩,h3]
def s_forR2{a b:_}{tg:Tg}{r1 r2:R}{i j:Int}{p:Fl×zN}(h1:dA fs a E=.ok ([r1,r2],E1))(h2:r1.d=.int i)(h2':r2.d=.int j)(hi:-1000000<=i/\i<=1000000)(hj:-1000000<=j/\j<=1000000)(h3:JN tg.m (dB fs b) (zF i (j-i).toNat) E1=.ok p):dS fs (.sForR2 a tg b) E=.ok p:=by
 simp only[JV];refine uB ?_;simp only[sForR2,h1,h2,h2'];rw[if_pos ⟨by omega,by omega,by omega,by omega⟩,h3]
def i_L{a:_}{r:R}{ds:List D}(h1:dE fs a E=.ok (r,E1))(h2:r.d=.l ds):dI fs (.iL a) E=.ok (ds,E1):=by simp only[rI_iL,iL,h1,h2]
def i_T{a:_}{r:R}{ds:List D}(h1:dE fs a E=.ok (r,E1))(h2:r.d=.t ds):dI fs (.iT a) E=.ok (ds,E1):=by simp only[rI_iT,iT,h1,h2]
def i_R1{a:_}{r:R}{j:Int}(h1:dA fs a E=.ok ([r],E1))(h2:r.d=.int j)(hj:-1000000<=j/\j<=1000000):dI fs (.iR1 a) E=.ok (zF 0 j.toNat,E1):=by
 simp only[rI_iR1,iR1,h1,h2];rw[if_pos ⟨by omega,by omega⟩]
def jQ:dB fs .bNil E=.ok (.nx,E):=by simp only[JW,Gv]
def zV{s:_}{o:Out (Fl×zN)}(h:dS fs s E=o):dB fs (.bOne s) E=o:=by simp only[jI,h]
def zR{s b:_}{o:Out (Fl×zN)}(h:dS fs s E=.ok (.nx,E1))(h2:dB fs b E1=o):dB fs (.bSeq s b) E=o:=by simp only[jU,Wy,h,h2]
def W8{s b:_}{r:R}(h:dS fs s E=.ok (.ret r,E1)):dB fs (.bSeq s b) E=.ok (.ret r,E1):=by simp only[jU,Wy,h]
def W9{s b:_}{x:Exn}(h:dS fs s E=.exc x E1):dB fs (.bSeq s b) E=.exc x E1:=by simp only[jU,Wy,h]
def Jf{a:_}{x:Exn}(h:dE fs a E=.exc x E1):dS fs (.sDrop a) E=.exc x E1:=by simp only[Jt,sDrop,h]
def s_setX{i:Nat}{a:_}{x:Exn}(h:dE fs a E=.exc x E1):dS fs (.sSet i a) E=.exc x E1:=by simp only[wV,sSet,h]
def Gc{a:_}{x:Exn}(h:dE fs a E=.exc x E1):dS fs (.sRet a) E=.exc x E1:=by simp only[jH,sRet,h]
def s_raise{c:Str}:dS fs (.sRaise c) E=.exc ⟨c,true,[]⟩ E:=by simp only[zCt,DV.sRaise]
def zFD{k:Nat}{a:_}{F:MF}{r:R}{x:Exn}{o:List Slot}(h0:fiF fs k=F)(h1:dE fs a E=.ok (r,E1))(h2:F [.v r.d]=.exc x o):dE fs (.call k (.ev a .nil)) E=.exc ⟨x.cls,false,x.vs⟩ E1:=by
 subst h0;simp only[yX,wc,yo,yp,zh,h1,zI,h2,Ys,if_true]
def zFE{k:Nat}{a b c:_}{F:MF}{r r2 r3:R}{x:Exn}{o:List Slot}(h0:fiF fs k=F)(h1:dE fs a E=.ok (r,E1))(h1':dE fs b E1=.ok (r2,E2))(h1'':dE fs c E2=.ok (r3,E3))(h2:F [.v r.d,.v r2.d,.v r3.d]=.exc x o):dE fs (.call k (.ev a (.ev b (.ev c .nil)))) E=.exc ⟨x.cls,false,x.vs⟩ E3:=by
 subst h0;simp only[yX,wc,yo,yp,zh,h1,h1',h1'',zI,h2,Ys,if_true]
def zDC{cl:List Str}{b hb:_}{i:Nat}{p:Fl×zN}(h:dB fs b E=.ok p):dS fs (.sTry cl b i hb) E=.ok p:=by simp only[zCu,DV.sTry,h]
def Gd{cl:List Str}{b hb:_}{i:Nat}{c:Str}{ws:List Int}{r:R}(h:dB fs b E=.exc ⟨c,false,ws⟩ E1)(hc:cl.contains c=true)(hp:Yg i (.v (.exn c ws)) E1=.ok E2)(hh:dB fs hb E2=.ok (.ret r,E3)):dS fs (.sTry cl b i hb) E=.ok (.ret r,E3):=by
 simp only[zCu,DV.sTry,h,hc,hp,hh,Bool.not_false,Bool.and_self,if_true]
def yC{d:D}:[d].length<=cap:=by simp only[List.length_singleton,cap];omega
def Yd:([]:List D).length<=cap:=by simp only[length_nil,cap];omega
def two_cap{d e:D}:[d,e].length<=cap:=by simp only[length_cons,length_nil,cap];omega
def zAP{nl:Nat}{xs ys:List Str}{caps:List Nat}{it tt el:_}{tg:Tg}{ds rs:List D}{vs:List D}(pat:D->List DV.Slot)(f:D->Bool)(g:D->D)(hi:dI fs it E=.ok (ds,E1))(hcap:Jx E1 caps=.ok (vs.map AR.tmp))
  (h1:∀d∈ds,∀S:List DV.Slot,S.length=nl->(∀s∈S,yE s=true)->tg.m d (S++vs.map Slot.v)=.ok (pat d++vs.map Slot.v))
  (h2:∀d∈ds,(pat d).length=nl/\∀s∈pat d,yE s=true)
  (h3:∀d∈ds,dT fs tt (pat d++vs.map Slot.v)=.ok (f d,pat d++vs.map Slot.v))
  (h4:∀d∈ds,f d=true->∃r,dE fs el (pat d++vs.map Slot.v)=.ok (r,pat d++vs.map Slot.v)/\r.d=g d) (hc:ds.length<=cap) (hr:(ds.filter f).map g=rs):dE fs (.comp nl xs ys caps it tg tt el) E=.ok (.own rs,E1):=by
 subst hr;simp only[zCp];exact zCn <| zAM pat f g ds h1 h2 h3 h4 hc hi hcap
def uJ{xs ys:List Str}{caps:List Nat}{it el:_}{ds rs:List D}{vs:List D}(g:D->D)(hi:dI fs it E=.ok (ds,E1))(hcap:Jx E1 caps=.ok (vs.map AR.tmp))
  (h4:∀d∈ds,∃r,dE fs el (.v d::vs.map Slot.v)=.ok (r,.v d::vs.map Slot.v)/\r.d=g d) (hc:ds.length<=cap) (hr:ds.map g=rs):dE fs (.comp 1 xs ys caps it (.n 0) .tTr el) E=.ok (.own rs,E1):=by
 refine zAP (λd=>[.v d]) (λ_=>true) g hi hcap (λd hd S hS hn=>zC6 hS hn) (λd hd=>⟨rfl,λs hs=>?_⟩) (λd hd=>?_) (λd hd _=>h4 d hd) hc ?_
 ·rw[mem_singleton]at hs;subst hs;rfl
 ·simp only[zAH,jj]
 ·rw[filter_eq_self.mpr (λ_ _=>rfl),hr]
end
end DV
namespace SM
open PySem L2 DV
def zBL(w o k:Nat):Nat->List Nat
 |0=>1::replicate k 0|n+1=>(o*(zBL w o k n).sum)::((zBL w o k n).dropLast.map (w*·))
def U(w o k n:Nat):Nat:=(zBL w o k n).sum
def F(w o k m:Nat):Nat->Nat
 |0=>0|r+1=>F w o k m r+w^r*o*U w o k (m-1-r)
theorem QX(w:Nat):∀l:List Nat,(l.map (w*·)).sum=w*l.sum
 | []=>by simp|a::l=>by simp[QX w l,Nat.mul_add]
def wB(m:Nat):Nat->List (List Nat)
 |0=>[[]]|n+1=>(wB m n).flatMap λr=>(List.range m).map λx=>r++[x]
def stp(s:Nat)(p:Nat×Nat)(x:Nat):Nat×Nat:=(max p.1 (if x=s then p.2+1 else 0),if x=s then p.2+1 else 0)
def stt(s:Nat)(row:List Nat):Nat×Nat:=row.foldl (stp s) (0,0)
def Die(die:List Nat):Prop:=(die.length=2\/die.length=3)/\∀x∈die,1<=x/\x<=9
def top'(t:Int)(b:Nat):Int:=t/(t.natAbs.gcd b:Nat)
def bot'(t:Int)(b:Nat):Nat:=b/t.natAbs.gcd b
def nrm(t:Int)(b:Nat):D:=.t [.int (top' t b),.int (bot' t b:Nat)]
def tot(es:List (List Nat)):Nat:=(es.map List.sum).sum
def al(ws:List Nat)(k:Nat):Nat->List (List Nat)
 |0=>ws.map λw=>w::replicate (k-1) 0|n+1=>zipWith (λw e=>(w*(tot (al ws k n)-e.sum))::e.dropLast.map (w*·)) ws (al ws k n)
def A(ws:List Nat)(n k:Nat):Nat:=if n=0 then 1 else if k=0 then 0 else tot (al ws k (n-1))
theorem zDD(ws:List Nat)(k:Nat):∀n,(al ws k n).length=ws.length
 |0=>by simp[al]|n+1=>by simp[al,zDD ws k n]
theorem va:∀{l:List Nat} {s x:Nat},l[s]?=some x->x<=l.sum
 |a::l,0,x,h=>by simp at h;subst h;simp
 |a::l,s+1,x,h=>by
  have:=va (l:=l) (s:=s) (by simpa using h);simp only[sum_cons];omega
 | [],s,x,h=>by simp at h
end SM
namespace RM
open PySem L2 DV
abbrev B:=Int×Nat
def jA(a:Int):List B->List B
 | []=>[(a,1)]| (b,n)::r=>if a=b then(b,n+1)::r else(a,1)::(b,n)::r
def rle:List Int->List B
 | []=>[]|a::l=>jA a (rle l)
def JM:List B->Int->List B
 | [],a=>[(a,1)]| [(b,n)],a=>if b=a then [(b,n+1)]else [(b,n),(a,1)]|x::y::r,a=>x::JM (y::r) a
def zDE(c a:Int):∀q:List B,q≠[]->jA c (JM q a)=JM (jA c q) a
 | [],h=>absurd rfl h
 | [(b,n)],_=>by
  by_cases h1:b=a
  ·by_cases h2:c=b
   ·simp[JM,jA,h1,h2]
   ·simp[JM,jA,h1,h2]
    split<;>simp_all [JM]
  ·by_cases h2:c=b
   ·simp[JM,jA,h1,h2]
   ·simp[JM,jA,h1,h2]
 | (b,n)::y::r,_=>by
  by_cases h2:c=b
  ·simp[JM,jA,h2]
  ·simp[JM,jA,h2]
theorem zAQ(a:Int):∀l:List Int,rle (l++[a])=JM (rle l) a
 | []=>rfl
 | [c]=>by
  show jA c [(a,1)]=JM [(c,1)] a
  simp only[jA,JM];by_cases h:c=a
  ·simp[h]
  ·simp[h]
 |c::d::l=>by
  have ih:=zAQ a (d::l);show jA c (rle ((d::l)++[a]))=JM (jA c (rle (d::l))) a;rw[ih];refine zDE c a _ ?_;show jA d (rle l)≠[];cases rle l with
  |nil=>simp[jA]
  |cons x r=>obtain⟨b,n⟩:=x;simp only[jA];split<;>simp
def Y3:List B->List Int
 | []=>[]| (a,n)::r=>replicate n a++Y3 r
def Ge(a:Int)(q:List B):Y3 (jA a q)=a::Y3 q:=by
 cases q with
 |nil=>rfl
 |cons x r =>
  obtain⟨b,n⟩:=x;simp only[jA];split
  ·rename_i h;subst h;simp[Y3,replicate_succ]
  ·simp[Y3,replicate_succ]
theorem ZK:∀l:List Int,Y3 (rle l)=l
 | []=>rfl|a::l=>by show Y3 (jA a (rle l))=_;rw[Ge,ZK l]
theorem Wj(a:Int)(k:Nat):∀p:List Int,(∀z,p.getLast?=some z->z≠a)->rle (p++replicate (k+1) a)=rle p++[(a,k+1)]
 | [],_=>by
  show rle (replicate (k+1) a)=[(a,k+1)]
  induction k with
  |zero=>rfl
  |succ k ih =>
   rw[replicate_succ];show jA a (rle (replicate (k+1) a))=_;rw[ih];simp[jA]
 | [c],h=>by
  have hc:c≠a:=h c rfl;show jA c (rle (replicate (k+1) a))=jA c []++[(a,k+1)];have:=Wj a k [] (λz hz=>by cases hz);simp only[nil_append]at this;rw[this];simp[jA,hc,rle]
 |c::d::p,h=>by
  have ih:=Wj a k (d::p) (λz hz=>h z (by simpa using hz));show jA c (rle ((d::p)++replicate (k+1) a))=jA c (rle (d::p))++[(a,k+1)];rw[ih];cases hq:rle (d::p)with
  |nil =>
   have:=ZK (d::p);rw[hq]at this;cases this
  |cons x r =>
   obtain⟨b,n⟩:=x;simp only[cons_append,jA];split<;>rfl
def zFF(m:List B)(z:B)(a:Int):JM (m++[z]) a=if z.1=a then m++[(z.1,z.2+1)]else m++[z,(a,1)]:=by
 induction m with
 |nil =>
  obtain⟨b,n⟩:=z;simp only[nil_append,JM]
 |cons x m ih =>
  cases h:m++[z]with
  |nil=>simp at h
  |cons y r =>
   rw[cons_append,h];simp only[JM];rw[<- h,ih];split<;>simp
def tot(q:List B):Nat:=(q.map (·.2)).sum
theorem vb:∀q:List B,tot q=(Y3 q).length
 | []=>rfl
 | (a,n)::r=>by
  have:=vb r;simp only[tot,map_cons,sum_cons,Y3,length_append,length_replicate]at this ⊢;omega
theorem ZW(v:Nat->Int):∀k,argBest (λi j=>decide (v i > v j)) k<=k/\∀i,i<=k->v i<=v (argBest (λi j=>decide (v i > v j)) k)
 |0=>⟨le_refl _,λi h=>by have:i=0:=(by omega);subst this;exact Int.le_refl _⟩
 |k+1=>by
  obtain⟨h1,h2⟩:=ZW v k;simp only[argBest];by_cases hc:v (k+1) > v (argBest (λi j=>decide (v i > v j)) k)
  ·rw[if_pos (by simpa using hc)]
   refine⟨le_refl _,λi hi=>?_⟩;by_cases e:i=k+1
   ·subst e;exact Int.le_refl _
   ·have:=h2 i (by omega);omega
  ·rw[if_neg (by simpa using hc)]
   refine⟨by omega,λi hi=>?_⟩;by_cases e:i=k+1
   ·subst e;omega
   ·exact h2 i (by omega)
def zA6{ns:List Int}(h:0<ns.length):zAx ns∈ns/\∀a∈ns,a<=zAx ns:=by
 obtain⟨h1,h2⟩:=ZW (λi=>ns.getD i 0) (ns.length-1);unfold zAx;refine⟨?_,λa ha=>?_⟩
 ·generalize argBest (λi j=>decide (ns.getD i 0 > ns.getD j 0)) (ns.length-1)=m at h1
  have hm:m<ns.length:=by omega
  rw[getD_eq_getElem?_getD,getElem?_eq_getElem hm];exact getElem_mem hm
 ·obtain⟨i,hi,rfl⟩:=List.getElem_of_mem ha
  have:=h2 i (by omega);simp only[getD_eq_getElem?_getD,getElem?_eq_getElem hi,Option.getD_some]at this;simpa[getD_eq_getElem?_getD]using this
def top(ns:List Nat):Nat:=ns.foldr max 0
def top_le{ns:List Nat}:∀a∈ns,a<=top ns:=by
 induction ns with
 |nil=>intro a h;cases h
 |cons b r ih =>
  intro a h;simp only[top,foldr_cons];rcases mem_cons.mp h with h|h
  ·subst h;exact Nat.le_max_left _ _
  ·exact le_trans (ih a h) (Nat.le_max_right _ _)
def top_mem{ns:List Nat}(h:ns≠[]):top ns∈ns:=by
 induction ns with
 |nil=>exact absurd rfl h
 |cons b r ih =>
  simp only[top,foldr_cons];by_cases e:r=[]
  ·subst e;simp
  ·have:=ih e
   unfold top at this;by_cases hb:b<=List.foldr max 0 r
   ·rw[Nat.max_eq_right hb];exact qD _ this
   ·rw[Nat.max_eq_left (by omega)];exact qE
def zDF(ns:List Nat):WP (ns.map λ(n:Nat)=>(n:Int)) 0=(top ns:Int):=by
 unfold WP;cases ns with
 |nil=>rfl
 |cons b r =>
  rw[if_neg (by simp)];obtain⟨h1,h2⟩:=zA6 (ns:=(b::r).map λ(n:Nat)=>(n:Int)) (by simp);obtain⟨m,hm,e⟩:=mem_map.mp h1;have t1:=top_le m hm;have t2:=h2 _ (mem_map.mpr ⟨_,top_mem (ns:=b::r) (by simp),rfl⟩);rw[<- e]at t2 ⊢;have:top (b::r)<=m:=by exact_mod_cast t2
  have:m=top (b::r):=by omega
  rw[this]
def Jv(a b:List Nat):top (a++b)=max (top a) (top b):=by
 induction a with
 |nil=>simp[top]
 |cons x r ih =>
  simp only[cons_append,top,foldr_cons]at ih ⊢;rw[ih];omega
def lens(s:Int)(q:List B):List Nat:=(q.filter λx=>x.1==s).map (·.2)
def best(s:Int)(q:List B):Nat:=top (lens s q)
end RM
namespace DV
open PySem L2
def smD:Nat->D->Prop
 |_,.non=>True|_,.bl _=>True|_,.dic=>True|_,.int i=>i.natAbs<2^100|_,.str x=>x="1"|n+1,.t ds=>ds.length<=32/\∀d∈ds,smD n d|n+1,.l ds=>ds.length<=32/\∀d∈ds,smD n d|_,_=>False
def rpB:Nat->Nat
 |0=>40|n+1=>32*(rpB n+2)+10
theorem zGL(n:Nat):40<=rpB n:=by
 cases n with
 |zero=>exact le_refl _|succ n=>have:=zGL n;simp only[rpB];omega
def zFG{i:Int}(h:i.natAbs<2^100):(PyData.int i).showable=true:=by
 have:i.natAbs.log2<1920:=by
  by_cases c:i.natAbs=0
  ·rw[c];decide
  ·rw[log2_lt c]
   exact lt_of_lt_of_le h (Nat.pow_le_pow_right (by omega) (by omega))
 simp only[PyData.showable,decide_eq_true_eq];exact this
def len_int{i:Int}(h:i.natAbs<2^100):((PyData.int i).shown).length<=40:=by
 have e:=int_text_length_le10 (a:=i) (k:=39) (by omega) (lt_trans h (by decide +kernel));simp only[PyData.shown];rw[ofString_length];exact e
theorem Ye(M:Nat):∀(ts:List Str) (k:Nat) (acc:Str),(∀t∈ts,t.length<=M)->(textFrom k acc ts).length<=acc.length+ts.length*(M+2)
 | [],k,acc,_=>by simp[textFrom]
 |t::ts,k,acc,h=>by
  have ih:=Ye M ts (k+1) (acc++(if k > 0 then ", " else "":String)++t) (λx hx=>h x (qD _ hx));have h1:=h t qE;have e:((if k > 0 then ", " else "":String):Str).length<=2:=by split<;>decide +kernel
  simp only[textFrom];simp only[strLen_append]at ih;have:(t::ts).length*(M+2)=ts.length*(M+2)+(M+2):=by rw[length_cons,succ_mul]
  omega
theorem zDG(M:Nat):∀ts:List Str,(∀t∈ts,t.length<=M)->(Str.join ", " ts).length<=ts.length*(M+2)
 | [],_=>by rw[show(Str.join ", " ([]:List Str)).length=0 by decide +kernel];omega
 | [t],h=>by
  have h1:=h t qE;show t.length<=_;simp;omega
 |t::u::ts,h=>by
  have ih:=zDG M (u::ts) (λx hx=>h x (qD _ hx));have h1:=h t qE;show(t++", "++Str.join ", " (u::ts)).length<=_;have e2:((", ":String):Str).length=2:=by decide +kernel
  rw[strLen_append,strLen_append,e2];have:(t::u::ts).length*(M+2)=(u::ts).length*(M+2)+(M+2):=by rw[length_cons,succ_mul]
  omega
theorem wQ:∀xs:List PyData,PyData.shownAll xs=xs.map PyData.shown
 | []=>by simp[PyData.shownAll]|x::xs=>by simp[PyData.shownAll,wQ xs]
structure Rp(n:Nat)(x:PyData):Prop where
 sh:x.showable=true
 dp:x.depth<=n+2
 ln:x.shown.length<=rpB n
theorem rps{n:Nat}:∀(ds:List D),(∀d∈ds,∃x,pyD d=some x/\Rp n x)->∃xs,pyDs ds=some xs/\xs.length=ds.length/\PyData.showableAll xs=true/\PyData.depthAll xs<=n+2/\∀x∈xs,x.shown.length<=rpB n
 | [],_=>⟨[],rfl,rfl,rfl,by simp[PyData.depthAll],λx h=>by cases h⟩
 |d::ds,h=>by
  obtain⟨x,e1,h1⟩:=h d qE;obtain⟨xs,e2,q1,q2,q3,q4⟩:=rps ds (λy hy=>h y (qD _ hy));refine⟨x::xs,by simp only[pyDs,e1,e2],by simp[q1],?_,?_,λy hy=>?_⟩
  ·simp only[PyData.showableAll,h1.sh,q2];rfl
  ·have:=h1.dp;simp only[PyData.depthAll];omega
  ·rcases mem_cons.mp hy with rfl|hy
   ·exact h1.ln
   ·exact q4 y hy
def sm_py:∀(n:Nat) (d:D),smD n d->∃x,pyD d=some x/\Rp n x:=by
 have low:∀(n:Nat) (d:D),smD n d->(∀ds,d≠.t ds)->(∀ds,d≠.l ds)->∃x,pyD d=some x/\Rp n x:=by
  intro n d h h1 h2;have b:=zGL n;cases d with
  |non =>
   have e:(PyData.none).shown.length=4:=by decide +kernel
   exact⟨.none,rfl,rfl,by simp[PyData.depth],by omega⟩
  |bl v =>
   have e:(PyData.bool v).shown.length<=5:=by cases v<;>decide +kernel
   exact⟨.bool v,rfl,rfl,by simp[PyData.depth],by omega⟩
  |int i =>
   have h':i.natAbs<2^100:=by simpa[smD]using h
   have e:=len_int h';exact⟨.int i,rfl,zFG h',by simp[PyData.depth],by omega⟩
  |str x =>
   have h':x="1":=by simpa[smD]using h
   subst h';have e:(PyData.str "1").shown.length<=5:=by decide +kernel
   exact⟨.str "1",rfl,rfl,by simp[PyData.depth],by omega⟩
  |dic =>
   have e:(PyData.dict []).shown.length<=5:=by decide +kernel
   exact⟨.dict [],rfl,rfl,by simp[PyData.depth,PyData.depthAll,PyData.depthKv],by omega⟩
  |t ds=>exact absurd rfl (h1 ds)|l ds=>exact absurd rfl (h2 ds)|fn x=>simp[smD]at h|exn x y=>simp[smD]at h
 intro n
 induction n with
 |zero =>
  intro d h;refine low 0 d h (λds e=>?_) (λds e=>?_)<;>(subst e;simp[smD]at h)
 |succ n ih =>
  intro d h;by_cases ht:∃ds,d=.t ds
  ·obtain⟨ds,rfl⟩:=ht
   simp only[smD]at h;obtain⟨xs,e,q1,q2,q3,q4⟩:=rps ds (λy hy=>ih y (h.2 y hy));refine⟨.tuple xs,by simp only[pyD,e];rfl,by simp only[PyData.showable];exact q2,by simp only[PyData.depth];omega,?_⟩;simp only[PyData.shown,wQ,tupleText,strLen_append];have j:=zDG (rpB n) (xs.map PyData.shown) (λt ht=>by obtain⟨y,hy,rfl⟩:=mem_map.mp ht;exact q4 y hy);have e1:(("(":Str)).length=1:=by decide +kernel
   have e2:((if(xs.map PyData.shown).length==1 then ",)" else ")":String):Str).length<=2:=by split<;>decide +kernel
   rw[length_map]at j;have:=Nat.mul_le_mul_right (rpB n+2) (show xs.length<=32 by omega);simp only[rpB];omega
  ·by_cases hl:∃ds,d=.l ds
   ·obtain⟨ds,rfl⟩:=hl
    simp only[smD]at h;obtain⟨xs,e,q1,q2,q3,q4⟩:=rps ds (λy hy=>ih y (h.2 y hy));refine⟨.list xs,by simp only[pyD,e];rfl,by simp only[PyData.showable];exact q2,by simp only[PyData.depth];omega,?_⟩;simp only[PyData.shown,wQ,listText,strLen_append];have j:=Ye (rpB n) (xs.map PyData.shown) 0 "[" (λt ht=>by obtain⟨y,hy,rfl⟩:=mem_map.mp ht;exact q4 y hy);have e1:(("[":Str)).length=1:=by decide +kernel
    have e2:(("]":Str)).length=1:=by decide +kernel
    rw[length_map]at j;have:=Nat.mul_le_mul_right (rpB n+2) (show xs.length<=32 by omega);simp only[rpB];omega
   ·exact low (n+1) d h (λds e=>ht ⟨ds,e⟩) (λds e=>hl ⟨ds,e⟩)
def sm_repr{d:D}(h:smD 2 d):∃t,JL d=some (.v (.str t)):=by
 obtain⟨x,e,r⟩:=sm_py 2 d h;refine⟨x.shown,?_⟩;unfold JL;rw[e];have h1:=r.dp;have h2:=r.ln;have e3:rpB 2=43402:=by decide
 dsimp only;rw[if_pos ⟨r.sh,by omega,by rw[e3]at h2;simp only[cap];omega⟩]
section
variable{fs:List FI}{E E1 E2 E3 E4 E5:zN}
def Jg{n:Nat}{body:MS}{ss o:List DV.Slot}{x:Exn}(h:body (ss++replicate (n-ss.length) .e)=.exc x E1)(ho:zw ss E1=o):fnM n body ss=.exc x o:=by
 subst ho;simp only[fnM,h]
def x_cX1{k:Nat}{a:_}{F:MF}{r:R}{z:Str}{y:Bool}{ws:List Int}{o:List DV.Slot}(h0:fiF fs k=F)(h1:dE fs a E=.ok (r,E1))(h2:F [.v r.d]=.exc ⟨z,y,ws⟩ o):dE fs (.call k (.ev a .nil)) E=.exc ⟨z,false,ws⟩ E1:=zFD h0 h1 h2
def QY{k:Nat}{a b c:_}{F:MF}{r r2 r3:R}{z:Str}{y:Bool}{ws:List Int}{o:List DV.Slot}(h0:fiF fs k=F)(h1:dE fs a E=.ok (r,E1))(h1':dE fs b E1=.ok (r2,E2))(h1'':dE fs c E2=.ok (r3,E3))(h2:F [.v r.d,.v r2.d,.v r3.d]=.exc ⟨z,y,ws⟩ o):dE fs (.call k (.ev a (.ev b (.ev c .nil)))) E=.exc ⟨z,false,ws⟩ E3:=zFE h0 h1 h1' h1'' h2
def uK{k:Nat}{a b c d:_}{F:MF}{r r2 r3 r4 r':R}{o o2 o3 o4:DV.Slot}(h0:fiF fs k=F)(h1:dE fs a E=.ok (r,E1))(h1':dE fs b E1=.ok (r2,E2))(h1'':dE fs c E2=.ok (r3,E3))(h4:dE fs d E3=.ok (r4,E4))(h2:F [.v r.d,.v r2.d,.v r3.d,.v r4.d]=.ok (r',[o,o2,o3,o4])):dE fs (.call k (.ev a (.ev b (.ev c (.ev d .nil))))) E=.ok (r',E4):=by
 subst h0;simp only[yX,wc,yo,yp,zh,h1,h1',h1'',h4,zI,h2,zJ]
def zAR{ks:List Nat}{f a b c:_}{x:Str}{F:MF}{r r2 r3 r':R}{o o2 o3:DV.Slot}(h0:dE fs f E=.ok (.v (.fn x),E1))(ht:vw (ks.map λk=>(fiX fs k,fiF fs k)) x=some F)(h1:dE fs a E1=.ok (r,E2))(h1':dE fs b E2=.ok (r2,E3))(h1'':dE fs c E3=.ok (r3,E4))(h2:F [.v r.d,.v r2.d,.v r3.d]=.ok (r',[o,o2,o3])):dE fs (.callV ks f (.ev a (.ev b (.ev c .nil)))) E=.ok (r',E4):=by
 simp only[rE_fn,zAG,wc,yo,WJ,h0,ht,yp,zh,h1,h1',h1'',zI,h2,zJ]
def Wk{ks:List Nat}{f a b c:_}{x:Str}{F:MF}{r r2 r3:R}{z:Str}{y:Bool}{ws:List Int}{o:List DV.Slot}(h0:dE fs f E=.ok (.v (.fn x),E1))(ht:vw (ks.map λk=>(fiX fs k,fiF fs k)) x=some F)(h1:dE fs a E1=.ok (r,E2))(h1':dE fs b E2=.ok (r2,E3))(h1'':dE fs c E3=.ok (r3,E4))(h2:F [.v r.d,.v r2.d,.v r3.d]=.exc ⟨z,y,ws⟩ o):dE fs (.callV ks f (.ev a (.ev b (.ev c .nil)))) E=.exc ⟨z,false,ws⟩ E4:=by
 simp only[rE_fn,zAG,wc,yo,WJ,h0,ht,yp,zh,h1,h1',h1'',zI,h2,Ys,if_true]
def zA7{a:_}{i:Int}(h:dE fs a E=.ok (.v (.int i),E1)):dE fs (.neg a) E=.ok (.v (.int (-i)),E1):=by simp only[rE_neg,eNeg,h]
def x_ixO{i:Nat}{b:_}{ds:List D}{k:Int}{d:D}(h:E[i]?=some (.own ds))(h1:dE fs b E=.ok (.v (.int k),E))(hx:atI ds k=some d):dE fs (.ixO i b) E=.ok (.v d,E):=by
 simp only[zAF,zEQ,h,Yr,Bool.false_eq_true,if_false,h1,ixS,hx]
def Gf{a b:_}{o:Out (Bool×zN)}(h1:dT fs a E=.ok (true,E1))(h2:dT fs b E1=o):dT fs (.tAnd a b) E=o:=by subst h2;simp only[zCq,wu,h1]
def zAS{a b:_}(h1:dT fs a E=.ok (false,E1)):dT fs (.tAnd a b) E=.ok (false,E1):=by simp only[zCq,wu,h1]
def i_Z{t1 t2:Bool}{as:_}{r1 r2:R}{ds es:List D}(h1:dA fs as E=.ok ([r1,r2],E1))(h2:seqD t1 r1.d=some ds)(h3:seqD t2 r2.d=some es):dI fs (.iZ t1 t2 as) E=.ok (zipWith W0 ds es,E1):=by
 simp only[rI_iZ,iZ,h1,h2,h3]
def s_app{i:Nat}{a:_}{r:R}{ds ds0:List D}(h0:E[i]?=some (.own ds0))(h1:dE fs a E=.ok (r,E1))(h2:E1[i]?=some (.own ds))(hl:ds.length<cap)(h3:E1.set i (.own (ds++[r.d]))=E2):dS fs (.sApp i a) E=.ok (.nx,E2):=by
 subst h3;simp only[WT,sApp,h0,Slot.list?,h1,h2,Slot.put];rw[if_pos hl]
end
def put_ok{i:Nat}{E:zN}{s:DV.Slot}(r:R)(h:E[i]?=some s)(hs:yE s=true):Yg i r E=.ok (E.set i r.slot):=by
 simp only[Yg,h];cases s<;>first|rfl|(cases hs)
def jN{i:Nat}{E E1:zN}{s:DV.Slot}{r:R}(h:E[i]?=some s)(hs:yE s=true)(e:E.set i r.slot=E1):Yg i r E=.ok E1:=by
 rw[put_ok r h hs,e]
def ne_int(x y:Int):neG (.int x) (.int y)=some (.v (.bl (!decide (x=y)))):=by simp[neG,neF]
def eq_int(x y:Int):eqG (.int x) (.int y)=some (.v (.bl (decide (x=y)))):=by simp[eqG,eqF]
def eq_str(t:Str):eqG (.str t) (.str t)=some (.v (.bl true)):=by simp[eqG,eqF]
def ne_str(t:Str):neG (.str t) (.str t)=some (.v (.bl false)):=by simp[neG,neF]
def Wl(a b:List D)(h:a.length+b.length<=100000):Wt (.l a) (.l b)=some (.own (a++b)):=by
 simp only[Wt];rw[if_pos (by simp only[cap];omega)]
def add_tup(a b:List D)(h:a.length+b.length<=100000):Wt (.t a) (.t b)=some (.v (.t (a++b))):=by
 simp only[Wt];rw[if_pos (by simp only[cap];omega)]
def zDH(x:D)(k:Nat):(replicate k [x]).flatten=replicate k x:=by
 induction k with
 |zero=>rfl|succ k ih=>rw[replicate_succ,flatten_cons,ih,replicate_succ];rfl
def Jw(d:D)(n:Nat)(h:n<=1000):ZR (.l [d]) (.int n)=some (.own (replicate n d)):=by
 simp only[ZR,ZP];rw[if_pos ⟨by omega,by omega,by simp only[List.length_singleton,Int.toNat_natCast,cap];omega⟩,Int.toNat_natCast,zDH]
def zFH(d:D)(n:Nat)(h:n<=1000):ZP (.t [d]) (.int n)=some (.v (.t (replicate n d))):=by
 simp only[ZP];rw[if_pos ⟨by omega,by omega,by simp only[List.length_singleton,Int.toNat_natCast,cap];omega⟩,Int.toNat_natCast,zDH]
def QZ{x y:D}{r:R}(e:ZP x y=some r):ZR x y=some r:=by simp only[ZR,e]
def zFI(d:D)(n:Nat)(h:n<=1000):ZR (.t [d]) (.int n)=some (.v (.t (replicate n d))):=by
 exact QZ (zFH d n h)
def zGM{ds:List D}{k:Nat}{d:D}(h:ds[k]?=some d):atI ds (k:Int)=some d:=by
 obtain⟨hk,e⟩:=qG.mp h;have:(k:Int)<ds.length:=by omega
 simp[atI,ixN,this,h]
def atI_end(ds:List D)(d:D):atI (ds++[d]) (-1)=some d:=by
 have h1:¬(0:Int)<=-1:=by decide
 have h2:-(((ds++[d]).length:Nat):Int)<=-1:=by simp;omega
 have h3:(-1+(((ds++[d]).length:Nat):Int)).toNat=ds.length:=by simp;omega
 unfold atI ixN;rw[if_neg h1,if_pos h2,h3];simp
def zDI(ds:List D)(i:Int):ixD (.l ds) (.int i)=(atI ds i).map .v:=rfl
def zDJ(ds:List D)(i:Int):ixD (.t ds) (.int i)=(atI ds i).map .v:=rfl
def pick{ds:List D}{r:Int}(h0:0<=r)(h1:r<ds.length):∃d,d∈ds/\ixD (.l ds) (.int r)=some (.v d):=by
 obtain⟨k,rfl⟩:=Int.eq_ofNat_of_zero_le h0;have hk:k<ds.length:=by omega
 refine⟨ds[k],getElem_mem hk,?_⟩;rw[zDI,zGM (getElem?_eq_getElem hk)];rfl
theorem Jh(f:D->Bool):∀ds:List D,jG (ds.map λd=>D.bl (f d))=some (ds.map f)
 | []=>rfl|d::ds=>by simp only[map_cons,jG,Jh f ds];rfl
theorem all_map(f:D->Bool)(ds:List D):(ds.map f).all id=ds.all f:=by simp[List.all_map]
def zGN{f:D->Bool}{ds:List D}{b:Bool}(h:ds.all f=b):allD [.l (ds.map λd=>D.bl (f d))]=some (.v (.bl b)):=by
 subst h;simp[allD,Jh,all_map]
def zFJ(ds:List D)(k:Nat)(h:k<=ds.length):uZ ds (some (k:Int)) none=ds.drop k:=by
 unfold uZ;rw[HT.sIx_nat];simp only[HT.sIx];rw[show min k ds.length=k by omega,List.take_of_length_le (by simp)]
def pow30:powD (.int 10) (.int 30)=some (.v (.int (10^30))):=by
 simp[powD,zDr]
mutual
theorem uL:∀(n:Nat) (d:D),eqb n d=true->deq d d=true
 |n,.non,_=>by simp[deq,eqV,flV]|n,.bl b,_=>by simp[deq,eqV,flV]|n,.int i,_=>by simp[deq,eqV,flV]|n,.str x,_=>by simp[deq,eqV,flV]|n+1,.t ds,h=>by simp only[deq];exact deqs_refl n ds (all_eq_true.mp h)|n+1,.l ds,h=>by simp only[deq];exact deqs_refl n ds (all_eq_true.mp h)|0,.t ds,h=>by cases h|0,.l ds,h=>by cases h|0,.fn _,h=>by cases h|0,.dic,h=>by cases h|0,.exn _ _,h=>by cases h|n+1,.fn _,h=>by cases h|n+1,.dic,h=>by cases h|n+1,.exn _ _,h=>by cases h
theorem deqs_refl:∀(n:Nat) (ds:List D),(∀d∈ds,eqb n d=true)->deqs ds ds=true
 |n,[],_=>by simp[deqs]
 |n,d::ds,h=>by
  simp only[deqs,Bool.and_eq_true];exact⟨uL n d (h d qE),deqs_refl n ds λe he=>h e (qD _ he)⟩
end
def eq_tup(ds:List D)(h:eqb 20 (.t ds)=true):eqG (.t ds) (.t ds)=some (.v (.bl true)):=by
 have e:eqF (.t ds) (.t ds)=none:=rfl;simp only[eqG,e,zF0];rw[if_pos ⟨h,h⟩,uL 20 _ h];rfl
def N(l:List Nat):List D:=l.map λn:Nat=>D.int (n:Int)
def JD(l:List Nat):(N l).length=l.length:=by simp[N]
def zA8{l:List Nat}{d:D}(h:d∈N l):∃n∈l,d=.int (n:Nat):=by
 obtain⟨n,hn,rfl⟩:=mem_map.mp h;exact⟨n,hn,rfl⟩
def N_get{l:List Nat}{k n:Nat}(h:l[k]?=some n):(N l)[k]?=some (.int (n:Nat)):=by simp[N,h]
def N_app(a b:List Nat):N (a++b)=N a++N b:=by simp[N]
def N_rep(k n:Nat):N (replicate k n)=replicate k (.int (n:Nat)):=by simp[N]
def zDK(n:Nat):zF 0 n=N (List.range n):=by
 have key:∀n k:Nat,zF (k:Int) n=N (range' k n):=by
  intro n
  induction n with
  |zero=>intro k;rfl
  |succ n ih =>
   intro k;have:=ih (k+1);rw[List.range'_succ];show D.int (k:Int)::zF ((k:Int)+1) n=D.int (k:Int)::N (range' (k+1) n);rw[<- this];simp
 rw[List.range_eq_range'];exact key n 0
def eqb_N(l:List Nat)(n:Nat):eqb (n+1) (.t (N l))=true:=by
 refine all_eq_true.mpr ?_;intro d hd;obtain⟨k,_,rfl⟩:=zA8 hd;cases n<;>rfl
section
variable{fs:List FI}{E E1 E2 E3:zN}
def zGO{i:Nat}{s:DV.Slot}{ds:List D}(hs:s=.own ds\/s=.v (.l ds))(h:E[i]?=some s)(h':E.set i (.v (.l ds))=E1):dE fs (.var i) E=.ok (.v (.l ds),E1):=by
 rcases hs with rfl|rfl
 ·exact Wh h h'
 ·rw[zA h]
  have:E.set i (.v (.l ds))=E:=by
   obtain⟨hi,e⟩:=qG.mp h;rw[<- e,List.set_getElem_self]
  rw[<- h',this]
def s_forI{it b:_}{tg:Tg}{ds:List D}{p:Fl×zN}(h1:dI fs it E=.ok (ds,E1))(h3:JN tg.m (dB fs b) ds E1=.ok p):dS fs (.sForI it tg b) E=.ok p:=by
 simp only[zE9,zCj,h1,sForI,h3]
end
def eq_lst(ds:List D)(h:eqb 20 (.l ds)=true):eqG (.l ds) (.l ds)=some (.v (.bl true)):=by
 have e:eqF (.l ds) (.l ds)=none:=rfl;simp only[eqG,e,zF0];rw[if_pos ⟨h,h⟩,uL 20 _ h];rfl
section
variable{fs:List FI}{E E1 E2 E3 E4 E5 E6:zN}
def wX{k:Nat}{a b c d e:_}{F:MF}{r r2 r3 r4 r5 r':R}{o o2 o3 o4 o5:DV.Slot}(h0:fiF fs k=F)(h1:dE fs a E=.ok (r,E1))(h1':dE fs b E1=.ok (r2,E2))(h1'':dE fs c E2=.ok (r3,E3))(h4:dE fs d E3=.ok (r4,E4))(h5:dE fs e E4=.ok (r5,E5))(h2:F [.v r.d,.v r2.d,.v r3.d,.v r4.d,.v r5.d]=.ok (r',[o,o2,o3,o4,o5])):dE fs (.call k (.ev a (.ev b (.ev c (.ev d (.ev e .nil)))))) E=.ok (r',E5):=by
 subst h0;simp only[yX,wc,yo,yp,zh,h1,h1',h1'',h4,h5,zI,h2,zJ]
end
section
variable{fs:List FI}{E E1 E2 E3 E4 E5 E6:zN}
def Wm{tg:MG}{body:MS}{d:D}{ds:List D}{o:Out (Fl×zN)}(h1:tg d E=.ok E1)(h2:body E1=.ok (.nx,E2))(h3:JN tg body ds E2=o):JN tg body (d::ds) E=o:=by
 subst h3;simp only[JN,h1,h2]
def zAT{tg:MG}{body:MS}:JN tg body [] E=.ok (.nx,E):=rfl
end
def zDL{a b:List D}(h1:∀d∈a,eqb 19 d=true)(h2:∀d∈b,eqb 19 d=true):neG (.t a) (.t b)=some (.v (.bl (!deqs a b))):=by
 have e:neF (.t a) (.t b)=none:=rfl;simp only[neG,e,zF0];rw[if_pos ⟨all_eq_true.mpr h1,all_eq_true.mpr h2⟩];rfl
section
variable{fs:List FI}{E E1:zN}
theorem zGP{el:_}{d:D}{V:List DV.Slot}(g:D->D):∀(es:List D) (s1:DV.Slot) (acc:List D),yE s1=true->acc.length+es.length<=cap->(∀e∈es,∃r,dE fs el (.v d::.v e::V)=.ok (r,.v d::.v e::V)/\r.d=g e) ->
  ∃t1,yE t1=true/\JT (gN 1) jj (ma1 (dE fs el)) es (.v d::s1::V) acc=.ok (acc++es.map g,.v d::t1::V)
 | [],s1,acc,hs,hc,h=>⟨s1,hs,by simp[JT]⟩
 |e::es,s1,acc,hs,hc,h=>by
  obtain⟨r,h1,h2⟩:=h e qE;have g1:gN 1 e (.v d::s1::V)=.ok (.v d::.v e::V):=by cases s1<;>first|rfl|(cases hs)
  obtain⟨t1,ht,f⟩:=zGP g es (.v e) (acc++[r.d]) rfl (by simp at hc ⊢;omega) λx hx=>h x (qD _ hx)
  refine⟨t1,ht,?_⟩;have hl:acc.length<cap:=by simp at hc;omega
  simp only[JT,g1,jj,ma1,h1];rw[if_pos hl];dsimp only;rw[f,h2];simp
theorem zGQ{el jt:_}{V:List DV.Slot}{es:List D}(g:D->D->D):∀(ds:List D) (s0 s1:DV.Slot) (acc:List D),yE s0=true->yE s1=true->acc.length+ds.length*es.length<=cap ->
  (∀d∈ds,∀s1,dI fs jt (.v d::s1::V)=.ok (es,.v d::s1::V))->(∀d∈ds,∀e∈es,∃r,dE fs el (.v d::.v e::V)=.ok (r,.v d::.v e::V)/\r.d=g d e) ->
  ∃t0 t1,yE t0=true/\yE t1=true/\JT (gN 0) jj (maL (dI fs jt) (gN 1) jj (ma1 (dE fs el))) ds (s0::s1::V) acc=.ok (acc++ds.flatMap (λd=>es.map (g d)),t0::t1::V)
 | [],s0,s1,acc,h0,h1,hc,hj,h=>⟨s0,s1,h0,h1,by simp[JT]⟩
 |d::ds,s0,s1,acc,h0,h1,hc,hj,h=>by
  have g1:gN 0 d (s0::s1::V)=.ok (.v d::s1::V):=by cases s0<;>first|rfl|(cases h0)
  have hm:(ds.length+1)*es.length=ds.length*es.length+es.length:=succ_mul _ _;obtain⟨t1,ht,f⟩:=zGP (d:=d) (V:=V) (el:=el) (fs:=fs) (g d) es s1 acc h1 (by simp only[length_cons]at hc;omega) (h d qE);obtain⟨u0,u1,q0,q1,f2⟩:=zGQ g ds (.v d) t1 (acc++es.map (g d)) rfl ht (by simp only[length_cons,length_append,length_map]at hc ⊢;omega) (λx hx=>hj x (qD _ hx)) λx hx=>h x (qD _ hx)
  refine⟨u0,u1,q0,q1,?_⟩;simp only[JT,g1,jj,maL,hj d qE s1,f,f2];simp
def x_comp2{xs ys:List Str}{caps:List Nat}{it jt el:_}{ds es vs:List D}(g:D->D->D)(hi:dI fs it E=.ok (ds,E1))(hcap:Jx E1 caps=.ok (vs.map AR.tmp))
  (hj:∀d∈ds,∀s1,dI fs jt (.v d::s1::vs.map Slot.v)=.ok (es,.v d::s1::vs.map Slot.v)) (h:∀d∈ds,∀e∈es,∃r,dE fs el (.v d::.v e::vs.map Slot.v)=.ok (r,.v d::.v e::vs.map Slot.v)/\r.d=g d e) (hc:ds.length*es.length<=cap) :
  dE fs (.comp2 2 xs ys caps it (.n 0) jt (.n 1) el) E=.ok (.own (ds.flatMap λd=>es.map (g d)),E1):=by
 obtain⟨t0,t1,q0,q1,f⟩:=zGQ (el:=el) (jt:=jt) (V:=vs.map Slot.v) g ds .e .e [] rfl rfl (by simpa using hc) hj h;simp only[zE7];refine zCn ?_;have f':JT (gN 0) jj (maL (dI fs jt) (gN 1) jj (ma1 (dE fs el))) ds (replicate 2 .e++vs.map Slot.v) []=.ok (ds.flatMap (λd=>es.map (g d)),t0::t1::vs.map Slot.v):=by simpa using f
 simp only[WQ,hi,hcap,uE,Tg.m,f'];rw[uF vs _ _ _ (by rw[length_drop,zr];simp)]
def i_Rv{a:_}{r:R}{j:Int}(h1:dA fs a E=.ok ([r],E1))(h2:r.d=.int j)(hj:-1000000<=j/\j<=1000000):dI fs (.iRv a) E=.ok (yt j.toNat,E1):=by
 simp only[rI_iRv,DV.iRv,h1,h2];rw[if_pos ⟨by omega,by omega⟩]
end
section
variable{fs:List FI}{E E1:zN}
def zFK{c:Str}{as:_}{rs:List R}{ns:List Int}(h:dA fs as E=.ok (rs,E1))(h1:w6 (rs.map R.d)=some ns)(h2:(ns.length==(jS c).length&&ns.all λn=>decide (n.natAbs.log2<1920))=true):dS fs (.sRaiseA c as) E=.exc ⟨c,true,ns⟩ E1:=by
 simp only[zA5,DV.sRaiseA,h,h1,h2,if_true]
def x_atr{ri:List Str}{f c:Str}{a:_}{vs:List Int}{n:Int}(h:dE fs a E=.ok (.v (.exn c vs),E1))(h1:ri.contains c=true)(h2:((jS c).zip vs).lookup f=some n):dE fs (.atr ri f a) E=.ok (.v (.int n),E1):=by
 simp only[rE_atr,eAtr,h,h1,h2,if_true]
def x_isC{cl:List Str}{y c:Str}{a:_}{vs:List Int}{b:Bool}(h:dE fs a E=.ok (.v (.exn c vs),E1))(h1:cl.contains c=true)(h2:(c==y)=b):dE fs (.isC cl y a) E=.ok (.v (.bl b),E1):=by
 simp only[rE_isC,zF5,h,h1,h2,if_true]
def log_ok{n:Nat}(h:n<2^100):decide ((n:Int).natAbs.log2<1920)=true:=by
 rw[decide_eq_true_eq];by_cases c:n=0
 ·subst c;decide
 ·rw[Int.natAbs_natCast,log2_lt c]
  exact lt_of_lt_of_le h (Nat.pow_le_pow_right (by omega) (by omega))
end
end DV
namespace My
open PySem L2 DV SM
def Gg:D->Bool
 | .fn _=>true| .exn _ _=>true|_=>false
def isW:D->Bool
 | .int _=>true|_=>false
def Y4(lo hi:Int):D->Bool
 | .int i=>decide (lo<=i)&&decide (i<=hi)|_=>false
def okD:D->Prop
 | .t ds=>ds.length<=cap/\∀d∈ds,Gg d=false| .fn _=>False| .exn _ _=>False|_=>True
def zA9(d:D)(h:Gg d=false):ZH [.v d]=.ok (.v (.bl (isW d)),[.e]):=by
 cases d<;>first|rfl|(cases h)
def jf(d:D)(lo hi:Int)(h:Gg d=false):zi [.v d,.v (.int lo),.v (.int hi)]=.ok (.v (.bl (Y4 lo hi d)),[.e,.e,.e]):=by
 have e:=zA9 d h;cases d with
 |int i =>
  simp[zi,yk,jK,fnM,jI,jH,wI,zAE,zGD,yX,wc,yo,JU,sRet,sIf,Wy,Gv,sSet,Yg,R.slot,uy,eOr,Gq,yp,zh,vL,eC,zI,fiF,fiX,R.d,zJ,jR,Cp.b,Cp.f,Op2.f,Bi.f,Ty.s,jX,jW,jm,jn,jo,vk,wu,JJ,tT,Jo,eCB,JK,Gr,Gs,Gu,ZF,Wu,Tg.m,eqG,eqF,neG,neF,QC,ZR,ZP,e,isW,Y4];by_cases h1:lo<=i<;>simp[h1,jX,jW]
 |_=>first|(cases h;done)|simp[zi,yk,jK,fnM,jI,jH,wI,zAE,zGD,yX,wc,yo,JU,sRet,sIf,Wy,Gv,sSet,Yg,R.slot,uy,eOr,Gq,yp,zh,vL,eC,zI,fiF,fiX,R.d,zJ,jR,Cp.b,Cp.f,Op2.f,Bi.f,Ty.s,jX,jW,jm,jn,jo,vk,wu,JJ,tT,Jo,eCB,JK,Gr,Gs,Gu,ZF,Wu,Tg.m,eqG,eqF,neG,neF,QC,ZR,ZP,e,isW,Y4]
def nxt(s:Int):Int:=((s+7919)%2147483647*((s+7919)%2147483647)+48271*((s+7919)%2147483647)+12345)%2147483629
def Qa(s:Int):w8 [.v (.int s)]=.ok (.v (.int (nxt s)),[.e]):=by
 have h1:0<=(s+7919)%2147483647:=Int.emod_nonneg _ (by decide);have h2:(s+7919)%2147483647<2147483647:=Int.emod_lt_of_pos _ (by decide);have h3:-18446744073709551616<(s+7919)%2147483647/\(s+7919)%2147483647<18446744073709551616:=by omega
 simp[w8,YY,ZU,fnM,jI,jU,wV,jH,zCo,wI,YC,sRet,sIf,Wy,Gv,sSet,Yg,R.slot,uy,eOr,Gq,yp,zh,vL,eC,zI,fiF,fiX,R.d,zJ,jR,Cp.b,Cp.f,Op2.f,Bi.f,Ty.s,jX,jW,jm,jn,jo,vk,wu,JJ,tT,Jo,eCB,JK,Gr,Gs,Gu,ZF,Wu,Tg.m,eqG,eqF,neG,neF,QC,ZR,ZP,Wt,ZP,modD,zDr,nxt,h3]
def Pen(p:List D):Prop:=∃l f s:Int,p=[.int l,.int f,.int s]
def yi(p:List D)(hp:Pen p)(m:Int)(h0:0<m)(h1:m<1073741824):∃r p',zm [.par p,.v (.int m)]=.ok (.v (.int r),[.par p',.e])/\0<=r/\r<m/\Pen p':=by
 obtain⟨l,f,s,rfl⟩:=hp;by_cases hf:f=1
 ·refine⟨l%m,[.int (l/m),.int f,.int s],?_,Int.emod_nonneg _ (by omega),Int.emod_lt_of_pos _ h0,_,_,_,rfl⟩
  simp[zm,JA,Ja,fnM,JW,jI,jU,Yy,wV,jH,zCr,zCo,wI,YC,Yx,zAF,yX,wc,yo,W2,JU,sRet,sIf,Wy,Gv,sSet,Yg,R.slot,uy,eOr,Gq,yp,zh,vL,eC,zI,fiF,fiX,R.d,zJ,jR,Cp.b,Cp.f,Op2.f,Bi.f,Ty.s,jX,jW,jm,jn,jo,vk,wu,JJ,tT,Jo,eCB,JK,Gr,Gs,Gu,ZF,Wu,Tg.m,eqG,eqF,neG,neF,QC,ZR,ZP,zEQ,Yr,ixS,atI,ixN,eqF,hf,modD,zEL,zDr,h0,h1,ZQ,Slot.list?,Slot.put]
 ·refine⟨nxt (nxt s+7)/64%m,[.int l,.int f,.int (nxt (nxt s+7))],?_,Int.emod_nonneg _ (by omega),Int.emod_lt_of_pos _ h0,_,_,_,rfl⟩
  simp[zm,JA,Ja,fnM,JW,jI,jU,Yy,wV,jH,zCr,zCo,wI,YC,Yx,zAF,yX,wc,yo,W2,JU,sRet,sIf,Wy,Gv,sSet,Yg,R.slot,uy,eOr,Gq,yp,zh,vL,eC,zI,fiF,fiX,R.d,zJ,jR,Cp.b,Cp.f,Op2.f,Bi.f,Ty.s,jX,jW,jm,jn,jo,vk,wu,JJ,tT,Jo,eCB,JK,Gr,Gs,Gu,ZF,Wu,Tg.m,eqG,eqF,neG,neF,QC,ZR,ZP,zEQ,Yr,ixS,atI,ixN,eqF,hf,modD,zEL,Wt,zDr,h0,h1,ZQ,Slot.list?,Slot.put,Qa]
def uM(c:Int):∃p,jL [.v (.int c)]=.ok (.own p,[.e])/\Pen p:=by
 refine⟨[.int (if 0-c > c then 0-c else c),.int (if decide (10^18<=(if 0-c > c then 0-c else c))=true then 1 else 0),.int ((if 0-c > c then 0-c else c)%1000003)],?_,_,_,_,rfl⟩;simp[jL,w9,YF,fnM,jI,jU,wV,jH,zCo,wI,YC,Yx,YD,QK,yo,JU,YU,sRet,sIf,Wy,Gv,sSet,Yg,R.slot,uy,eOr,Gq,yp,zh,vL,eC,zI,fiF,fiX,R.d,zJ,jR,Cp.b,Cp.f,Op2.f,Bi.f,Ty.s,jX,jW,jm,jn,jo,vk,wu,JJ,tT,Jo,eCB,JK,Gr,Gs,Gu,ZF,Wu,Tg.m,eqG,eqF,neG,neF,QC,ZR,ZP,QC,Qt,zB1,intF,geD,powD,modD,zDr,cap]
def vA(ns:List Int):∃c,yr [.v (.l (ns.map .int)),.v (.int 0)]=.ok (.v (.int c),[.e,.e]):=by
 cases ns with
 |nil=>exact⟨0,rfl⟩
 |cons n ns => 
  refine⟨n,?_⟩;have:(0:Int)<ns.length+1:=by omega
  simp[yr,wW,JZ,fnM,JW,jI,jU,Yy,jH,zCo,wI,Yx,YD,zA4,QK,yo,W2,JU,YU,sRet,sIf,Wy,Gv,sSet,Yg,R.slot,uy,eOr,Gq,yp,zh,vL,eC,zI,fiF,fiX,R.d,zJ,jR,Cp.b,Cp.f,Op2.f,Bi.f,Ty.s,jX,jW,jm,jn,jo,vk,wu,JJ,tT,Jo,eCB,JK,Gr,Gs,Gu,ZF,Wu,Tg.m,eqG,eqF,neG,neF,QC,ZR,ZP,lenD,ltD,zB1,ixD,atI,ixN,this]
end My
namespace My
open PySem L2 DV
end My
namespace My
open PySem L2 DV SM
abbrev O1:List DV.Slot:=[.e]
abbrev O3:List DV.Slot:=[.e,.e,.e]
abbrev O4:List DV.Slot:=[.e,.e,.e,.e]
def Ji(a b:Nat):Wt (.int a) (.int b)=some (.v (.int ((a+b:Nat):Int))):=by simp[Wt]
def Wn{a b:Nat}(h:b<=a):Qt (.int (a:Int)) (.int (b:Int))=some (.v (.int ((a-b:Nat):Int))):=by
 simp only[Qt,zB1];rw[Int.ofNat_sub h]
def mul_sm0{i j:Int}(h0:0<=i)(h:i<=100000):ZP (.int i) (.int j)=some (.v (.int (i*j))):=by
 simp only[ZP];exact if_pos (.inl (.inl ⟨by omega,by omega⟩))
def mul_sm1{i j:Int}(h0:0<=j)(h:j<=100000):ZP (.int i) (.int j)=some (.v (.int (i*j))):=by
 simp only[ZP];exact if_pos (.inl (.inr ⟨by omega,by omega⟩))
def Wo(a b:Nat)(h:a<=100000):ZR (.int a) (.int b)=some (.v (.int ((a*b:Nat):Int))):=by
 have:=QZ (mul_sm0 (i:=(a:Int)) (j:=(b:Int)) (by omega) (by omega));rw[this,Int.natCast_mul]
def zBA(a b:Nat)(h:b<=100000):ZR (.int a) (.int b)=some (.v (.int ((a*b:Nat):Int))):=by
 have:=QZ (mul_sm1 (i:=(a:Int)) (j:=(b:Int)) (by omega) (by omega));rw[this,Int.natCast_mul]
def zAU(a b:Nat):gtD (.int (a:Int)) (.int (b:Int))=some (.v (.bl (decide (b<a)))):=by
 show some (R.v (D.bl (decide ((b:Int)<a))))=_
 congr 3;simp
def zAV(a b:Nat):ltD (.int (a:Int)) (.int (b:Int))=some (.v (.bl (decide (a<b)))):=by
 show some (R.v (D.bl (decide ((a:Int)<b))))=_
 congr 3;simp
def eq_nat(a b:Nat):eqG (.int (a:Int)) (.int (b:Int))=some (.v (.bl (decide (a=b)))):=by
 rw[eq_int];congr 3;simp[Int.natCast_inj]
def Gh(l:List Int):w6 (l.map D.int)=some l:=by
 induction l with
 |nil=>rfl|cons a l ih=>simp only[map_cons,w6,ih];rfl
def intsD_N(l:List Nat):w6 (N l)=some (l.map λ(n:Nat)=>(n:Int)):=by
 have:N l=(l.map λ(n:Nat)=>(n:Int)).map D.int:=by simp[N]
 rw[this,Gh]
theorem zAW:∀l:List Nat,(l.map λ(n:Nat)=>(n:Int)).sum=((l.sum:Nat):Int)
 | []=>rfl|a::l=>by simp[zAW l]
def Gi(l:List Nat):zEi [.l (N l)]=some (.v (.int (l.sum:Nat))):=by
 simp only[zEi,intsD_N,Option.map_some,zAW]
def zFL(ds:List D)(h:0<ds.length):uZ ds none (some (-1))=ds.dropLast:=by
 unfold uZ;have h1:HT.sIx ds.length 0 none=0:=rfl;have h2:HT.sIx ds.length ds.length (some (-1))=ds.length-1:=by
  simp[HT.sIx];omega
 rw[h1,h2];simp[List.dropLast_eq_take]
def cut_N(e:List Nat)(h:0<e.length):slD (.l (N e)) none (some (-1))=some (.own (N e.dropLast)):=by
 have:=zFL (N e) (by rw[JD];exact h);simp only[slD,this];simp[N,List.map_dropLast]
def jO(d:D)(lo hi:Int)(h:Gg d=false)(hb:Y4 lo hi d=true):zP [.v d,.v (.int lo),.v (.int hi)]=.ok (.v .non,O3):=by
 have e:=jf d lo hi h;rw[hb]at e;exact f_nx (zV (jP (zDA (t_E (yY rfl (zA rfl) (zA rfl) (zA rfl) e)) rfl) jQ)) rfl
def Jj(d:D)(h:Gg d=false)(hb:Y4 2 3 d=true):yO [.v d]=.ok (.v .non,O1) :=
 f_nx (zV (YK (yY rfl (zA rfl) QW QW (jO d 2 3 h hb)))) rfl
def e_times{fs:List FI}{E E1:zN}{x1 x2:List Str}{c0 ci:Nat}{w:Nat}{l:List Nat}{s:DV.Slot}(hw:w<=1000)(hl:0<l.length/\l.length<=1000)(hs:s=.own (N l)\/s=.v (.l (N l)))(h:E[ci]?=some s)(h':E.set ci (.v (.l (N l)))=E1)(h0:E1[c0]?=some (.v (.int (w:Nat)))) :
  dE fs (.comp 1 x1 x2 [c0] (.iL (.sl (.var ci) .oN (.oS (.neg (.c (.int 1)))))) (.n 0) .tTr (.bin .mul (.var 1) (.var 0))) E=.ok (.own (N (l.dropLast.map (w*·))),E1):=by
 refine uJ (vs:=[.int (w:Nat)]) (λd=>match d with | .int e=>.int (w*e)|_=>.non) (i_L (x_sl (zGO hs h h') o_N (o_S (zA7 x_c)) (cut_N l hl.1)) rfl) (by simp[Jx,h0]) (λd hd=>?_) ?_ ?_
 ·obtain⟨x,_,rfl⟩:=zA8 hd
  exact⟨_,zo (zA rfl) (zA rfl) (Wo w x (by omega)),by simp[R.d]⟩
 ·rw[JD];simp[cap];omega
 ·simp only[N,map_map]
  refine map_congr_left λx _=>?_
  simp
def Jn(w o n k:Nat):Nat:=if k=0 then U w o 0 n else U w o k n-U w o (k-1) n
def LD(es:List (List Nat)):List D:=es.map λe=>.l (N e)
def zGR(es:List (List Nat)):(LD es).length=es.length:=by simp[LD]
def LD_mem{es:List (List Nat)}{d:D}(h:d∈LD es):∃e∈es,d=.l (N e):=by
 obtain⟨e,he,rfl⟩:=mem_map.mp h;exact⟨e,he,rfl⟩
theorem zGS{ws:List Nat}{k:Nat}(hk:1<=k):∀(i:Nat) (e:List Nat),e∈al ws k i->e.length=k
 |0,e,h=>by
  simp only[al,mem_map]at h;obtain⟨w,_,rfl⟩:=h;simp;omega
 |i+1,e,h=>by
  simp only[al]at h;obtain⟨j,hj⟩:=List.getElem?_of_mem h;rw[List.getElem?_zipWith]at hj;cases e1:ws[j]? with
  |none=>rw[e1]at hj;cases (al ws k i)[j]?<;>cases hj
  |some w =>
   cases e2:(al ws k i)[j]? with
   |none=>rw[e1,e2]at hj;cases hj
   |some f =>
    rw[e1,e2]at hj;simp at hj;subst hj;have:=zGS hk i f (mem_of_getElem? e2);simp;omega
def sumL:D->D
 | .l ds=>match zEi [.l ds]with
  |some (.v d)=>d|_=>.non
 |d=>d
def zDM{fs:List FI}{E E1:zN}{es:List (List Nat)}{s3:DV.Slot}(hs:s3=.own (LD es)\/s3=.v (.l (LD es)))(h3:E[3]?=some s3)(he:E.set 3 (.v (.l (LD es)))=E1)(hl:es.length<=1000) :
  dE fs (.cB .sum (.cons (.comp 1 ["of_sign"] [] [] (.iL (.var 3)) (.n 0) .tTr (.cB .sum (.cons (.var 0) .nil))) .nil)) E=.ok (.v (.int ((tot es:Nat):Int)),E1):=by
 refine Wi (zB (uJ (vs:=[]) (rs:=N (es.map List.sum)) sumL (i_L (zGO hs h3 he) rfl) rfl (λd hd=>?_) (by rw[zGR];simp[cap];omega) ?_) zO) (Gi (es.map List.sum))
 ·obtain⟨e,_,rfl⟩:=LD_mem hd
  have q:=Gi e;refine⟨_,Wi (zB (zA rfl) zO) q,?_⟩;simp[R.d,sumL,q]
 ·simp only[LD,N,map_map]
  apply map_congr_left;intro e _;have q:=Gi e;simp only[N]at q;simp only[Function.comp,sumL,q]
def pat2:D->List DV.Slot
 | .t [a,b]=>[.v a,.v b]|_=>[.e,.e]
def Gj(l:List D):List Nat:=l.map λd=>match d with | .int i=>i.toNat|_=>0
def zDN(l:List Nat):Gj (N l)=l:=by
 simp only[Gj,N,map_map]
 conv=>rhs;rw[<- List.map_id l]
 apply map_congr_left;intro n _;simp
def zAX(T:Nat):D->D
 | .t [.int w,.l l]=>.l (N ((w.toNat*(T-(Gj l).sum))::(Gj l).dropLast.map (w.toNat*·)))|d=>d
theorem Zm:∀{ws:List Nat} {es:List (List Nat)} {d:D},d∈zipWith W0 (N ws) (LD es)->∃w e,w∈ws/\e∈es/\d=.t [.int (w:Nat),.l (N e)]
 | [],es,d,h=>by simp[N]at h|w::ws,[],d,h=>by simp[N,LD]at h
 |w::ws,e::es,d,h=>by
  have q:zipWith W0 (N (w::ws)) (LD (e::es))=.t [.int (w:Nat),.l (N e)]::zipWith W0 (N ws) (LD es):=rfl;rw[q]at h;rcases mem_cons.mp h with h|h
  ·exact⟨w,e,qE,qE,h⟩
  ·obtain⟨w',e',h1,h2,h3⟩:=Zm h
   exact⟨w',e',qD _ h1,qD _ h2,h3⟩
theorem zDO(T:Nat):∀(ws:List Nat) (es:List (List Nat)),(zipWith W0 (N ws) (LD es)).map (zAX T)=LD (zipWith (λw e=>(w*(T-List.sum e))::e.dropLast.map (w*·)) ws es)
 | [],es=>by simp[N,LD]|w::ws,[]=>by simp[N,LD]
 |w::ws,e::es=>by
  have q:zipWith W0 (N (w::ws)) (LD (e::es))=.t [.int (w:Nat),.l (N e)]::zipWith W0 (N ws) (LD es):=rfl;rw[q,map_cons,zDO T ws es];simp only[zAX,zDN,Int.toNat_natCast,List.zipWith_cons_cons,LD,map_cons]
abbrev alB:Bx:=(.bSeq (.sSet 5 (.cB .sum (.cons (.comp 1 ["of_sign"] [] [] (.iL (.var 3)) (.n 0) .tTr (.cB .sum (.cons (.var 0) .nil))) .nil)))
  (.bOne (.sSet 3 (.comp 2 ["weight","of_sign"] ["whole"] [5] (.iZ false false (.cons (.var 0) (.cons (.var 3) .nil))) (.t [0,1]) .tTr (.bin .add (.l (.cons (.bin .mul (.var 0) (.bin .sub (.var 2) (.cB .sum (.cons (.var 1) .nil)))) .nil)) (.comp 1 ["end"] ["weight"] [0] (.iL (.sl (.var 1) .oN (.oS (.neg (.c (.int 1)))))) (.n 0) .tTr (.bin .mul (.var 1) (.var 0))))))))
def InA(ws:List Nat)(n k i:Nat)(E:zN):Prop:=∃s3 s4 s5,E=[.v (.l (N ws)),.v (.int n),.v (.int k),s3,s4,s5]/\(s3=.own (LD (al ws k i))\/s3=.v (.l (LD (al ws k i))))/\yE s4=true/\yE s5=true
abbrev qI(n:Nat):DV.Slot:=.v (.int n)
def step_a{ws:List Nat}(hw:∀w∈ws,w<=9)(hl:ws.length<=3){n k:Nat}(hk:1<=k/\k<=41)(i:Nat)(E:zN)(hE:InA ws n k i E):∃E1 E2,gN 4 (.int (i:Int)) E=.ok E1/\dB zk alB E1=.ok (.nx,E2)/\InA ws n k (i+1) E2:=by
 obtain⟨s3,s4,s5,hE,h3,h4,h5⟩:=hE;have wd:=zGS (ws:=ws) hk.1 i;have ln:=zDD ws k i;have ht:∀f∈al ws k i,f.sum<=tot (al ws k i):=λf hf=>by
  obtain⟨j,hj⟩:=List.getElem?_of_mem hf;exact va (l:=(al ws k i).map List.sum) (s:=j) (by simp[hj])
 have et:al ws k (i+1)=zipWith (λw e=>(w*(tot (al ws k i)-List.sum e))::e.dropLast.map (w*·)) ws (al ws k i):=rfl;generalize hT:tot (al ws k i)=T at ht et;refine⟨[.v (.l (N ws)),.v (.int n),.v (.int k),s3,.v (.int (i:Int)),s5],[.v (.l (N ws)),.v (.int n),.v (.int k),.own (LD (al ws k (i+1))),.v (.int (i:Int)),qI T],?_,?_,_,_,_,rfl,.inl rfl,rfl,rfl⟩
 ·subst hE;cases s4<;>first|rfl|(cases h4)
 ·have e1:dE zk (.cB .sum (.cons (.comp 1 ["of_sign"] [] [] (.iL (.var 3)) (.n 0) .tTr (.cB .sum (.cons (.var 0) .nil))) .nil)) [.v (.l (N ws)),.v (.int n),.v (.int k),s3,.v (.int (i:Int)),s5]=.ok (.v (.int (T:Nat)),[.v (.l (N ws)),.v (.int n),.v (.int k),.v (.l (LD (al ws k i))),.v (.int (i:Int)),s5]):=by
   rw[<- hT];exact zDM h3 rfl rfl (by omega)
  refine zR (yU e1 (jN rfl h5 rfl)) (zV (yU (zAP (vs:=[.int (T:Nat)]) (rs:=LD (al ws k (i+1))) pat2 (λ_=>true) (zAX T) (i_Z (zB (zA rfl) (zB (zA rfl) zO)) rfl rfl) rfl (λd hd S hS hn=>?_) (λd hd=>?_) (λd hd=>?_) (λd hd _=>?_) ?_ ?_) (jN rfl rfl rfl)))
  ·obtain⟨w,e,_,_,rfl⟩:=Zm hd
   exact gT_ok2 hS hn
  ·obtain⟨w,e,_,_,rfl⟩:=Zm hd
   refine⟨rfl,λs hs=>?_⟩;simp only[pat2,mem_cons,mem_nil_iff,or_false]at hs;rcases hs with rfl|rfl<;>rfl
  ·simp only[W2,zAH,jj]
  ·obtain⟨w,e,hw',he,rfl⟩:=Zm hd
   have hw9:=hw w hw';have el:=wd e he;have sb:Qt (.int (T:Int)) (.int ((e.sum:Nat):Int))=some (.v (.int ((T-e.sum:Nat):Int))):=Wn (ht e he);have ml:=Wo w (T-e.sum) (by omega);have ad:=Wl [.int ((w*(T-e.sum):Nat):Int)] (N (e.dropLast.map (w*·))) (by simp[JD];omega);refine⟨_,zo (wA (zB (zo (zA rfl) (zo (zA rfl) (Wi (zB (zA rfl) zO) (Gi e)) sb) ml) zO) rfl yC) (e_times (by omega) (by omega) (.inr rfl) rfl rfl rfl) ad,?_⟩;simp only[R.d,zAX,zDN,Int.toNat_natCast];rfl
  ·simp[JD,zGR,cap];omega
  ·rw[filter_eq_self.mpr (λ_ _=>rfl),zDO,et]
def uN{ws:List Nat}(hw:∀w∈ws,w<=9)(hl:ws.length<=3){n k:Nat}(hn:n<=41)(hk:k<=41):ya [.v (.l (N ws)),.v (.int n),.v (.int k)]=.ok (.v (.int ((A ws n k:Nat):Int)),O3):=by
 unfold A;by_cases c:n=0
 ·have q:eqG (.int (n:Int)) (.int 0)=some (.v (.bl true)):=by rw[eq_int,decide_eq_true (by omega)]
  rw[if_pos c];exact je (W8 (wf (t_E (zp (zA rfl) x_c q)) (zV (jx x_c)))) rfl
 ·have q:eqG (.int (n:Int)) (.int 0)=some (.v (.bl false)):=by rw[eq_int,decide_eq_false (by omega)]
  rw[if_neg c];by_cases d:k=0
  ·have q2:eqG (.int (k:Int)) (.int 0)=some (.v (.bl true)):=by rw[eq_int,decide_eq_true (by omega)]
   rw[if_pos d];exact je (zR (jP (t_E (zp (zA rfl) x_c q)) jQ) (W8 (wf (t_E (zp (zA rfl) x_c q2)) (zV (jx x_c))))) rfl
  ·have q2:eqG (.int (k:Int)) (.int 0)=some (.v (.bl false)):=by rw[eq_int,decide_eq_false (by omega)]
   rw[if_neg d];have s1:Qt (.int (k:Int)) (.int 1)=some (.v (.int ((k-1:Nat):Int))):=Wn (b:=1) (by omega);have s2:Qt (.int (n:Int)) (.int 1)=some (.v (.int ((n-1:Nat):Int))):=Wn (b:=1) (by omega);have ml:=Jw (.int 0) (k-1) (by omega);have e0:dE zk (.comp 1 ["weight"] ["k"] [2] (.iL (.var 0)) (.n 0) .tTr (.bin .add (.l (.cons (.var 0) .nil)) (.bin .mul (.l (.cons (.c (.int 0)) .nil)) (.bin .sub (.var 1) (.c (.int 1)))))) [.v (.l (N ws)),.v (.int n),.v (.int k),.e,.e,.e]=.ok (.own (LD (al ws k 0)),[.v (.l (N ws)),.v (.int n),.v (.int k),.e,.e,.e]):=by
    refine uJ (vs:=[.int k]) (λd=>.l (d::replicate (k-1) (.int 0))) (i_L (zA rfl) rfl) rfl (λd hd=>?_) (by rw[JD];simp[cap];omega) ?_
    ·have ad:=Wl [d] (replicate (k-1) (.int 0)) (by simp;omega)
     exact⟨_,zo (wA (zB (zA rfl) zO) rfl yC) (zo (r1:=.own [.int 0]) (r2:=.v (.int ((k-1:Nat):Int))) (wA (zB x_c zO) rfl yC) (zo (zA rfl) x_c s1) ml) ad,rfl⟩
    ·simp only[N,LD,al,map_map]
     refine map_congr_left λx _=>?_
     simp
   obtain⟨E1,f1,s3,s4,s5,hE,h3,h4,h5⟩:=yS (tg:=gN 4) (body:=dB zk alB) (λi E=>InA ws n k i E) (DV.zF 0 (n-1)) 0 [.v (.l (N ws)),.v (.int n),.v (.int k),.own (LD (al ws k 0)),.e,.e] ⟨_,_,_,rfl,.inl rfl,rfl,rfl⟩ (λi d q E hI=>by
    obtain⟨hi,rfl⟩:=jw _ _ _ _ q;rw[zero_add]at hI ⊢;rw[Int.zero_add];exact step_a hw hl ⟨by omega,hk⟩ i E hI)
   rw[jJ,zero_add]at h3;subst hE;have fin:dE zk (.cB .sum (.cons (.comp 1 ["of_sign"] [] [] (.iL (.var 3)) (.n 0) .tTr (.cB .sum (.cons (.var 0) .nil))) .nil)) [.v (.l (N ws)),.v (.int n),.v (.int k),s3,s4,s5]=.ok (.v (.int ((tot (al ws k (n-1)):Nat):Int)),[.v (.l (N ws)),.v (.int n),.v (.int k),.v (.l (LD (al ws k (n-1)))),s4,s5]):=zDM h3 rfl rfl (by rw[zDD];omega);exact je (zR (jP (t_E (zp (zA rfl) x_c q)) jQ) (zR (jP (t_E (zp (zA rfl) x_c q2)) jQ) (zR (yU e0 rfl) (zR (jq (j:=((n-1:Nat):Int)) (zB (zo (zA rfl) x_c s2) zO) rfl ⟨by omega,by omega⟩ (by rw[Int.toNat_natCast];exact f1)) (zV (jx fin)))))) rfl
end My
namespace SM
theorem zDP(m k:Nat)(hm:1<=m)(hk:1<=k):∀i,al (replicate m 1) k i=replicate m (zBL 1 (m-1) (k-1) i)
 |0=>by
  simp only[al,zBL];rw[List.map_replicate]
 |i+1=>by
  have ih:=zDP m k hm hk i;have ht:tot (al (replicate m 1) k i)=m*(zBL 1 (m-1) (k-1) i).sum:=by
   rw[ih];simp[tot]
  show zipWith (λw e=>(w*(tot (al (replicate m 1) k i)-List.sum e))::e.dropLast.map (w*·)) (replicate m 1) (al (replicate m 1) k i)=_
  rw[ht,ih,List.zipWith_replicate];congr 1
  ·simp
  ·simp only[zBL,Nat.one_mul]
   congr 1
   rw[Nat.sub_mul];simp
def zGT(m n k:Nat)(hm:1<=m):A (replicate m 1) n k=if n=0 then 1 else if k=0 then 0 else m*U 1 (m-1) (k-1) (n-1):=by
 unfold A;by_cases c:n=0
 ·rw[if_pos c,if_pos c]
 ·rw[if_neg c,if_neg c]
  by_cases d:k=0
  ·rw[if_pos d,if_pos d]
  ·rw[if_neg d,if_neg d,zDP m k hm (by omega)]
   simp[tot,U]
end SM
namespace My
open PySem L2 DV SM
structure Ok(m n k:Nat):Prop where
 hm:2<=m/\m<=3
 hn:n<=40
 hk:k<=40
def in_nat{n lo hi:Nat}(h1:lo<=n)(h:n<=hi):Y4 (lo:Int) (hi:Int) (.int n)=true:=by
 simp[Y4];omega
abbrev nm:D:=.t [.str "number"]
def TL(ls:List (List Nat)):List D:=ls.map λl=>.t (N l)
def YL(ls:List (List Nat)):(TL ls).length=ls.length:=by simp[TL]
def zAY{ls:List (List Nat)}{d:D}(h:d∈TL ls):∃l∈ls,d=.t (N l):=by
 obtain⟨l,hl,rfl⟩:=mem_map.mp h;exact⟨l,hl,rfl⟩
def more(m:Nat)(r:List Nat):List (List Nat):=(List.range m).map λx=>r++[x]
theorem Zn(m:Nat):∀l:List (List Nat),(l.flatMap (more m)).length=l.length*m
 | []=>by simp|a::l=>by rw[flatMap_cons,length_append,Zn m l];simp[more,Nat.add_mul,Nat.add_comm]
theorem uO(m:Nat):∀n,(wB m n).length=m^n
 |0=>rfl
 |n+1=>by
  show((wB m n).flatMap (more m)).length=_
  rw[Zn,uO m n,Nat.pow_succ]
theorem Jk(m:Nat):∀n (r:List Nat),r∈wB m n->r.length=n
 |0,r,h=>by simp[wB]at h;subst h;rfl
 |n+1,r,h=>by
  obtain⟨a,ha,hr⟩:=List.mem_flatMap.mp h;obtain⟨x,_,rfl⟩:=mem_map.mp hr;have:=Jk m n a ha;simp[this]
theorem uP(m:Nat):∀n (r:List Nat),r∈wB m n->∀x∈r,x<m
 |0,r,h=>by simp[wB]at h;subst h;simp
 |n+1,r,h=>by
  obtain⟨a,ha,hr⟩:=List.mem_flatMap.mp h;obtain⟨x,hx,rfl⟩:=mem_map.mp hr;have:=uP m n a ha;intro y hy;rcases mem_append.mp hy with hy|hy
  ·exact this y hy
  ·simp at hy hx;omega
def zGU(a b:List (List Nat)):TL (a++b)=TL a++TL b:=by simp[TL]
section
variable{fs:List FI}{E E1 E2 E3 E4:zN}
def s_while{t b:_}{p:Fl×zN}(h:DV.whN (dT fs t) (dB fs b) 1000000 E=.ok p):dS fs (.sWhile t b) E=.ok p:=by
 simp only[zCv];exact uB (by simp only[DV.sWhile];exact h)
def s_aug{i:Nat}{o:Op2}{a:_}{x y z:Int}(h:E[i]?=some (.v (.int x)))(h1:dE fs a E=.ok (.v (.int y),E))(hz:o.aug x y=some z)(h2:E.set i (.v (.int z))=E1):dS fs (.sAug i o a) E=.ok (.nx,E1):=by
 subst h2;simp only[rS_sAug,DV.sAug,h,h1,R.d,hz,if_true]
end
theorem zDQ:∀{l:List Nat} {x:Nat},x∈l->x<=l.sum
 |a::l,x,h=>by
  rw[sum_cons];rcases mem_cons.mp h with rfl|h
  ·omega
  ·have:=zDQ h;omega
structure DS(die:List Nat)(s:Nat):Prop where
 ok:Die die
 lt:s<die.length
namespace DS
variable{die:List Nat}{s:Nat}
def get(h:DS die s):die[s]?=some (die.getD s 0):=by
 rw[getD_eq_getElem?_getD,getElem?_eq_getElem h.lt];rfl
def le(h:DS die s):die.getD s 0<=die.sum:=zDQ (mem_of_getElem? h.get)
end DS
def tabN(w o n:Nat):List Nat:=(List.range (n+1)).map (Jn w o n)
section
variable{die:List Nat}{s:Nat}
abbrev wD(die:List Nat)(s:Nat):Nat:=die.getD s 0
abbrev oD(die:List Nat)(s:Nat):Nat:=die.sum-die.getD s 0
def tab(die:List Nat)(s n:Nat):List D:=(tabN (wD die s) (oD die s) n).map λj:Nat=>nrm (j:Int) (die.sum^n)
end
end My
namespace My
open PySem L2 DV RM
def rowB:D->Bool
 | .t ds=>decide (ds.length<=20)&&ds.all (Y4 0 2)|_=>false
theorem Jh(f:D->Bool):∀ds:List D,jG (ds.map λd=>D.bl (f d))=some (ds.map f)
 | []=>rfl|d::ds=>by simp only[map_cons,jG,Jh f ds];rfl
theorem all_map(f:D->Bool)(ds:List D):(ds.map f).all id=ds.all f:=by simp[List.all_map]
def Qb(d:D)(h:Gg d=false):YV [.v d]=.ok (.v (.bl (Y4 0 2 d)),[.e]) :=
 je (zV (jx (yY rfl (zA rfl) x_c (zo QW x_c rfl) (jf d 0 2 h)))) rfl
def zGN{f:D->Bool}{ds:List D}{b:Bool}(h:ds.all f=b):allD [.l (ds.map λd=>D.bl (f d))]=some (.v (.bl b)):=by
 subst h;simp[allD,Jh,all_map]
def zBB(d:D)(h:okD d):ZI [.v d]=.ok (.v (.bl (rowB d)),[.e]):=by
 cases d with
 |t ds =>
  have t1:dT j6 (.tNot (.tE (.is .tuple (.var 0)))) [.v (.t ds)]=.ok (false,[.v (.t ds)]):=zDA (t_E (b:=true) rfl) rfl;have l1:dE j6 (.cB .len (.cons (.var 0) .nil)) [.v (.t ds)]=.ok (.v (.int ds.length),[.v (.t ds)]):=Wi (zB (zA rfl) zO) rfl;by_cases ht:ds.length<=20
  ·have t2:dT j6 (.tE (.cmp .gt (.cB .len (.cons (.var 0) .nil)) (.gl (.int 20)))) [.v (.t ds)]=.ok (false,[.v (.t ds)]) :=
    t_E (zp l1 QW (by simp[Cp.f,gtD,zB1,R.d];omega))
   have e:rowB (.t ds)=ds.all (Y4 0 2):=by simp[rowB];omega
   rw[e];exact je (zR (jP (t_or t1 t2) jQ) (zV (jx (Wi (zB (uJ (vs:=[]) (λd=>.bl (Y4 0 2 d)) (i_T (zA rfl) rfl) rfl (λd hd=>⟨_,jM rfl (zA rfl) (Qb d (h.2 d hd)),rfl⟩) h.1 rfl) zO) (zGN rfl))))) rfl
  ·have t2:dT j6 (.tE (.cmp .gt (.cB .len (.cons (.var 0) .nil)) (.gl (.int 20)))) [.v (.t ds)]=.ok (true,[.v (.t ds)]) :=
    t_E (zp l1 QW (by simp[Cp.f,gtD,zB1,R.d];omega))
   have e:rowB (.t ds)=false:=by simp[rowB];omega
   rw[e];exact je (W8 (wf (t_or t1 t2) (zV (jx x_c)))) rfl
 |fn x=>cases h|exn x y=>cases h|_=>rfl
def Row(rs:List Int):Prop:=rs.length<=20/\∀r∈rs,0<=r/\r<=2
abbrev YM(rs:List Int):D:=.t (rs.map D.int)
def row_ok{rs:List Int}(h:Row rs):okD (YM rs):=⟨by simp[cap];have:=h.1;omega,λd hd=>by
 obtain⟨r,_,rfl⟩:=mem_map.mp hd;rfl⟩
def row_B{rs:List Int}(h:Row rs):rowB (YM rs)=true:=by
 simp only[rowB,Bool.and_eq_true,decide_eq_true_eq,length_map,all_eq_true];refine⟨h.1,λd hd=>?_⟩;obtain⟨r,hr,rfl⟩:=mem_map.mp hd;have:=h.2 r hr;simp[Y4,this]
def zBC{rs:List Int}(h:Row rs):ZJ [.v (YM rs)]=.ok (.v .non,[.e]):=by
 have e:=zBB (YM rs) (row_ok h);rw[row_B h]at e;exact f_nx (zV (jP (zDA (t_E (jM rfl (zA rfl) e)) rfl) jQ)) rfl
def jg:Nat->List B->List D
 |_,[]=>[]|b,(s,n)::r=>.t [.int s,.int b,.int n]::jg (b+n) r
theorem Wp:∀(q:List B) (b:Nat) (a:Int) (m:Nat),jg b (q++[(a,m)])=jg b q++[.t [.int a,.int (b+tot q:Nat),.int m]]
 | [],b,a,m=>by simp[jg,tot]
 | (s,n)::q,b,a,m=>by
  simp only[cons_append,jg,Wp q (b+n) a m];have:b+n+tot q=b+tot ((s,n)::q):=by simp[tot];omega
  rw[this]
theorem ZX:∀(q:List B) (b:Nat),(jg b q).length=q.length
 | [],_=>rfl| (s,n)::q,b=>by simp[jg,ZX q]
def zDR{rs:List Int}{k:Nat}(h:k<rs.length):atI (rs.map D.int) (k:Int)=some (.int rs[k]):=by
 have:(k:Int)<rs.length:=by omega
 simp[atI,ixN,this,h]
def tot_rle(p:List Int):tot (rle p)=p.length:=by rw[vb,ZK]
def zDS(p:List Int):(rle p).length<=p.length:=by
 induction p with
 |nil=>exact le_refl _
 |cons a p ih =>
  show(jA a (rle p)).length<=_
  cases h:rle p with
  |nil=>simp[jA]
  |cons x r =>
   rw[h]at ih;obtain⟨b,n⟩:=x;simp only[jA];split<;>simp at ih ⊢<;>omega
def Zo:Bx:=(.bOne (.sIf (.tOr (.tE (.cmp .eq (.var 3) (.cB .len (.cons (.var 0) .nil)))) (.tE (.cmp .ne (.ix (.var 0) (.var 3)) (.ix (.var 0) (.var 2))))) (.bSeq (.sApp 1 (.t (.cons (.ix (.var 0) (.var 2)) (.cons (.var 2) (.cons (.bin .sub (.var 3) (.var 2)) .nil)))))
  (.bOne (.sSet 2 (.var 3)))) .bNil))
def RunI(rs:List Int)(k:Nat)(E:zN):Prop:=∃(p:List Int) (s3:DV.Slot),E=[.v (YM rs),.own (jg 0 (rle p)),.v (.int p.length),s3]/\yE s3=true/\p.length<=20 /\
 ((k<rs.length/\∃a c,rs.take (k+1)=p++replicate (c+1) a/\∀z,p.getLast?=some z->z≠a)\/(k=rs.length/\p=rs))
def zDT{rs:List Int}(h:Row rs)(k:Nat)(hk:k<rs.length)(E:zN)(hI:RunI rs k E):∃E1 E2,gN 3 (.int (1+(k:Int))) E=.ok E1/\dB zj Zo E1=.ok (.nx,E2)/\RunI rs (k+1) E2:=by
 obtain⟨p,s3,hE,h3,hp,hc⟩:=hI;obtain⟨a,c,ht,hl⟩:∃a c,rs.take (k+1)=p++replicate (c+1) a/\∀z,p.getLast?=some z->z≠a:=by
  rcases hc with⟨_,q⟩|⟨z,_⟩
  ·exact q
  ·omega
 have hlen:p.length+(c+1)=k+1:=by
  have:=congrArg length ht;simp at this;omega
 have hpk:p.length<rs.length:=by omega
 have hra:rs[p.length]=a:=by
  have h1:(rs.take (k+1))[p.length]?=some a:=by
   rw[ht,getElem?_append_right (le_refl _)];simp
  rw[List.getElem?_take_of_lt (by omega),getElem?_eq_getElem hpk]at h1;exact qJ h1
 have eb:=zDR hpk;rw[hra]at eb;have h20:=h.1;have hcap:(jg 0 (rle p)).length<1000000:=by
  rw[ZX];have:=zDS p;omega
 have sub:(1+(k:Int))-(p.length:Int)=((c+1:Nat):Int):=by omega
 have app:jg 0 (rle p)++[.t [.int a,.int (p.length:Int),.int ((c+1:Nat):Int)]]=jg 0 (rle (rs.take (k+1))):=by
  rw[ht,Wj a c p hl,Wp,tot_rle,zero_add]
 have t1:gN 3 (.int (1+(k:Int))) E=.ok [.v (YM rs),.own (jg 0 (rle p)),.v (.int p.length),.v (.int (1+(k:Int)))]:=by
  subst hE;cases s3<;>first|rfl|(cases h3)
 have ix:ixD (YM rs) (.int (p.length:Int))=some (.v (.int a)):=by rw[zDJ,eb];rfl
 have sb:Qt (.int (1+(k:Int))) (.int (p.length:Int))=some (.v (.int ((c+1:Nat):Int))):=by rw[<- sub];rfl
 have len:lenD [YM rs]=some (.v (.int rs.length)):=by simp only[lenD,length_map]
 have app1:dB zj (.bSeq (.sApp 1 (.t (.cons (.ix (.var 0) (.var 2)) (.cons (.var 2) (.cons (.bin .sub (.var 3) (.var 2)) .nil))))) (.bOne (.sSet 2 (.var 3)))) [.v (YM rs),.own (jg 0 (rle p)),.v (.int p.length),.v (.int (1+(k:Int)))]=.ok (.nx,[.v (YM rs),.own (jg 0 (rle p)++[.t [.int a,.int (p.length:Int),.int ((c+1:Nat):Int)]]),.v (.int (1+(k:Int))),.v (.int (1+(k:Int)))]) :=
  zR (s_app rfl (Je (zB (zC9 (zA rfl) (zA rfl) ix) (zB (zA rfl) (zB (zo (zA rfl) (zA rfl) sb) zO))) rfl (by simp[cap])) rfl hcap rfl) (zV (yU (zA rfl) rfl))
 by_cases ce:k+1=rs.length
 ·have ce':(1+(k:Int))=(rs.length:Int):=by omega
  refine⟨_,[.v (YM rs),.own (jg 0 (rle (rs.take (k+1)))),.v (.int ((rs.take (k+1)).length:Nat)),.v (.int (1+(k:Int)))],t1,?_,rs.take (k+1),_,rfl,rfl,by simp;omega,.inr ⟨ce,by rw[ce,take_length]⟩⟩;rw[<- app];have e4:((rs.take (k+1)).length:Int)=1+(k:Int):=by simp;omega
  rw[e4];exact zV (wf (t_orT (t_E (zp (zA rfl) (Wi (zB (zA rfl) zO) len) (by
   show eqG (.int (1+(k:Int))) (.int (rs.length:Int))=_
   rw[eq_int,decide_eq_true ce'])))) app1)
 ·have ce':¬(1+(k:Int))=(rs.length:Int):=by omega
  have hk1:k+1<rs.length:=by omega
  have en:=zDR hk1;have en':atI (rs.map D.int) (1+(k:Int))=some (.int rs[k+1]):=by
   rw[show(1+(k:Int))=((k+1:Nat):Int)by omega];exact en
  have ix2:ixD (YM rs) (.int (1+(k:Int)))=some (.v (.int rs[k+1])):=by rw[zDJ,en'];rfl
  have eqF:eqG (.int (1+(k:Int))) (.int (rs.length:Int))=some (.v (.bl false)):=by rw[eq_int,decide_eq_false ce']
  have tk:rs.take (k+1+1)=rs.take (k+1)++[rs[k+1]]:=List.take_succ_eq_append_getElem hk1;by_cases cn:rs[k+1]=a
  ·refine⟨_,[.v (YM rs),.own (jg 0 (rle p)),.v (.int p.length),.v (.int (1+(k:Int)))],t1,?_,p,_,rfl,rfl,hp,.inl ⟨hk1,a,c+1,?_,hl⟩⟩
   ·exact zV (jP (t_or (t_E (zp (zA rfl) (Wi (zB (zA rfl) zO) len) eqF)) (t_E (zp (zC9 (zA rfl) (zA rfl) ix2) (zC9 (zA rfl) (zA rfl) ix) (by
     show neG (.int rs[k+1]) (.int a)=_
     rw[ne_int,decide_eq_true cn];rfl)))) jQ)
   ·rw[tk,ht,cn,append_assoc,<- List.replicate_succ']
  ·refine⟨_,[.v (YM rs),.own (jg 0 (rle (rs.take (k+1)))),.v (.int ((rs.take (k+1)).length:Nat)),.v (.int (1+(k:Int)))],t1,?_,rs.take (k+1),_,rfl,rfl,by simp;omega,.inl ⟨hk1,rs[k+1],0,by rw[tk];rfl,λz hz=>?_⟩⟩
   ·rw[<- app]
    have e4:((rs.take (k+1)).length:Int)=1+(k:Int):=by simp;omega
    rw[e4];exact zV (wf (t_or (t_E (zp (zA rfl) (Wi (zB (zA rfl) zO) len) eqF)) (t_E (zp (zC9 (zA rfl) (zA rfl) ix2) (zC9 (zA rfl) (zA rfl) ix) (by
     show neG (.int rs[k+1]) (.int a)=_
     rw[ne_int,decide_eq_false cn];rfl)))) app1)
   ·rw[ht,List.replicate_succ',<- append_assoc]at hz
    simp at hz
    rw[<- hz];exact λq=>cn q.symm
def zDU{rs:List Int}(h:Row rs):∃s3,yE s3=true/\DV.JN (gN 3) (dB zj Zo) (DV.zF 1 rs.length) [.v (YM rs),.own [],.v (.int 0),.e]=.ok (.nx,[.v (YM rs),.own (jg 0 (rle rs)),.v (.int rs.length),s3]):=by
 have h20:=h.1;have wk:RunI rs 0 [.v (YM rs),.own [],.v (.int 0),.e]:=by
  refine⟨[],.e,rfl,rfl,by simp,?_⟩;by_cases hz:0<rs.length
  ·refine .inl ⟨hz,rs[0],0,?_,λz hz=>by cases hz⟩
   rw[List.take_succ_eq_append_getElem hz];simp
  ·exact .inr ⟨by omega,(List.eq_nil_of_length_eq_zero (by omega)).symm⟩
 obtain⟨E',e1,p,s3,hE,h3,_,hc⟩:=yS (tg:=gN 3) (body:=dB zj Zo) (RunI rs) (DV.zF 1 rs.length) 0 _ wk
  (λi d e E hI=>by
   obtain⟨hi,rfl⟩:=jw _ _ _ _ e;rw[zero_add]at hI ⊢;exact zDT h i hi E hI)
 rw[jJ,zero_add]at hc;have hp:p=rs:=by
  rcases hc with⟨z,_⟩|⟨_,q⟩
  ·omega
  ·exact q
 subst hp;exact⟨s3,h3,by rw[e1,hE]⟩
def zAZ{fs:List FI}{a b:_}{E E1:zN}(h:dS fs a E=.ok (.nx,E1)):dB fs (.bSeq a b) E=dB fs b E1:=by
 simp only[jU,Wy,h]
def one_ok{fs:List FI}{a:_}{E:zN}:dB fs (.bOne a) E=dS fs a E:=by simp only[jI]
def fn_ret{n:Nat}{b:MS}{ss:List DV.Slot}{r:R}{E':zN}(h:b (ss++replicate (n-ss.length) .e)=.ok (.ret r,E')):fnM n b ss=.ok (r,zw ss E'):=by
 simp only[fnM,h]
def zDV{rs:List Int}(h:Row rs):jk [.v (YM rs)]=.ok (.own (jg 0 (rle rs)),[.e]):=by
 have e0:=zBC h;have h20:=h.1;obtain⟨s3,h3,e1⟩:=zDU h;have a1:dS zj (.sDrop (.call 0 (.ev (.var 0) .nil))) [.v (YM rs),.e,.e,.e]=.ok (.nx,[.v (YM rs),.e,.e,.e]):=by
  simp[zj,fnM,JW,jI,jU,Yy,wV,jH,Jt,WT,JV,zCo,wI,GO,YC,Yx,GP,YD,zA4,QK,yX,wc,yo,WS,W2,JU,YU,sRet,sIf,Wy,Gv,sSet,Yg,R.slot,uy,eOr,Gq,yp,zh,vL,eC,zI,fiF,fiX,R.d,zJ,jR,Cp.b,Cp.f,Op2.f,Bi.f,Ty.s,jX,jW,jm,jn,jo,vk,wu,JJ,tT,Jo,eCB,JK,Gr,Gs,Gu,ZF,Wu,Tg.m,eqG,eqF,neG,neF,QC,ZR,ZP,sDrop,e0]
 have a2:dS zj (.sSet 1 (.l .nil)) [.v (YM rs),.e,.e,.e]=.ok (.nx,[.v (YM rs),.own [],.e,.e]):=by
  simp[zj,fnM,JW,jI,jU,Yy,wV,jH,Jt,WT,JV,zCo,wI,GO,YC,Yx,GP,YD,zA4,QK,yX,wc,yo,WS,W2,JU,YU,sRet,sIf,Wy,Gv,sSet,Yg,R.slot,uy,eOr,Gq,yp,zh,vL,eC,zI,fiF,fiX,R.d,zJ,jR,Cp.b,Cp.f,Op2.f,Bi.f,Ty.s,jX,jW,jm,jn,jo,vk,wu,JJ,tT,Jo,eCB,JK,Gr,Gs,Gu,ZF,Wu,Tg.m,eqG,eqF,neG,neF,QC,ZR,ZP,cap]
 have a3:dS zj (.sSet 2 (.c (.int 0))) [.v (YM rs),.own [],.e,.e]=.ok (.nx,[.v (YM rs),.own [],.v (.int 0),.e]):=by
  simp[zj,fnM,JW,jI,jU,Yy,wV,jH,Jt,WT,JV,zCo,wI,GO,YC,Yx,GP,YD,zA4,QK,yX,wc,yo,WS,W2,JU,YU,sRet,sIf,Wy,Gv,sSet,Yg,R.slot,uy,eOr,Gq,yp,zh,vL,eC,zI,fiF,fiX,R.d,zJ,jR,Cp.b,Cp.f,Op2.f,Bi.f,Ty.s,jX,jW,jm,jn,jo,vk,wu,JJ,tT,Jo,eCB,JK,Gr,Gs,Gu,ZF,Wu,Tg.m,eqG,eqF,neG,neF,QC,ZR,ZP]
 have a4:dS zj (.sForR2 (.cons (.c (.int 1)) (.cons (.bin .add (.cB .len (.cons (.var 0) .nil)) (.c (.int 1))) .nil)) (.n 3) Zo) [.v (YM rs),.own [],.v (.int 0),.e]=.ok (.nx,[.v (YM rs),.own (jg 0 (rle rs)),.v (.int rs.length),s3]):=by
  have e:Wt (.int ((rs.map D.int).length:Nat)) (.int 1)=some (.v (.int ((rs.length:Int)+1))):=by rw[length_map];rfl
  refine s_forR2 (zB x_c (zB (zo (Wi (zB (zA rfl) zO) rfl) x_c e) zO)) rfl rfl (by omega) (by omega) ?_;rw[show((rs.length:Int)+1-1).toNat=rs.length by omega];exact e1
 have a5:dS zj (.sRet (.mov 1)) [.v (YM rs),.own (jg 0 (rle rs)),.v (.int rs.length),s3]=.ok (.ret (.own (jg 0 (rle rs))),[.v (YM rs),.e,.v (.int rs.length),s3]):=by
  simp[zj,fnM,JW,jI,jU,Yy,wV,jH,Jt,WT,JV,zCo,wI,GO,YC,Yx,GP,YD,zA4,QK,yX,wc,yo,WS,W2,JU,YU,sRet,sIf,Wy,Gv,sSet,Yg,R.slot,uy,eOr,Gq,yp,zh,vL,eC,zI,fiF,fiX,R.d,zJ,jR,Cp.b,Cp.f,Op2.f,Bi.f,Ty.s,jX,jW,jm,jn,jo,vk,wu,JJ,tT,Jo,eCB,JK,Gr,Gs,Gu,ZF,Wu,Tg.m,eqG,eqF,neG,neF,QC,ZR,ZP,zAu]
 unfold jk;refine(fn_ret (r:=.own (jg 0 (rle rs))) (E':=[.v (YM rs),.e,.v (.int rs.length),s3]) ?_).trans rfl;show dB zj (.bSeq _ (.bSeq _ (.bSeq _ (.bSeq _ (.bOne _))))) [.v (YM rs),.e,.e,.e]=_;exact(zAZ a1).trans ((zAZ a2).trans ((zAZ a3).trans ((zAZ a4).trans (one_ok.trans a5))))
abbrev T3:=Int×Nat×Nat
def tD(t:T3):D:=.t [.int t.1,.int t.2.1,.int t.2.2]
def fg(t:T3):B:=(t.1,t.2.2)
def uQ:Nat->List B->List T3
 |_,[]=>[]|b,(s,n)::r=>(s,b,n)::uQ (b+n) r
theorem zAa:∀(q:List B) (b:Nat),jg b q=(uQ b q).map tD
 | [],_=>rfl| (s,n)::q,b=>by simp only[jg,uQ,map_cons,zAa q];rfl
theorem zAb:∀(q:List B) (b:Nat),(uQ b q).map fg=q
 | [],_=>rfl| (s,n)::q,b=>by simp only[uQ,map_cons,zAb q];rfl
theorem ZY:∀(q:List B) (b:Nat),(uQ b q).length=q.length
 | [],_=>rfl| (s,n)::q,b=>by simp[uQ,ZY q]
def ln3:D->D
 | .t [_,_,c]=>c|_=>.non
def pat3:D->List DV.Slot
 | .t [a,b,c]=>[.v a,.v b,.v c]|_=>[]
def ZL(l:List T3)(hl:l.length<=1000):yK [.v (.l (l.map tD))]=.ok (.v (.int (RM.top (l.map λt=>t.2.2):Nat)),[.e]):=by
 have hc:=zAM (vs:=[]) (nl:=3) (caps:=[]) (tg:=gT [0,1,2]) (tt:=jj) (el:=vL 2) pat3 (λ_=>true) ln3 (l.map tD)
  (λd hd S hS hn=>by obtain⟨t,_,rfl⟩:=mem_map.mp hd;exact gT_ok3 hS hn)
  (λd hd=>by obtain⟨t,_,rfl⟩:=mem_map.mp hd;exact⟨rfl,λs hs=>by simp[pat3,tD]at hs;rcases hs with rfl|rfl|rfl<;>rfl⟩)
  (λd hd=>rfl)
  (λd hd _=>by obtain⟨t,_,rfl⟩:=mem_map.mp hd;exact⟨.v (.int t.2.2),rfl,rfl⟩)
  (by simp[cap];omega) (mi:=iL (vL 0)) (E:=[.v (.l (l.map tD))]) (E1:=[.v (.l (l.map tD))]) rfl rfl
 have e2:((l.map tD).filter (λ_=>true)).map ln3=(l.map λt=>((t.2.2:Nat):Int)).map D.int:=by
  rw[filter_eq_self.mpr (λ_ _=>rfl),map_map,map_map];rfl
 rw[e2]at hc;have e3:=zDF (l.map λt=>t.2.2);rw[map_map]at e3;have e4:(l.map λt=>((t.2.2:Nat):Int))=l.map ((λ(n:Nat)=>(n:Int)) ∘ λt=>t.2.2):=rfl;rw[e4]at hc;have e5:w6 ((l.map ((λ(n:Nat)=>(n:Int)) ∘ λt=>t.2.2)).map D.int)=some _:=Gh _;generalize hg:(l.map ((λ(n:Nat)=>(n:Int)) ∘ λt=>t.2.2))=g at hc e3 e5;simp[yK,jZ,wK,fnM,jI,jH,zCo,wI,YD,zCp,rE_maxd,zAH,rI_iL,sRet,sIf,Wy,Gv,sSet,Yg,R.slot,uy,eOr,Gq,yp,zh,vL,eC,zI,fiF,fiX,R.d,zJ,jR,Cp.b,Cp.f,Op2.f,Bi.f,Ty.s,jX,jW,jm,jn,jo,vk,wu,JJ,tT,Jo,eCB,JK,Gr,Gs,Gu,ZF,Wu,Tg.m,eqG,eqF,neG,neF,QC,ZR,ZP,hc,zA0,e5,e3]
def all3(l:List T3):l.map (λt=>t.2.2)=(l.map fg).map (·.2):=by rw[map_map];rfl
def few3(rs:List Int)(h:Row rs):(uQ 0 (rle rs)).length<=20:=by
 rw[ZY];have:=zDS rs;have:=h.1;omega
def zFh(ds:List D)(i:Int):ixD (.t ds) (.int i)=(atI ds i).map .v:=rfl
end My
namespace My
open PySem L2 DV SM
def sub_m{m:Nat}(hm:2<=m/\m<=3):Qt (.int (m:Int)) (.int 1)=some (.v (.int ((m-1:Nat):Int))):=Wn (b:=1) (by omega)
def mb(m:Nat):Nat->List Nat
 |0=>[0,m]|i+1=>zipWith (·+·) (mb m i++[0]) (0::(mb m i).map ((m-1)*·))
def Jl{a b c:D}:[a,b,c].length<=cap:=by simp only[length_cons,length_nil,cap];omega
def can(s k left:Nat)(r:List Nat):Bool:=decide ((stt s r).1=k)||(decide ((stt s r).1<k)&&decide (k<=(stt s r).2+left))
def Lt(m s n k t:Nat):List (List Nat):=(wB m t).filter λr=>decide (t=0)||can s k (n-t) r
def jz(m t:Nat):wB m (t+1)=(wB m t).flatMap (more m):=by first|rfl|simp[wB,more]
end My
namespace My
open PySem L2 DV SM RM
abbrev In(r:List Nat):List Int:=r.map λn:Nat=>(n:Int)
def uR(c:Nat):RM.top [c]=c:=by simp[RM.top]
def hdD:D->D
 | .t [a,_,_]=>a|d=>d
def zFM{n i:Nat}{d:D}(h:(yt n)[i]?=some d):i<n/\d=.int ((n-(i+1):Nat):Int):=by
 simp only[yt,getElem?_map,Option.map_eq_some_iff]at h;obtain⟨j,h1,h2⟩:=h;obtain⟨h3,h4⟩:=qG.mp h1;simp at h3 h4;subst h4;refine⟨h3,?_⟩;rw[<- h2];congr 1;omega
end My
namespace My
open PySem L2 DV SM
section
variable{m:Nat}(hm:2<=m/\m<=3)
include hm
end
end My
namespace My
open PySem L2 DV SM RM
structure Es where
 b:Nat
 e:Nat
 l:Option Nat
def ste(p:Es)(x:Nat):Es:=let e:=if p.l=some x then p.e+1 else 1;⟨max p.b e,e,some x⟩
def est(r:List Nat):Es:=r.foldl ste ⟨0,0,none⟩
abbrev bst(r:List Nat):Nat:=(est r).b
abbrev en(r:List Nat):Nat:=(est r).e
def ZM(r:List Nat)(x:Nat):est (r++[x])=ste (est r) x:=by simp[est,List.foldl_append]
def zDW(r:List Nat)(x:Nat):(est (r++[x])).l=some x:=by rw[ZM];rfl
theorem JE:∀(n:Nat) (r:List Nat),r.length=n->RM.top ((rle (In r)).map (·.2))=bst r/\((r=[]/\en r=0/\(est r).l=none)\/∃(q:List B) (x:Nat),rle (In r)=q++[((x:Int),en r)]/\(est r).l=some x/\1<=en r)
 |0,r,h=>by
  have:=length_eq_zero_iff.mp h;subst this;exact⟨rfl,.inl ⟨rfl,rfl,rfl⟩⟩
 |n+1,r,h=>by
  obtain⟨r',x,rfl⟩:∃r' x,r=r'++[x]:=by
   have hne:r≠[]:=by intro z;subst z;cases h
   exact⟨r.dropLast,r.getLast hne,(List.dropLast_concat_getLast hne).symm⟩
  have hl:r'.length=n:=by simpa using h
  obtain⟨ih1,ih2⟩:=JE n r' hl;have e0:In (r'++[x])=In r'++[(x:Int)]:=by simp[In]
  have eb:bst (r'++[x])=max (bst r') (en (r'++[x])):=by show(est _).b=max _ (est _).e;rw[ZM];rfl
  have ee:en (r'++[x])=if(est r').l=some x then en r'+1 else 1:=by show(est _).e=_;rw[ZM];rfl
  rw[e0,zAQ,eb];rcases ih2 with⟨rfl,z1,z2⟩|⟨q,y,hq,hy,h1⟩
  ·have e1:JM (rle (In [])) (x:Int)=[]++[((x:Int),1)]:=rfl
   have e2:en ([]++[x])=1:=rfl;rw[e1,e2];exact⟨rfl,.inr ⟨[],x,rfl,zDW [] x,le_refl _⟩⟩
  ·rw[hq,zFF]
   rw[hq,map_append,map_cons,map_nil,Jv,uR]at ih1;by_cases hyx:y=x
   ·subst hyx
    rw[if_pos rfl];have e2:en (r'++[y])=en r'+1:=by rw[ee,if_pos hy]
    rw[e2];refine⟨?_,.inr ⟨q,y,rfl,zDW r' y,by omega⟩⟩;rw[map_append,map_cons,map_nil,Jv,uR];simp only at ih1 ⊢;omega
   ·have hne:¬(y:Int)=(x:Int):=by omega
    rw[if_neg hne];have e2:en (r'++[x])=1:=by rw[ee,if_neg (by rw[hy];simp[hyx])]
    rw[e2];refine⟨?_,.inr ⟨q++[((y:Int),en r')],x,by simp,zDW r' x,le_refl _⟩⟩;have:q++[((y:Int),en r'),((x:Int),1)]=(q++[((y:Int),en r')])++[((x:Int),1)]:=by simp
    rw[this,map_append,map_append,map_cons,map_nil,map_cons,map_nil,Jv,Jv,uR,uR];simp only at ih1 ⊢;omega
def zFN:∀r:List Nat,en r<=bst r:=by
 intro r;rcases(List.eq_nil_or_concat r)with rfl|⟨r',x,rfl⟩
 ·exact le_refl _
 ·rw[List.concat_eq_append]
  show(est _).e<=(est _).b
  rw[ZM];exact Nat.le_max_right _ _
def Qc(r:List Nat)(x:Nat):bst (r++[x])=max (bst r) (en (r++[x])):=by show(est _).b=max _ (est _).e;rw[ZM];rfl
def zDX(r:List Nat)(x:Nat):en (r++[x])=if(est r).l=some x then en r+1 else 1:=by show(est _).e=_;rw[ZM];rfl
def fr(k:Nat)(r:List Nat):Bool:=decide (bst r<k)
def cv(m k:Nat)(row:List Nat)(l j:Nat):Nat:=((wB m l).filter λt=>fr k (row++t)&&decide (en (row++t)=j)).length
def vec(m k:Nat)(row:List Nat)(l:Nat):List Nat:=(List.range (k-1)).map λj=>cv m k row l (j+1)
theorem ZZ(m:Nat)(p:List Nat->Bool):∀L:List (List Nat),((L.flatMap (more m)).filter p).length=(L.map λr=>((List.range m).filter λx=>p (r++[x])).length).sum
 | []=>rfl
 |r::L=>by
  rw[flatMap_cons,filter_append,length_append,ZZ m p L,map_cons,sum_cons];congr 1;simp only[more,filter_map,length_map];rfl
theorem zDY(p:List Nat->Bool)(c:Nat):∀L:List (List Nat),(L.map λr=>if p r=true then c else 0).sum=c*(L.filter p).length
 | []=>by simp
 |r::L=>by
  rw[map_cons,sum_cons,zDY p c L,filter_cons];cases p r<;>simp[Nat.mul_add];omega
theorem zAc{α:Type}(p:α->Bool):∀l:List α,(l.filter p).length+(l.filter λx=>!p x).length=l.length
 | []=>rfl
 |a::l=>by
  have:=zAc p l;rw[filter_cons,filter_cons];cases p a<;>simp<;>omega
def others(m y:Nat)(hy:y<m):((List.range m).filter λx=>decide (y≠x)).length=m-1/\((List.range m).filter λx=>decide (y=x)).length=1:=by
 have a:((List.range m).filter λx=>decide (y=x)).length=1:=by
  have:(List.range m).filter (λx=>decide (y=x))=[y]:=by
   refine List.Perm.eq_of_pairwise (le:=(·<·)) (λa b _ _ h1 h2=>absurd (lt_trans h1 h2) (lt_irrefl _)) (List.pairwise_lt_range.filter _) (List.pairwise_singleton _ _) ?_;rw[List.perm_ext_iff_of_nodup (List.nodup_range.filter _) (by simp)];intro z;simp only[mem_filter,mem_range,decide_eq_true_eq,mem_singleton];constructor
   ·rintro ⟨_,rfl⟩;rfl
   ·rintro rfl;exact⟨hy,rfl⟩
  rw[this];rfl
 refine⟨?_,a⟩;have:=zAc (λx=>decide (y=x)) (List.range m);rw[a,length_range]at this;have e:(List.range m).filter (λx=>!decide (y=x))=(List.range m).filter λx=>decide (y≠x):=by
  congr 1;funext x;simp
 rw[e]at this;omega
def zDZ{m k:Nat}(hk:2<=k){row:List Nat}(hrow:∀x∈row,x<m){l:Nat}(hne:row≠[]\/1<=l)(j:Nat):cv m k row (l+1) (j+1)=if j=0 then(m-1)*((wB m l).filter λt=>fr k (row++t)).length else if j+1<k then cv m k row l j else 0:=by
 unfold cv;rw[jz,ZZ];have key:∀t∈wB m l,((List.range m).filter λx=>fr k (row++(t++[x]))&&decide (en (row++(t++[x]))=j+1)).length=if j=0 then(if fr k (row++t)=true then m-1 else 0)else if j+1<k then(if(fr k (row++t)&&decide (en (row++t)=j))=true then 1 else 0)else 0:=by
  intro t ht;obtain⟨_,hl⟩:=JE _ (row++t) rfl;have hnn:row++t≠[]:=by
   rcases hne with h|h
   ·intro z;exact h (List.append_eq_nil_iff.mp z).1
   ·intro z
    have:=Jk m l t ht;rw[(List.append_eq_nil_iff.mp z).2]at this;simp at this;omega
  obtain⟨q,y,_,hy,h1⟩:=hl.resolve_left λz=>hnn z.1
  have hym:y<m:=by
   rcases(List.eq_nil_or_concat (row++t))with z|⟨u,z,e⟩
   ·exact absurd z hnn
   ·rw[List.concat_eq_append]at e
    have:=zDW u z;rw[<- e,hy]at this;cases this;have:y∈row++t:=by rw[e];simp
    rcases mem_append.mp this with h|h
    ·exact hrow y h
    ·exact uP m l t ht y h
  obtain⟨o1,o2⟩:=others m y hym;have ex:∀x,(fr k (row++(t++[x]))&&decide (en (row++(t++[x]))=j+1))=(fr k (row++t)&&(if y=x then decide (en (row++t)=j)&&decide (j+1<k)else decide (j=0))):=by
   intro x;rw[<- append_assoc];have e1:=Qc (row++t) x;have e2:=zDX (row++t) x;rw[hy]at e2;have e3:=zFN (row++t);unfold fr;rw[e1,e2,Bool.eq_iff_iff];by_cases hyx:y=x
   ·subst hyx
    simp only[if_true,Bool.and_eq_true,decide_eq_true_eq];omega
   ·have:¬some y=some x:=by simpa using hyx
    rw[if_neg this,if_neg hyx];simp only[Bool.and_eq_true,decide_eq_true_eq];omega
  have ef:(List.range m).filter (λx=>fr k (row++(t++[x]))&&decide (en (row++(t++[x]))=j+1))=(List.range m).filter λx=>fr k (row++t)&&(if y=x then decide (en (row++t)=j)&&decide (j+1<k)else decide (j=0)):=by
   congr 1;funext x;exact ex x
  rw[ef];cases hf:fr k (row++t)with
  |false=>simp
  |true =>
   simp only[Bool.true_and];by_cases hj:j=0
   ·subst hj
    have hz:decide (en (row++t)=0)=false:=decide_eq_false (by omega);have:(List.range m).filter (λx=>if y=x then decide (en (row++t)=0)&&decide (0+1<k)else decide (0=0))=(List.range m).filter λx=>decide (y≠x):=by
     congr 1;funext x;by_cases h:y=x<;>simp[h,hz]
    rw[this,o1];simp
   ·rw[if_neg hj]
    have:(List.range m).filter (λx=>if y=x then decide (en (row++t)=j)&&decide (j+1<k)else decide (j=0))=(List.range m).filter λx=>(decide (en (row++t)=j)&&decide (j+1<k))&&decide (y=x):=by
     congr 1;funext x;by_cases h:y=x<;>simp[h,hj]
    rw[this];by_cases hjk:j+1<k
    ·rw[if_pos hjk,decide_eq_true hjk]
     by_cases he:en (row++t)=j
     ·simp only[decide_eq_true he,Bool.and_self,Bool.true_and,if_true];exact o2
     ·simp only[decide_eq_false he,Bool.false_and,Bool.and_false,Bool.false_eq_true,if_false];simp
    ·rw[if_neg hjk,decide_eq_false hjk];simp
 rw[map_congr_left key];by_cases hj:j=0
 ·subst hj
  simp only[if_true];exact zDY _ _ _
 ·simp only[if_neg hj]
  by_cases hjk:j+1<k
  ·simp only[if_pos hjk]
   rw[zDY];omega
  ·simp only[if_neg hjk]
   have:∀L:List (List Nat),(L.map λ_=>0).sum=0:=λL=>by induction L<;>simp_all
   exact this _
def wy(m k:Nat)(row:List Nat)(l:Nat):Nat:=((wB m l).filter λt=>fr k (row++t)).length
def zAd(r:List Nat):∀t:List Nat,bst r<=bst (r++t):=by
 intro t
 induction t generalizing r with
 |nil=>simp
 |cons x t ih =>
  have:=ih (r++[x]);rw[append_assoc]at this;have h:=Qc r x;simp only[List.singleton_append]at this;omega
def wy_no{m k:Nat}{row:List Nat}(h:k<=bst row)(l:Nat):wy m k row l=0:=by
 unfold wy;rw[length_eq_zero_iff,List.filter_eq_nil_iff];intro t _;have:=zAd row t;simp only[fr,decide_eq_true_eq];omega
theorem zGV{α:Type}(p:α->Bool)(f:α->Nat)(s:Nat):∀L:List α,(∀x∈L,p x=true->1<=f x/\f x<=s)->((List.range s).map λj=>(L.filter λx=>p x&&decide (f x=j+1)).length).sum=(L.filter p).length
 | [],_=>by
  have:∀n,((List.range n).map λ_=>0).sum=0:=λn=>by induction n<;>simp_all [range_succ]
  simpa using this s
 |a::L,h=>by
  have ih:=zGV p f s L λx hx=>h x (qD _ hx)
  have one:∀s,((List.range s).map λj=>if p a&&decide (f a=j+1)then 1 else 0).sum=if p a=true/\1<=f a/\f a<=s then 1 else 0:=by
   intro s
   induction s with
   |zero=>simp;omega
   |succ s ihs =>
    rw[range_succ,map_append,sum_append,ihs];cases hp:p a
    ·simp
    ·simp only[map_cons,map_nil,sum_cons,List.sum_nil,Bool.true_and,decide_eq_true_eq,true_and]
     by_cases e:f a=s+1
     ·rw[if_neg (by omega),if_pos e,if_pos (by omega)];rfl
     ·rw[if_neg e]
      by_cases e2:1<=f a/\f a<=s
      ·rw[if_pos e2,if_pos (by omega)];rfl
      ·rw[if_neg e2,if_neg (by omega)];rfl
  have add:∀s,((List.range s).map λj=>((a::L).filter λx=>p x&&decide (f x=j+1)).length).sum=((List.range s).map λj=>if p a&&decide (f a=j+1)then 1 else 0).sum+((List.range s).map λj=>(L.filter λx=>p x&&decide (f x=j+1)).length).sum:=by
   intro s
   induction s with
   |zero=>rfl
   |succ s ihs =>
    rw[range_succ,map_append,map_append,map_append,sum_append,sum_append,sum_append,ihs];simp only[map_cons,map_nil,sum_cons,List.sum_nil];rw[filter_cons];cases p a&&decide (f a=s+1)<;>simp<;>omega
  rw[add s,one s,ih,filter_cons];cases hp:p a
  ·simp
  ·have:=h a qE hp
   rw[if_pos ⟨rfl,this⟩];simp;omega
def uS{m k:Nat}(hk:2<=k){row:List Nat}{l:Nat}(hne:row≠[]\/1<=l):(vec m k row l).sum=wy m k row l:=by
 unfold vec wy cv;refine zGV (λt=>fr k (row++t)) (λt=>en (row++t)) (k-1) (wB m l) λt ht hf=>?_
 have h1:=zFN (row++t);simp only[fr,decide_eq_true_eq]at hf;obtain⟨_,hl⟩:=JE _ (row++t) rfl;have hnn:row++t≠[]:=by
  rcases hne with h|h
  ·intro z;exact h (List.append_eq_nil_iff.mp z).1
  ·intro z
   have:=Jk m l t ht;rw[(List.append_eq_nil_iff.mp z).2]at this;simp at this;omega
 obtain⟨q,y,_,_,h2⟩:=hl.resolve_left λz=>hnn z.1
 exact⟨h2,by omega⟩
def stv(m:Nat)(v:List Nat):List Nat:=((m-1)*v.sum)::v.dropLast
def uT{m k:Nat}(hk:2<=k){row:List Nat}(hrow:∀x∈row,x<m){l:Nat}(hne:row≠[]\/1<=l):vec m k row (l+1)=stv m (vec m k row l):=by
 obtain⟨s,rfl⟩:∃s,k=s+2:=⟨k-2,by omega⟩;unfold stv;rw[uS hk hne];unfold vec;rw[show s+2-1=s+1 by omega];have e1:((List.range (s+1)).map λj=>cv m (s+2) row l (j+1)).dropLast=(List.range s).map λj=>cv m (s+2) row l (j+1):=by
  rw[range_succ,map_append];simp
 rw[e1,List.range_succ_eq_map,map_cons,map_map];congr 1
 ·rw[zDZ hk hrow hne 0,if_pos rfl];rfl
 ·refine map_congr_left λj hj=>?_
  have hj':j<s:=by simpa using hj
  show cv m (s+2) row (l+1) (j+1+1)=_
  rw[zDZ hk hrow hne (j+1),if_neg (by omega),if_pos (by omega)]
def itv(m:Nat)(v:List Nat):Nat->List Nat
 |0=>v|l+1=>stv m (itv m v l)
theorem zGW{m k:Nat}(hk:2<=k){row:List Nat}(hrow:∀x∈row,x<m)(hne:row≠[]):∀l,vec m k row l=itv m (vec m k row 0) l
 |0=>rfl|l+1=>by rw[uT hk hrow (.inl hne),zGW hk hrow hne l];rfl
def vec0{m k:Nat}{row:List Nat}(hf:fr k row=true)(he:1<=en row):vec m k row 0=(replicate (k-1) 0).set (en row-1) 1:=by
 unfold vec;apply List.ext_getElem
 ·simp
 ·intro i h1 h2
  simp only[length_map,length_range]at h1;rw[List.getElem_map,List.getElem_range,List.getElem_set,List.getElem_replicate];have e:cv m k row 0 (i+1)=if en row=i+1 then 1 else 0:=by
   unfold cv;have:(fr k (row++[])&&decide (en (row++[])=i+1))=decide (en row=i+1):=by rw[append_nil,hf,Bool.true_and]
   show(([[]]:List (List Nat)).filter _).length=_
   rw[filter_cons,this];by_cases h:en row=i+1<;>simp[h]
  rw[e];by_cases h:en row=i+1
  ·rw[if_pos h,if_pos (by omega)]
  ·rw[if_neg h,if_neg (by omega)]
theorem vecE{m k:Nat}(hm:1<=m)(hk:2<=k):∀i,vec m k [] (i+1)=(zBL 1 (m-1) (k-2) i).map (m*·)
 |0=>by
  unfold vec;obtain⟨s,rfl⟩:∃s,k=s+2:=⟨k-2,by omega⟩;have e:∀j,cv m (s+2) [] 1 (j+1)=if j=0 then m else 0:=by
   intro j;unfold cv;have r1:wB m 1=(List.range m).map λx=>[x]:=by simp[wB]
   rw[r1,filter_map,length_map];by_cases hj:j=0
   ·subst hj
    rw[if_pos rfl,filter_eq_self.mpr,length_range];intro x _;show(decide (1<s+2)&&decide (1=0+1))=true;simp
   ·rw[if_neg hj,length_eq_zero_iff,List.filter_eq_nil_iff]
    intro x _;show ¬(decide (1<s+2)&&decide (1=j+1))=true;simp;omega
  have:(List.range (s+2-1)).map (λj=>cv m (s+2) [] 1 (j+1))=(List.range (s+1)).map λj=>if j=0 then m else 0:=map_congr_left λj _=>e j
  rw[this,List.range_succ_eq_map,map_cons,map_map];show m::_=m*1::_;rw[Nat.mul_one];congr 1;simp[Function.comp_def,List.map_const',List.map_replicate]
 |i+1=>by
  rw[uT hk (λx h=>by cases h) (.inr (by omega)),vecE hm hk i];unfold stv;have e1:zBL 1 (m-1) (k-2) (i+1)=((m-1)*(zBL 1 (m-1) (k-2) i).sum)::((zBL 1 (m-1) (k-2) i).dropLast.map (1*·)):=rfl;rw[e1,QX,map_cons,map_map];congr 1
  ·rw[Nat.mul_left_comm]
  ·rw[<- List.map_dropLast]
   refine map_congr_left λx _=>?_
   show m*x=m*(1*x)
   rw[Nat.one_mul]
def wy_A{m k:Nat}(hm:1<=m)(hk:1<=k)(l:Nat):wy m k [] l=A (replicate m 1) l (k-1):=by
 rw[zGT m l (k-1) hm];by_cases hl:l=0
 ·subst hl
  rw[if_pos rfl];unfold wy;show(([[]]:List (List Nat)).filter _).length=1;have:fr k ([]++[])=true:=decide_eq_true (by show 0<k;omega);rw[filter_cons,this];rfl
 ·rw[if_neg hl]
  by_cases hk1:k-1=0
  ·rw[if_pos hk1]
   unfold wy;rw[length_eq_zero_iff,List.filter_eq_nil_iff];intro t ht;have hn:=Jk m l t ht;obtain⟨_,hl'⟩:=JE _ t rfl;obtain⟨q,y,_,_,h2⟩:=hl'.resolve_left λz=>by rw[z.1]at hn;simp at hn;omega
   have:=zFN t;simp only[fr,nil_append,decide_eq_true_eq];omega
  ·rw[if_neg hk1,<- uS (by omega) (.inr (by omega))]
   obtain⟨i,rfl⟩:∃i,l=i+1:=⟨l-1,by omega⟩;rw[vecE hm (by omega) i,QX,show k-1-1=k-2 by omega];rfl
abbrev tN(l:List Nat):D:=.t (N l)
def rowIn(r:List Nat):YM (In r)=tN r:=by simp[YM,In,N]
def zGX{m:Nat}(hm:m<=3){r:List Nat}(hl:r.length<=20)(hr:∀x∈r,x<m):Row (In r):=⟨by simpa[In]using hl,λx hx=>by
 obtain⟨n,hn,rfl⟩:=mem_map.mp hx;have:=hr n hn;omega⟩
def zGY{m:Nat}(hm:m<=3){r:List Nat}(hl:r.length<=20)(hr:∀x∈r,x<m):jk [.v (tN r)]=.ok (.own (jg 0 (rle (In r))),[.e]):=by
 have:=zDV (zGX hm hl hr);rw[rowIn]at this;exact this
def Gm{m:Nat}(hm:m<=3){r:List Nat}(hl:r.length<=20)(hr:∀x∈r,x<m):yl [.v (tN r)]=.ok (.v (.int ((bst r:Nat):Int)),O1):=by
 have e:=zGY hm hl hr;rw[zAa]at e;have g:=ZL (uQ 0 (rle (In r))) (by have:=few3 (In r) (zGX hm hl hr);omega);rw[all3,zAb,(JE _ r rfl).1]at g;exact je (zV (jx (jM (F:=yK) rfl (jM (F:=jk) rfl (zA rfl) e) g))) rfl
def e_last{m:Nat}(hm:m<=3){r:List Nat}(hne:r≠[]):∃pre x b,jg 0 (rle (In r))=pre++[.t [x,b,.int ((en r:Nat):Int)]]:=by
 obtain⟨q,x,e,_,_⟩:=(JE _ r rfl).2.resolve_left λz=>hne z.1
 rw[e,Wp];exact⟨_,_,_,rfl⟩
def stv_len(m:Nat)(v:List Nat)(h:0<v.length):(stv m v).length=v.length:=by simp[stv];omega
theorem Qd(m:Nat)(v:List Nat)(h:0<v.length):∀l,(itv m v l).length=v.length
 |0=>rfl
 |l+1=>by
  show(stv m (itv m v l)).length=_
  rw[stv_len m _ (by rw[Qd m v h l];exact h),Qd m v h l]
def zGZ(a b:Nat):geD (.int (a:Int)) (.int (b:Int))=some (.v (.bl (decide (b<=a)))):=by
 show some (R.v (D.bl (decide ((b:Int)<=(a:Int)))))=_
 congr 3
 exact decide_eq_decide.mpr (by omega)
def uU(l:List Nat)(j x:Nat):(N l).set j (.int (x:Nat))=N (l.set j x):=by simp[N,List.map_set]
def Wq{fs:List FI}{E E1 E2:zN}{i:Nat}{b v:_}{k:Nat}{ds:List D}{r:R}(hE:E[i]?=some (.own ds))(h1:dE fs b E1=.ok (.v (.int (k:Nat)),E1))(hk:k<ds.length)(h2:dE fs v E=.ok (r,E1))(hE1:E1[i]?=some (.own ds))(h3:E1.set i (.own (ds.set k r.d))=E2):dS fs (.sIx i b v) E=.ok (.nx,E2):=by
 subst h3;have ix:ixN ds.length (k:Int)=some k:=by
  have:(k:Int)<(ds.length:Nat):=by omega
  unfold ixN;rw[if_pos (by omega)];simp[this]
 simp only[zCr,DV.ZQ,hE,Yr,Bool.false_eq_true,if_false,h2,h1,hE1,Slot.list?,ix,Slot.put]
def Qe(l:List Nat):∀d∈N l,eqb 19 d=true:=λd hd=>by
 obtain⟨n,_,rfl⟩:=zA8 hd;rfl
def eq_tups{a b:List D}(h1:∀d∈a,eqb 19 d=true)(h2:∀d∈b,eqb 19 d=true):eqG (.t a) (.t b)=some (.v (.bl (deqs a b))):=by
 have e1:eqb 20 (.t a)=true:=all_eq_true.mpr h1;have e2:eqb 20 (.t b)=true:=all_eq_true.mpr h2;simp only[eqG,eqF,zF0,e1,e2,deq,Bool.and_self,if_true,and_self,Bool.false_eq_true,if_false]
def IWy_ok{m k l:Nat}(hm:2<=m/\m<=3){v:List Nat}(hv:1<=v.length/\v.length<=20)(a1 a2 a3:DV.Slot):∃s4 s5,DV.JN (gN 5) (dB Ju YX) (DV.zF 0 l) [qI m,a1,a2,a3,.own (N v),.e]=.ok (.nx,[qI m,a1,a2,a3,s4,s5])/\(s4=.own (N (itv m v l))\/s4=.v (.l (N (itv m v l)))):=by
 obtain⟨E1,f,s4,s5,rfl,h4,_⟩:=yS (tg:=gN 5) (body:=dB Ju YX) (λi E=>∃s4 s5,E=[qI m,a1,a2,a3,s4,s5]/\(s4=.own (N (itv m v i))\/s4=.v (.l (N (itv m v i))))/\yE s5=true) (DV.zF 0 l) 0 [qI m,a1,a2,a3,.own (N v),.e] ⟨_,_,rfl,.inl rfl,rfl⟩ (λi d q E ⟨s4,s5,hE,h4,h5⟩=>by
  rw[zero_add]at h4 ⊢;have hl:=Qd m v (by omega) i;have ms:=Wo (m-1) (itv m v i).sum (by omega);have cn:=cut_N (itv m v i) (by omega);have ad:=Wl [D.int (((m-1)*(itv m v i).sum:Nat):Int)] (N (itv m v i).dropLast) (by rw[JD];simp;omega);refine⟨[qI m,a1,a2,a3,s4,.v d],[qI m,a1,a2,a3,.own (N (itv m v (i+1))),.v d],?_,?_,_,_,rfl,.inl rfl,rfl⟩
  ·subst hE;cases s5<;>first|rfl|(cases h5)
  ·exact zV (yU (zo (wA (zB (zo (zo (zA rfl) x_c (sub_m hm)) (Wi (zB (zGO h4 rfl rfl) zO) (Gi _)) ms) zO) rfl yC) (x_sl (zA rfl) o_N (o_S (zA7 x_c)) cn) ad) rfl))
 rw[jJ,zero_add]at h4;exact⟨s4,s5,f,h4⟩
def zDa{m k l:Nat}(hm:2<=m/\m<=3)(hk:1<=k/\k<=20)(hl:l<=20){r:List Nat}(hrl:r.length<=20)(hr:∀x∈r,x<m):j7 [qI m,qI k,.v (tN r),qI l]=.ok (.v (.int ((wy m k r l:Nat):Int)),O4):=by
 have el:=Gm hm.2 hrl hr;have t1:∀b,decide (k<=bst r)=b->dT Ju (.tE (.cmp .ge (.call 2 (.ev (.var 2) .nil)) (.var 1))) [qI m,qI k,.v (tN r),qI l,.e,.e]=.ok (b,[qI m,qI k,.v (tN r),qI l,.e,.e]):=λb hb=>by
  subst hb;exact t_E (zp (jM (F:=yl) rfl (zA rfl) el) (zA rfl) (zGZ _ _))
 by_cases hb:k<=bst r
 ·rw[wy_no hb]
  exact je (W8 (wf (t1 true (decide_eq_true hb)) (zV (jx x_c)))) rfl
 ·have t1:=t1 false (decide_eq_false hb)
  have eq:=eq_tups (a:=N r) (b:=[]) (Qe r) (λd h=>by cases h);have sk:Qt (.int (k:Int)) (.int 1)=some (.v (.int ((k-1:Nat):Int))):=Wn (b:=1) (by omega);cases r with
  |nil =>
   have ea:=uN (ws:=replicate m 1) (n:=l) (k:=k-1) (λw hw=>by rw[(List.mem_replicate.mp hw).2];omega) (by simp;omega) (by omega) (by omega);rw[<- wy_A (by omega) hk.1 l]at ea;have ml:=Jw (.int 1) m (by omega);rw[show replicate m (D.int 1)=N (replicate m 1)by simp[N]]at ml;exact je (zR (jP t1 jQ) (W8 (wf (t_E (zp (zA rfl) (Je zO rfl Yd) eq)) (zV (jx (yY (F:=ya) rfl (zo (wA (zB x_c zO) rfl yC) (zA rfl) ml) (zA rfl) (zo (zA rfl) x_c sk) ea)))))) rfl
  |cons x r' =>
   have hne:(x::r')≠[]:=by simp
   obtain⟨q,y,_,_,h1⟩:=(JE _ (x::r') rfl).2.resolve_left λz=>hne z.1
   have hle:=zFN (x::r');obtain⟨pre,a,b,ep⟩:=e_last hm.2 hne;have er:=zGY hm.2 hrl hr;rw[ep]at er;have hf:fr k (x::r')=true:=decide_eq_true (by omega);have v0:=vec0 (m:=m) hf h1;have vs:=uS (m:=m) (k:=k) (row:=x::r') (l:=l) (by omega) (.inl hne);rw[zGW (by omega) hr hne l,v0]at vs;have ml:=Jw (.int 0) (k-1) (by omega);rw[show replicate (k-1) (D.int 0)=N (replicate (k-1) 0)by simp[N]]at ml;obtain⟨s4,s5,f,h4⟩:=IWy_ok (k:=k) (l:=l) hm (v:=(replicate (k-1) 0).set (en (x::r')-1) 1) (by simp;omega) (.v (.int (k:Nat))) (.v (tN (x::r'))) (.v (.int (l:Nat)));have ix1:ixD (.l (pre++[.t [a,b,.int ((en (x::r'):Nat):Int)]])) (.int (-1))=some (.v (.t [a,b,.int ((en (x::r'):Nat):Int)])):=congrArg (Option.map R.v) (atI_end _ _);have ix2:ixD (.t [a,b,.int ((en (x::r'):Nat):Int)]) (.int 2)=some (.v (.int ((en (x::r'):Nat):Int))):=rfl;have se:Qt (.int ((en (x::r'):Nat):Int)) (.int 1)=some (.v (.int ((en (x::r')-1:Nat):Int))):=Wn (b:=1) h1;refine je (E1:=[qI m,qI k,.v (tN (x::r')),qI l,.v (.l (N (itv m ((replicate (k-1) 0).set (en (x::r')-1) 1) l))),s5]) ?_ rfl;refine zR (jP t1 jQ) (zR (jP (t_E (zp (zA rfl) (Je zO rfl Yd) eq)) jQ) ?_);refine zR (E1:=[qI m,qI k,.v (tN (x::r')),qI l,.own (N (replicate (k-1) 0)),.e]) (yU (zo (wA (zB x_c zO) rfl yC) (zo (zA rfl) x_c sk) ml) rfl) ?_;refine zR (E1:=[qI m,qI k,.v (tN (x::r')),qI l,.own (N ((replicate (k-1) 0).set (en (x::r')-1) 1)),.e]) (Wq rfl (zo (zC9 (zC9 (jM (F:=jk) rfl (zA rfl) er) (zA7 x_c) ix1) x_c ix2) x_c se) (by rw[JD,length_replicate];omega) x_c rfl ?_) ?_
   ·rw[<- uU];rfl
   refine zR (jq (tg:=.n 5) (j:=(l:Int)) (zB (zA rfl) zO) rfl ⟨by omega,by omega⟩ (by rw[Int.toNat_natCast];exact f)) ?_;rw[<- vs];exact zV (jx (Wi (zB (zGO h4 rfl rfl) zO) (Gi _)))
def Zq(d:D)(lo hi:Int)(h:Gg d=false)(hb:Y4 lo hi d=false):zP [.v d,.v (.int lo),.v (.int hi)]=.exc ⟨"NoNumber",true,[]⟩ O3:=by
 have e:=jf d lo hi h;rw[hb]at e;exact Jg (zV (wf (zDA (t_E (yY (F:=zi) rfl (zA rfl) (zA rfl) (zA rfl) e)) rfl) (zV s_raise))) rfl
def n_signs(d:D)(h:Gg d=false)(hb:Y4 2 3 d=false):yO [.v d]=.exc ⟨"NoNumber",false,[]⟩ O1 :=
 Jg (zV (Jf (QY (F:=zP) rfl (zA rfl) QW QW (Zq d 2 3 h hb)))) rfl
structure Od(m n k:Nat):Prop where
 m:2<=m/\m<=3
 n:n<=20
 k:1<=k/\k<=20
def zBD{n lo hi:Nat}(h1:lo<=n)(h:n<=hi):Y4 (lo:Int) (hi:Int) (.int n)=true:=in_nat h1 h
def e_freel{k:Nat}(h:1<=k/\k<=20):zu [qI k]=.ok (.v .non,O1) :=
 f_nx (zV (YK (yY (F:=zP) rfl (zA rfl) x_c QW (jO _ 1 20 rfl (zBD h.1 h.2))))) rfl
def zDb{m n k:Nat}(h:Od m n k):zX [qI m,qI n,qI k]=.ok (.v .non,O3) :=
 f_nx (zR (YK (jM (F:=yO) rfl (zA rfl) (Jj _ rfl (zBD h.m.1 h.m.2)))) (zR (YK (yY (F:=zP) rfl (zA rfl) x_c QW (jO _ 0 20 rfl (zBD (zero_le _) h.n)))) (zV (YK (jM (F:=zu) rfl (zA rfl) (e_freel h.k)))))) rfl
def o_signs{d a b:D}(h:Gg d=false)(hb:Y4 2 3 d=false):zX [.v d,.v a,.v b]=.exc ⟨"NoNumber",false,[]⟩ O3 :=
 Jg (W9 (Jf (x_cX1 (F:=yO) rfl (zA rfl) (n_signs d h hb)))) rfl
def zFO{m:Nat}(hm:2<=m/\m<=3){d b:D}(h:Gg d=false)(hb:Y4 0 20 d=false):zX [qI m,.v d,.v b]=.exc ⟨"NoNumber",false,[]⟩ O3 :=
 Jg (zR (YK (jM (F:=yO) rfl (zA rfl) (Jj _ rfl (zBD hm.1 hm.2)))) (W9 (Jf (QY (F:=zP) rfl (zA rfl) x_c QW (Zq d 0 20 h hb))))) rfl
def zAe{m n:Nat}(hm:2<=m/\m<=3)(hn:n<=20){d:D}(h:Gg d=false)(hb:Y4 1 20 d=false):zX [qI m,qI n,.v d]=.exc ⟨"NoNumber",false,[]⟩ O3:=by
 have e:zu [.v d]=.exc ⟨"NoNumber",false,[]⟩ O1:=Jg (zV (Jf (QY (F:=zP) rfl (zA rfl) x_c QW (Zq d 1 20 h hb)))) rfl;exact Jg (zR (YK (jM (F:=yO) rfl (zA rfl) (Jj _ rfl (zBD hm.1 hm.2)))) (zR (YK (yY (F:=zP) rfl (zA rfl) x_c QW (jO _ 0 20 rfl (zBD (zero_le _) hn)))) (zV (Jf (x_cX1 (F:=zu) rfl (zA rfl) e))))) rfl
def zDc(a b:Nat):gtD (.int (a:Int)) (.int (b:Int))=some (.v (.bl (decide (b<a)))):=by
 show some (R.v (D.bl (decide ((b:Int)<(a:Int)))))=_
 congr 3
 exact decide_eq_decide.mpr (by omega)
def nat1:D->Nat
 | .int i=>i.toNat|_=>0
def Gn(r:List Nat)(x:Nat)(h:r.length<=1000):Wt (tN r) (.t [.int (x:Nat)])=some (.v (tN (r++[x]))):=by
 rw[add_tup (N r) [.int (x:Nat)] (by rw[JD];simp;omega)];show some (R.v (D.t (N r++N [x])))=_;rw[<- N_app]
abbrev O5':List DV.Slot:=[.e,.e,.e,.e,.e]
def zFP:yV [.v (.exn "NoNumber" [])]=.ok (.v (.str "number"),[.e]):=rfl
theorem zGa:∀(u:List Nat) (x k:Nat),k+1<=en (u.reverse++[x])↔u.take k=replicate k x
 | [],x,k=>by
  rw[zDX];show k+1<=1↔_;cases k with
  |zero=>simp|succ k=>simp[replicate_succ]
 |y::u,x,k=>by
  have ih:=zGa u y;rw[zDX,List.reverse_cons,zDW];by_cases hy:y=x
  ·subst hy
   rw[if_pos rfl];cases k with
   |zero=>simp
   |succ k =>
    rw[List.take_succ_cons,replicate_succ,List.cons.injEq,<- ih k];simp
  ·rw[if_neg (by simpa using hy)]
   cases k with
   |zero=>simp
   |succ k => 
    rw[List.take_succ_cons,replicate_succ,List.cons.injEq];constructor
    ·intro h;omega
    ·intro h;exact absurd h.1 hy
def en_drop(r:List Nat)(x k:Nat)(hk:1<=k):k<=en (r++[x])↔(r++[x]).drop ((r++[x]).length-k)=replicate k x:=by
 obtain⟨j,rfl⟩:∃j,k=j+1:=⟨k-1,by omega⟩;have h:=zGa r.reverse x j;rw[List.reverse_reverse]at h;rw[h];have e:(r++[x]).reverse.take (j+1)=((r++[x]).drop ((r++[x]).length-(j+1))).reverse:=List.take_reverse;rw[List.reverse_append,List.reverse_singleton,List.singleton_append,List.take_succ_cons]at e;constructor
 ·intro h1
  rw[h1]at e;have:=congrArg List.reverse e;rw[List.reverse_reverse]at this;rw[<- this,<- replicate_succ,List.reverse_replicate]
 ·intro h1
  rw[h1,List.reverse_replicate,replicate_succ]at e;exact(List.cons.inj e).2
theorem zAf:∀(a b:List Nat),deqs (N a) (N b)=decide (a=b)
 | [],[]=>rfl| [],_::_=>rfl|_::_,[]=>rfl
 |x::a,y::b=>by
  have i:=zAf a b;have e:deq (.int (x:Int)) (.int (y:Int))=decide (x=y):=by
   simp only[deq,flV,eqV];rw[Bool.eq_iff_iff,beq_iff_eq,decide_eq_true_eq];exact⟨λh=>Int.ofNat.inj h,λh=>by rw[h]⟩
  show deqs (D.int (x:Int)::N a) (D.int (y:Int)::N b)=_
  rw[deqs,i,e,Bool.eq_iff_iff];simp only[Bool.and_eq_true,decide_eq_true_eq,List.cons.injEq]
def ne_tN(a b:List Nat):neG (tN a) (tN b)=some (.v (.bl (!decide (a=b)))):=by
 rw[zDL (Qe a) (Qe b),zAf]
def zGb(t:List Nat)(lo hi:Option Int):uZ (N t) lo hi=N ((t.drop (HT.sIx t.length 0 lo)).take (HT.sIx t.length t.length hi-HT.sIx t.length 0 lo)):=by
 simp only[uZ,JD];simp only[N,<- List.map_drop,<- map_take]
theorem Wr(m k:Nat):∀L:List (List Nat),((L.filter (fr k)).flatMap (more m)).filter (fr k)=(L.flatMap (more m)).filter (fr k)
 | []=>rfl
 |r::L=>by
  have ih:=Wr m k L;rw[filter_cons,flatMap_cons,filter_append];cases h:fr k r
  ·have:(more m r).filter (fr k)=[]:=by
    rw[List.filter_eq_nil_iff];intro t ht;obtain⟨x,_,rfl⟩:=mem_map.mp ht;have:=zAd r [x];simp only[fr,decide_eq_true_eq,decide_eq_false_iff_not]at h ⊢;omega
   rw[this];simpa using ih
  ·rw[if_pos rfl,flatMap_cons,filter_append,ih]
def t_free{fs:List FI}{m n k:Nat}(hk:1<=k/\k<=100){r:List Nat}(hr:r.length<=100)(hf:fr k r=true)(x:Nat){s3 s4 s5 s6:DV.Slot}:dT fs (.tOr (.tE (.cmp .ne (.sl (.var 8) (.oS (.bin .sub (.cB .len (.cons (.var 8) .nil)) (.var 2))) .oN) (.bin .mul (.t (.cons (.var 7) .nil)) (.var 2)))) (.tE (.cmp .lt (.cB .len (.cons (.var 8) .nil)) (.var 2)))) [qI m,qI n,qI k,s3,s4,s5,s6,qI x,.v (tN (r++[x]))]=.ok (fr k (r++[x]),[qI m,qI n,qI k,s3,s4,s5,s6,qI x,.v (tN (r++[x]))]):=by
 generalize ht:r++[x]=t;have ef:fr k t=!decide (t.drop (t.length-k)=replicate k x):=by
  have h1:=en_drop r x k hk.1;have h2:=Qc r x;rw[ht]at h1 h2;unfold fr at hf ⊢;rw[decide_eq_true_eq]at hf;rw[h2,<- decide_not,decide_eq_decide,<- h1];omega
 have em:ZR (.t [.int (x:Nat)]) (.int (k:Nat))=some (.v (tN (replicate k x))):=by
  rw[zFI _ k (by omega),<- N_rep]
 have tl:t.length=r.length+1:=by rw[<- ht];simp
 have e1:∃z:Int,Qt (.int ((N t).length:Nat)) (.int (k:Nat))=some (.v (.int z))/\∃q:List Nat,slD (tN t) (some z) none=some (.v (tN q))/\(decide (q=replicate k x)=decide (t.drop (t.length-k)=replicate k x)):=by
  refine⟨((N t).length:Int)-k,rfl,?_⟩;refine⟨_,congrArg (λz=>some (R.v (D.t z))) (zGb t _ _),?_⟩;by_cases h:k<=t.length
  ·have inj:∀{a b:List Nat},N a=N b->a=b:=λ{a b} h=>by
    have:=zAf a b;rw[h,zAf]at this;simpa using this.symm
   have e:=zFJ (N t) (t.length-k) (by rw[JD];omega);rw[zGb]at e;have e':(N t).drop (t.length-k)=N (t.drop (t.length-k)):=by simp[N]
   have e4:=inj (e.trans e');have ez:(((N t).length:Nat):Int)-(k:Int)=((t.length-k:Nat):Int):=by rw[JD];omega
   rw[ez,e4]
  ·have l1:(replicate k x).length=k:=length_replicate
   have a1:∀q:List Nat,q.length<=t.length->¬q=replicate k x:=λq hq e=>by rw[e,l1]at hq;omega
   rw[decide_eq_false (a1 _ (by simp only[length_take,length_drop];omega)),decide_eq_false (a1 _ (by simp))]
 obtain⟨z,e1,q,e2,e3⟩:=e1;have first:=zp (fs:=fs) (E:=[qI m,qI n,qI k,s3,s4,s5,s6,qI x,.v (tN t)]) (o:=.ne) (x_sl (zA (i:=8) rfl) (o_S (zo (o:=.sub) (Wi (b:=.len) (zB (zA (i:=8) rfl) zO) rfl) (zA (i:=2) rfl) e1)) o_N e2) (zo (o:=.mul) (Je (zB (zA (i:=7) rfl) zO) rfl yC) (zA (i:=2) rfl) em) (ne_tN _ _);rw[e3,<- ef]at first;cases hfr:fr k t
 ·rw[hfr]at first
  refine t_or (t_E first) (t_E (zp (Wi (zB (zA rfl) zO) rfl) (zA rfl) ?_));show ltD (.int ((N t).length:Nat)) (.int (k:Nat))=_;rw[zAV,JD];rw[hfr]at ef;have:t.drop (t.length-k)=replicate k x:=by simpa using ef.symm
  have:=congrArg length this;simp only[length_drop,length_replicate]at this;rw[decide_eq_false (by omega)]
 ·rw[hfr]at first
  exact t_orT (t_E first)
def zDd{m n k:Nat}(hm:m<=3)(hk:1<=k/\k<=100){r:List Nat}(hr:r.length<=100)(hf:fr k r=true){acc:List (List Nat)}(ha:acc.length<=10000)(s3 s4 s7 s8:DV.Slot)(h7:yE s7=true)(h8:yE s8=true) :
  ∃t7 t8,DV.JN (gN 7) (dB yh JB) (DV.zF 0 m) [qI m,qI n,qI k,s3,s4,.own (TL acc),.v (tN r),s7,s8]=.ok (.nx,[qI m,qI n,qI k,s3,s4,.own (TL (acc++(more m r).filter (fr k))),.v (tN r),t7,t8])/\yE t7=true/\yE t8=true:=by
 obtain⟨E',f1,t7,t8,hE,q7,q8⟩:=yS (tg:=gN 7) (body:=dB yh JB) (λi E=>∃t7 t8,E=[qI m,qI n,qI k,s3,s4,.own (TL (acc++(more i r).filter (fr k))),.v (tN r),t7,t8]/\yE t7=true/\yE t8=true) (DV.zF 0 m) 0 [qI m,qI n,qI k,s3,s4,.own (TL acc),.v (tN r),s7,s8] ⟨s7,s8,by simp[more],h7,h8⟩ (λi d q E ⟨t7,t8,hE,q7,q8⟩=>by
  obtain⟨hi,rfl⟩:=jw _ _ _ _ q;rw[zero_add]at hE ⊢;rw[show(0:Int)+(i:Int)=(i:Int)by omega];have em:more (i+1) r=more i r++[r++[i]]:=by simp[more,range_succ]
  refine⟨[qI m,qI n,qI k,s3,s4,.own (TL (acc++(more i r).filter (fr k))),.v (tN r),qI i,t8],[qI m,qI n,qI k,s3,s4,.own (TL (acc++(more (i+1) r).filter (fr k))),.v (tN r),qI i,.v (tN (r++[i]))],?_,?_,_,_,rfl,rfl,rfl⟩
  ·subst hE;cases t7<;>first|rfl|(cases q7)
  ·have T:=t_free (fs:=yh) (m:=m) (n:=n) hk hr hf i (s3:=s3) (s4:=s4) (s5:=.own (TL (acc++(more i r).filter (fr k)))) (s6:=.v (tN r))
   rw[em,filter_append,<- append_assoc];refine zR (yU (zo (zA rfl) (Je (zB (zA rfl) zO) rfl yC) (Gn r i (by omega))) (jN rfl q8 rfl)) (zV ?_);cases h:fr k (r++[i])
   ·rw[h]at T
    have:[r++[i]].filter (fr k)=[]:=by simp[h]
    rw[this,append_nil];exact jP T jQ
   ·rw[h]at T
    have:[r++[i]].filter (fr k)=[r++[i]]:=by simp[h]
    rw[this,zGU (_++_)];have lm:(more i r).length=i:=by simp[more]
    have:=List.length_filter_le (fr k) (more i r);exact wf T (zV (s_app rfl (zA rfl) rfl (by rw[YL,length_append];simp only[cap];omega) rfl)))
 rw[jJ,zero_add]at hE;exact⟨t7,t8,by rw[f1,hE],q7,q8⟩
def zDe{m k:Nat}{ls:List (List Nat)}{i:Nat}{r:List Nat}(er:ls[i]?=some r):((ls.take (i+1)).flatMap (more m)).filter (fr k)=((ls.take i).flatMap (more m)).filter (fr k)++(more m r).filter (fr k):=by
 have et:ls.take (i+1)=ls.take i++[r]:=by rw[List.take_add_one,er];rfl
 rw[et,List.flatMap_append,filter_append];simp
def zDf{m n k:Nat}(hm:m<=3)(hk:1<=k/\k<=100){ls:List (List Nat)}(hl:ls.length<=1000)(hr:∀r∈ls,r.length<=100)(hf:∀r∈ls,fr k r=true)(s3 s4 s6 s7 s8:DV.Slot)(h6:yE s6=true)(h7:yE s7=true)(h8:yE s8=true) :
  ∃t6 t7 t8,DV.JN (gN 6) (dB yh JC) (TL ls) [qI m,qI n,qI k,s3,s4,.own [],s6,s7,s8]=.ok (.nx,[qI m,qI n,qI k,s3,s4,.own (TL ((ls.flatMap (more m)).filter (fr k))),t6,t7,t8])/\yE t6=true/\yE t7=true/\yE t8=true:=by
 obtain⟨E',f1,t6,t7,t8,hE,q6,q7,q8⟩:=yS (tg:=gN 6) (body:=dB yh JC) (λi E=>∃t6 t7 t8,E=[qI m,qI n,qI k,s3,s4,.own (TL (((ls.take i).flatMap (more m)).filter (fr k))),t6,t7,t8]/\yE t6=true/\yE t7=true/\yE t8=true) (TL ls) 0 [qI m,qI n,qI k,s3,s4,.own [],s6,s7,s8] ⟨s6,s7,s8,rfl,h6,h7,h8⟩ (λi d q E ⟨t6,t7,t8,hE,q6,q7,q8⟩=>by
  rw[zero_add]at hE ⊢;obtain⟨r,er⟩:∃r,ls[i]?=some r:=by
   have:i<ls.length:=by
    have:=(qG.mp q).1
    rwa [YL]at this
   exact⟨_,getElem?_eq_getElem this⟩
  have ed:d=.t (N r):=by
   have:(TL ls)[i]?=some (.t (N r)):=by simp[TL,er]
   rw[this]at q;exact(qJ q).symm
  subst ed;have hmem:=mem_of_getElem? er;have la:(((ls.take i).flatMap (more m)).filter (fr k)).length<=10000:=by
   refine le_trans (List.length_filter_le _ _) ?_;rw[Zn];have:(ls.take i).length<=1000:=by simp;omega
   have:=Nat.mul_le_mul this hm;omega
  obtain⟨u7,u8,f,v7,v8⟩:=zDd (n:=n) hm hk (hr r hmem) (hf r hmem) la s3 s4 t7 t8 q7 q8;rw[<- zDe er]at f;refine⟨[qI m,qI n,qI k,s3,s4,.own (TL (((ls.take i).flatMap (more m)).filter (fr k))),.v (tN r),t7,t8],[qI m,qI n,qI k,s3,s4,.own (TL (((ls.take (i+1)).flatMap (more m)).filter (fr k))),.v (tN r),u7,u8],?_,?_,_,_,_,rfl,rfl,v7,v8⟩
  ·subst hE;cases t6<;>first|rfl|(cases q6)
  ·exact zV (jq (j:=(m:Int)) (zB (zA rfl) zO) rfl ⟨by omega,by omega⟩ (by rw[Int.toNat_natCast];exact f)))
 rw[YL,zero_add,take_length]at hE;exact⟨t6,t7,t8,by rw[f1,hE],q6,q7,q8⟩
abbrev Fr(m n k:Nat):List (List Nat):=(wB m n).filter (fr k)
def zDg{m n k:Nat}(hm:m<=3)(hn:n<7):(Fr m n k).length<=729:=by
 refine le_trans (List.length_filter_le _ _) ?_;rw[uO];exact le_trans (Nat.pow_le_pow_left hm n) (le_trans (Nat.pow_le_pow_right (by omega) (show n<=6 by omega)) (by decide))
def zBE{m n k:Nat}(hm:2<=m/\m<=3)(hn:n<7)(hk:1<=k/\k<=100):j8 [qI m,qI n,qI k]=.ok (.v (.l (TL (Fr m n k))),O3):=by
 have hz:fr k []=true:=decide_eq_true (by show 0<k;omega);have h0:Fr m 0 k=[[]]:=by
  show([[]]:List (List Nat)).filter (fr k)=[[]]
  rw[filter_cons,hz];rfl
 obtain⟨E',f1,s3,s4,s5,s6,s7,s8,hE,h3,h4,h5,h6,h7,h8⟩:=yS (tg:=gN 4) (body:=dB yh Y1) (λi E=>∃s3 s4 s5 s6 s7 s8,E=[qI m,qI n,qI k,s3,s4,s5,s6,s7,s8]/\(s3=.own (TL (Fr m i k))\/s3=.v (.l (TL (Fr m i k))))/\yE s4=true/\yE s5=true/\yE s6=true/\yE s7=true/\yE s8=true) (DV.zF 0 n) 0 [qI m,qI n,qI k,.own [.t []],.e,.e,.e,.e,.e] ⟨_,_,_,_,_,_,rfl,.inl (by rw[h0];rfl),rfl,rfl,rfl,rfl,rfl⟩ (λi d q E ⟨s3,s4,s5,s6,s7,s8,hE,h3,h4,h5,h6,h7,h8⟩=>by
  obtain⟨hi,rfl⟩:=jw _ _ _ _ q;rw[zero_add]at h3 ⊢;have hl:=zDg (k:=k) hm.2 (show i<7 by omega);obtain⟨t6,t7,t8,f,q6,q7,q8⟩:=zDf (n:=n) hm.2 hk (ls:=Fr m i k) (by omega) (λr hr=>by rw[Jk m i r (mem_filter.mp hr).1];omega) (λr hr=>(mem_filter.mp hr).2) (.v (.l (TL (Fr m i k)))) (.v (.int (0+(i:Int)))) s6 s7 s8 h6 h7 h8;rw[Wr,<- jz]at f;refine⟨[qI m,qI n,qI k,s3,.v (.int (0+(i:Int))),s5,s6,s7,s8],[qI m,qI n,qI k,.v (.l (TL (Fr m (i+1) k))),.v (.int (0+(i:Int))),.v (.l (TL (Fr m (i+1) k))),t6,t7,t8],?_,?_,_,_,_,_,_,_,rfl,.inr rfl,rfl,rfl,q6,q7,q8⟩
  ·subst hE;cases s4<;>first|rfl|(cases h4)
  ·exact zR (yU (wA zO rfl Yd) (jN rfl h5 rfl)) (zR (zDB (zGO h3 rfl rfl) rfl f) (zV (yU (Wh rfl rfl) (jN rfl rfl rfl)))))
 rw[jJ,zero_add]at h3;subst hE;exact je (zR (yU (wA (zB (Je zO rfl Yd) zO) rfl yC) rfl) (zR (jq (j:=(n:Int)) (zB (zA rfl) zO) rfl ⟨by omega,by omega⟩ (by rw[Int.toNat_natCast];exact f1)) (zV (jx (zGO h3 rfl rfl))))) rfl
def put1(l:List Nat)(j x:Nat):List Nat:=l.set j (l.getD j 0+x)
def cs1(m k:Nat)(c:List Nat)(i:Nat)(l:List Nat):List Nat:=put1 (if i+1<k/\0<i then put1 l (i+1) (c.getD i 0)else l) 1 (c.getD i 0*if i=0 then m else m-1)
def vB(m k:Nat)(c:List Nat):List Nat:=(List.range k).foldl (λl i=>cs1 m k c i l) (replicate (k+1) 0)
def its{α:Type}(f:α->α):α->Nat->List α
 |x,0=>[x]|x,n+1=>x::its f (f x) n
def okk(m k:Nat):Bool:=((its (vB m k) ((replicate (k+1) 0).set 0 1) 20).map λc=>(c.take k).sum)==1::((its (stv m) (m::replicate (k-2) 0) 19).map List.sum)
def okk_all:∀m<2,∀k<19,okk (m+2) (k+2)=true:=by decide +kernel
def ito{α:Type}(f:α->α)(x:α):Nat->α
 |0=>x|i+1=>f (ito f x i)
theorem zGc{α:Type}(f:α->α)(x:α):∀i,ito f (f x) i=ito f x (i+1)
 |0=>rfl|i+1=>congrArg f (zGc f x i)
theorem Qf{α:Type}(f:α->α):∀(n:Nat) (x:α) (i:Nat),i<=n->(its f x n)[i]?=some (ito f x i)
 |0,x,i,h=>by
  have:i=0:=by omega
  subst this;rfl
 |n+1,x,0,h=>rfl
 |n+1,x,i+1,h=>by
  show(its f (f x) n)[i]?=_
  rw[Qf f n (f x) i (by omega),zGc]
abbrev c0(k:Nat):List Nat:=(replicate (k+1) 0).set 0 1
def zBF{m n k:Nat}(hm:2<=m/\m<=3)(hn:n<=20)(hk:2<=k/\k<=20):((ito (vB m k) (c0 k) n).take k).sum=wy m k [] n:=by
 have h:=okk_all (m-2) (by omega) (k-2) (by omega);rw[show m-2+2=m by omega,show k-2+2=k by omega]at h;have h':=congrArg (λl:List Nat=>l[n]?) (eq_of_beq h);simp only[getElem?_map,Qf (vB m k) 20 _ n hn,Option.map_some]at h';cases n with
 |zero =>
  rw[wy_A (by omega) (by omega)];exact qJ h'
 |succ i =>
  rw[List.getElem?_cons_succ,getElem?_map,Qf (stv m) 19 _ i (by omega),Option.map_some]at h';rw[qJ h',<- uS hk.1 (.inr (by omega))];congr 1
  clear h h' hn
  induction i with
  |zero =>
   rw[vecE (by omega) hk.1 0];simp[zBL,ito]
  |succ i ih =>
   rw[uT hk.1 (λx h=>by cases h) (.inr (by omega)),<- ih];rfl
def uV(l:List Nat)(j x:Nat):(put1 l j x).length=l.length:=by simp[put1]
def cs1_len(m k:Nat)(c:List Nat)(i:Nat)(l:List Nat):(cs1 m k c i l).length=l.length:=by
 unfold cs1;rw[uV];split
 ·rw[uV]
 ·rfl
def at_N{l:List Nat}{j:Nat}(h:j<l.length):atI (N l) (j:Int)=some (.int ((l.getD j 0:Nat):Int)):=by
 refine zGM (N_get ?_);rw[getD_eq_getElem?_getD,getElem?_eq_getElem h];rfl
def x_ixA{fs:List FI}{E:zN}{i:Nat}{b:_}{s:DV.Slot}{ds:List D}{k:Int}{d:D}(hs:s=.own ds\/s=.v (.l ds))(h:E[i]?=some s)(h1:dE fs b E=.ok (.v (.int k),E))(hx:atI ds k=some d):dE fs (.ixO i b) E=.ok (.v d,E):=by
 rcases hs with rfl|rfl
 ·exact x_ixO h h1 hx
 ·simp only[YD,zAF,zEQ,Yr,h,h1,ixS,hx,Bool.false_eq_true,if_false]
def zDh{m n k:Nat}(hm:2<=m/\m<=3)(hk:2<=k){c:List Nat}(hc:c.length=k+1){s3 s4:DV.Slot}(h3:s3=.own (N c)\/s3=.v (.l (N c))){i:Nat}(hi:i<k){l:List Nat}(hl:l.length=k+1):dB zS yT [qI m,qI n,qI k,s3,s4,.own (N l),qI i]=.ok (.nx,[qI m,qI n,qI k,s3,s4,.own (N (cs1 m k c i l)),qI i]):=by
 unfold cs1;have ci:=at_N (l:=c) (j:=i) (by omega);generalize hc':c.getD i 0=ci' at ci ⊢;have ea:Wt (.int (i:Nat)) (.int 1)=some (.v (.int ((i+1:Nat):Int))):=Ji i 1;have el:ltD (.int ((i+1:Nat):Int)) (.int (k:Nat))=some (.v (.bl (decide (i+1<k)))):=zAV _ _;have eg:gtD (.int ((i:Nat):Int)) (.int 0)=some (.v (.bl (decide (0<i)))):=zDc _ 0;have second:∀l':List Nat,l'.length=k+1->dB zS (.bOne (.sIf (.tE (.cmp .gt (.var 2) (.c (.int 1)))) (.bOne (.sIx 5 (.c (.int 1)) (.bin .add (.ixO 5 (.c (.int 1))) (.bin .mul (.ixO 3 (.var 6)) (.ix (.l (.cons (.bin .sub (.var 0) (.c (.int 1))) (.cons (.var 0) .nil))) (.cB .int (.cons (.cmp .eq (.var 6) (.c (.int 0))) .nil))))))) .bNil)) [qI m,qI n,qI k,s3,s4,.own (N l'),qI i]=.ok (.nx,[qI m,qI n,qI k,s3,s4,.own (N (put1 l' 1 (ci'*if i=0 then m else m-1))),qI i]):=λl' hl'=>by
  have g1:gtD (.int ((k:Nat):Int)) (.int 1)=some (.v (.bl true)):=by
   rw[show(1:Int)=((1:Nat):Int)from rfl,zDc k 1,decide_eq_true (by omega)]
  have a1:=at_N (l:=l') (j:=1) (by omega);have sb:Qt (.int (m:Nat)) (.int 1)=some (.v (.int ((m-1:Nat):Int))):=Wn (b:=1) (by omega);have pick:∃z:Int,eqG (.int (i:Nat)) (.int 0)=some (.v (.bl (decide (i=0))))/\intF [.bl (decide (i=0))]=some (.v (.int z))/\atI [D.int ((m-1:Nat):Int),D.int (m:Nat)] z=some (D.int ((if i=0 then m else m-1:Nat):Int)):=by
   by_cases h:i=0
   ·subst h;exact⟨1,rfl,rfl,rfl⟩
   ·refine⟨0,eq_nat i 0,?_,?_⟩
    ·rw[decide_eq_false h];rfl
    ·rw[if_neg h];rfl
  obtain⟨z,p1,p2,p3⟩:=pick;have hw:(if i=0 then m else m-1)<=100000:=by split<;>omega
  generalize (if i=0 then m else m-1)=w at p3 hw ⊢;have mu:ZR (.int (ci':Nat)) (.int (w:Nat))=some (.v (.int ((ci'*w:Nat):Int))):=zBA _ _ hw;have ad:Wt (.int ((l'.getD 1 0:Nat):Int)) (.int ((ci'*w:Nat):Int))=some (.v (.int ((l'.getD 1 0+ci'*w:Nat):Int))):=Ji _ _;have px:ixD (.l [D.int ((m-1:Nat):Int),D.int (m:Nat)]) (.int z)=some (.v (.int (w:Nat))):=by rw[zDI,p3];rfl
  generalize hE:([qI m,qI n,qI k,s3,s4,.own (N l'),qI i]:zN)=E;have g0:E[0]?=some (.v (.int (m:Nat))):=by rw[<- hE];rfl
  have g2:E[2]?=some (.v (.int (k:Nat))):=by rw[<- hE];rfl
  have g3:E[3]?=some s3:=by rw[<- hE];rfl
  have g5:E[5]?=some (.own (N l')):=by rw[<- hE];rfl
  have g6:E[6]?=some (.v (.int (i:Nat))):=by rw[<- hE];rfl
  have ev:=zo (fs:=zS) (o:=.add) (x_ixO (b:=.c (.int 1)) g5 x_c a1) (zo (o:=.mul) (x_ixA h3 g3 (zA g6) ci) (zC9 (wA (zB (zo (o:=.sub) (zA g0) (x_c (d:=.int 1)) sb) (zB (zA g0) zO)) (ds:=[D.int ((m-1:Nat):Int),D.int (m:Nat)]) rfl two_cap) (Wi (b:=.int) (rs:=[R.v (D.bl (decide (i=0)))]) (zB (zp (o:=.eq) (zA g6) (x_c (d:=.int 0)) p1) zO) p2) px) mu) ad;refine zV (wf (t_E (zp (zA g2) x_c g1)) (zV (Wq (k:=1) g5 x_c (by rw[JD];omega) ev g5 ?_)));rw[<- hE];unfold put1;rw[<- uU];rfl
 by_cases h:i+1<k/\0<i
 ·rw[if_pos h]
  have a2:=at_N (l:=l) (j:=i+1) (by omega);have T:dT zS (.tAnd (.tE (.cmp .lt (.bin .add (.var 6) (.c (.int 1))) (.var 2))) (.tE (.cmp .gt (.var 6) (.c (.int 0))))) [qI m,qI n,qI k,s3,s4,.own (N l),qI i]=.ok (true,[qI m,qI n,qI k,s3,s4,.own (N l),qI i]) :=
   Gf (t_E (zp (zo (zA (i:=6) rfl) x_c ea) (zA rfl) (by rw[decide_eq_true h.1]at el;exact el))) (t_E (zp (zA rfl) x_c (by rw[decide_eq_true h.2]at eg;exact eg)))
  refine zR (wf T ?_) (second _ (by rw[uV,hl]));generalize hE:([qI m,qI n,qI k,s3,s4,.own (N l),qI i]:zN)=E;have g3:E[3]?=some s3:=by rw[<- hE];rfl
  have g5:E[5]?=some (.own (N l)):=by rw[<- hE];rfl
  have g6:E[6]?=some (.v (.int (i:Nat))):=by rw[<- hE];rfl
  have ad:Wt (.int ((l.getD (i+1) 0:Nat):Int)) (.int (ci':Nat))=some (.v (.int ((l.getD (i+1) 0+ci':Nat):Int))):=Ji _ _;have e6:=zo (fs:=zS) (o:=.add) (zA g6) (x_c (d:=.int 1)) ea;have ev:=zo (fs:=zS) (o:=.add) (x_ixO g5 e6 a2) (x_ixA h3 g3 (zA g6) ci) ad;refine zV (Wq (k:=i+1) g5 e6 (by rw[JD];omega) ev g5 ?_);rw[<- hE];unfold put1;rw[<- uU];rfl
 ·rw[if_neg h]
  refine zR (jP (E1:=[qI m,qI n,qI k,s3,s4,.own (N l),qI i]) ?_ jQ) (second _ hl);by_cases h1:i+1<k
  ·exact Gf (t_E (zp (zo (zA rfl) x_c ea) (zA rfl) (by rw[decide_eq_true h1]at el;exact el))) (t_E (zp (zA rfl) x_c (by rw[decide_eq_false (by omega)]at eg;exact eg)))
  ·exact zAS (t_E (zp (zo (zA rfl) x_c ea) (zA rfl) (by rw[decide_eq_false h1]at el;exact el)))
def cut_to(ds:List D)(t:Nat)(h:t<=ds.length):uZ ds none (some (t:Int))=ds.take t:=by
 unfold uZ;have h1:HT.sIx ds.length 0 none=0:=rfl;rw[HT.sIx_nat,h1];simp[Nat.min_eq_left h]
def sl_N(l:List Nat)(t:Nat)(h:t<=l.length):slD (.l (N l)) none (some (t:Int))=some (.own (N (l.take t))):=by
 simp only[slD];rw[cut_to _ _ (by rw[JD];exact h)];simp[N,map_take]
def uW(m k:Nat)(c:List Nat)(i:Nat):List Nat:=(List.range i).foldl (λl i=>cs1 m k c i l) (replicate (k+1) 0)
theorem Ws(m k:Nat)(c:List Nat):∀i,(uW m k c i).length=k+1
 |0=>by simp[uW]
 |i+1=>by
  have:=Ws m k c i;unfold uW at this ⊢;rw[range_succ,List.foldl_append];show(cs1 m k c i _).length=_;rw[cs1_len,this]
def zBG(m k:Nat)(c:List Nat)(i:Nat):uW m k c (i+1)=cs1 m k c i (uW m k c i):=by
 unfold uW;rw[range_succ,List.foldl_append];rfl
def zDi(m k:Nat):∀i,(ito (vB m k) (c0 k) i).length=k+1
 |0=>by simp[ito,c0]|i+1=>Ws m k _ k
def zFQ{m n k:Nat}(hm:2<=m/\m<=3)(hk:2<=k){c:List Nat}(hc:c.length=k+1){s3:DV.Slot}(s4 s6:DV.Slot)(h3:s3=.own (N c)\/s3=.v (.l (N c)))(h6:yE s6=true) :
  ∃t6,DV.JN (gN 6) (dB zS yT) (DV.zF 0 k) [qI m,qI n,qI k,s3,s4,.own (N (replicate (k+1) 0)),s6]=.ok (.nx,[qI m,qI n,qI k,s3,s4,.own (N (vB m k c)),t6])/\yE t6=true:=by
 obtain⟨E',f1,t6,hE,q6⟩:=yS (tg:=gN 6) (body:=dB zS yT) (λi E=>∃t6,E=[qI m,qI n,qI k,s3,s4,.own (N (uW m k c i)),t6]/\yE t6=true) (DV.zF 0 k) 0 [qI m,qI n,qI k,s3,s4,.own (N (replicate (k+1) 0)),s6] ⟨s6,rfl,h6⟩ (λi d q E ⟨t6,hE,q6⟩=>by
  obtain⟨hi,rfl⟩:=jw _ _ _ _ q;rw[zero_add]at hE ⊢;rw[show(0:Int)+(i:Int)=(i:Int)by omega,zBG];refine⟨[qI m,qI n,qI k,s3,s4,.own (N (uW m k c i)),qI i],[qI m,qI n,qI k,s3,s4,.own (N (cs1 m k c i (uW m k c i))),qI i],?_,?_,_,rfl,rfl⟩
  ·subst hE;cases t6<;>first|rfl|(cases q6)
  ·exact zDh hm hk hc h3 hi (Ws m k c i))
 rw[jJ,zero_add]at hE;exact⟨t6,by rw[f1,hE];rfl,q6⟩
def uX{m n k:Nat}(hm:2<=m/\m<=3)(hn:n<=20)(hk:2<=k/\k<=20):yW [qI m,qI n,qI k]=.ok (.v (.int ((wy m k [] n:Nat):Int)),O3):=by
 have mu:ZR (.l [.int 0]) (.int ((k+1:Nat):Int))=some (.own (N (replicate (k+1) 0))):=by
  rw[Jw _ (k+1) (by omega),N_rep];rfl
 have ad:Wt (.int (k:Nat)) (.int 1)=some (.v (.int ((k+1:Nat):Int))):=Ji k 1;obtain⟨E',f1,s3,s4,s5,s6,hE,h3,h4,h5,h6⟩:=yS (tg:=gN 4) (body:=dB zS jp) (λi E=>∃s3 s4 s5 s6,E=[qI m,qI n,qI k,s3,s4,s5,s6]/\(s3=.own (N (ito (vB m k) (c0 k) i))\/s3=.v (.l (N (ito (vB m k) (c0 k) i))))/\yE s4=true/\yE s5=true/\yE s6=true) (DV.zF 0 n) 0 [qI m,qI n,qI k,.own (N (c0 k)),.e,.e,.e] ⟨_,_,_,_,rfl,.inl rfl,rfl,rfl,rfl⟩ (λi d q E ⟨s3,s4,s5,s6,hE,h3,h4,h5,h6⟩=>by
  obtain⟨hi,rfl⟩:=jw _ _ _ _ q;rw[zero_add]at h3 ⊢;obtain⟨t6,f,q6⟩:=zFQ (n:=n) hm hk.1 (zDi m k i) (.v (.int (0+(i:Int)))) s6 h3 h6;refine⟨[qI m,qI n,qI k,s3,.v (.int (0+(i:Int))),s5,s6],[qI m,qI n,qI k,.v (.l (N (ito (vB m k) (c0 k) (i+1)))),.v (.int (0+(i:Int))),.v (.l (N (ito (vB m k) (c0 k) (i+1)))),t6],?_,?_,_,_,_,_,rfl,.inr rfl,rfl,rfl,q6⟩
  ·subst hE;cases s4<;>first|rfl|(cases h4)
  ·exact zR (E1:=[qI m,qI n,qI k,s3,.v (.int (0+(i:Int))),.own (N (replicate (k+1) 0)),s6]) (yU (zo (wA (zB x_c zO) rfl yC) (zo (zA rfl) x_c ad) mu) (jN rfl h5 rfl)) (zR (jq (j:=(k:Int)) (zB (zA rfl) zO) rfl ⟨by omega,by omega⟩ (by rw[Int.toNat_natCast];exact f)) (zV (yU (Wh rfl rfl) (jN rfl (by rcases h3 with rfl|rfl<;>rfl) rfl)))))
 rw[jJ,zero_add]at h3;subst hE;have hs:=zBF hm hn hk;have hl:=zDi m k n;generalize ito (vB m k) (c0 k) n=c at h3 hs hl;have cut:=sl_N c k (by omega);have su:zEi [.l (N (c.take k))]=some (.v (.int ((wy m k [] n:Nat):Int))):=by rw[Gi,hs]
 refine je (zR (E1:=[qI m,qI n,qI k,.own (N (replicate (k+1) 0)),.e,.e,.e]) (yU (zo (wA (zB x_c zO) rfl yC) (zo (zA rfl) x_c ad) mu) rfl) (zR (E1:=[qI m,qI n,qI k,.own (N (c0 k)),.e,.e,.e]) (Wq (k:=0) rfl x_c (by rw[JD];simp) x_c rfl ?_) (zR (jq (j:=(n:Int)) (zB (zA rfl) zO) rfl ⟨by omega,by omega⟩ (by rw[Int.toNat_natCast];exact f1)) (zV (jx (Wi (zB (x_sl (zGO h3 rfl rfl) o_N (o_S (zA rfl)) cut) zO) su)))))) rfl;rw[<- uU];rfl
theorem zDj{α β:Type}(f:α->List β)(p:β->Bool):∀L:List α,(L.flatMap f).filter p=L.flatMap λa=>(f a).filter p
 | []=>rfl|a::L=>by rw[flatMap_cons,filter_append,zDj f p L,flatMap_cons]
def wy_lt{m k:Nat}{r:List Nat}(hm:m<=3){l:Nat}(hl:l<=20):wy m k r l<2^100:=by
 unfold wy;refine Nat.lt_of_le_of_lt (List.length_filter_le _ _) ?_;rw[uO];exact Nat.lt_of_le_of_lt (le_trans (Nat.pow_le_pow_left hm l) (Nat.pow_le_pow_right (by omega) hl)) (by decide)
def x_reprO{fs:List FI}{E:zN}{i:Nat}{s:DV.Slot}{r:R}(h:E[i]?=some s)(hr:reprS s=some r):dE fs (.reprO i) E=.ok (r,E):=by
 simp only[zE6,vQ,h,hr]
def zGd{n k:Nat}(h:n<2^100):smD k (.int (n:Nat)):=by
 cases k<;>(show((n:Nat):Int).natAbs<2^100;simpa using h)
def lst1:D->List Nat
 | .t ds=>Gj ds|_=>[]
def zAg(t:List Nat):lst1 (tN t)=t:=zDN t
theorem zDk(p:List Nat->Bool):∀L:List (List Nat),(TL L).filter (λd=>p (lst1 d))=TL (L.filter p)
 | []=>rfl
 |t::L=>by
  have i:=zDk p L;show(tN t::TL L).filter _=_;rw[filter_cons,filter_cons,i,zAg];cases p t<;>rfl
def wy_Fr(m n k:Nat):wy m k [] n=(Fr m n k).length:=rfl
def Go{m n k:Nat}(h:Od m n k):zg [qI m,qI n,qI k]=.ok (.v (.int ((wy m k [] n:Nat):Int)),O3) :=
 je (zR (YK (yY (F:=zX) rfl (zA rfl) (zA rfl) (zA rfl) (zDb h))) (zV (jx (uK (F:=j7) rfl (zA rfl) (zA rfl) (Je zO rfl Yd) (zA rfl) (zDa h.m h.k h.n (r:=[]) (by simp) (λx h=>by cases h)))))) rfl
def zDl{a b c:D}(h:zX [.v a,.v b,.v c]=.exc ⟨"NoNumber",false,[]⟩ O3):zg [.v a,.v b,.v c]=.exc ⟨"NoNumber",false,[]⟩ O3 :=
 Jg (W9 (Jf (QY (F:=zX) rfl (zA rfl) (zA rfl) (zA rfl) h))) rfl
def all_X{a b c:D}(h:zX [.v a,.v b,.v c]=.exc ⟨"NoNumber",false,[]⟩ O3):yn [.v a,.v b,.v c]=.exc ⟨"NoNumber",false,[]⟩ O3 :=
 Jg (W9 (s_setX (QY (F:=zg) rfl (zA rfl) (zA rfl) (zA rfl) (zDl h)))) rfl
def zDm{m n k:Nat}(h:Od m n k)(hg:500<wy m k [] n):yn [qI m,qI n,qI k]=.exc ⟨"TooGreat",true,[((wy m k [] n:Nat):Int),500]⟩ O3:=by
 have g:=zAU (wy m k [] n) 500;rw[decide_eq_true hg]at g;have l:=log_ok (wy_lt (m:=m) (k:=k) (r:=[]) (l:=n) h.m.2 h.n);refine Jg (zR (yU (yY (F:=zg) rfl (zA rfl) (zA rfl) (zA rfl) (Go h)) rfl) (W9 (wf (t_E (zp (zA rfl) QW g)) (zV (zFK (zB (zA rfl) (zB QW zO)) rfl ?_))))) rfl;simp only[all_cons,List.all_nil,l,length_cons,length_nil];decide +kernel
def Fr_succ(m n k:Nat):Fr m (n+1) k=((Fr m n k).flatMap (more m)).filter (fr k):=by
 unfold Fr;rw[Wr,jz]
def snD(d e:D):D:=tN (lst1 d++[nat1 e])
theorem zDn(m:Nat):∀L:List (List Nat),((TL L).flatMap λd=>(N (List.range m)).map (snD d))=TL (L.flatMap (more m))
 | []=>rfl
 |t::L=>by
  have i:=zDn m L;show((tN t::TL L).flatMap λd=>(N (List.range m)).map (snD d))=_;rw[flatMap_cons,flatMap_cons,i,zGU];congr 1;unfold snD more;rw[zAg];simp[TL,N,nat1,Function.comp_def]
def zFR{m n k i:Nat}(h:Od m n k)(hi:i<6)(s3 s5 s6:DV.Slot)(h6:yE s6=true) :
  ∃t6,dB yw JY [qI m,qI n,qI k,s3,.own (TL (Fr m i k)),s5,s6]=.ok (.nx,[qI m,qI n,qI k,s3,.own (TL (Fr m (i+1) k)),s5,t6])/\yE t6=true:=by
 have hm:=h.m;have hl:=zDg (k:=k) (n:=i) hm.2 (by omega);have hlow:∀r∈Fr m i k,r.length=i/\∀x∈r,x<m:=λr hr=>⟨Jk m i r (mem_filter.mp hr).1,uP m i r (mem_filter.mp hr).1⟩
 have hg:∀r∈(Fr m i k).flatMap (more m),r.length=i+1/\∀x∈r,x<m:=λr hr=>by
  obtain⟨t,ht,hr⟩:=List.mem_flatMap.mp hr;obtain⟨x,hx,rfl⟩:=mem_map.mp hr;obtain⟨h1,h2⟩:=hlow t ht;refine⟨by simp[h1],λy hy=>?_⟩;rcases mem_append.mp hy with hy|hy
  ·exact h2 y hy
  ·rw[mem_singleton]at hy;subst hy;simpa using hx
 have hlen:=Zn m (Fr m i k);have hlen2:=Nat.mul_le_mul hl hm.2;have hi2:∀d∈TL (Fr m i k),∀s1:DV.Slot,dI yw (.iR1 (.cons (.var 2) .nil)) (.v d::s1::[D.int (m:Nat)].map Slot.v)=.ok (N (List.range m),.v d::s1::[D.int (m:Nat)].map Slot.v):=λd _ s1=>by
  have:=i_R1 (fs:=yw) (E:=.v d::s1::[D.int (m:Nat)].map Slot.v) (a:=.cons (.var 2) .nil) (j:=(m:Int)) (zB (zA rfl) zO) rfl ⟨by omega,by omega⟩;rw[Int.toNat_natCast,zDK]at this;exact this
 have c2:=x_comp2 (fs:=yw) (E:=[qI m,qI n,qI k,s3,.own (TL (Fr m i k)),s5,s6]) (E1:=[qI m,qI n,qI k,s3,.v (.l (TL (Fr m i k))),s5,s6]) (xs:=["row","sign"]) (ys:=["m"]) (caps:=[0]) (it:=.iL (.var 4)) (jt:=.iR1 (.cons (.var 2) .nil)) (el:=.bin .add (.var 0) (.t (.cons (.var 1) .nil))) (vs:=[.int (m:Nat)]) snD (i_L (Wh rfl rfl) rfl) rfl hi2 (λd hd e he=>by
  obtain⟨t,ht,rfl⟩:=zAY hd;obtain⟨x,hx,rfl⟩:=zA8 he;refine⟨.v (tN (t++[x])),zo (zA rfl) (Je (zB (zA rfl) zO) rfl yC) (Gn t x (by have:=(hlow t ht).1;omega)),?_⟩;show tN (t++[x])=tN (lst1 (tN t)++[((x:Int)).toNat]);rw[zAg,Int.toNat_natCast]) (by
   rw[YL,JD,length_range];simp only[cap];omega)
 rw[zDn]at c2;have c1:=zAP (fs:=yw) (E:=[qI m,qI n,qI k,s3,.v (.l (TL (Fr m i k))),s5,.own (TL ((Fr m i k).flatMap (more m)))]) (E1:=[qI m,qI n,qI k,s3,.v (.l (TL (Fr m i k))),s5,.v (.l (TL ((Fr m i k).flatMap (more m))))]) (nl:=1) (xs:=["row"]) (ys:=["k"]) (caps:=[2]) (it:=.iL (.var 6)) (tg:=.n 0) (tt:=.tE (.cmp .lt (.call 0 (.ev (.var 0) .nil)) (.var 1))) (el:=.var 0) (vs:=[.int (k:Nat)]) (rs:=TL (Fr m (i+1) k)) (λd=>[.v d]) (λd=>fr k (lst1 d)) (λd=>d) (i_L (Wh rfl rfl) rfl) rfl (λd hd S hS hn=>zC6 hS hn) (λd hd=>⟨rfl,λs hs=>by rw[mem_singleton]at hs;subst hs;rfl⟩) (λd hd=>by
   obtain⟨t,ht,rfl⟩:=zAY hd;obtain⟨h1,h2⟩:=hg t ht;show dT _ _ _=.ok (fr k (lst1 (tN t)),_);rw[zAg];exact t_E (zp (jM (F:=yl) rfl (zA rfl) (Gm hm.2 (by omega) h2)) (zA rfl) (zAV _ _))) (λd hd _=>⟨_,zA rfl,rfl⟩) (by rw[YL,hlen];simp only[cap];omega) (by
   rw[zDk,List.map_id',Fr_succ])
 exact⟨_,zR (yU c2 (jN rfl h6 rfl)) (zV (yU c1 rfl)),rfl⟩
def e_all{m n k:Nat}(h:Od m n k)(hn:n<7)(hg:¬500<wy m k [] n):yn [qI m,qI n,qI k]=.ok (.own (TL (Fr m n k)),O3):=by
 have g:=zAU (wy m k [] n) 500;rw[decide_eq_false hg]at g;obtain⟨E1,f,s5,s6,rfl,h5,h6⟩:=yS (tg:=gN 5) (body:=dB yw JY) (λi E=>∃s5 s6,E=[qI m,qI n,qI k,qI (wy m k [] n),.own (TL (Fr m i k)),s5,s6]/\yE s5=true/\yE s6=true) (DV.zF 0 n) 0 [qI m,qI n,qI k,qI (wy m k [] n),.own (TL (Fr m 0 k)),.e,.e] ⟨_,_,rfl,rfl,rfl⟩ (λi d q E ⟨s5,s6,hE,h5,h6⟩=>by
  obtain⟨hi,rfl⟩:=jw _ _ _ _ q;rw[zero_add]at hE ⊢;obtain⟨t6,f,q6⟩:=zFR h (i:=i) (by omega) (.v (.int ((wy m k [] n:Nat):Int))) (.v (.int (0+(i:Int)))) s6 h6;refine⟨_,_,?_,f,_,_,rfl,rfl,q6⟩;subst hE;cases s5<;>first|rfl|(cases h5))
 rw[jJ,zero_add]at f;have z:Fr m 0 k=[[]]:=by
  have:=h.k.1;show([[]]:List (List Nat)).filter (fr k)=_;have:fr k []=true:=decide_eq_true (show 0<k by omega);simp[this]
 rw[z]at f;exact je (zR (yU (yY (F:=zg) rfl (zA rfl) (zA rfl) (zA rfl) (Go h)) rfl) (zR (jP (t_E (zp (zA rfl) QW g)) jQ) (zR (yU (wA (zB (Je zO rfl Yd) zO) rfl yC) rfl) (zR (jq (tg:=.n 5) (j:=(n:Int)) (zB (zA rfl) zO) rfl ⟨by omega,by omega⟩ (by rw[Int.toNat_natCast];exact f)) (zV (jx (x_movO rfl rfl))))))) rfl
theorem Gp(m:Nat):∀l,wB m (l+1)=(List.range m).flatMap λx=>(wB m l).map (x::·)
 |0=>by
  rw[jz];show([[]]:List (List Nat)).flatMap (more m)=(List.range m).flatMap λx=>([[]]:List (List Nat)).map (x::·)
  unfold more;simp[List.flatMap_singleton,<- List.map_eq_flatMap]
 |l+1=>by
  have ih:=Gp m l;rw[jz m (l+1)]
  conv=>lhs;rw[ih]
  rw[List.flatMap_assoc];congr 1;funext x;rw[List.flatMap_map,jz m l,List.map_flatMap];congr 1;funext t;simp[more]
abbrev Qr(m k:Nat)(r:List Nat)(l:Nat):List (List Nat):=(wB m l).filter λt=>fr k (r++t)
def Tl(m k:Nat)(r:List Nat)(l:Nat):Nat->Nat->List (List Nat)
 |0,_=>[]|j+1,x=>(Qr m k (r++[x]) l).map (x::·)++Tl m k r l j (x+1)
theorem zAh(m k:Nat)(r:List Nat)(l:Nat):∀j x,(range' x j).flatMap (λy=>(Qr m k (r++[y]) l).map (y::·))=Tl m k r l j x
 |0,_=>rfl|j+1,x=>by rw[List.range'_succ,flatMap_cons,zAh m k r l j (x+1)];rfl
def Qr_succ(m k:Nat)(r:List Nat)(l:Nat):Qr m k r (l+1)=Tl m k r l m 0:=by
 unfold Qr;rw[Gp,zDj,<- zAh,List.range_eq_range'];congr 1;funext x;rw[filter_map];congr 2;funext t;simp
def x_cX3c{fs:List FI}{E E1 E2 E3:zN}{k:Nat}{a b c:_}{r r2:R}{x:Exn}(h1:dE fs a E=.ok (r,E1))(h2:dE fs b E1=.ok (r2,E2))(h3:dE fs c E2=.exc x E3):dE fs (.call k (.ev a (.ev b (.ev c .nil)))) E=.exc x E3:=by
 simp only[yX,wc,yo,yp,zh,h1,h2,h3]
def x_binX{fs:List FI}{E E1:zN}{o:Op2}{a b:_}{x:Exn}(h1:dE fs a E=.exc x E1):dE fs (.bin o a b) E=.exc x E1:=by
 simp only[YC,Jo,h1]
def nth_X{a b c d:D}(h:zX [.v a,.v b,.v c]=.exc ⟨"NoNumber",false,[]⟩ O3):ym [.v a,.v b,.v c,.v d]=.exc ⟨"NoNumber",false,[]⟩ O4 :=
 Jg (W9 (Jf (x_cX3c (zA rfl) x_c (x_binX (QY (F:=zg) rfl (zA rfl) (zA rfl) (zA rfl) (zDl h)))))) rfl
def nth_bad{m n k:Nat}(h:Od m n k){d:D}(hf:Gg d=false)(hb:Y4 0 (((wy m k [] n:Nat):Int)-1) d=false):ym [qI m,qI n,qI k,.v d]=.exc ⟨"NoNumber",false,[]⟩ O4 :=
 Jg (W9 (Jf (QY (F:=zP) rfl (zA rfl) x_c (zo (yY (F:=zg) rfl (zA rfl) (zA rfl) (zA rfl) (Go h)) x_c rfl) (Zq d 0 _ hf hb)))) rfl
abbrev En(m n k:Nat)(num:D)(r:List Nat)(b l x:Nat):zN:=[qI m,qI n,qI k,.v num,.v (tN r),qI b,qI l,qI x,.v (.int ((wy m k (r++[x]) l:Nat):Int))]
def uY{m:Nat}{r:List Nat}(hr:∀x∈r,x<m){x:Nat}(hx:x<m):∀y∈r++[x],y<m:=λy hy=>by
 rcases mem_append.mp hy with hy|hy
 ·exact hr y hy
 ·rw[mem_singleton]at hy;omega
theorem zGe{m n k:Nat}(h:Od m n k){num:D}{r:List Nat}{l:Nat}(hl:l<=20)(hrl:r.length<20)(hr:∀x∈r,x<m):∀(j f x b:Nat) (t:List Nat),j<=f->x+j=m->(Tl m k r l j x)[b]?=some t ->
  ∃b' x' t',DV.whN (dT ja (.tE (.cmp .ge (.var 5) (.var 8)))) (dB ja JX) f (En m n k num r b l x)=.ok (.nx,En m n k num r b' l x')/\x'<m/\t=x'::t'/\(Qr m k (r++[x']) l)[b']?=some t'
 |0,f,x,b,t,_,_,ht=>by simp[Tl]at ht|j+1,0,x,b,t,hf,_,_=>by omega
 |j+1,f+1,x,b,t,hf,hx,ht=>by
  have hW:(Qr m k (r++[x]) l).length=wy m k (r++[x]) l:=rfl;have g:=zGZ b (wy m k (r++[x]) l);have tE:dT ja (.tE (.cmp .ge (.var 5) (.var 8))) (En m n k num r b l x)=.ok (decide (wy m k (r++[x]) l<=b),En m n k num r b l x):=t_E (zp (zA rfl) (zA rfl) g);simp only[Tl]at ht;by_cases hb:wy m k (r++[x]) l<=b
  ·rw[getElem?_append_right (by rw[length_map];omega),length_map,hW]at ht
   have hj:0<j:=by
    rcases Nat.eq_zero_or_pos j with z|z
    ·subst z;simp[Tl]at ht
    ·exact z
   obtain⟨b',x',t',e,h1,h2,h3⟩:=zGe h (num:=num) (n:=n) hl hrl hr j f (x+1) (b-wy m k (r++[x]) l) t (by omega) (by omega) ht;have ew:=zDa h.m h.k hl (r:=r++[x+1]) (by simp;omega) (uY hr (show x+1<m by omega));have bd:dB ja JX (En m n k num r b l x)=.ok (.nx,En m n k num r (b-wy m k (r++[x]) l) l (x+1)):=by
    refine zR (E1:=[qI m,qI n,qI k,.v num,.v (tN r),.v (.int ((b-wy m k (r++[x]) l:Nat):Int)),qI l,qI x,.v (.int ((wy m k (r++[x]) l:Nat):Int))]) (s_aug (z:=((b-wy m k (r++[x]) l:Nat):Int)) rfl (zA rfl) ?_ rfl) ?_
    ·show some ((b:Int)-(wy m k (r++[x]) l:Nat))=_
     congr 1;omega
    refine zR (s_aug (z:=((x+1:Nat):Int)) rfl x_c rfl rfl) ?_;exact zV (yU (uK (F:=j7) rfl (zA rfl) (zA rfl) (zo (zA rfl) (Je (zB (zA rfl) zO) rfl yC) (Gn r (x+1) (by omega))) (zA rfl) ew) rfl)
   refine⟨b',x',t',?_,h1,h2,h3⟩;rw[decide_eq_true hb]at tE;simp only[DV.whN,tE,bd];exact e
  ·rw[getElem?_append_left (by rw[length_map];omega),getElem?_map,Option.map_eq_some_iff]at ht
   obtain⟨t',h1,h2⟩:=ht;refine⟨b,x,t',?_,by omega,h2.symm,h1⟩;rw[decide_eq_false hb]at tE;simp only[DV.whN,tE]
inductive InN(m n k:Nat)(num:D)(T:List Nat)(i:Nat):zN->Prop
 |mk (r:List Nat) (b:Nat) (t:List Nat) (s6 s7 s8:DV.Slot):r.length=i->(∀x∈r,x<m)->(Qr m k r (n-i))[b]?=some t->r++t=T->yE s6=true->yE s7=true->yE s8=true->InN m n k num T i [qI m,qI n,qI k,.v num,.v (tN r),qI b,s6,s7,s8]
def e_nth{m n k:Nat}(h:Od m n k){a:Nat}{T:List Nat}(ha:(Fr m n k)[a]?=some T):ym [qI m,qI n,qI k,qI a]=.ok (.v (tN T),O4):=by
 have hn:=h.n;have hal:a<wy m k [] n:=by
  have:=(qG.mp ha).1;exact this
 have inr:Y4 0 (((wy m k [] n:Nat):Int)-1) (.int (a:Nat))=true:=by
  simp only[Y4,Bool.and_eq_true,decide_eq_true_eq];omega
 obtain⟨E',f,I⟩:=yS (tg:=gN 6) (body:=dB ja ZT) (λi E=>InN m n k (.int (a:Nat)) T i E) (yt n) 0 [qI m,qI n,qI k,qI a,.v (tN []),qI a,.e,.e,.e] (.mk [] a T .e .e .e rfl (λx h=>by cases h) ha rfl rfl rfl rfl) (λi d q E I=>by
  obtain⟨hi,rfl⟩:=zFM q;rw[zero_add]at I ⊢;obtain⟨r,b,t,s6,s7,s8,h1,h2,h3,h4,h6,h7,h8⟩:=I;have el:n-i=(n-(i+1))+1:=by omega
  rw[el,Qr_succ]at h3;obtain⟨b',x',t',e,hx,ht,hq⟩:=zGe h (num:=.int (a:Nat)) (n:=n) (r:=r) (l:=n-(i+1)) (by omega) (by omega) h2 m 1000000 0 b t (by have:=h.m;omega) (by omega) h3;have ew:=zDa h.m h.k (l:=n-(i+1)) (by omega) (r:=r++[0]) (by simp;omega) (uY h2 (show 0<m by have:=h.m;omega));refine⟨[qI m,qI n,qI k,qI a,.v (tN r),qI b,.v (.int ((n-(i+1):Nat):Int)),s7,s8],_,?_,?_,.mk (r++[x']) b' t' (.v (.int ((n-(i+1):Nat):Int))) (.v (.int (x':Nat))) (.v (.int ((wy m k (r++[x']) (n-(i+1)):Nat):Int))) (by simp[h1]) (uY h2 hx) hq (by rw[append_assoc,<- h4,ht];rfl) rfl rfl rfl⟩
  ·cases s6<;>first|rfl|(cases h6)
  ·refine zR (E1:=[qI m,qI n,qI k,qI a,.v (tN r),qI b,.v (.int ((n-(i+1):Nat):Int)),qI (0),s8]) (yU x_c (jN rfl h7 rfl)) ?_
   refine zR (E1:=En m n k (.int (a:Nat)) r b (n-(i+1)) 0) (yU (uK (F:=j7) rfl (zA rfl) (zA rfl) (zo (zA rfl) (Je (zB (zA rfl) zO) rfl yC) (Gn r 0 (by omega))) (zA rfl) ew) (jN rfl h8 rfl)) ?_;refine zR (s_while e) (zV (yU (zo (zA rfl) (Je (zB (zA rfl) zO) rfl yC) (Gn r x' (by omega))) rfl)))
 have ld:(yt n).length=n:=by simp[yt]
 rw[ld,zero_add]at I;obtain⟨r,b,t,s6,s7,s8,h1,h2,h3,h4,_,_,_⟩:=I;have et:t=[]:=by
  have:=Jk m _ t (mem_filter.mp (mem_of_getElem? h3)).1;rw[Nat.sub_self]at this;exact length_eq_zero_iff.mp this
 subst et;rw[append_nil]at h4;subst h4;exact je (zR (YK (yY (F:=zP) rfl (zA rfl) x_c (zo (yY (F:=zg) rfl (zA rfl) (zA rfl) (zA rfl) (Go h)) x_c rfl) (jO _ 0 _ rfl inr))) (zR (yU (Je zO rfl Yd) rfl) (zR (yU (zA rfl) rfl) (zR (s_forI (tg:=.n 6) (i_Rv (j:=(n:Int)) (zB (zA rfl) zO) rfl ⟨by omega,by omega⟩) (by rw[Int.toNat_natCast];exact f)) (zV (jx (zA rfl))))))) rfl
def x_cX4{fs:List FI}{E E1 E2 E3 E4:zN}{k:Nat}{a b c d:_}{F:MF}{r r2 r3 r4:R}{z:Str}{y:Bool}{ws:List Int}{o:List DV.Slot}(h0:fiF fs k=F)(h1:dE fs a E=.ok (r,E1))(h1':dE fs b E1=.ok (r2,E2))(h1'':dE fs c E2=.ok (r3,E3))(h4:dE fs d E3=.ok (r4,E4))(h2:F [.v r.d,.v r2.d,.v r3.d,.v r4.d]=.exc ⟨z,y,ws⟩ o):dE fs (.call k (.ev a (.ev b (.ev c (.ev d .nil))))) E=.exc ⟨z,false,ws⟩ E4:=by
 subst h0;simp only[yX,wc,yo,yp,zh,h1,h1',h1'',h4,zI,h2,Ys,if_true]
def zBH(vs:List Int):yV [.v (.exn "TooGreat" vs)]=.ok (.v (.str "great"),[.e]):=rfl
def zDo{a b c d:D}{r:R}(h:zg [.v a,.v b,.v c]=.ok (r,O3)):zQ [.v (.int 0),.v a,.v b,.v c,.v d]=.ok (r,O5') :=
 je (E1:=[.v (.int 0),.v a,.v b,.v c,.v d,.e]) (zV (zDC (W8 (wf (t_E (zp (zA rfl) x_c rfl)) (zV (jx (zAR (x:="free_many") (F:=zg) rfl rfl (zA rfl) (zA rfl) (zA rfl) h))))))) rfl
def zFS{a b c d:D}{r:R}(h:yn [.v a,.v b,.v c]=.ok (r,O3)):zQ [.v (.int 1),.v a,.v b,.v c,.v d]=.ok (r,O5') :=
 je (E1:=[.v (.int 1),.v a,.v b,.v c,.v d,.e]) (zV (zDC (W8 (wf (t_E (zp (zA rfl) x_c rfl)) (zV (jx (zAR (x:="free_all") (F:=yn) rfl rfl (zA rfl) (zA rfl) (zA rfl) h))))))) rfl
def zFT{a b c d:D}{r:R}(h:ym [.v a,.v b,.v c,.v d]=.ok (r,O4)):zQ [.v (.int 2),.v a,.v b,.v c,.v d]=.ok (r,O5') :=
 je (E1:=[.v (.int 2),.v a,.v b,.v c,.v d,.e]) (zV (zDC (zR (jP (t_E (zp (zA rfl) x_c rfl)) jQ) (zV (jx (uK (F:=ym) rfl (zA rfl) (zA rfl) (zA rfl) (zA rfl) h)))))) rfl
abbrev hdB:Bx:=(.bSeq (.sIf (.tE (.isC cl_ "TooGreat" (.var 5))) (.bOne (.sRet (.t (.cons (.call 3 (.ev (.var 5) .nil)) (.cons (.atr ri_ "many" (.var 5)) (.cons (.atr ri_ "most" (.var 5)) .nil)))))) .bNil)
  (.bOne (.sRet (.call 3 (.ev (.var 5) .nil)))))
def zAi{w a b c d:D}:dB Jb hdB [.v w,.v a,.v b,.v c,.v d,.v (.exn "NoNumber" [])]=.ok (.ret (.v (.str "number")),[.v w,.v a,.v b,.v c,.v d,.v (.exn "NoNumber" [])]) :=
 zR (jP (t_E (x_isC (zA rfl) rfl rfl)) jQ) (zV (jx (jM (F:=yV) rfl (zA rfl) zFP)))
def zFU{w a b c d:D}{x y:Int}:dB Jb hdB [.v w,.v a,.v b,.v c,.v d,.v (.exn "TooGreat" [x,y])]=.ok (.ret (.v (.t [.str "great",.int x,.int y])),[.v w,.v a,.v b,.v c,.v d,.v (.exn "TooGreat" [x,y])]) :=
 W8 (wf (t_E (x_isC (zA rfl) rfl rfl)) (zV (jx (Je (zB (jM (F:=yV) rfl (zA rfl) (zBH _)) (zB (x_atr (zA rfl) rfl rfl) (zB (x_atr (zA rfl) rfl rfl) zO))) rfl Jl))))
def vc{m n k:Nat}(h:Od m n k)(hg:500<wy m k [] n)(d:D):zQ [.v (.int 1),qI m,qI n,qI k,.v d]=.ok (.v (.t [.str "great",.int ((wy m k [] n:Nat):Int),.int 500]),O5') :=
 je (zV (Gd (W9 (wf (t_E (zp (zA rfl) x_c rfl)) (zV (Gc (Wk (x:="free_all") (F:=yn) rfl rfl (zA rfl) (zA rfl) (zA rfl) (zDm h hg)))))) rfl rfl zFU)) rfl
def JF{a b c d:D}(h:zX [.v a,.v b,.v c]=.exc ⟨"NoNumber",false,[]⟩ O3)(w:Nat)(hw:w<3):zQ [qI w,.v a,.v b,.v c,.v d]=.ok (.v (.str "number"),O5'):=by
 match w,hw with
 |0,_=>exact je (zV (Gd (W9 (wf (t_E (zp (zA rfl) x_c rfl)) (zV (Gc (Wk (x:="free_many") (F:=zg) rfl rfl (zA rfl) (zA rfl) (zA rfl) (zDl h)))))) rfl rfl zAi)) rfl|1,_=>exact je (zV (Gd (W9 (wf (t_E (zp (zA rfl) x_c rfl)) (zV (Gc (Wk (x:="free_all") (F:=yn) rfl rfl (zA rfl) (zA rfl) (zA rfl) (all_X h)))))) rfl rfl zAi)) rfl|2,_=>exact je (zV (Gd (zR (jP (t_E (zp (zA rfl) x_c rfl)) jQ) (zV (Gc (x_cX4 (F:=ym) rfl (zA rfl) (zA rfl) (zA rfl) (zA rfl) (nth_X h))))) rfl rfl zAi)) rfl
def zFV{m n k:Nat}(h:Od m n k){d:D}(hf:Gg d=false)(hb:Y4 0 (((wy m k [] n:Nat):Int)-1) d=false):zQ [.v (.int 2),qI m,qI n,qI k,.v d]=.ok (.v (.str "number"),O5') :=
 je (zV (Gd (zR (jP (t_E (zp (zA rfl) x_c rfl)) jQ) (zV (Gc (x_cX4 (F:=ym) rfl (zA rfl) (zA rfl) (zA rfl) (zA rfl) (nth_bad h hf hb))))) rfl rfl zAi)) rfl
def sm_TL{L:List (List Nat)}(h1:L.length<=729)(h2:∀r∈L,r.length<=32/\∀x∈r,x<2^100):∃t,JL (.l (TL L))=some (.v (.str t)):=by
 obtain⟨xs,e,q1,q2,q3,q4⟩:=rps (n:=1) (TL L) (λd hd=>by
  obtain⟨r,hr,rfl⟩:=zAY hd;exact sm_py 1 _ ⟨by rw[JD];exact(h2 r hr).1,λy hy=>by obtain⟨z,hz,rfl⟩:=zA8 hy;exact zGd ((h2 r hr).2 z hz)⟩)
 rw[YL]at q1;have hc:(PyData.list xs).shown.length<=cap:=by
  simp only[PyData.shown,wQ,listText,strLen_append];have j:=Ye (rpB 1) (xs.map PyData.shown) 0 "[" (λt ht=>by obtain⟨y,hy,rfl⟩:=mem_map.mp ht;exact q4 y hy);have e1:(("[":Str)).length=1:=by decide +kernel
  have e2:(("]":Str)).length=1:=by decide +kernel
  have e3:rpB 1=1354:=by decide
  rw[length_map]at j;have:=Nat.mul_le_mul_right (rpB 1+2) (show xs.length<=729 by omega);rw[e3]at this j;simp only[cap];omega
 refine⟨(PyData.list xs).shown,?_⟩;unfold JL;have ep:pyD (.l (TL L))=some (.list xs):=by simp only[pyD,e];rfl
 rw[ep];dsimp only;exact if_pos ⟨by simp only[PyData.showable];exact q2,by simp only[PyData.depth];omega,hc⟩
def zFW{tg:MG}{body:MS}{d:D}{ds:List D}{r:R}{E E1 E2:zN}(h1:tg d E=.ok E1)(h2:body E1=.ok (.ret r,E2)):DV.JN tg body (d::ds) E=.ok (.ret r,E2):=by
 simp only[DV.JN,h1,h2]
def getD_in{α:Type}{l:List α}{i:Nat}{a:α}(h:i<l.length):l.getD i a=l[i]:=by
 simp[List.getD,h]
def eqb_TL(L:List (List Nat)):∀d∈TL L,eqb 19 d=true:=λd hd=>by
 obtain⟨t,_,rfl⟩:=zAY hd;exact eqb_N t 18
def zFX(x:Int):eqG (.t [.str "great",.int x,.int 500]) (.t [.str "great",.int x,.int 500])=some (.v (.bl true)):=eq_tup _ rfl
def e_small{m n k:Nat}(h:Od m n k)(hn:n<7):yb [qI m,qI n,qI k]=.ok (.v (.bl true),O3):=by
 have hm:=h.m;have hk:=h.k;have ef:=zBE (m:=m) (n:=n) (k:=k) hm hn ⟨hk.1,by omega⟩;have hl:=zDg (k:=k) (n:=n) hm.2 hn;have ln:lenD [.l (TL (Fr m n k))]=some (.v (.int ((wy m k [] n:Nat):Int))):=by simp only[lenD,YL];rfl
 have g:=zAU (wy m k [] n) 500;have hlow:∀r∈Fr m n k,r.length=n/\∀x∈r,x<m:=λr hr=>⟨Jk m n r (mem_filter.mp hr).1,uP m n r (mem_filter.mp hr).1⟩
 by_cases hg:500<wy m k [] n
 ·rw[decide_eq_true hg]at g
  have tg:=vc h hg (.int 0);have f:DV.JN (gN 4) (dB zn yI) (DV.zF 0 2) [qI m,qI n,qI k,.v (.l (TL (Fr m n k))),.e,.e]=.ok (.ret (.v (.bl true)),[qI m,qI n,qI k,.v (.l (TL (Fr m n k))),.v (.int 0),.v (.t [.str "great",.int ((wy m k [] n:Nat):Int),.int 500])]) :=
   zFW (d:=.int 0) (E1:=[qI m,qI n,qI k,.v (.l (TL (Fr m n k))),.v (.int 0),.e]) rfl (zR (yU (wX (F:=zQ) rfl x_c (zA rfl) (zA rfl) (zA rfl) x_c tg) rfl) (W8 (wf (t_E (zp (Wi (zB (zA rfl) zO) ln) x_c g)) (zV (jx (zp (zA rfl) (Je (zB x_c (zB (Wi (zB (zA rfl) zO) ln) (zB x_c zO))) rfl Jl) (zFX _)))))))
  exact je (zR (yU (yY (F:=j8) rfl (zA rfl) (zA rfl) (zA rfl) ef) rfl) (W8 (jq (tg:=.n 4) (j:=2) (zB x_c zO) rfl ⟨by decide,by decide⟩ f))) rfl
 ·rw[decide_eq_false hg]at g
  have ta:=zFS (d:=.int 0) (e_all h hn hg);obtain⟨tx,ht⟩:=sm_TL (L:=Fr m n k) hl (λr hr=>⟨by have:=(hlow r hr).1;omega,λx hx=>by have:=(hlow r hr).2 x hx;exact lt_of_lt_of_le this (le_trans hm.2 (by decide))⟩);have r1:zEr [.l (TL (Fr m n k))]=some (.v (.str tx)):=ht;have turn:∀(i:Int) (s4 s5:DV.Slot),yE s5=true->dB zn yI [qI m,qI n,qI k,.v (.l (TL (Fr m n k))),s4,s5]=.ok (.nx,[qI m,qI n,qI k,.v (.l (TL (Fr m n k))),s4,.own (TL (Fr m n k)++[.int 0])]):=λi s4 s5 h5=>by
   refine zR (E1:=[qI m,qI n,qI k,.v (.l (TL (Fr m n k))),s4,.own (TL (Fr m n k))]) (yU (wX (F:=zQ) rfl x_c (zA rfl) (zA rfl) (zA rfl) x_c ta) (jN rfl h5 rfl)) ?_;refine zR (jP (t_E (zp (Wi (zB (zA rfl) zO) ln) x_c g)) jQ) ?_;refine zR (jP (t_E (zp (x_reprO rfl ht) (Wi (zB (zA rfl) zO) r1) (ne_str tx))) jQ) ?_;exact zV (s_app rfl x_c rfl (by rw[YL];simp only[cap];omega) rfl)
  have cp:=zAP (fs:=zn) (E:=[qI m,qI n,qI k,.v (.l (TL (Fr m n k))),.v (.int 1),.own (TL (Fr m n k)++[.int 0])]) (E1:=[qI m,qI n,qI k,.v (.l (TL (Fr m n k))),.v (.int 1),.own (TL (Fr m n k)++[.int 0])]) (nl:=1) (xs:=["_law_at"]) (ys:=["_law_m","_law_n","_law_k"]) (caps:=[0,1,2]) (it:=.iR1 (.cons (.cB .len (.cons (.var 3) .nil)) .nil)) (tg:=.n 0) (tt:=.tTr) (el:=.call 0 (.ev (.c (.int 2)) (.ev (.var 1) (.ev (.var 2) (.ev (.var 3) (.ev (.var 0) .nil)))))) (vs:=[.int (m:Nat),.int (n:Nat),.int (k:Nat)]) (ds:=DV.zF 0 (wy m k [] n)) (rs:=TL (Fr m n k)) (λd=>[.v d]) (λ_=>true) (λd=>tN ((Fr m n k).getD (nat1 d) [])) (by
    have:=i_R1 (fs:=zn) (E:=[qI m,qI n,qI k,.v (.l (TL (Fr m n k))),.v (.int 1),.own (TL (Fr m n k)++[.int 0])]) (a:=.cons (.cB .len (.cons (.var 3) .nil)) .nil) (j:=((wy m k [] n:Nat):Int)) (zB (Wi (zB (zA rfl) zO) ln) zO) rfl ⟨by omega,by omega⟩;rw[Int.toNat_natCast]at this;exact this) rfl (λd hd S hS hn=>zC6 hS hn) (λd hd=>⟨rfl,λs hs=>by rw[mem_singleton]at hs;subst hs;rfl⟩) (λd hd=>by simp only[WS,W2,zAH,jj]) (λd hd _=>by
    rw[zDK]at hd;obtain⟨x,hx,rfl⟩:=zA8 hd;have hx':x<(Fr m n k).length:=by rw[mem_range]at hx;exact hx
    have en:=zFT (e_nth h (a:=x) (T:=(Fr m n k)[x]) (getElem?_eq_getElem hx'));refine⟨_,wX (F:=zQ) rfl x_c (zA rfl) (zA rfl) (zA rfl) (zA rfl) en,?_⟩;show tN _=tN ((Fr m n k).getD ((x:Int)).toNat []);rw[Int.toNat_natCast,getD_in hx']) (by rw[jJ];simp only[cap];omega) (by
    rw[filter_eq_self.mpr λ_ _=>rfl,zDK,wy_Fr];refine List.ext_getElem (by rw[length_map,JD,length_range,YL]) λi h1 h2=>?_
    have hi:i<(Fr m n k).length:=by rw[YL]at h2;exact h2
    simp[N,TL,nat1,getElem?_eq_getElem hi])
  have f:DV.JN (gN 4) (dB zn yI) (DV.zF 0 2) [qI m,qI n,qI k,.v (.l (TL (Fr m n k))),.e,.e]=.ok (.nx,[qI m,qI n,qI k,.v (.l (TL (Fr m n k))),.v (.int 1),.own (TL (Fr m n k)++[.int 0])]) :=
   Wm (d:=.int 0) rfl (turn 0 _ _ rfl) (Wm (d:=.int 1) rfl (turn 1 _ _ rfl) zAT)
  exact je (zR (yU (yY (F:=j8) rfl (zA rfl) (zA rfl) (zA rfl) ef) rfl) (zR (jq (tg:=.n 4) (j:=2) (zB x_c zO) rfl ⟨by decide,by decide⟩ f) (zV (jx (zp cp (zA rfl) (eq_lst _ (all_eq_true.mpr (eqb_TL _)))))))) rfl
def wy1{m:Nat}(hm:1<=m)(n:Nat):wy m 1 [] n=if n=0 then 1 else 0:=by
 rw[wy_A hm (le_refl 1),zGT _ _ _ hm];simp
def c1(i:Nat):List Nat:=[if i=0 then 1 else 0,0]
def zBI{m n:Nat}(hm:2<=m/\m<=3)(hn:n<=20):yW [qI m,qI n,qI (1)]=.ok (.v (.int ((wy m 1 [] n:Nat):Int)),O3):=by
 have mu:ZR (.l [.int 0]) (.int ((2:Nat):Int))=some (.own [.int 0,.int 0]):=Jw _ 2 (by omega);obtain⟨E',f1,s3,s4,s5,s6,hE,h3,h4,h5,h6⟩:=yS (tg:=gN 4) (body:=dB zS jp) (λi E=>∃s3 s4 s5 s6,E=[qI m,qI n,qI (1),s3,s4,s5,s6]/\(s3=.own (N (c1 i))\/s3=.v (.l (N (c1 i))))/\yE s4=true/\yE s5=true/\yE s6=true) (DV.zF 0 n) 0 [qI m,qI n,qI (1),.own (N (c1 0)),.e,.e,.e] ⟨_,_,_,_,rfl,.inl rfl,rfl,rfl,rfl⟩ (λi d q E ⟨s3,s4,s5,s6,hE,h3,h4,h5,h6⟩=>by
  rw[zero_add]at h3 ⊢;have f:DV.JN (gN 6) (dB zS yT) (DV.zF 0 1) [qI m,qI n,qI (1),s3,.v d,.own [.int 0,.int 0],s6]=.ok (.nx,[qI m,qI n,qI (1),s3,.v d,.own [.int 0,.int 0],.v (.int 0)]) :=
   Wm (d:=.int 0) (E1:=[qI m,qI n,qI (1),s3,.v d,.own [.int 0,.int 0],.v (.int 0)]) (by cases s6<;>first|rfl|(cases h6)) (zR (jP (zAS (t_E (zp (zo (zA rfl) x_c rfl) (zA rfl) rfl))) jQ) (zV (jP (t_E (zp (zA rfl) x_c rfl)) jQ))) zAT
  refine⟨[qI m,qI n,qI (1),s3,.v d,s5,s6],[qI m,qI n,qI (1),.v (.l (N (c1 (i+1)))),.v d,.v (.l (N (c1 (i+1)))),.v (.int 0)],?_,?_,_,_,_,_,rfl,.inr rfl,rfl,rfl,rfl⟩
  ·subst hE;cases s4<;>first|rfl|(cases h4)
  ·exact zR (E1:=[qI m,qI n,qI (1),s3,.v d,.own [.int 0,.int 0],s6]) (yU (zo (wA (zB x_c zO) rfl yC) (zo (zA rfl) x_c rfl) mu) (jN rfl h5 rfl)) (zR (jq (tg:=.n 6) (j:=((1:Nat):Int)) (zB (zA rfl) zO) rfl ⟨by decide,by decide⟩ f) (zV (yU (Wh rfl rfl) (jN rfl (by rcases h3 with rfl|rfl<;>rfl) rfl)))))
 rw[jJ,zero_add]at h3;subst hE;have cut:=sl_N (c1 n) 1 (by simp[c1]);have su:zEi [.l (N ((c1 n).take 1))]=some (.v (.int ((wy m 1 [] n:Nat):Int))):=by rw[Gi,wy1 (by omega)];simp[c1]
 exact je (zR (E1:=[qI m,qI n,qI (1),.own [.int 0,.int 0],.e,.e,.e]) (yU (zo (wA (zB x_c zO) rfl yC) (zo (zA rfl) x_c rfl) mu) rfl) (zR (E1:=[qI m,qI n,qI (1),.own (N (c1 0)),.e,.e,.e]) (Wq (k:=0) rfl x_c (by simp) x_c rfl rfl) (zR (jq (tg:=.n 4) (j:=(n:Int)) (zB (zA rfl) zO) rfl ⟨by omega,by omega⟩ (by rw[Int.toNat_natCast];exact f1)) (zV (jx (Wi (zB (x_sl (zGO h3 rfl rfl) o_N (o_S (zA rfl)) cut) zO) su)))))) rfl
def zDp{m n k:Nat}(h:Od m n k):yW [qI m,qI n,qI k]=.ok (.v (.int ((wy m k [] n:Nat):Int)),O3):=by
 by_cases e:k=1
 ·subst e;exact zBI h.m h.n
 ·exact uX h.m h.n ⟨by have:=h.k;omega,h.k.2⟩
def badl(W:Nat):List D:=[.int (W:Nat),.int ((W+1:Nat):Int),.int (-1),.bl true,.non,.str "0",.t [.int 0]]
def badl_ok{W:Nat}{d:D}(hd:d∈badl W):Gg d=false/\Y4 0 ((W:Int)-1) d=false/\∃b,isD d (.bl true)=some b:=by
 simp only[badl,mem_cons,not_mem_nil,or_false]at hd;rcases hd with rfl|rfl|rfl|rfl|rfl|rfl|rfl
 ·exact⟨rfl,by simp only[Y4,Bool.and_eq_false_iff,decide_eq_false_iff_not];omega,_,rfl⟩
 ·exact⟨rfl,by simp only[Y4,Bool.and_eq_false_iff,decide_eq_false_iff_not];omega,_,rfl⟩
 all_goals exact⟨rfl,rfl,_,rfl⟩
def ne_numb:neG (.str "number") (.str "number")=some (.v (.bl false)):=ne_str _
def zFY{m n k:Nat}(h:Od m n k){d:D}(hd:d∈badl (wy m k [] n))(a0 a1 a2 a8 a9 a10 a11:DV.Slot):∃d',dB YI uH [a0,a1,a2,qI m,qI n,qI k,qI (wy m k [] n),.v d,a8,a9,a10,a11]=.ok (.nx,[a0,a1,a2,qI m,qI n,qI k,qI (wy m k [] n),.v d',a8,a9,a10,a11]):=by
 obtain⟨hf,hb,b,hi⟩:=badl_ok hd;have ig:isG false d (.bl true)=some (.v (.bl b)):=by simp only[isG,hi];rfl
 have lt:=zAV (wy m k [] n) 2;have last:∀d',Gg d'=false->Y4 0 (((wy m k [] n:Nat):Int)-1) d'=false->dB YI (.bOne (.sIf (.tE (.cmp .ne (.call 0 (.ev (.c (.int 2)) (.ev (.var 3) (.ev (.var 4) (.ev (.var 5) (.ev (.var 7) .nil)))))) (.c (.str "number")))) (.bOne (.sRet (.c (.bl false)))) .bNil)) [a0,a1,a2,qI m,qI n,qI k,qI (wy m k [] n),.v d',a8,a9,a10,a11]=.ok (.nx,[a0,a1,a2,qI m,qI n,qI k,qI (wy m k [] n),.v d',a8,a9,a10,a11]):=λd' h1 h2 =>
  zV (jP (t_E (zp (wX (F:=zQ) rfl x_c (zA rfl) (zA rfl) (zA rfl) (zA rfl) (zFV h h1 h2)) x_c ne_numb)) jQ)
 cases b with
 |false=>exact⟨d,zR (jP (zAS (t_E (zp (zA rfl) x_c ig))) jQ) (last d hf hb)⟩
 |true =>
  by_cases hw:wy m k [] n<2
  ·rw[decide_eq_true hw]at lt
   exact⟨.non,zR (wf (Gf (t_E (zp (zA rfl) x_c ig)) (t_E (zp (zA rfl) x_c lt))) (zV (yU x_c rfl))) (last .non rfl rfl)⟩
  ·rw[decide_eq_false hw]at lt
   exact⟨d,zR (jP (Gf (t_E (zp (zA rfl) x_c ig)) (t_E (zp (zA rfl) x_c lt))) jQ) (last d hf hb)⟩
def zFZ{m n k:Nat}(h:Od m n k)(a0 a1 a2 s7 a8 a9 a10 a11:DV.Slot)(h7:yE s7=true):∃t7,DV.JN (gN 7) (dB YI uH) (badl (wy m k [] n)) [a0,a1,a2,qI m,qI n,qI k,qI (wy m k [] n),s7,a8,a9,a10,a11]=.ok (.nx,[a0,a1,a2,qI m,qI n,qI k,qI (wy m k [] n),t7,a8,a9,a10,a11])/\yE t7=true:=by
 obtain⟨E1,f,t7,rfl,q7⟩:=yS (tg:=gN 7) (body:=dB YI uH) (λ_ E=>∃t7,E=[a0,a1,a2,qI m,qI n,qI k,qI (wy m k [] n),t7,a8,a9,a10,a11]/\yE t7=true) (badl (wy m k [] n)) 0 [a0,a1,a2,qI m,qI n,qI k,qI (wy m k [] n),s7,a8,a9,a10,a11] ⟨_,rfl,h7⟩ (λi d q E ⟨t7,hE,q7⟩=>by
  obtain⟨d',e⟩:=zFY h (mem_of_getElem? q) a0 a1 a2 a8 a9 a10 a11;refine⟨_,_,?_,e,_,rfl,rfl⟩;subst hE;cases t7<;>first|rfl|(cases q7))
 exact⟨t7,f,q7⟩
def odds:List D:=[.int 4,.int 1,.int (-1),.bl true,.non,.str "2",.int (10^30)]
def odds_ok{d:D}(hd:d∈odds):Gg d=false/\Y4 2 3 d=false:=by
 simp only[odds,mem_cons,not_mem_nil,or_false]at hd;rcases hd with rfl|rfl|rfl|rfl|rfl|rfl|rfl<;>exact⟨rfl,by decide⟩
def fars:List D:=[.int 21,.int (-1),.bl true,.non,.str "2",.int (10^30)]
def fars_ok{d:D}(hd:d∈fars):Gg d=false/\Y4 0 20 d=false/\Y4 1 20 d=false:=by
 simp only[fars,mem_cons,not_mem_nil,or_false]at hd;rcases hd with rfl|rfl|rfl|rfl|rfl|rfl<;>exact⟨rfl,by decide,by decide⟩
def ne_num4:neG (.l (replicate 4 (.str "number"))) (.l (replicate 4 (.str "number")))=some (.v (.bl false)):=rfl
def zFa{m n k:Nat}(h:Od m n k){o z:D}(ho:o∈odds)(hz:z∈fars)(a0 a1 a2 a6 a7 s10 s11:DV.Slot)(h10:yE s10=true)(h11:yE s11=true) :
  ∃t10 t11,DV.JN (gN 10) (dB YI QO) (DV.zF 0 3) [a0,a1,a2,qI m,qI n,qI k,a6,a7,.v o,.v z,s10,s11]=.ok (.nx,[a0,a1,a2,qI m,qI n,qI k,a6,a7,.v o,.v z,t10,t11])/\yE t10=true/\yE t11=true:=by
 obtain⟨of,ob⟩:=odds_ok ho;obtain⟨zf,zb,zc⟩:=fars_ok hz;obtain⟨E1,f,t10,t11,rfl,q10,q11⟩:=yS (tg:=gN 10) (body:=dB YI QO) (λ_ E=>∃t10 t11,E=[a0,a1,a2,qI m,qI n,qI k,a6,a7,.v o,.v z,t10,t11]/\yE t10=true/\yE t11=true) (DV.zF 0 3) 0 [a0,a1,a2,qI m,qI n,qI k,a6,a7,.v o,.v z,s10,s11] ⟨_,_,rfl,h10,h11⟩ (λi x q E ⟨t10,t11,hE,q10,q11⟩=>by
  obtain⟨hi,rfl⟩:=jw _ _ _ _ q;rw[show(0:Int)+(i:Int)=(i:Int)by omega];have o1:=JF (d:=.int 0) (o_signs (a:=.int (n:Nat)) (b:=.int (k:Nat)) of ob) i hi;have o2:=JF (d:=.int 0) (zFO (b:=.int (k:Nat)) h.m zf zb) i hi;have o3:=JF (d:=.int 0) (zAe h.m h.n zf zc) i hi;have o4:=JF (d:=.int 0) (zAe h.m h.n (d:=.int 0) rfl rfl) i hi;refine⟨[a0,a1,a2,qI m,qI n,qI k,a6,a7,.v o,.v z,qI i,t11],[a0,a1,a2,qI m,qI n,qI k,a6,a7,.v o,.v z,qI i,.v (.l (replicate 3 (.str "number")))],?_,?_,_,_,rfl,rfl,rfl⟩
  ·subst hE;cases t10<;>first|rfl|(cases q10)
  ·refine zR (E1:=[a0,a1,a2,qI m,qI n,qI k,a6,a7,.v o,.v z,qI i,.own (replicate 3 (.str "number"))]) (yU (wA (zB (wX (F:=zQ) rfl (zA rfl) (zA rfl) (zA rfl) (zA rfl) x_c o1) (zB (wX (F:=zQ) rfl (zA rfl) (zA rfl) (zA rfl) (zA rfl) x_c o2) (zB (wX (F:=zQ) rfl (zA rfl) (zA rfl) (zA rfl) (zA rfl) x_c o3) zO))) rfl Jl) (jN rfl q11 rfl)) ?_
   exact zV (jP (t_E (zp (zo (Wh rfl rfl) (wA (zB (wX (F:=zQ) rfl (zA rfl) (zA rfl) (zA rfl) x_c x_c o4) zO) rfl yC) (Wl (replicate 3 (.str "number")) [.str "number"] (by simp))) (zo (wA (zB x_c zO) rfl yC) x_c (Jw (.str "number") 4 (by decide))) ne_num4)) jQ))
 exact⟨t10,t11,f,q10,q11⟩
inductive InL(v:D):zN->Prop
 |mk (s1 s2 s3 s4 s5 s6 s7 s8 s9 s10 s11:DV.Slot):yE s1=true->yE s2=true->yE s3=true->yE s4=true->yE s5=true->yE s6=true->yE s7=true->yE s8=true->yE s9=true->yE s10=true->yE s11=true->InL v [.v v,s1,s2,s3,s4,s5,s6,s7,s8,s9,s10,s11]
def zFb(x:Int):neG (.t [.str "great",.int x,.int 500]) (.t [.str "great",.int x,.int 500])=some (.v (.bl false)):=by
 rw[zDL (λd hd=>by simp only[mem_cons,not_mem_nil,or_false]at hd;rcases hd with rfl|rfl|rfl<;>rfl) (λd hd=>by simp only[mem_cons,not_mem_nil,or_false]at hd;rcases hd with rfl|rfl|rfl<;>rfl)]
 rw[deqs_refl 19 _ (λd hd=>by simp only[mem_cons,not_mem_nil,or_false]at hd;rcases hd with rfl|rfl|rfl<;>rfl)]
 rfl
def cell_ok(v:D)(c:Int)(s2 s3 s4 s5 s6 s7 s8 s9 s10 s11:DV.Slot)(h2:yE s2=true)(h3:yE s3=true)(h4:yE s4=true)(h5:yE s5=true)(h6:yE s6=true)(h7:yE s7=true)(h8:yE s8=true)(h9:yE s9=true)(h10:yE s10=true)(h11:yE s11=true):∃E2,dB YI QP [.v v,.v (.int c),s2,s3,s4,s5,s6,s7,s8,s9,s10,s11]=.ok (.nx,E2)/\InL v E2:=by
 obtain⟨p0,e0,hp0⟩:=uM c;obtain⟨x1,p1,e1,x10,x11,hp1⟩:=yi p0 hp0 2 (by omega) (by omega);obtain⟨m',rfl⟩:∃j:Nat,x1=(j:Int):=⟨x1.toNat,by omega⟩;have am:Wt (.int 2) (.int (m':Nat))=some (.v (.int ((2+m':Nat):Int))):=Ji 2 m';have hm:2<=2+m'/\2+m'<=3:=by omega
 generalize 2+m'=m at am hm;obtain⟨x2,p2,e2,x20,x21,hp2⟩:=yi p1 hp1 7 (by omega) (by omega);obtain⟨sn,rfl⟩:∃j:Nat,x2=(j:Int):=⟨x2.toNat,by omega⟩;obtain⟨x3,p3,e3,x30,x31,hp3⟩:=yi p2 hp2 5 (by omega) (by omega);obtain⟨sk,rfl⟩:∃j:Nat,x3=(j:Int):=⟨x3.toNat,by omega⟩;have ak:Wt (.int 1) (.int (sk:Nat))=some (.v (.int ((1+sk:Nat):Int))):=Ji 1 sk;have e4:=e_small (m:=m) (n:=sn) (k:=1+sk) ⟨hm,by omega,by omega⟩ (by omega);obtain⟨x5,p5,e5,x50,x51,hp5⟩:=yi p3 hp3 21 (by omega) (by omega);obtain⟨n,rfl⟩:∃j:Nat,x5=(j:Int):=⟨x5.toNat,by omega⟩;obtain⟨x6,p6,e6,x60,x61,hp6⟩:=yi p5 hp5 20 (by omega) (by omega);obtain⟨k',rfl⟩:∃j:Nat,x6=(j:Int):=⟨x6.toNat,by omega⟩;have ak2:Wt (.int 1) (.int (k':Nat))=some (.v (.int ((1+k':Nat):Int))):=Ji 1 k';obtain⟨x7,p7,e7,x70,x71,hp7⟩:=yi p6 hp6 3 (by omega) (by omega);obtain⟨kd,hkd,ik⟩:=pick (ds:=[.int ((1+k':Nat):Int),.int ((2:Nat):Int),.int ((3:Nat):Int)]) (r:=x7) x70 (by simpa using x71);obtain⟨k,rfl,hk⟩:∃k:Nat,kd=.int (k:Int)/\1<=k/\k<=20:=by
  simp only[mem_cons,not_mem_nil,or_false]at hkd;rcases hkd with rfl|rfl|rfl
  ·exact⟨_,rfl,by omega,by omega⟩
  ·exact⟨_,rfl,by omega,by omega⟩
  ·exact⟨_,rfl,by omega,by omega⟩
 have hn:n<=20:=by omega
 have od:Od m n k:=⟨hm,hn,hk⟩;have f0:=zDo (d:=.int 0) (Go od);have ec:=zDp od;obtain⟨tx,ht⟩:=sm_repr (zGd (k:=2) (wy_lt (m:=m) (k:=k) (r:=[]) (l:=n) hm.2 hn));have r0:zEr [.int ((wy m k [] n:Nat):Int)]=some (.v (.str tx)):=ht;have a1:Wt (.int ((wy m k [] n:Nat):Int)) (.int 1)=some (.v (.int ((wy m k [] n+1:Nat):Int))):=Ji _ 1;obtain⟨t7,fb,q7⟩:=zFZ od (.v v) (.v (.int c)) (.own p7) s7 s8 s9 s10 s11 h7;obtain⟨x8,p8,e8,x80,x81,hp8⟩:=yi p7 hp7 7 (by omega) (by omega);obtain⟨o,ho,io⟩:=pick (ds:=odds) (r:=x8) x80 (by simpa[odds]using x81);obtain⟨x9,p9,e9,x90,x91,hp9⟩:=yi p8 hp8 6 (by omega) (by omega);obtain⟨z,hz,iz⟩:=pick (ds:=fars) (r:=x9) x90 (by simpa[fars]using x91);obtain⟨t10,t11,fn,q10,q11⟩:=zFa od ho hz (.v v) (.v (.int c)) (.own p9) (.v (.int ((wy m k [] n:Nat):Int))) t7 s10 s11 h10 h11;refine⟨[.v v,.v (.int c),.own p9,qI m,qI n,qI k,qI (wy m k [] n),t7,.v o,.v z,t10,t11],?_,.mk _ _ _ _ _ _ _ _ _ _ _ rfl rfl rfl rfl rfl rfl q7 rfl rfl q10 q11⟩;refine zR (E1:=[.v v,.v (.int c),.own p0,s3,s4,s5,s6,s7,s8,s9,s10,s11]) (yU (jM (F:=jL) rfl (zA rfl) e0) (jN rfl h2 rfl)) ?_;refine zR (E1:=[.v v,.v (.int c),.own p1,qI m,s4,s5,s6,s7,s8,s9,s10,s11]) (yU (zo x_c (wP (F:=zm) rfl rfl x_c e1 rfl) am) (jN rfl h3 rfl)) ?_;refine zR (E1:=[.v v,.v (.int c),.own p3,qI m,s4,s5,s6,s7,s8,s9,s10,s11]) (jP (zDA (t_E (yY (F:=yb) rfl (zA rfl) (wP (F:=zm) rfl rfl x_c e2 rfl) (zo x_c (wP (F:=zm) rfl rfl x_c e3 rfl) ak) e4)) rfl) jQ) ?_;refine zR (E1:=[.v v,.v (.int c),.own p7,qI m,qI n,qI k,s6,s7,s8,s9,s10,s11]) (s_par (zB (wP (F:=zm) rfl rfl x_c e5 rfl) (zB (zC9 (wA (ds:=[.int ((1+k':Nat):Int),.int ((2:Nat):Int),.int ((3:Nat):Int)]) (zB (zo x_c (wP (F:=zm) rfl rfl x_c e6 rfl) ak2) (zB x_c (zB x_c zO))) rfl Jl) (wP (F:=zm) rfl rfl x_c e7 rfl) ik) zO)) ?_) ?_
 ·show gNs [4,5] [.int (n:Nat),.int (k:Nat)] _=_
  cases s4<;>first|(cases h4;done)|(cases s5<;>first|(cases h5;done)|rfl)
 refine zR (E1:=[.v v,.v (.int c),.own p7,qI m,qI n,qI k,qI (wy m k [] n),s7,s8,s9,s10,s11]) (yU (yY (F:=yW) rfl (zA rfl) (zA rfl) (zA rfl) ec) (jN rfl h6 rfl)) ?_;refine zR (jP (t_E (zp (Wi (zB (wX (F:=zQ) rfl x_c (zA rfl) (zA rfl) (zA rfl) x_c f0) zO) r0) (Wi (zB (zA rfl) zO) r0) (ne_str tx))) jQ) ?_;refine zR (E1:=[.v v,.v (.int c),.own p7,qI m,qI n,qI k,qI (wy m k [] n),s7,s8,s9,s10,s11]) (jP ?_ jQ) ?_
 ·have g:=zAU (wy m k [] n) 500
  by_cases hg:500<wy m k [] n
  ·rw[decide_eq_true hg]at g
   exact Gf (t_E (zp (zA rfl) x_c g)) (t_E (zp (wX (F:=zQ) rfl x_c (zA rfl) (zA rfl) (zA rfl) x_c (vc od hg _)) (Je (zB x_c (zB (zA rfl) (zB x_c zO))) rfl Jl) (zFb _)))
  ·rw[decide_eq_false hg]at g
   exact zAS (t_E (zp (zA rfl) x_c g))
 refine zR (zDB (tg:=.n 7) (wA (ds:=badl (wy m k [] n)) (zB (zA rfl) (zB (zo (zA rfl) x_c a1) (zB (zA7 x_c) (zB x_c (zB x_c (zB x_c (zB (Je (zB x_c zO) rfl yC) zO))))))) rfl (by simp[badl,cap])) rfl fb) ?_;refine zR (E1:=[.v v,.v (.int c),.own p8,qI m,qI n,qI k,qI (wy m k [] n),t7,.v o,s9,s10,s11]) (yU (zC9 (wA (ds:=odds) (zB x_c (zB x_c (zB (zA7 x_c) (zB x_c (zB x_c (zB x_c (zB (zo x_c x_c pow30) zO))))))) rfl (by simp[odds,cap])) (wP (F:=zm) rfl rfl x_c e8 rfl) io) (jN rfl h8 rfl)) ?_;refine zR (E1:=[.v v,.v (.int c),.own p9,qI m,qI n,qI k,qI (wy m k [] n),t7,.v o,.v z,s10,s11]) (yU (zC9 (wA (ds:=fars) (zB x_c (zB (zA7 x_c) (zB x_c (zB x_c (zB x_c (zB (zo x_c x_c pow30) zO)))))) rfl (by simp[fars,cap])) (wP (F:=zm) rfl rfl x_c e9 rfl) iz) (jN rfl h9 rfl)) ?_;exact zV (jq (tg:=.n 10) (j:=3) (zB x_c zO) rfl ⟨by decide,by decide⟩ fn)
def math62(ns:List Int)(hns:ns.length<=63):∃outs,m_law [.v (.l (ns.map D.int))]=.ok (.v (.bl true),outs):=by
 obtain⟨c,e2⟩:=vA ns;have hcut:uZ (ns.map D.int) (some 1) (some 4)=((ns.drop (HT.sIx ns.length 0 (some 1))).take (HT.sIx ns.length ns.length (some 4)-HT.sIx ns.length 0 (some 1))).map D.int:=by
  unfold uZ;simp[List.map_drop,map_take]
 generalize hk:(ns.drop (HT.sIx ns.length 0 (some 1))).take (HT.sIx ns.length ns.length (some 4)-HT.sIx ns.length 0 (some 1))=k at hcut;have hkl:k.length<=63:=by rw[<- hk];simp;omega
 have c1:slD (.l (ns.map D.int)) (some 1) (some 4)=some (.own (k.map D.int)):=by simp only[slD,hcut]
 have c2:=Wl [.int c] (k.map D.int) (by simp;omega);generalize hv:D.l (ns.map D.int)=v at e2 c1;obtain⟨E',f1,⟨u1,u2,u3,u4,u5,u6,u7,u8,u9,u10,u11,_⟩⟩:=yS (tg:=gN 1) (body:=dB YI QP) (λ_ E=>InL v E) ([.int c]++k.map D.int) 0 [.v v,.e,.e,.e,.e,.e,.e,.e,.e,.e,.e,.e] (.mk _ _ _ _ _ _ _ _ _ _ _ rfl rfl rfl rfl rfl rfl rfl rfl rfl rfl rfl)
  (λi d q E I=>by
   obtain⟨s1,s2,s3,s4,s5,s6,s7,s8,s9,s10,s11,h1,h2,h3,h4,h5,h6,h7,h8,h9,h10,h11⟩:=I;obtain⟨x,rfl⟩:∃x:Int,d=.int x:=by
    have:=mem_of_getElem? q;rcases mem_append.mp this with m|m
    ·exact⟨c,mem_singleton.mp m⟩
    ·obtain⟨x,_,rfl⟩:=mem_map.mp m;exact⟨x,rfl⟩
   obtain⟨E2,f1,f2⟩:=cell_ok v x s2 s3 s4 s5 s6 s7 s8 s9 s10 s11 h2 h3 h4 h5 h6 h7 h8 h9 h10 h11;refine⟨[.v v,.v (.int x),s2,s3,s4,s5,s6,s7,s8,s9,s10,s11],E2,?_,f1,f2⟩;cases s1<;>first|rfl|(cases h1))
 refine⟨_,je (r:=.v (.bl true)) (E1:=[.v v,u1,u2,u3,u4,u5,u6,u7,u8,u9,u10,u11]) ?_ rfl⟩;exact zR (zDB (tg:=.n 1) (zo (wA (zB (x_call2 (F:=yr) rfl (zA rfl) x_c e2) zO) rfl yC) (x_sl (zA rfl) (o_S x_c) (o_S x_c) c1) c2) rfl f1) (zV (jx x_c))
end My
namespace My
open PySem L2 DV
def txt_lk{K:qH}{h:Heap}{mg:Str->Option Value}(X:K.In h)(G:h.Ns mainGlobals mg)(e:Zy K=wants):Txt K mg :=
 have e1:=congrArg (λx:lkT=>x.1) e;have e2:=congrArg (λx:lkT=>x.2.1) e;have e3:=congrArg (λx:lkT=>x.2.2.1) e
 {n_ValueError:=ZG X G (ix 0 e3),n_all:=ZG X G (ix 1 e3),n_bool:=ZG X G (ix 2 e3),n_int:=ZG X G (ix 3 e3),n_isinstance:=ZG X G (ix 4 e3),n_len:=ZG X G (ix 5 e3),n_max:=ZG X G (ix 6 e3),n_range:=ZG X G (ix 7 e3),n_repr:=ZG X G (ix 8 e3),n_reversed:=ZG X G (ix 9 e3),n_sum:=ZG X G (ix 10 e3),n_tuple:=ZG X G (ix 11 e3),n_zip:=ZG X G (ix 12 e3),c_LEAST_SIGNS:=zC8 X G (ix 0 e2),c_MOST_FREE:=zC8 X G (ix 1 e2),c_MOST_LISTED:=zC8 X G (ix 2 e2),c_MOST_SIGNS:=zC8 X G (ix 3 e2),c_MOST_THROWS:=zC8 X G (ix 4 e2),f_is_whole:=jY X G (ix 0 e1),f_is_whole_within:=jY X G (ix 1 e1),f_sign_good:=jY X G (ix 2 e1),f_row_good:=jY X G (ix 3 e1),f_need_row:=jY X G (ix 4 e1),f_need_number:=jY X G (ix 5 e1),f_need_signs:=jY X G (ix 6 e1),f_greatest_length:=jY X G (ix 7 e1),f_runs_of:=jY X G (ix 8 e1),f_longest_any:=jY X G (ix 9 e1),f_weigh_alike_upto:=jY X G (ix 10 e1),f_need_free_length:=jY X G (ix 11 e1),f_need_ordered:=jY X G (ix 12 e1),f_ways_on:=jY X G (ix 13 e1),f_free_many:=jY X G (ix 14 e1),f_free_nth:=jY X G (ix 15 e1),f_free_all:=jY X G (ix 16 e1),f__law_cell_at:=jY X G (ix 17 e1),f__law_next:=jY X G (ix 18 e1),f__law_pen_of:=jY X G (ix 19 e1),f__law_draw:=jY X G (ix 20 e1),f__law_kind_of:=jY X G (ix 21 e1),f__law_free:=jY X G (ix 22 e1),f__law_counted:=jY X G (ix 23 e1),f__law_told:=jY X G (ix 24 e1),f__law_small_right:=jY X G (ix 25 e1),f_law:=jY X G (ix 26 e1),r_TooGreat:=ri_at X G (ix 27 e1),cl:=cl_at X G (congrArg (λx:lkT=>x.2.2.2) e)}
end My
end
open PySem PySem.W PyProof.Rows
set_option maxRecDepth 100000 in
set_option maxHeartbeats 0 in
theorem PySem.Challenge.cw_throwruns_k62_free_rows_holds : PySem.Challenge.rw_throwruns_k62_free_rows.Holds := by
 w_on;refine holds_law My.hz λsaid=>?_
 refine holds_open (q:=My.q) (loose:=My.ls) (Xt:=λs=>xlAt My.q [] s&&recOk (RowW.records (OpenLaw.row PySem.Challenge.rw_throwruns_k62_free_rows).toRowW) s) (XP:=XL My.q []) (Yf:=λs=>My.Zy (DV.Yi s.heap My.as)) (Ya:=λ_=>My.wants) (YP:=(DV.zAO My.as My.lkT My.Zy My.wants).says) (N:=5948) My.hl (DV.zAO My.as My.lkT My.Zy My.wants).of (DV.zAO My.as My.lkT My.Zy My.wants).keeps (λs e=>xl_of s (Bool.and_eq_true_iff.mp e).1) XL.keeps (by rfl) (by rfl) (by rfl) (λs e=>recFacts_of (Bool.and_eq_true_iff.mp e).2) ?h4 ?h5 ?h6 ⟨rfl,rfl,rfl,rfl,rfl,by decide +kernel⟩ ?hw ?hc
 case h4=>rfl
 case h5=>first|assumption|decide +kernel
 case h6=>decide +kernel
 case hw=>w_witness2
 case hc=>exact DV.walkE (l:=PySem.Challenge.rw_throwruns_k62_free_rows) (x:="_law_script") My.math62 rfl rfl λw K mg fa h KX e G hmg=>My.law_fd hmg (My.txt_lk KX G e)
