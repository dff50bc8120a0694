import PyProof.Rows.All
import KE.KFromBytes
import KE.KSortTup
import KE.KIsAll
import PyProof.InstStoreFacts
import PyProof.InstSpecial
import PyProof.FString
import OpenK.KCls
import PyProof.TupleKey
import PyProof.Rows.TupTab
import PyProof.FactsAll.NoneType
import PyProof.DictRoadsH
import PyProof.Rows.TupDisplay
import KE.KDictList
import PyProof.AttrMiss
import KE.KDictOf
import KE.KIntText
import PyProof.NeData
import KE.KRevIter
import PySem.Challenge.RW_throwruns_k38_whole_machines
set_option Elab.async false
set_option linter.all false
set_option genSizeOf false
set_option backward.eqns.nonrecursive false
set_option genSizeOfSpec false
set_option genInjectivity false
set_option maxRecDepth 100000
set_option maxHeartbeats 0
def DV.nf{P:Prop}(h:false=true):P:=absurd h Bool.false_ne_true
open List (take_append_drop mem_filter mem_range filterMap_cons mem_cons_self mem_cons_of_mem mem_cons mem_append mem_append_left getElem?_set_self getElem?_set_ne mem_filterMap mem_append_right append_nil nodup_cons of_mem_zip replicate length getElem?_append_right getElem?_append_left getElem?_map mem_of_getElem? length_append length_map length_replicate size_toArray all_cons any_cons reverse_cons replicate_succ flatten_cons foldl append_assoc foldl_cons length_singleton map_nil map_cons find?_cons map_append nodup_append mem_singleton mem_map map_map map_congr_left sublist_cons_self eraseIdx_sublist nil_append perm_append_comm sublist_append_right cons_append ext_getElem? length_cons range_succ_eq_map getElem_map length_zip drop_length perm_middle zip_cons_cons eq_of_mem_replicate zip_append lookup_cons all_eq_true mem_nil_iff take_add_one getElem?_eq_getElem zipWith length_zipWith take_of_length_le getElem_of_mem contains_iff_mem filter_cons length_nil idxOf_lt_length_iff getElem_mem getD_eq_getElem?_getD isEmpty_iff range_succ sum_cons range' prefix_rfl getElem?_eq_none getD foldl_append getElem?_range getElem?_of_mem foldl_nil)
open Nat (lt_of_lt_of_le lt_irrefl ne_of_lt le_trans ne_of_gt le_refl zero_le lt_succ_self add_comm mul_comm lt_trans lt_succ_of_lt not_lt le_succ zero_add lt_of_le_of_lt pow_succ mul_assoc mul_add add_mul gcd_dvd_right mul_pos gcd_comm gcd_rec mod_lt sub_self)
open PySem.W (clsIn typeIn findIn specialIn takesIn nsIn codeIn keepIn fnOf instObj methodObj hideAll hideAll_get of_hideAll plainGet emptyDict mroIn cellsFrom_some codeRec_of kitOne kia_one mg_of)
open PySem.Heap (lt_size get?_push_of_some get?_push_size size_push get?_update_self)
noncomputable section
def qA:=@PySem.Heap.get?_push_of_some
def qB:=@PySem.wpAny_bind
def qC:=@PySem.wpAny_pure
def qD:=@List.mem_cons_of_mem
def qE:=@List.mem_cons_self
def qF:=@Bool.false_ne_true
def qG:=@List.getElem?_eq_some_iff
def qJ:=@Option.some.inj
def qK:=@List.mem_append_right
abbrev qH:=PySem.W.Frag
section
open PySem
abbrev Ls(α:Type):=List α
abbrev Lv:=Value
abbrev Lx(α:Type):=Option α
abbrev Ly:=Lv->Shared->Prop
abbrev Lz:=Addr
abbrev La:=Shared
abbrev Lb:=Expr
abbrev Lc:=Program
abbrev Ld:=Lz->Prop
abbrev Le:=World
abbrev Lf:=Stmt
abbrev Lg:=Around
abbrev Lh:=Array Lv
abbrev Li:=Array (Int×Lv)
abbrev Lj:=Int->Int->Bool
abbrev Lk:=Nat->Nat
abbrev Ll:=Nat->Heap->Prop
abbrev Lm:=Array (Lx Lv)
abbrev Ln:=List Str
abbrev Lo:=Option Lv
end
local macro_rules
 |`(tactic|exists $h:term)=>`(tactic|simpa using $h)
 |`(tactic|dsimp$[$l:location]?)=>`(tactic|dsimp only$[$l]?)
 |`(tactic|left)=>`(tactic|decide +kernel)
 |`(tactic|dsimp[$a,*]$[$l]?)=>`(tactic|simp only[$a,*]$[$l]?)
 |`(tactic|exists $e:ident,$m,$k:ident,$r:ident,$s:ident)=>`(tactic|(cases $e:ident:$m:term with|z=>rw[$e:ident]at $k:ident;exact $k|y _ _=>rw[$e:ident]at $k:ident;exact $k|ok p=>?_);(cases p with|mk $r:ident $s:ident=>?_);(rw[$e:ident]at $k:ident))
 |`(tactic|exists $e:ident,$m,$k:ident,$x:ident)=>`(tactic|(cases $e:ident:$m:term with|none=>rw[$e:ident]at $k:ident;cases $k:ident|some $x:ident=>?_);(rw[$e:ident]at $k:ident))
namespace L2
open PySem
def YT(s:Lf):Arguments:=match s with
 | .FunctionDef _ a _ _ _ _ _ _ _ _=>a|_=>{posonlyargs:=[],args:=[],vararg:=none,kwonlyargs:=[],kw_defaults:=[],kwarg:=none,defaults:=[]}
def jK(s:Lf):Ls Lf:=match s with
 | .FunctionDef _ _ b _ _ _ _ _ _ _=>b|_=>[]
def ze(s:Lf):Scope:=match s with
 | .FunctionDef _ _ _ _ _ _ a _ _ _=>a|_=>{kind:=.function,names:=[],isGenerator:=false,isCoroutine:=false}
end L2
namespace DV
open PySem L2
structure Ck(P:Prop) where
 yes:Bool
 why:yes=true->P
def Ck.d{P Q:Prop}(a:Ck P)(f:P->Ck Q):Ck Q:=⟨if h:a.yes=true then(f (a.why h)).yes else false,λh=>by
 split at h
 ·exact(f _).why h
 ·cases h⟩
abbrev bk{Q:Prop}(b:Bool)(f:b=true->Ck Q):Ck Q:=Ck.d ⟨b,id⟩ f
def bq{α:Type}[BEq α][LawfulBEq α]{Q:Prop}(a b:α)(f:a=b->Ck Q):Ck Q:=bk (a==b) λh=>f (beq_iff_eq.mp h)
def rt{P:Prop}(p:P):Ck P:=⟨true,λ_=>p⟩
instance {P:Prop}:Inhabited (Ck P):=⟨⟨false,λh=>nomatch h⟩⟩
@[elab_as_elim] def qCons{α:Type}{M:Ls α->Type}[∀e,Inhabited (M e)](e:Ls α)(f:∀a b,M (a::b)):M e:=match e with
 |a::b=>f a b| []=>default
@[elab_as_elim] def qNil{α:Type}{M:Ls α->Type}[∀e,Inhabited (M e)](e:Ls α)(f:M []):M e:=match e with
 | []=>f|_::_=>default
@[elab_as_elim] def qSome{α:Type}{M:Lx α->Type}[∀e,Inhabited (M e)](e:Lx α)(f:∀a,M (some a)):M e:=match e with
 |some a=>f a|none=>default
abbrev VB:Ls Lv:=[.type "ValueError",.type "Exception",.type "BaseException",.type "object"]
def xIn(K:qH)(c:Str)(C T:Lz):Bool:=(match clsIn K C with|some a=>a.name==c&&a.mro==[.ref C,.ref T,.type "ValueError",.type "Exception",.type "BaseException",.type "object"]|none=>false)
 && typeIn K (.ref C)==some (.type "type")&&findIn K (.ref C) "__getattribute__" == some (some (.builtin "BaseException.__getattribute__"))&&findIn K (.ref C) "__getattr__" == some none
 && findIn K (.ref C) "__class__" == some (some (.builtin "object.__class__"))&&specialIn K (.builtin "object.__class__") "__get__" == some (some (.builtin "getset_descriptor.__get__"))&&takesIn K (.builtin "object.__class__")==some true&&!(C==T)
def tIn(K:qH)(T:Lz):Bool:=(match clsIn K T with|some a=>a.mro==(.ref T::VB)|none=>false)&&typeIn K (.ref T)==some (.type "type")
def isFr:Obj->Bool
 |⟨_,_,.freed,_⟩=>true|_=>false
def QO:Ls Obj->Nat->Ls Lz->qH
 | [],_,_=>[]|_::_,_,[]=>[]
 |o::c,i,a::as=>match Nat.beq i a with
  |true=>(match isFr o with
   |true=>QO c (i+1) as|false=>(i,o)::QO c (i+1) as)
  |false=>QO c (i+1) (a::as)
def Yo(h:Heap)(as:Ls Lz):qH:=QO h.objs.toList 0 as
def FvT:Type:=Bool×Str×Str×Arguments×FuncBody×Scope×Lz×Ls (Str×Lz)×Lv×Lz
def fvOf(b:Bool)(a:FuncData):FvT:=(b,a.name,a.qualname,a.params,a.body,a.scope,a.globals,a.closure,a.defaults,a.builtins)
def zm(K:qH)(n:Str):Lx FvT:=match nsIn K mainGlobals n with
 |some (some (.ref a))=>(match K.lookup a with
  |some ⟨_,_,.func c,_⟩=>some (fvOf (codeIn K c.code n&&keepIn K (.ref a)) c)|_=>none)
 |_=>none
def zo(n:Str)(st:Lf):Lx FvT:=some (fvOf true (fnOf n n (YT st) (jK st) (ze st) .none .none .none .none none .none .none))
def JR(K:qH)(n:Str):Lx Int:=match nsIn K mainGlobals n with
 |some (some (.int i _))=>some i|_=>none
def jV(K:qH)(n:Str):Bool:=match nsIn K mainGlobals n with
 |some none=>true|_=>false
def J7(K:qH)(n:Str):Lx Lz:=match nsIn K mainGlobals n with
 |some (some (.ref a))=>some a|_=>none
def zDW(K:qH):Bool:=match K.lookup sysModules with
 |some o=>(match o.data with | .dict _ _=>true|_=>false)
 |none=>false
def zIF(K:qH)(cl rs:Ls Str):Bool :=
 (cl.isEmpty||(match J7 K "ThrowError" with
  |some T=>tIn K T&&cl.all λc=>(match J7 K c with|some C=>xIn K c C T|none=>false)
  |none=>false)) &&
 (rs.all λc=>(match J7 K c with|some C=>PySem.W.excIn K C VB "ValueError.__new__" |none=>false))&&zDW K
end DV
namespace My
open PySem L2 DV
def top(i:Nat):Lf:=PySem.Challenge.pw_throwruns_k38_whole_machines.main.body.getD i (.Pass ⟨0,0,0,0⟩)
abbrev uQ:Lf:=top 8
abbrev wR:Lf:=top 9
abbrev j8:Lf:=top 10
abbrev Yp:Lf:=top 11
abbrev uR:Lf:=top 12
abbrev uS:Lf:=top 18
abbrev uT:Lf:=top 19
abbrev Yq:Lf:=top 20
abbrev Zs:Lf:=top 21
abbrev Wr:Lf:=top 22
abbrev Zt:Lf:=top 25
abbrev Yr:Lf:=top 27
abbrev JS:Lf:=top 28
abbrev J8:Lf:=top 29
abbrev Zu:Lf:=top 30
abbrev Zv:Lf:=top 36
abbrev Zw:Lf:=top 37
abbrev JT:Lf:=top 38
abbrev J9:Lf:=top 39
abbrev YA:Lf:=top 40
abbrev Zx:Lf:=top 41
abbrev Zy:Lf:=top 42
abbrev Ws:Lf:=top 43
abbrev zDX:Lf:=top 44
abbrev Ys:Lf:=top 45
abbrev Zz:Lf:=top 46
abbrev Yt:Lf:=top 47
abbrev Yu:Lf:=top 48
abbrev uU:Lf:=top 49
abbrev Yv:Lf:=top 50
abbrev Wu:Lf:=top 51
abbrev Wv:Lf:=top 52
abbrev zBh:Lf:=top 53
abbrev zIG:Lf:=top 54
abbrev zBi:Lf:=top 55
abbrev YB:Lf:=top 56
abbrev zDY:Lf:=top 57
abbrev QP:Lf:=top 58
abbrev YC:Lf:=top 60
abbrev Ww:Lf:=top 61
abbrev Yw:Lf:=top 62
abbrev Wx:Lf:=top 63
abbrev Z0:Lf:=top 64
abbrev uV:Lf:=top 65
abbrev wS:Lf:=top 67
abbrev JH:Lf:=top 68
abbrev j9:Lf:=top 69
abbrev s_law:Lf:=top 70
def cl_:Ls Str:=[]
def rs_:Ls Str:=[]
def lkT:Type:=Ls (Lx FvT)×Ls (Lx Int)×Ls Bool×Bool
def Wy(K:qH):lkT:=([zm K "is_whole",zm K "is_whole_within",zm K "greatest_divisor",zm K "whole_power",zm K "share_of",zm K "die_good",zm K "need_die",zm K "need_number",zm K "need_signs",zm K "need_sign",zm K "weigh_upto",zm K "need_thrown",zm K "others_weight",zm K "share_in_all",zm K "share_upto",zm K "all_within",zm K "steps_good",zm K "rising_stands",zm K "machine_good",zm K "need_machine",zm K "signs_read",zm K "need_alike",zm K "stands_of",zm K "takes",zm K "weigh_taken",zm K "taken_many",zm K "taken_share",zm K "run_machine",zm K "contrary",zm K "pair_behind",zm K "met_pairs",zm K "good_many",zm K "joined",zm K "both",zm K "either",zm K "first_alikes",zm K "least",zm K "parting",zm K "_law_cell_at",zm K "_law_next",zm K "_law_pen_of",zm K "_law_draw",zm K "_law_share",zm K "_law_add",zm K "_law_machine_by",zm K "_law_two_right",zm K "_law_least_right",zm K "law"],[JR K "LEAST_SIGNS",JR K "LEAST_WEIGHT",JR K "MOST_COUNTED",JR K "MOST_READ",JR K "MOST_SIGNS",JR K "MOST_STANDS",JR K "MOST_TAKEN",JR K "MOST_WATCHED",JR K "MOST_WEIGHT"],[jV K "abs",jV K "all",jV K "bool",jV K "enumerate",jV K "int",jV K "isinstance",jV K "len",jV K "list",jV K "max",jV K "min",jV K "range",jV K "set",jV K "sum",jV K "tuple",jV K "zip"],zIF K cl_ rs_)
def wants:lkT:=([zo "is_whole" uQ,zo "is_whole_within" wR,zo "greatest_divisor" j8,zo "whole_power" Yp,zo "share_of" uR,zo "die_good" uS,zo "need_die" uT,zo "need_number" Yq,zo "need_signs" Zs,zo "need_sign" Wr,zo "weigh_upto" Zt,zo "need_thrown" Yr,zo "others_weight" JS,zo "share_in_all" J8,zo "share_upto" Zu,zo "all_within" Zv,zo "steps_good" Zw,zo "rising_stands" JT,zo "machine_good" J9,zo "need_machine" YA,zo "signs_read" Zx,zo "need_alike" Zy,zo "stands_of" Ws,zo "takes" zDX,zo "weigh_taken" Ys,zo "taken_many" Zz,zo "taken_share" Yt,zo "run_machine" Yu,zo "contrary" uU,zo "pair_behind" Yv,zo "met_pairs" Wu,zo "good_many" Wv,zo "joined" zBh,zo "both" zIG,zo "either" zBi,zo "first_alikes" YB,zo "least" zDY,zo "parting" QP,zo "_law_cell_at" YC,zo "_law_next" Ww,zo "_law_pen_of" Yw,zo "_law_draw" Wx,zo "_law_share" Z0,zo "_law_add" uV,zo "_law_machine_by" wS,zo "_law_two_right" JH,zo "_law_least_right" j9,zo "law" s_law],[some 2,some 1,some 40,some 30,some 3,some 12,some 40,some 11,some 9],[true,true,true,true,true,true,true,true,true,true,true,true,true,true,true],true)
def q0:Lc:=PySem.Challenge.pw_throwruns_k38_whole_machines
def isLaw:Lf->Bool
 | .FunctionDef f ..=>f == "law"|_=>false
def qP:Lc:={q0 with main:={q0.main with body:=q0.main.body.filter isLaw}}
def nameOf:Lf->Ls Str
 | .FunctionDef f ..=>[f]| .ClassDef f ..=>[f]| .Assign [.Name x _] _ _=>[x]|_=>[]
def ls:Ls Str:=(q0.main.body.flatMap nameOf).filter (· != "law")
def as:Ls Lz:=[1,2,3,15,22,23,24,25,28,35,36,37,40,47,48,49,52,59,60,61,64,71,72,73,76,83,85,86,88,89,90,91,92,95,97,98,100,101,102,104,105,107,108,109,111,112,114,115,116,118,119,121,122,123,125,126,128,129,130,133,134,135,137,138,140,141,142,144,145,147,148,149,151,152,154,155,156,158,159,161,162,163,166,167,168,170,171,173,174,175,177,178,180,181,182,184,185,187,188,189,191,192,194,195,196,199,200,201,204,205,206,209,210,211,213,214,216,217,218,220,221,223,224,225,227,228,230,231,232,234,235,237,238,239,241,242,244,245,246,248,249,251,252,253,256,257,258,260,261,263,264,265,267,268,270,271,272,275,276,277,280,281,282,284,285,287,288,289,291,292,294,295,296,299,300,301,304,305,306,308,309,311,312,313,315,316,318,319,320,323,324,325,328,329,330,332,333,335,336,337,339,340,342,343,344,346,347,349,350,351,353,354,356,357,358,360,361,363,364,365,367,368,370,371,372,374,375,377,378,386,389,390,391,393,394,396,397,398,400,401,403,404,405,408,409]
end My
section
open PySem PySem.W PyProof.Rows
theorem My.hz:OpenLaw.wellSaid PySem.Challenge.rw_throwruns_k38_whole_machines=true:=by left
theorem My.h2{α β γ:Type}{o:Lx α}{f:α->β}{g:α->γ}{b:β}{c:γ}(a:o.map f=some b)(e:o.map g=some c):o.map (λs=>(f s,g s))=some (b,c):=by
 cases o with
 |none=>cases a|some s=>cases a;cases e;rfl
theorem My.hu:∀(w:Le) (a:OsState),(topFrom treeTable (OpenLaw.row PySem.Challenge.rw_throwruns_k38_whole_machines).toRowW.prog w 5870 ⟨boot_heap w.params,#[],boot_drawn,boot_toks,a⟩).map (λs=>openSeen My.qP My.ls (importedModules (OpenLaw.row PySem.Challenge.rw_throwruns_k38_whole_machines).toRowW.prog.main.body) (λs=>xlAt My.qP [] s&&recOk (RowW.records (OpenLaw.row PySem.Challenge.rw_throwruns_k38_whole_machines).toRowW) s) true s)=some (openGood My.qP My.ls):=by
 intro w a
 kernel_rfl
theorem My.h4{α γ:Type}{o:Lx α}{g:α->Ls γ}{w:Ls γ}(n:Nat)(a:o.map (λs=>(g s).take n)=some (w.take n))(c:o.map (λs=>(g s).drop n)=some (w.drop n)):o.map g=some w:=by
 cases o with
 |none=>cases a|some s=>exact congrArg some ((take_append_drop n (g s)).symm.trans ((congr (congrArg HAppend.hAppend (qJ a)) (qJ c)).trans (take_append_drop n w)))
theorem My.h5{α γ δ:Type}{o:Lx α}{g:α->γ×δ}{w:γ×δ}(a:o.map (λs=>(g s).1)=some w.1)(c:o.map (λs=>(g s).2)=some w.2):o.map g=some w:=by
 cases o with
 |none=>cases a|some s=>exact congrArg some (Prod.ext (qJ a) (qJ c))
theorem My.hv0:∀(w:Le) (a:OsState),(topFrom treeTable (OpenLaw.row PySem.Challenge.rw_throwruns_k38_whole_machines).toRowW.prog w 5870 ⟨boot_heap w.params,#[],boot_drawn,boot_toks,a⟩).map (λs=>((My.Wy (DV.Yo s.heap My.as)).1.take 20))=some (My.wants.1.take 20):=by
 intro w a
 kernel_rfl
theorem My.hv1:∀(w:Le) (a:OsState),(topFrom treeTable (OpenLaw.row PySem.Challenge.rw_throwruns_k38_whole_machines).toRowW.prog w 5870 ⟨boot_heap w.params,#[],boot_drawn,boot_toks,a⟩).map (λs=>((My.Wy (DV.Yo s.heap My.as)).1.drop 20))=some (My.wants.1.drop 20):=by
 intro w a
 kernel_rfl
theorem My.hvc:∀(w:Le) (a:OsState),(topFrom treeTable (OpenLaw.row PySem.Challenge.rw_throwruns_k38_whole_machines).toRowW.prog w 5870 ⟨boot_heap w.params,#[],boot_drawn,boot_toks,a⟩).map (λs=>(My.Wy (DV.Yo s.heap My.as)).2)=some My.wants.2:=by
 intro w a
 kernel_rfl
theorem My.hv(w:Le)(a:OsState):(topFrom treeTable (OpenLaw.row PySem.Challenge.rw_throwruns_k38_whole_machines).toRowW.prog w 5870 ⟨boot_heap w.params,#[],boot_drawn,boot_toks,a⟩).map (λs=>My.Wy (DV.Yo s.heap My.as))=some My.wants:=My.h5 (My.h4 20 (My.hv0 w a) (My.hv1 w a)) (My.hvc w a)
theorem My.ht:∀(w:Le) (a:OsState),(topFrom treeTable (OpenLaw.row PySem.Challenge.rw_throwruns_k38_whole_machines).toRowW.prog w 5870 ⟨boot_heap w.params,#[],boot_drawn,boot_toks,a⟩).map (λs=>(openSeen My.qP My.ls (importedModules (OpenLaw.row PySem.Challenge.rw_throwruns_k38_whole_machines).toRowW.prog.main.body) (λs=>xlAt My.qP [] s&&recOk (RowW.records (OpenLaw.row PySem.Challenge.rw_throwruns_k38_whole_machines).toRowW) s) true s,My.Wy (DV.Yo s.heap My.as)))=some (openGood My.qP My.ls,My.wants):=λw a=>My.h2 (My.hu w a) (My.hv w a)
theorem My.ho:opening (OpenLaw.row PySem.Challenge.rw_throwruns_k38_whole_machines).toRowW.prog=plainProg (OpenLaw.row PySem.Challenge.rw_throwruns_k38_whole_machines).toRowW.prog.main.scope.names:=by kernel_rfl
theorem My.hf:∀s,fenceModules? (OpenLaw.row PySem.Challenge.rw_throwruns_k38_whole_machines).toRowW.prog s=some s:=by
 intro s
 kernel_rfl
theorem My.hl:LeftO (OpenLaw.row PySem.Challenge.rw_throwruns_k38_whole_machines).toRowW.prog My.qP My.ls (λs=>xlAt My.qP [] s&&recOk (RowW.records (OpenLaw.row PySem.Challenge.rw_throwruns_k38_whole_machines).toRowW) s) (λs=>My.Wy (DV.Yo s.heap My.as)) (λ_=>My.wants) 5870:=by
 intro w;obtain⟨s,e,hv⟩:=Option.map_eq_some_iff.mp (boot_open My.ho (N:=5870) rfl My.hf w);unfold openEnds;rw[e];obtain⟨h,g,d,t,i⟩:=s;have a:h=boot_heap w.params:=congrArg Prod.fst hv;have h2:g=#[]:=congrArg (λx=>x.2.1) hv;have c:d=boot_drawn:=congrArg (λx=>x.2.2.1) hv;have h4:t=boot_toks:=congrArg (λx=>x.2.2.2) hv;subst a;subst h2;subst c;subst h4;exact My.ht w i
end
namespace L2
open PySem PySem.Spec PyProof.Rows
abbrev Key:=Sum Int Str
def keyIs:Key->Lv->Bool
 | .inl k,v=>Value.isInt k v| .inr x,v=>Value.isStrOf x v
def keyH(w:Le):Key->Int
 | .inl k=>hashInt k| .inr x=>hashStr w x
def yR:∀{k:Key} {v:Lv},keyIs k v=true->(∃i t,k=Sum.inl i/\v=Value.int i t)\/(∃x t,k=Sum.inr x/\v=Value.str x t)
 | .inl i,v,h=>by
  obtain⟨t,e⟩:=Value.isInt_shape (k:=i) (v:=v) h;exact .inl ⟨i,t,rfl,e⟩
 | .inr x,v,h=>by
  obtain⟨t,e⟩:=Value.isStrOf_shape (x:=x) (v:=v) h;exact .inr ⟨x,t,rfl,e⟩
def key_ll(a b:Int):decide ((Sum.inl a:Key)=Sum.inl b)=(a==b):=by
 by_cases e:a=b
 ·subst e;simp
 ·have h:¬(Sum.inl a:Key)=Sum.inl b:=λq=>e (Sum.inl.inj q)
  rw[decide_eq_false h];exact(beq_eq_false_iff_ne.mpr e).symm
def key_rr(a b:Str):decide ((Sum.inr a:Key)=Sum.inr b)=decide (a=b):=by
 by_cases e:a=b
 ·subst e;simp
 ·have h:¬(Sum.inr a:Key)=Sum.inr b:=λq=>e (Sum.inr.inj q)
  rw[decide_eq_false h,decide_eq_false e]
def key_lr(a:Int)(b:Str):decide ((Sum.inl a:Key)=Sum.inr b)=false:=decide_eq_false (λq=>nomatch q)
def key_rl(a:Str)(b:Int):decide ((Sum.inr a:Key)=Sum.inl b)=false:=decide_eq_false (λq=>nomatch q)
def zAh(prog:Lc)(w:Le):PySem.KeyKind prog w Key where
 is:=keyIs
 hash:=keyH w
 inj:=λv a b g c=>by
  rcases yR g with⟨i,t,rfl,rfl⟩|⟨x,t,rfl,rfl⟩
  ·rcases yR c with⟨j,u,rfl,e⟩|⟨y,u,rfl,e⟩
   ·injection e with e1 _;rw[e1]
   ·exact nomatch e
  ·rcases yR c with⟨j,u,rfl,e⟩|⟨y,u,rfl,e⟩
   ·exact nomatch e
   ·injection e with e1 _;rw[e1]
 byValue:=λk v h=>by
  rcases yR h with⟨i,t,rfl,rfl⟩|⟨x,t,rfl,rfl⟩<;>rfl
 pyHash:=λhv h=>by
  rcases yR hv with⟨i,t,rfl,rfl⟩|⟨x,t,rfl,rfl⟩
  ·exact wpAny_pyHash_int h
  ·exact wpAny_pyHash_str h
 eqBool:=λhu hv h=>by
  rcases yR hu with⟨i,t,rfl,rfl⟩|⟨x,t,rfl,rfl⟩
  ·rcases yR hv with⟨j,u,rfl,rfl⟩|⟨y,u,rfl,rfl⟩
   ·rw[key_ll]at h;exact wpAny_eqBool_int h
   ·rw[key_lr]at h;exact SeqAt.EqAt.int_str i t y u _ _ _ _ h
  ·rcases yR hv with⟨j,u,rfl,rfl⟩|⟨y,u,rfl,rfl⟩
   ·rw[key_rl]at h;exact SeqAt.EqAt.str_int x t j u _ _ _ _ h
   ·rw[key_rr]at h;exact wpAny_eqBool_str h
 «strs»:=λk x t v h=>by
  rcases yR h with⟨i,u,rfl,e⟩|⟨y,u,rfl,e⟩
  ·exact nomatch e
  ·injection e with e1 _
   subst e1;cases v<;>rfl
set_option genInjectivity true in
inductive V where
 |non|bl (b:Bool)|int (i:Int)|str (x:Str)|byt (b:Array UInt8)|flt (b:UInt64)|ref (a:Lz)|ty (n:String)
 deriving DecidableEq
def yb:V->Lv->Prop
 | .non,u=>u=Value.none| .bl b,u=>u=Value.bool b| .int i,u=>∃t,u=Value.int i t| .str x,u=>∃t,u=Value.str x t| .byt b,u=>∃t,u=Value.bytes b t| .flt b,u=>∃t,u=Value.float b t| .ref a,u=>u=Value.ref a| .ty n,u=>u=Value.type n
abbrev yA:Ls V->Ls Lv->Prop:=Paired yb
theorem yA.length{xs:Ls V}{a:Ls Lv}(r:yA xs a):xs.length=a.length:=Paired.length r
theorem yA.get:∀{c:Ls V} {a:Ls Lv} {i:Nat} {x:V},yA c a->c[i]?=some x->∃u,a[i]?=some u/\yb x u
 |_,_,_,_,.nil,e=>by simp at e|_,_,0,_,.cons r _,e=>by simp at e;subst e;exact⟨_,rfl,r⟩
 |_,_,i+1,x,.cons _ t,e=>by
  obtain⟨u,g,h2⟩:=yA.get (i:=i) (x:=x) t (by exists e);exact⟨u,by simpa using g,h2⟩
theorem yA.set{x:V}{u:Lv}(r:yb x u):∀{c:Ls V} {a:Ls Lv} (i:Nat),yA c a->yA (c.set i x) (a.set i u)
 |_,_,_,.nil=>.nil|_,_,0,.cons _ t=>.cons r t|_,_,i+1,.cons q t=>.cons q (yA.set r i t)
theorem yA.append:∀{e g:Ls V} {c a:Ls Lv},yA e c->yA g a->yA (e++g) (c++a)
 |_,_,_,_,.nil,s=>s|_,_,_,_,.cons r t,s=>.cons r (yA.append t s)
theorem yA.take:∀{c:Ls V} {a:Ls Lv} (n:Nat),yA c a->yA (c.take n) (a.take n)
 |_,_,0,_=>.nil|_,_,_+1,.nil=>.nil|_,_,n+1,.cons r t=>.cons r (yA.take n t)
theorem yA.drop:∀{c:Ls V} {a:Ls Lv} (n:Nat),yA c a->yA (c.drop n) (a.drop n)
 |_,_,0,r=>r|_,_,_+1,.nil=>.nil|_,_,n+1,.cons _ t=>yA.drop n t
def RelO:Lx V->Lx Lv->Prop
 |some v,some u=>yb v u|none,none=>True|_,_=>False
def KV{κ:Type}:Ls (κ×V)->Ls (κ×Lv)->Prop:=Paired λ(p:κ×V) (q:κ×Lv)=>p.1=q.1/\yb p.2 q.2
def kV:Key->V
 | .inl i=>.int i| .inr x=>.str x
inductive HO where
 /-- a list -/
 |l (xs:List V)
 /-- a tuple (never changes) -/
 |t (xs:List V)
 /-- a dict whose keys are ints and texts; one whose keys are tuples of ints and texts (the empty one is both) -/
 |dK (kvs:List (Key×V))|dT (kvs:List (List Key×V))
 /-- a set of ints: its members,its size -/
 |set (S:Int->Bool) (n:Nat)
 /-- an instance of the class at C,its dict at dx,its attributes -/
 |ins (C dx:Lz) (fs:List (Str×V))
 /-- the dict of the instance at x -/
 |w (x:Lz)
 /-- the dict of an exception -/
 |xd (fs:List (Str×V))
 /-- a bound method,f of x -/
 |met (f x:Lz)
 /-- a range object lo,lo+1,.. below hi -/
 |rng (lo hi:Int)
 /-- a thing that is known to the object (the script; a dict while a loop walks it): read,never written while it is so -/
 |frz (o:Obj) (u:HO)
 /-- a code object's table -/
 |tbl (ps:Lh)
 /-- any other thing,by what is true of its one object (a def of one's own: SetO a S n:=HO.ext fun h=>..) -/
 |ext (φ:Heap->Prop)
 |dN (φ:Heap->Prop)
abbrev Hp:=Lz->Lx HO
def upd(H:Hp)(a:Lz)(o:HO):Hp:=λb=>if b=a then some o else H b
def y3{H:Hp}{a:Lz}{o:HO}:upd H a o a=some o:=by unfold upd;rw[if_pos rfl]
def zk{H:Hp}{a b:Lz}{o:HO}(h:b≠a):upd H a o b=H b:=by unfold upd;rw[if_neg h]
def wT{H:Hp}{a b:Lz}{o:HO}(h:H a=some o)(h':H b=none):a≠b:=by
 intro e;subst e;rw[h]at h';cases h'
section
variable(P:Lc)(w:Le)
def jL(H:Hp)(h:Heap)(a:Lz):HO->Prop
 | .l g=>g.length<=sizeLine/\∃(e:Ls Lv) (n:Nat),yA g e/\h.get? a=some {cls:=.type "list",data:=.seq e.toArray n}| .t g=>g.length<=sizeLine/\∃e:Ls Lv,yA g e/\IsTup h a e.toArray| .dK c=>c.length<=sizeLine/\(a==sysModules)=false/\∃l,KV c l/\h.DictOf (zAh P w) a l
 | .dT c=>c.length<=sizeLine/\(a==sysModules)=false/\∃g:Ls (Ls Key×Lz×Lv),
   Paired (λ(p:Ls Key×V) (q:Ls Key×Lz×Lv)=>p.1=q.1/\H q.2.1=some (.t (p.1.map kV))/\yb p.2 q.2.2) c g /\
   ∃o r E,h.get? a=some o/\o.ExactDict/\o.data=.dict r E/\r.toList=g.map (entryOfKey (tupleKind (zAh P w)))/\(g.map (·.1)).Nodup
 | .set S n=>h.SetOf (intKind P w) a S n
 | .ins C k fs=>H k=some (.w a)/\fs.length<=1000/\k≠a/\h.get? a=some (instObj C k) /\
   ∃i,h.Ns1 k i/\(∀f,RelO (fs.lookup f) (i f))/\PySem.Within i (fs.map (·.1))
 | .w _=>∃o,h.get? a=some o| .xd fs=>∃i,h.Ns1 a i/\∀f,RelO (fs.lookup f) (i f)| .rng y z=>∃t u v,h.get? a=some {cls:=.type "range",data:=.fields #[.int y t,.int z u,.int 1 v]}| .frz o u=>h.get? a=some o/\jL H h a u| .tbl D=>h.get? a=some {cls:=.none,data:=.fields D}| .met f x=>h.get? a=some (methodObj (.ref f) (.ref x))| .ext φ=>φ h/\(∃o,h.get? a=some o)/\∀j h2:Heap,φ j->(∀o,j.get? a=some o->h2.get? a=some o)->φ h2| .dN φ=>φ h/\(∃o,h.get? a=some o)/\∀j h2:Heap,φ j->(∀o,j.get? a=some o->h2.get? a=some o)->φ h2
def HOk(H:Hp)(h:Heap):Prop:=∀a o,H a=some o->jL P w H h a o
end
section
variable{P:Lc}{w:Le}{H H':Hp}{h h':Heap}{a:Lz}{o:HO}
theorem jL.lt(x:jL P w H h a o):a<h.objs.size:=by
 cases o with
 |l g=>obtain⟨_,_,_,_,e⟩:=x;exact lt_size e|t g=>obtain⟨_,_,_,p⟩:=x;exact p.lt|dK c=>obtain⟨_,_,_,_,o,_,_,e,_⟩:=x;exact lt_size e|dT c=>obtain⟨_,_,_,_,o,_,_,e,_⟩:=x;exact lt_size e|set S n=>obtain⟨o,_,_,_,e,_⟩:=x;exact lt_size e|ins C r fs=>obtain⟨_,_,_,e,_⟩:=x;exact lt_size e|w y=>obtain⟨_,e⟩:=x;exact lt_size e|xd fs=>obtain⟨_,⟨_,_,_,e,_⟩,_⟩:=x;exact lt_size e|rng i q=>obtain⟨_,_,_,e⟩:=x;exact lt_size e|frz j u=>obtain⟨e,_⟩:=x;exact lt_size e|tbl k=>exact lt_size (show h.get? a=some _ from x)|met f y=>exact lt_size (show h.get? a=some _ from x)|ext φ=>obtain⟨_,⟨_,e⟩,_⟩:=x;exact lt_size e|dN φ=>obtain⟨_,⟨_,e⟩,_⟩:=x;exact lt_size e
theorem Paired.mapP{α β:Type}{F G:α->β->Prop}:∀{e:Ls α} {c:Ls β},Paired F e c->(∀a b,F a b->G a b)->Paired G e c
 |_,_,.nil,_=>.nil|_,_,.cons r t,f=>.cons (f _ _ r) (Paired.mapP t f)
def jL.stay(x:jL P w H h a o)(k:∀b u,(b=a\/H b=some (.w a))->h.get? b=some u->h'.get? b=some u)
  (O:∀b,H b=some (.w a)->H' b=some (.w a)) (M:∀b E,H b=some (.t E)->H' b=some (.t E)):jL P w H' h' a o:=by
 induction o with
 |l E=>obtain⟨z,D,n,r,e⟩:=x;exact⟨z,D,n,r,k _ _ (.inl rfl) e⟩|t E=>obtain⟨z,D,r,g,e,c⟩:=x;exact⟨z,D,r,g,k _ _ (.inl rfl) e,c⟩|dK I=>obtain⟨z,y,L,r,g,j,i,e,c⟩:=x;exact⟨z,y,L,r,g,j,i,k _ _ (.inl rfl) e,c⟩
 |dT I =>
  obtain⟨z,y,E,r,g,j,i,e,c⟩:=x;exact⟨z,y,E,Paired.mapP r λp q z=>⟨z.1,M _ _ z.2.1,z.2.2⟩,g,j,i,k _ _ (.inl rfl) e,c⟩
 |set S n=>obtain⟨g,j,i,t,e,c⟩:=x;exact⟨g,j,i,t,k _ _ (.inl rfl) e,c⟩
 |ins C Y fs =>
  obtain⟨d,z,Q,e,J,⟨G,j,i,R,c⟩,r⟩:=x;exact⟨O _ d,z,Q,k _ _ (.inl rfl) e,J,⟨G,j,i,k _ _ (.inr d) R,c⟩,r⟩
 |w y=>obtain⟨g,e⟩:=x;exact⟨g,k _ _ (.inl rfl) e⟩|xd fs=>obtain⟨J,⟨G,j,i,e,c⟩,r⟩:=x;exact⟨J,⟨G,j,i,k _ _ (.inl rfl) e,c⟩,r⟩|rng W X=>obtain⟨t,u,v,e⟩:=x;exact⟨t,u,v,k _ _ (.inl rfl) e⟩|frz g u V=>obtain⟨e,q⟩:=x;exact⟨k _ _ (.inl rfl) e,V q⟩
 |tbl K =>
  have e:h.get? a=some {cls:=.none,data:=.fields K}:=x;show h'.get? a=some {cls:=.none,data:=.fields K};exact k a _ (.inl rfl) e
 |met f y =>
  have e:h.get? a=some (methodObj (.ref f) (.ref y)):=x;show h'.get? a=some (methodObj (.ref f) (.ref y));exact k a _ (.inl rfl) e
 |ext φ=>obtain⟨p,⟨o,e⟩,st⟩:=x;exact⟨st _ _ p λo q=>k _ _ (.inl rfl) q,⟨o,k _ _ (.inl rfl) e⟩,st⟩|dN φ=>obtain⟨p,⟨o,e⟩,st⟩:=x;exact⟨st _ _ p λo q=>k _ _ (.inl rfl) q,⟨o,k _ _ (.inl rfl) e⟩,st⟩
theorem HOk.lt(x:HOk P w H h)(e:H a=some o):a<h.objs.size:=(x a o e).lt
def HOk.fresh(x:HOk P w H h)(e:h.objs.size<=a):H a=none:=by
 cases q:H a with
 |none=>rfl|some u=>exact absurd (lt_of_lt_of_le (x.lt q) e) (lt_irrefl _)
def HOk.kept(x:HOk P w H h)(k:∀b u,h.get? b=some u->h'.get? b=some u):HOk P w H h':=λa o e =>
 (x a o e).stay (λb u _ q=>k b u q) (λ_ q=>q) λ_ _ q=>q
def HOk.laid(x:HOk P w H h)(k:∀b u,h.get? b=some u->h'.get? b=some u)(l:h.objs.size<=a)(g:jL P w (upd H a o) h' a o):HOk P w (upd H a o) h':=λb u e=>by
 have i:=x.fresh l;by_cases j:b=a
 ·subst j;rw[y3]at e;cases e;exact g
 ·rw[zk j]at e
  exact(x b u e).stay (λc v _ q=>k c v q) (λc q=>by rw[zk (wT q i)];exact q) λc n q=>by rw[zk (wT q i)];exact q
end
def Rd(H:Hp)(a:Lz)(u:HO):Prop:=H a=some u\/∃o,H a=some (.frz o u)
def Rd.of{H:Hp}{a:Lz}{u:HO}(h:H a=some u):Rd H a u:=.inl h
def Rd.ok{P:Lc}{w:Le}{H:Hp}{h:Heap}{a:Lz}{u:HO}(r:Rd H a u)(x:HOk P w H h):jL P w H h a u:=by
 rcases r with r|⟨o,r⟩
 ·exact x a u r
 ·obtain⟨_,q⟩:=x a _ r
  exact q
def Mut:Lx HO->Prop
 |some (.l _)=>True|some (.dK _)=>True|some (.dT _)=>True|some (.set _ _)=>True|some (.ins _ _ _)=>True|some (.ext _)=>True|some (.dN _)=>True|_=>False
section
variable{P:Lc}{w:Le}{H:Hp}{h h':Heap}{x e:Lz}{o':HO}
def HOk.write(ok:HOk P w H h)(l:Mut (H x))(C:e=x\/H e=some (.w x))(k:∀b u,b≠e->h.get? b=some u->h'.get? b=some u)(p:∃u,h'.get? e=some u)
  (t:jL P w (upd H x o') h' x o'):HOk P w (upd H x o') h':=λb u q=>by
 have g:∀c y,H c=some (.w y)->c≠x:=λc y r z=>by subst z;rw[r]at l;exact l
 have i:∀c n,H c=some (.t n)->c≠x:=λc n r z=>by subst z;rw[r]at l;exact l
 by_cases o:b=x
 ·subst o;rw[y3]at q;cases q;exact t
 ·rw[zk o]at q
  by_cases a:b=e
  ·have D:H b=some (.w x):=by
    rcases C with z|z
    ·exact absurd (a.trans z) o
    ·rw[a];exact z
   rw[q]at D;cases D;obtain⟨v,hv⟩:=p;exact⟨v,by rw[a];exact hv⟩
  ·refine(ok b u q).stay (λc v j r=>k c v ?_ r) (λc r=>by rw[zk (g c b r)];exact r) λc n r=>by rw[zk (i c n r)];exact r
   rcases j with rfl|j
   ·exact a
   ·rintro rfl
    rcases C with z|z
    ·exact g c b j z
    ·rw[j]at z;cases z;exact o rfl
end
structure Un(fs ex:List Lz)(H H':Hp)(h h':Heap):Prop where
 keep:∀b o,h.get? b=some o->H b=none->b∉fs->b∉ex->h'.get? b=some o
 slot:∀b o,h.get? b=some o->H b=none->b∈fs->b∉ex->∃sl,h'.get? b=some {o with slots:=sl}
 free:∀b o,h.get? b=some o->H b=none->b∉ex->H' b=none
 there:∀b o,h.get? b=some o->b∉ex->∃o',h'.get? b=some o'
 tups:∀b xs,H b=some (.t xs)->H' b=some (.t xs)
 frzs:∀b o u,H b=some (.frz o u)->H' b=some (.frz o u)
 tbls:∀b ps,H b=some (.tbl ps)->∃more,H' b=some (.tbl (ps++more))
section
variable{fs fs' ex ex':Ls Lz}{H H1 H2:Hp}{h h1 h2 h':Heap}{a x e:Lz}{o:HO}
def Un.any(u:Un fs ex H H1 h h1){b:Lz}{ob:Obj}(q:h.get? b=some ob)(n:H b=none)(a:b∉ex):∃e,h1.get? b=some {ob with slots:=e}:=by
 by_cases c:b∈fs
 ·exact u.slot b ob q n c a
 ·exact⟨ob.slots,u.keep b ob q n c a⟩
def Un.trans(a:Un fs ex H H1 h h1)(b:Un fs ex H1 H2 h1 h2):Un fs ex H H2 h h2 where
 keep:=λc g q n j e=>b.keep c g (a.keep c g q n j e) (a.free c g q n e) j e
 slot:=λc g q n j e=>by
  obtain⟨u,i⟩:=a.slot c g q n j e;obtain⟨l,o⟩:=b.slot c _ i (a.free c g q n e) j e;exact⟨l,o⟩
 free:=λc g q n e=>by
  obtain⟨p,i⟩:=a.there c g q e;exact b.free c p i (a.free c g q n e) e
 there:=λc g q e=>by
  obtain⟨p,i⟩:=a.there c g q e;exact b.there c p i e
 tups:=λc k q=>b.tups c k (a.tups c k q)
 frzs:=λc g k q=>b.frzs c g k (a.frzs c g k q)
 tbls:=λc t q=>by
  obtain⟨r,i⟩:=a.tbls c t q;obtain⟨m2,o⟩:=b.tbls c _ i;exact⟨r++m2,by rw[o,Array.append_assoc]⟩
def Un.kept(k:∀b u,h.get? b=some u->h'.get? b=some u):Un fs ex H H h h' :=
 ⟨λb a q _ _ _=>k b a q,λb a q _ _ _=>⟨a.slots,k b a q⟩,λ_ _ _ n _=>n,λb a q _=>⟨a,k b a q⟩,λ_ _ q=>q,λ_ _ _ q=>q,λ_ c q=>⟨#[],by rw[q];simp⟩⟩
def Un.refl:Un fs ex H H h h:=Un.kept λ_ _ q=>q
def Un.laid(k:∀b u,h.get? b=some u->h'.get? b=some u)(e:h.objs.size<=a)(hn:H a=none):Un fs ex H (upd H a o) h h' where
 keep:=λb u q _ _ _=>k b u q
 slot:=λb u q _ _ _=>⟨u.slots,k b u q⟩
 free:=λb u q n _=>by rw[zk (ne_of_lt (lt_of_lt_of_le (lt_size q) e))];exact n
 there:=λb u q _=>⟨u,k b u q⟩
 tups:=λb c q=>by rw[zk (wT q hn)];exact q
 frzs:=λb u c q=>by rw[zk (wT q hn)];exact q
 tbls:=λb g q=>⟨#[],by rw[zk (wT q hn),q];simp⟩
def Un.write(c:Mut (H x))(p:e=x\/H e=some (.w x))(k:∀b u,b≠e->h.get? b=some u->h'.get? b=some u)(g:∃u,h'.get? e=some u):Un fs ex H (upd H x o) h h':=by
 have j:∀b,H b=none->b≠x:=λb n z=>by subst z;rw[n]at c;exact c
 have l:∀b,H b=none->b≠e:=λb n z=>by
  subst z;rcases p with r|r
  ·exact j b n r
  ·rw[n]at r;cases r
 have i:∀b u,H b=some u->¬Mut (some u)->b≠x:=λb u q nm z=>by subst z;rw[q]at c;exact nm c
 refine⟨λb u q n _ _=>k b u (l b n) q,λb u q n _ _=>⟨u.slots,k b u (l b n) q⟩,λb u q n _=>by rw[zk (j b n)];exact n,λb u q _=>?_,
  λb t q=>by rw[zk (i b _ q λz=>z)];exact q,λb u t q=>by rw[zk (i b _ q λz=>z)];exact q,λb v q=>⟨#[],by rw[zk (i b _ q λz=>z),q];simp⟩⟩
 by_cases a:b=e
 ·subst a;exact g
 ·exact⟨u,k b u a q⟩
def Un.mono(u:Un fs ex H H1 h h1)(g:∀b∈fs,b∈fs')(e:∀b∈ex,b∈ex'):Un fs' ex' H H1 h h1 :=
 ⟨λb c q n i a=>u.keep b c q n (λz=>i (g b z)) λz=>a (e b z),λ_ _ q n _ a=>u.any q n λz=>a (e _ z),λb c q n a=>u.free b c q n λz=>a (e b z),λb c q a=>u.there b c q λz=>a (e b z),u.tups,u.frzs,u.tbls⟩
end
def trk(h:Heap)(H:Hp):Ls Lz:=(List.range h.objs.size).filter λa=>(H a).isSome
def zGE(h:Heap)(H:Hp):Heap:=hideAll h (trk h H)
def zDZ(h:Heap)(H:Hp):(zGE h H).objs.size=h.objs.size:=PySem.W.hideAll_size _ _
def zGF{h:Heap}{H:Hp}{b:Lz}{o:Obj}(e:h.get? b=some o)(n:H b=none):(zGE h H).get? b=some o :=
 hideAll_get _ e λa=>by
  have q:(H b).isSome=true:=(mem_filter.mp a).2;rw[n]at q;simp at q
def of_hidT{h:Heap}{H:Hp}{b:Lz}{o:Obj}(e:(zGE h H).get? b=some o):h.get? b=some o/\H b=none:=by
 have a:h.get? b=some o:=of_hideAll (trk h H) e;refine⟨a,?_⟩;cases q:H b with
 |none=>rfl
 |some x =>
  have c:b∈trk h H:=mem_filter.mpr ⟨mem_range.mpr (lt_size a),by simp[q]⟩;have z:(zGE h H).get? b=none:=PySem.W.hideAll_none (trk h H) c;rw[z]at e;cases e
def allNews(g h:Heap)(L:Lz):Ls (Lz×Obj):=(List.range h.objs.size).filterMap λa=>if a=L\/(g.get? a).isSome=true then none else(h.get? a).map λo=>(a,o)
def wA(g h:Heap)(L d:Lz):Ls (Lz×Obj):=(allNews g h L).filter λp=>decide (p.1≠d)
structure Mod(K:qH)(mg:Str->Lo)(base:Heap):Prop where
 kin:K.In base
 glob:base.Ns mainGlobals mg
 blt:∃mb,base.Ns builtinsNs mb/\∀x:Str,x≠"__name__"->mb x=bootBuiltins x
 nolimit:base.NoLimit
structure Cx where
 prog:Lc
 w:Le
 K:qH
 mg:Str->Lo
 base:Heap
 A:Lg
 N:Ln
 s₀:La
 H₀:Hp
 env:Env
 outer:List Env
 stack:List Env
 ex:List Lz
 fn:Str->Bool
 calm:Bool
 pn:List (Lz×Obj)
 xe:Ly
def frs(l:Ls Env):Ls Lz:=l.filterMap (·.frame)
abbrev Cx.fs(X:Cx):Ls Lz:=frs X.outer
def Vis(sc:Scope)(x:Str):Prop:=sc.names.lookup x=some .local\/sc.names.lookup x=some .cell\/sc.names.lookup x=some .free
def Loc(sc:Scope)(x:Str):Prop:=sc.names.lookup x=some .local\/sc.names.lookup x=some .cell
def Look(env:Env)(h:Heap)(m:Str->Lx Lv)(x:Str)(u:Lv):Prop :=
 (env.kindOf x=some .local/\m x=some u)\/((env.kindOf x=some .cell\/env.kindOf x=some .free)/\∃c,env.cells.lookup x=some c/\h.IsCell c (some u))
structure Cx.Ok(X:Cx):Prop where
 mod:Mod X.K X.mg X.base
 kind:X.env.scope.kind=.function
 glob:X.env.globals=mainGlobals
 blt:X.env.builtins=builtinsNs
 above:X.s₀.heap.objs.size<=X.env.locals
 inj:∀x y c,X.env.cells.lookup x=some c->X.env.cells.lookup y=some c->x=y
 has:∀x,(X.env.kindOf x=some .cell\/X.env.kindOf x=some .free)->∃c,X.env.cells.lookup x=some c
 cab:∀x c,X.fn x=true->X.env.cells.lookup x=some c->X.s₀.heap.objs.size<=c
 hd:X.calm=true->X.A.handled=none
 frames:X.A.frames=some X.stack
 stk:X.stack=X.outer\/(X.stack=X.env::X.outer/\X.env.frame=some X.env.locals)
 exf:∀b∈X.ex,b≠X.env.locals/\∀x c,X.env.cells.lookup x=some c->c≠b
 bs:∀b o,X.base.get? b=some o->X.s₀.heap.get? b=some o/\X.H₀ b=none
 bsz:X.base.objs.size<=X.s₀.heap.objs.size
 noex:∀b o,X.base.get? b=some o->b∉X.ex
 exfs:∀b∈X.ex,b∉X.fs
 funs:X.s₀.heap.FunFrames X.base X.outer
 frf:∀b∈X.fs,X.H₀ b=none
structure Inv(X:Cx)(pins:List (Lz×Obj))(σ:List (Option V))(H:Hp)(s:La):Prop where
 ok:X.Ok
 os:s.os=X.s₀.os
 bare:AllBare s.gens
 base:Un X.fs X.ex X.H₀ H X.s₀.heap s.heap
 loc:∃m,s.heap.Ns X.env.locals m/\∀(i:Nat) (x:Str) (v:V),X.N[i]?=some x->σ[i]?=some (some v)->Vis X.env.scope x->∃u,yb v u/\Look X.env s.heap m x u
 cell:∀x c,X.env.cells.lookup x=some c->∃v,s.heap.IsCell c v
 free:H X.env.locals=none
 freeC:∀x c,X.env.cells.lookup x=some c->H c=none
 pin:∀p∈X.pn++pins,s.heap.get? p.1=some p.2/\H p.1=none/\p.1≠X.env.locals/\p.1∉X.fs/\∀v,p.2.data≠.cell v
 hok:HOk X.prog X.w H s.heap
 len:σ.length=X.N.length
section
variable{X:Cx}{pins:Ls (Lz×Obj)}{σ:Ls (Lx V)}{H H':Hp}{s:La}{h':Heap}
def Cx.Ok.nofr(ok:X.Ok){b:Lz}{o:Obj}(e:X.base.get? b=some o):b∉X.fs:=λa=>by
 have:=(ok.funs.mem a).1;rw[e]at this;cases this
theorem Inv.bs(I:Inv X pins σ H s):∀b o,X.base.get? b=some o->s.heap.get? b=some o/\H b=none:=λb o e =>
 ⟨I.base.keep b o (I.ok.bs b o e).1 (I.ok.bs b o e).2 (I.ok.nofr e) (I.ok.noex b o e),I.base.free b o (I.ok.bs b o e).1 (I.ok.bs b o e).2 (I.ok.noex b o e)⟩
def Inv.bk(I:Inv X pins σ H s):∀b o,X.base.get? b=some o->s.heap.get? b=some o:=λb o e=>(I.bs b o e).1
theorem Inv.mod(I:Inv X pins σ H s):Mod X.K X.mg X.base:=I.ok.mod
def Inv.kIn(I:Inv X pins σ H s):X.K.In s.heap:=I.ok.mod.kin.keeps I.bk
theorem Inv.nolimit(I:Inv X pins σ H s):s.heap.NoLimit:=I.ok.mod.nolimit.keeps I.bk
def Inv.fr(I:Inv X pins σ H s):∃m,Fr X.base X.env.locals s.heap m :=
 let ⟨m,hn,_⟩:=I.loc
 ⟨m,hn,I.bk,le_trans I.ok.bsz I.ok.above⟩
theorem Inv.lt(I:Inv X pins σ H s):X.env.locals<s.heap.objs.size:=let ⟨_,hn,_⟩:=I.loc;hn.lt
def Inv.sz(I:Inv X pins σ H s):X.s₀.heap.objs.size<=s.heap.objs.size:=le_trans I.ok.above (Nat.le_of_lt I.lt)
def Inv.nofs(I:Inv X pins σ H s){a:Lz}(h:s.heap.objs.size<=a):a∉X.fs:=λc=>by
 obtain⟨_,o,ho,_⟩:=I.ok.funs.mem c;exact absurd (lt_of_lt_of_le (lt_size ho) (le_trans I.sz h)) (lt_irrefl _)
def Inv.cne(I:Inv X pins σ H s):∀x c,X.env.cells.lookup x=some c->c≠X.env.locals:=λx c e z=>by
 obtain⟨v,o,ho,hd⟩:=I.cell x c e;obtain⟨m,⟨j,h,i,a,g,_⟩,_⟩:=I.loc;rw[z,a]at ho;cases ho;rw[g]at hd;cases hd
theorem Inv.funs(I:Inv X pins σ H s):s.heap.FunFrames X.base X.outer:=by
 have all:∀(l:Ls Env),(∀b∈frs l,b∈X.fs)->X.s₀.heap.FunFrames X.base l->s.heap.FunFrames X.base l:=by
  intro l
  induction l with
  |nil=>intro _ _;trivial
  |cons k r n =>
   intro g hl;obtain⟨i,⟨L,o,hf,j,ho,hd⟩,h⟩:=hl;have a:L∈X.fs:=g L (by unfold frs;rw[filterMap_cons,hf];exact qE);obtain⟨p,e⟩:=I.base.slot L o ho (I.ok.frf L a) a λz=>I.ok.exfs L z a
   exact⟨i,⟨L,_,hf,j,e,hd⟩,n (λb c=>g b (by unfold frs;rw[filterMap_cons,hf];exact qD _ c)) h⟩
 exact all X.outer (λ_ c=>c) I.ok.funs
theorem Inv.stack(I:Inv X pins σ H s):s.heap.FunFrames X.base X.stack:=by
 rcases I.ok.stk with e|⟨e,hf⟩
 ·rw[e];exact I.funs
 ·rw[e]
  obtain⟨m,a,_⟩:=I.loc;refine .cons (by rw[I.ok.kind];decide) hf a ?_ I.funs;exact Heap.get?_none_of_le (le_trans I.ok.bsz I.ok.above)
def Inv.stkSub(I:Inv X pins σ H s):∀b∈frs X.stack,b∈X.env.locals::X.fs:=λb a=>by
 rcases I.ok.stk with e|⟨e,hf⟩
 ·rw[e]at a;exact qD _ a
 ·rw[e]at a
  unfold frs at a;rw[filterMap_cons,hf]at a;exact a
def Inv.stkFree(I:Inv X pins σ H s):∀b∈frs X.stack,H b=none:=λb a=>by
 rcases mem_cons.mp (I.stkSub b a)with e|a
 ·rw[e];exact I.free
 ·obtain⟨_,o,ho,_⟩:=I.ok.funs.mem a
  exact I.base.free b o ho (I.ok.frf b a) λz=>I.ok.exfs b z a
def Inv.step{g':Array GenState}{t':Nat}{d':Drawn}{ch:Ls Lz}(I:Inv X pins σ H s)
  (j:∀b∈ch,(b∈X.ex\/X.s₀.heap.objs.size<=b)/\b≠X.env.locals/\(∀x c,X.env.cells.lookup x=some c->c≠b)/\∀p∈X.pn++pins,p.1≠b)
  (t:∀b o,b≠X.env.locals->b∉X.fs->b∉ch->s.heap.get? b=some o->H b=none->h'.get? b=some o)
  (E:∀b o,b≠X.env.locals->b∈X.fs->b∉ch->s.heap.get? b=some o->H b=none->∃W,h'.get? b=some {o with slots:=W}) (g:∀b o,b∉ch->s.heap.get? b=some o->H b=none->H' b=none)
  (G:∀b o,b∉ch->s.heap.get? b=some o->∃O,h'.get? b=some O)
  (R:∀b D,H b=some (.t D)->H' b=some (.t D)) (Q:∀b o u,H b=some (.frz o u)->H' b=some (.frz o u)) (K:∀b S,H b=some (.tbl S)->∃more,H' b=some (.tbl (S++more)))
  (ns:∀m,s.heap.Ns X.env.locals m->h'.Ns X.env.locals m) (Y:HOk X.prog X.w H' h') (hg:AllBare g') :
  Inv X pins σ H' {s with heap:=h',gens:=g',drawn:=d',toks:=t'}:=by
 have L:∀b o,X.s₀.heap.get? b=some o->b≠X.env.locals:=λb o e=>ne_of_lt (lt_of_lt_of_le (lt_size e) I.ok.above)
 have y:∀b o,X.s₀.heap.get? b=some o->b∉X.ex->b∉ch:=λb o e a J=>by
  rcases(j b J).1 with z|z
  ·exact a z
  ·exact absurd (lt_of_lt_of_le (lt_size e) z) (lt_irrefl _)
 have w:∀x c,X.env.cells.lookup x=some c->∀v,s.heap.IsCell c v->h'.IsCell c v:=λx c e v ⟨o,ho,hd⟩=>by
  have h:c∉ch:=λz=>(j c z).2.2.1 x c e rfl
  by_cases Z:c∈X.fs
  ·obtain⟨W,q⟩:=E c o (I.cne x c e) Z h ho (I.freeC x c e)
   exact⟨_,q,hd⟩
  ·exact⟨o,t c o (I.cne x c e) Z h ho (I.freeC x c e),hd⟩
 refine⟨I.ok,I.os,hg,⟨λb o e n J a=>?_,λb o e n J a=>?_,λb o e n a=>?_,λb o e a=>?_,λb D e=>R b D (I.base.tups b D e),λb o D e=>Q b o D (I.base.frzs b o D e),λb S e=>?_⟩,?_,λx c e=>?_,?_,λx c e=>?_,λp hp=>?_,Y,I.len⟩
 ·exact t b o (L b o e) J (y b o e a) (I.base.keep b o e n J a) (I.base.free b o e n a)
 ·obtain⟨W,C⟩:=I.base.slot b o e n J a
  obtain⟨V,M⟩:=E b _ (L b o e) J (y b o e a) C (I.base.free b o e n a);exact⟨V,M⟩
 ·obtain⟨O,C⟩:=I.base.there b o e a
  exact g b O (y b o e a) C (I.base.free b o e n a)
 ·obtain⟨O,C⟩:=I.base.there b o e a
  exact G b O (y b o e a) C
 ·obtain⟨m1,C⟩:=I.base.tbls b S e
  obtain⟨m2,M⟩:=K b _ C;exact⟨m1++m2,by rw[M,Array.append_assoc]⟩
 ·obtain⟨m,hn,hl⟩:=I.loc
  refine⟨m,ns m hn,λi x v C M e3=>?_⟩;obtain⟨u,r,l⟩:=hl i x v C M e3;refine⟨u,r,?_⟩;rcases l with l|⟨k,c,e,z⟩
  ·exact .inl l
  ·exact .inr ⟨k,c,e,w x c e _ z⟩
 ·obtain⟨v,z⟩:=I.cell x c e
  exact⟨v,w x c e v z⟩
 ·obtain⟨m,⟨o,_,_,ho,_⟩,_⟩:=I.loc
  exact g _ o (λz=>(j _ z).2.1 rfl) ho I.free
 ·obtain⟨v,o,ho,hd⟩:=I.cell x c e
  exact g c o (λz=>(j c z).2.2.1 x c e rfl) ho (I.freeC x c e)
 ·obtain⟨e,n,ne,nf,d⟩:=I.pin p hp
  have h:p.1∉ch:=λz=>(j p.1 z).2.2.2 p hp rfl
  exact⟨t p.1 p.2 ne nf h e n,g p.1 p.2 h e n,ne,nf,d⟩
def Inv.un{t':Nat}(I:Inv X pins σ H s)(u:Un X.fs [] H H' s.heap h')(h:HOk X.prog X.w H' h'):Inv X pins σ H' {s with heap:=h',toks:=t'}:=by
 obtain⟨m,⟨o,t,v,ho,r⟩,_⟩:=id I.loc;obtain⟨p,l⟩:=u.any ho I.free (by simp);exact I.step (g':=s.gens) (d':=s.drawn) (ch:=[]) (λ_ z=>nomatch z) (λb o _ i _ e n=>u.keep b o e n i (by simp)) (λb o _ i _ e n=>u.slot b o e n i (by simp)) (λb o _ e n=>u.free b o e n (by simp)) (λb o _ e=>u.there b o e (by simp)) u.tups u.frzs u.tbls (λq k=>by
  obtain⟨w,g,c,a,j⟩:=k;rw[ho]at a;cases a;exact⟨_,g,c,l,j⟩) h I.bare
def Inv.call{g':Array GenState}{t':Nat}{d':Drawn}{ch:Ls Lz}(I:Inv X pins σ H s)(u:Un (frs X.stack) ch H H' s.heap h')(k:HOk X.prog X.w H' h')(v:AllBare g')
  (g:∀b∈ch,(b∈X.ex\/X.s₀.heap.objs.size<=b)/\b≠X.env.locals/\(∀x c,X.env.cells.lookup x=some c->c≠b)/\∀p∈X.pn++pins,p.1≠b) :
  Inv X pins σ H' {s with heap:=h',gens:=g',drawn:=d',toks:=t'}:=by
 obtain⟨m,⟨o,D,E,ho,r⟩,_⟩:=id I.loc;obtain⟨y,l⟩:=u.any ho I.free λz=>(g _ z).2.1 rfl
 exact I.step (ch:=ch) g (λb o l w a e n=>u.keep b o e n (λz=>(mem_cons.mp (I.stkSub b z)).elim l w) a) (λb o _ _ a e n=>u.any e n a) (λb o a e n=>u.free b o e n a) (λb o a e=>u.there b o e a) u.tups u.frzs u.tbls (λC t=>by
  obtain⟨G,j,i,h,q⟩:=t;rw[ho]at h;cases h;exact⟨_,j,i,l,q⟩) k v
def Inv.turned{t':Nat}{it:Lz}(I:Inv X pins σ H s)(k:∀b o,b≠it->s.heap.get? b=some o->h'.get? b=some o)(hn:H it=none)(h:it≠X.env.locals)
  (i:it∈X.ex\/X.s₀.heap.objs.size<=it) (w:∀x c,X.env.cells.lookup x=some c->c≠it) (j:∀p∈X.pn++pins,p.1≠it):Inv X pins σ H {s with heap:=h',toks:=t'}:=by
 have g:∀b u,H b=some u->b≠it:=λb u e z=>by rw[z,hn]at e;cases e
 refine I.step (g':=s.gens) (d':=s.drawn) (ch:=[it]) (λb y=>?_) (λb o _ _ a e _=>k b o (λz=>a (by simp[z])) e) (λb o _ _ a e _=>⟨o.slots,k b o (λz=>a (by simp[z])) e⟩) (λ_ _ _ _ n=>n)
  (λb o a e=>⟨o,k b o (λz=>a (by simp[z])) e⟩) (λ_ _ e=>e) (λ_ _ _ e=>e) (λb D e=>⟨#[],by rw[e];simp⟩) (λm l=>?_) (λb u e=>?_) I.bare
 ·have e:b=it:=by exists y
  subst e;exact⟨i,h,w,j⟩
 ·obtain⟨o,t,C,ho,r⟩:=l
  exact⟨o,t,C,k _ o (Ne.symm h) ho,r⟩
 ·refine(I.hok b u e).stay (λc v a q=>k c v ?_ q) (λ_ q=>q) λ_ _ q=>q
  rcases a with z|z
  ·rw[z];exact g b u e
  ·exact g c _ z
def Inv.tok(I:Inv X pins σ H s)(t:Nat):Inv X pins σ H {s with toks:=t}:=I.un (h':=s.heap) (t':=t) Un.refl I.hok
theorem Inv.kept{t':Nat}(I:Inv X pins σ H s)(k:∀b u,s.heap.get? b=some u->h'.get? b=some u):Inv X pins σ H {s with heap:=h',toks:=t'}:=I.un (Un.kept k) (I.hok.kept k)
theorem Inv.laid{a:Lz}{o:HO}{t':Nat}(I:Inv X pins σ H s)(k:∀b u,s.heap.get? b=some u->h'.get? b=some u)(e:s.heap.objs.size<=a)(c:jL X.prog X.w (upd H a o) h' a o) :
  Inv X pins σ (upd H a o) {s with heap:=h',toks:=t'}:=I.un (Un.laid k e (I.hok.fresh e)) (I.hok.laid k e c)
theorem Inv.write{x e:Lz}{o:HO}{t':Nat}(I:Inv X pins σ H s)(h:Mut (H x))(g:e=x\/H e=some (.w x))(k:∀b u,b≠e->s.heap.get? b=some u->h'.get? b=some u)(a:∃u,h'.get? e=some u)
  (c:jL X.prog X.w (upd H x o) h' x o):Inv X pins σ (upd H x o) {s with heap:=h',toks:=t'}:=I.un (Un.write h g k a) (I.hok.write h g k a c)
def Inv.weak{σ':Ls (Lx V)}(I:Inv X pins σ H s)(c:σ'.length=σ.length)(w:∀(i:Nat) v,σ'[i]?=some (some v)->σ[i]?=some (some v)):Inv X pins σ' H s :=
 ⟨I.ok,I.os,I.bare,I.base,let ⟨m,hn,hl'⟩:=I.loc;⟨m,hn,λi x v g e a=>hl' i x v g (w i v e) a⟩,I.cell,I.free,I.freeC,I.pin,I.hok,c.trans I.len⟩
def Inv.pins_of{a:Ls (Lz×Obj)}(I:Inv X pins σ H s)(h:∀p∈a,s.heap.get? p.1=some p.2/\H p.1=none/\p.1≠X.env.locals/\p.1∉X.fs/\∀v,p.2.data≠.cell v):Inv X a σ H s :=
 ⟨I.ok,I.os,I.bare,I.base,I.loc,I.cell,I.free,I.freeC,λp c=>(mem_append.mp c).elim (λz=>I.pin p (mem_append_left _ z)) (h p),I.hok,I.len⟩
def zBj{N:Ls Str}(e:N.Nodup){i j:Nat}{x:Str}(a:N[i]?=some x)(b:N[j]?=some x):i=j:=by
 obtain⟨h,g⟩:=qG.mp a;obtain⟨h2,c⟩:=qG.mp b;exact(List.getElem_inj e).mp (g.trans c.symm)
def QR{M:Model}{A:Lg}{E:Ly}{i:Nat}{x:Str}{v:V}{u:Lv}{Q:Unit->La->Prop}(I:Inv X pins σ H s)(hN:X.N.Nodup)(K:X.N[i]?=some x)(C:Loc X.env.scope x)(r:yb v u)
  (h:∀s',Inv X pins (σ.set i (some v)) H s'->(∃a,Heap.SameBut a s.heap s'.heap/\(a=X.env.locals\/X.env.cells.lookup x=some a))->Q () s') (hf:X.fn x=true\/X.env.scope.names.lookup x=some .local:=by first|exact .inl rfl|exact .inr rfl|assumption):wpAny M A (storeName X.env x u) Q E s:=by
 obtain⟨m,hn,hl⟩:=id I.loc;have Z:(X.env.scope.kind==.class||(X.env.scope.kind==.module&&X.env.locals != X.env.globals))=false:=by rw[I.ok.kind];rfl
 have Kσ:i<σ.length:=by rw[I.len];exact(qG.mp K).1
 have cne:=I.cne;have t:∀{a:Lz} {h':Heap},(∃o,s.heap.get? a=some o/\H a=none)->Heap.SameBut a s.heap h'->HOk X.prog X.w H h':=λ{a h'} ha g b ob e=>by
  obtain⟨_,_,D⟩:=ha;refine(I.hok b ob e).stay (λc w' w q=>(g.2 c ?_).trans q) (λ_ q=>q) λ_ _ q=>q
  rintro rfl
  rcases w with rfl|w
  ·rw[D]at e;cases e
  ·rw[D]at w;cases w
 rcases C with J|J
 ·refine wpAny_storeName_local J hn (λh' ab g=>?_) Z
  obtain⟨oL,_,_,ac,_⟩:=id hn;refine h _ ⟨I.ok,I.os,I.bare,⟨λb o e n L C=>?_,λb o e n L C=>?_,I.base.free,λb o e C=>?_,I.base.tups,I.base.frzs,I.base.tbls⟩,⟨_,ab,λj y v' l G e3=>?_⟩,λy c e=>?_,I.free,I.freeC,λp hp=>?_,t ⟨oL,ac,I.free⟩ g,by exists I.len⟩ ⟨_,g,.inl rfl⟩
  ·exact(g.2 b (ne_of_lt (lt_of_lt_of_le (lt_size e) I.ok.above))).trans (I.base.keep b o e n L C)
  ·obtain⟨sl,l⟩:=I.base.slot b o e n L C
   exact⟨sl,(g.2 b (ne_of_lt (lt_of_lt_of_le (lt_size e) I.ok.above))).trans l⟩
  ·obtain⟨o',l⟩:=I.base.there b o e C
   exact⟨o',(g.2 b (ne_of_lt (lt_of_lt_of_le (lt_size e) I.ok.above))).trans l⟩
  ·by_cases R:j=i
   ·subst R
    rw[K]at l;cases l;rw[getElem?_set_self Kσ]at G;cases G;exact⟨u,r,.inl ⟨J,by simp⟩⟩
   ·rw[getElem?_set_ne (Ne.symm R)]at G
    obtain⟨u',r',q⟩:=hl j y v' l G e3;refine⟨u',r',?_⟩;rcases q with⟨k,e⟩|⟨k,c,e,z⟩
    ·refine .inl ⟨k,?_⟩
     have:y≠x:=λe=>R (zBj hN l (e▸K))
     simp[this,e]
    ·exact .inr ⟨k,c,e,z.sameBut g (cne y c e)⟩
  ·obtain⟨w',z⟩:=I.cell y c e
   exact⟨w',z.sameBut g (cne y c e)⟩
  ·obtain⟨e,n,ne,nf,d⟩:=I.pin p hp
   exact⟨(g.2 p.1 ne).trans e,n,ne,nf,d⟩
 ·have O:X.fn x=true:=by
   rcases hf with z|z
   ·exact z
   ·rw[z]at J;cases J
  obtain⟨c,w⟩:=I.ok.has x (.inl J);obtain⟨w',z⟩:=I.cell x c w;refine wpAny_storeName_cell I.ok.kind J w z (λh' aa g=>?_);obtain⟨oc,Y,W⟩:=id z;refine h {s with heap:=h'} ⟨I.ok,I.os,I.bare,⟨λb o e n L C=>?_,λb o e n L C=>?_,I.base.free,λb o e C=>?_,I.base.tups,I.base.frzs,I.base.tbls⟩,⟨m,hn.sameBut g (Ne.symm (cne x c w)),λj y v' l G e3=>?_⟩,λy c' e=>?_,I.free,I.freeC,λp hp=>?_,t ⟨oc,Y,I.freeC x c w⟩ g,by exists I.len⟩ ⟨c,g,.inr w⟩
  ·exact(g.2 b (ne_of_lt (lt_of_lt_of_le (lt_size e) (I.ok.cab x c O w)))).trans (I.base.keep b o e n L C)
  ·obtain⟨sl,l⟩:=I.base.slot b o e n L C
   exact⟨sl,(g.2 b (ne_of_lt (lt_of_lt_of_le (lt_size e) (I.ok.cab x c O w)))).trans l⟩
  ·obtain⟨o',l⟩:=I.base.there b o e C
   exact⟨o',(g.2 b (ne_of_lt (lt_of_lt_of_le (lt_size e) (I.ok.cab x c O w)))).trans l⟩
  ·by_cases R:j=i
   ·subst R
    rw[K]at l;cases l;rw[getElem?_set_self Kσ]at G;cases G;exact⟨u,r,.inr ⟨.inl J,c,w,aa⟩⟩
   ·rw[getElem?_set_ne (Ne.symm R)]at G
    obtain⟨u',r',q⟩:=hl j y v' l G e3;refine⟨u',r',?_⟩;rcases q with q|⟨k,c',e,z'⟩
    ·exact .inl q
    ·refine .inr ⟨k,c',e,z'.sameBut g ?_⟩
     rintro rfl
     exact R (zBj hN l (I.ok.inj _ _ _ e w▸K))
  ·by_cases S:c'=c
   ·subst S;exact⟨_,aa⟩
   ·obtain⟨w2,z2⟩:=I.cell y c' e
    exact⟨w2,z2.sameBut g S⟩
  ·obtain⟨e,n,ne,nf,d⟩:=I.pin p hp
   refine⟨(g.2 p.1 ?_).trans e,n,ne,nf,d⟩;intro q;rw[q,Y]at e;have q':oc=p.2:=qJ e;exact d w' (by rw[<- q'];exact W)
def Yx{M:Model}{A:Lg}{E:Ly}{i:Nat}{x:Str}{v:V}{u:Lv}{Q:Unit->La->Prop}(I:Inv X pins σ H s)(g:X.N.Nodup)(hi:X.N[i]?=some x)(c:Loc X.env.scope x)(r:yb v u)
  (h:∀a,Inv X pins (σ.set i (some v)) H a->Q () a) (e:X.fn x=true\/X.env.scope.names.lookup x=some .local:=by first|exact .inl rfl|exact .inr rfl|assumption):wpAny M A (storeName X.env x u) Q E s :=
 QR I g hi c r (λa I' _=>h a I') e
def Inv.call'{s':La}{ch:Ls Lz}(I:Inv X pins σ H s)(h:s'.os=s.os)(u:Un (frs X.stack) ch H H' s.heap s'.heap)(g:HOk X.prog X.w H' s'.heap)(i:AllBare s'.gens)
  (a:∀b∈ch,(b∈X.ex\/X.s₀.heap.objs.size<=b)/\b≠X.env.locals/\(∀x c,X.env.cells.lookup x=some c->c≠b)/\∀p∈X.pn++pins,p.1≠b):Inv X pins σ H' s':=by
 obtain⟨k,g',d',t',j⟩:=s';have e:j=s.os:=h;subst e;exact I.call (g':=g') (t':=t') (d':=d') u g i a
end
abbrev XK:=Lv->Lx Lz->Hp->Prop
abbrev St:=Ls (Lx V)
abbrev VK:=V->Hp->Prop
abbrev TE:=St->Hp->VK->Prop
abbrev TT:=St->Hp->(Bool->Hp->Prop)->Prop
abbrev TA:=St->Hp->(Ls V->Hp->Prop)->Prop
structure Ends where
 nx:St->Hp->Prop
 rt:VK
 bk:St->Hp->Prop:=λ_ _=>False
 ct:St->Hp->Prop:=λ_ _=>False
abbrev TS:=Ends->St->Hp->Prop
def EP(X:Cx)(a:Ls (Lz×Obj))(σ:St)(Q:VK)(u:Lv)(s':La):Prop:=∃v H',Inv X a σ H' s'/\yb v u/\Q v H'
def TP(X:Cx)(a:Ls (Lz×Obj))(σ:St)(Q:Bool->Hp->Prop)(b:Bool)(s':La):Prop:=∃H',Inv X a σ H' s'/\Q b H'
def AP(X:Cx)(a:Ls (Lz×Obj))(σ:St)(Q:Ls V->Hp->Prop)(e:Ls Lv)(s':La):Prop:=∃c H',Inv X a σ H' s'/\yA c e/\Q c H'
def SP(X:Cx)(a:Ls (Lz×Obj))(D:Ends)(f:Flow)(s':La):Prop :=
 match f with
 | .next=>∃σ' H',Inv X a σ' H' s'/\D.nx σ' H'| .brk=>∃σ' H',Inv X a σ' H' s'/\D.bk σ' H'| .cont=>∃σ' H',Inv X a σ' H' s'/\D.ct σ' H'| .ret u=>∃v σ' H',Inv X a σ' H' s'/\yb v u/\D.rt v H'
def PE(X:Cx)(e:Lb)(t:TE):Prop :=
 ∀(a:Ls (Lz×Obj)) (s:La) (σ:St) (H:Hp) (Q:VK),Inv X a σ H s->t σ H Q->wpAny (model X.prog X.w) X.A (eval e X.env) (EP X a σ Q) X.xe s
def PT(X:Cx)(e:Lb)(t:TT):Prop :=
 ∀(a:Ls (Lz×Obj)) (s:La) (σ:St) (H:Hp) (Q:Bool->Hp->Prop),Inv X a σ H s->t σ H Q->wpAny (model X.prog X.w) X.A (isTrue e X.env (eval e X.env)) (TP X a σ Q) X.xe s
def PW(X:Cx)(e:Lb)(t:TT):Prop :=
 ∀(c:Sem Lv) (a:Ls (Lz×Obj)) (s:La) (σ:St) (H:Hp) (Q:Bool->Hp->Prop),Inv X a σ H s->t σ H Q->wpAny (model X.prog X.w) X.A (isTrue e X.env c) (TP X a σ Q) X.xe s
def PW.pt{X:Cx}{e:Lb}{t:TT}(h:PW X e t):PT X e t:=h _
def PA(X:Cx)(es:Ls Lb)(t:TA):Prop :=
 ∀(c:Pos) (a:Ls (Lz×Obj)) (s:La) (σ:St) (H:Hp) (Q:Ls V->Hp->Prop),Inv X a σ H s->t σ H Q->wpAny (model X.prog X.w) X.A (spliced (backTo c (starEach es X.env))) (AP X a σ Q) X.xe s
def PS(X:Cx)(st:Lf)(t:TS):Prop :=
 ∀(a:Ls (Lz×Obj)) (s:La) (σ:St) (H:Hp) (D:Ends),Inv X a σ H s->t D σ H->wpAny (model X.prog X.w) X.A (exec st X.env) (SP X a D) X.xe s
def PSs(X:Cx)(st:Ls Lf)(t:TS):Prop :=
 ∀(a:Ls (Lz×Obj)) (s:La) (σ:St) (H:Hp) (D:Ends),Inv X a σ H s->t D σ H->wpAny (model X.prog X.w) X.A (execs st X.env) (SP X a D) X.xe s
def thn{α:Type}{t:Sem α}{Q c:α->La->Prop}{M:Model}{A:Lg}{E:Ly}{s:La}(h:wpAny M A t Q E s)(e:∀a s,Q a s->c a s):wpAny M A t c E s:=wpAny_mono h e λ_ _ x=>x
section
variable{X:Cx}
def bin{a b:Lb}{j k:TE}(t:PE X a j)(w:PE X b k){c:Ls (Lz×Obj)}{s:La}{σ:St}{H:Hp}{R:V->V->Hp->Prop}(I:Inv X c σ H s)(h:j σ H λx H1=>k σ H1 λy H2=>R x y H2)
  {α:Type} {Q:α->La->Prop} {f:Lv->Lv->Sem α}
  (r:∀v u i x y H2,Inv X c σ H2 i->yb x v->yb y u->R x y H2->wpAny (model X.prog X.w) X.A (f v u) Q X.xe i) :
  wpAny (model X.prog X.w) X.A (eval a X.env) (λv e=>wpAny (model X.prog X.w) X.A (eval b X.env) (λu g=>wpAny (model X.prog X.w) X.A (f v u) Q X.xe g) X.xe e) X.xe s:=by
 refine thn (t c s σ H _ I h) λv l ⟨x,H1,I1,o,p⟩=>?_
 refine thn (w c l σ H1 _ I1 p) λu i ⟨y,H2,I2,q,n⟩=>?_
 exact r v u i x y H2 I2 o q n
def Wz(i:Nat):TE:=λσ H Q=>∃v,σ[i]?=some (some v)/\Q v H
def tC(v:V):TE:=λ_ H Q=>Q v H
def pe_var{i:Nat}{x:Str}{n:Pos}(w:X.N[i]?=some x)(p:Vis X.env.scope x)(hd:(x==("__debug__":Str))=false:=by decide)(k:(x==("__classdict__":Str))=false:=by decide):PE X (.Name x n) (Wz i):=by
 intro j s σ H Q I h;obtain⟨v,e,h⟩:=h;obtain⟨m,q,hl⟩:=I.loc;obtain⟨u,r,l⟩:=hl i x v w e p;have fin:EP X j σ Q u s:=⟨v,H,I,r,h⟩;rcases l with⟨g,t⟩|⟨g,c,o,a⟩
 ·exact wpAny_Name (wpAny_loadName_local I.ok.kind g q t fin) hd
 ·rcases g with g|g
  ·exact wpAny_Name (wpAny_loadName_cell I.ok.kind g o a fin) hd
  ·exact wpAny_Name (wpAny_loadName_free I.ok.kind g o a fin k) hd
def pe_int{i j pos}:PE X (.Constant (.int i) j pos) (tC (.int i)):=λ_ _ _ H _ I h=>wpAny_Constant_int ⟨.int i,H,I.tok _,⟨_,rfl⟩,h⟩
def pe_bl{b j pos}:PE X (.Constant (.bool b) j pos) (tC (.bl b)):=λ_ _ _ H _ I h=>Constant_bool ⟨.bl b,H,I,rfl,h⟩
def pe_non{j pos}:PE X (.Constant .none j pos) (tC .non):=λ_ _ _ H _ I h=>Constant_none ⟨.non,H,I,rfl,h⟩
def pe_str{x j pos}:PE X (.Constant (.str x) j pos) (tC (.str x)):=λ_ _ _ H _ I h=>Calls.Constant_str ⟨.str x,H,I.tok _,⟨_,rfl⟩,h⟩
def Gl(X:Cx)(x:Str):Prop:=X.env.kindOf x=some .globalImplicit
def zDa{E:Ly}{a:Ls (Lz×Obj)}{s:La}{σ:St}{H:Hp}{x:Str}{u:Lv}{c:Pos}{Q:Ly}(I:Inv X a σ H s)(e:Gl X x)(g:X.mg x=some u)(h:Q u s)
  (hd:(x==("__debug__":Str))=false:=by decide):wpAny (model X.prog X.w) X.A (eval (.Name x c) X.env) Q E s :=
 Calls.Name_function_global I.ok.kind e (Calls.loadGlobal_global (by rw[I.ok.glob];exact I.mod.glob.keeps I.bk) g h) hd
def Z3{E:Ly}{a:Ls (Lz×Obj)}{s:La}{σ:St}{H:Hp}{x:Str}{u:Lv}{c:Pos}{Q:Ly}(I:Inv X a σ H s)(j:Gl X x)(i:X.mg x=none)(e:bootBuiltins x=some u)(h:Q u s)
  (hn:x≠"__name__":=by decide) (hd:(x==("__debug__":Str))=false:=by decide):wpAny (model X.prog X.w) X.A (eval (.Name x c) X.env) Q E s:=by
 obtain⟨k,g,h2⟩:=I.mod.blt;exact Calls.Name_function_global I.ok.kind j (Calls.loadGlobal_builtin (by rw[I.ok.glob];exact I.mod.glob.keeps I.bk) i (by rw[I.ok.blt];exact g.keeps I.bk) ((h2 x hn).trans e) h) hd
def pe_glob{x:Str}{v:V}{u:Lv}{a:Pos}(c:Gl X x)(e:X.mg x=some u)(r:yb v u)(hd:(x==("__debug__":Str))=false:=by decide):PE X (.Name x a) (tC v) :=
 λ_ _ _ H _ I h=>zDa I c e ⟨v,H,I,r,h⟩ hd
def pe_bltn{x:Str}{v:V}{u:Lv}{a:Pos}(e:Gl X x)(c:X.mg x=none)(g:bootBuiltins x=some u)(r:yb v u)(hn:x≠"__name__":=by decide)(hd:(x==("__debug__":Str))=false:=by decide):PE X (.Name x a) (tC v) :=
 λ_ _ _ H _ I h=>Z3 I e c g ⟨v,H,I,r,h⟩ hn hd
variable{a b:Lb}{ta tb:TE}{pos:Pos}
def tB(t:TE):TT:=λσ H Q=>t σ H λx H1=>∃c,x=.bl c/\Q c H1
def pt_val{e:Lb}{t:TE}(h:PE X e t)(g:∀a,isTrue e X.env a=(do let v <- a;standAt e.pos;holding [v] (truthy v)):=by intro _;rfl):PT X e (tB t):=by
 intro c s σ H Q I hw;refine isTrue_plain (thn (h c s σ H _ I hw) λv k ⟨x,H1,I1,i,j⟩=>?_) (g _);obtain⟨d,rfl,q⟩:=j;cases i;exact wpAny_truthy_bool ⟨H1,I1,q⟩
variable{tA tB':TT}{wA:Ls Lb}
def tAnd(t u:TT):TT:=λσ H Q=>t σ H λc H1=>if c=true then u σ H1 Q else Q false H1
def tOr(t u:TT):TT:=λσ H Q=>t σ H λc H1=>if c=true then Q true H1 else u σ H1 Q
def tNot(t:TT):TT:=λσ H Q=>t σ H λc H1=>Q (!c) H1
def pw_and1(i:PT X a tA):PW X (.BoolOp .And [a] pos) tA:=by
 intro k g s σ H Q I h;refine isTrue_and (thn (i g s σ H Q I h) λc j e=>?_);cases c with
 |true=>exact isTrue_and_nil e|false=>exact e
def pw_or1(i:PT X a tA):PW X (.BoolOp .Or [a] pos) tA:=by
 intro k g s σ H Q I h;refine isTrue_or (thn (i g s σ H Q I h) λc j e=>?_);cases c with
 |false=>exact isTrue_or_nil e|true=>exact e
def pw_and(k:PT X a tA)(l:PW X (.BoolOp .And (b::wA) pos) tB'):PW X (.BoolOp .And (a::b::wA) pos) (tAnd tA tB'):=by
 intro j e s σ H Q I h;refine isTrue_and (thn (k e s σ H _ I h) λc i ⟨H1,I1,g⟩=>?_);cases c with
 |true=>exact l j e i σ H1 Q I1 g|false=>exact⟨H1,I1,g⟩
def pw_or(k:PT X a tA)(l:PW X (.BoolOp .Or (b::wA) pos) tB'):PW X (.BoolOp .Or (a::b::wA) pos) (tOr tA tB'):=by
 intro j e s σ H Q I h;refine isTrue_or (thn (k e s σ H _ I h) λc i ⟨H1,I1,g⟩=>?_);cases c with
 |true=>exact⟨H1,I1,g⟩|false=>exact l j e i σ H1 Q I1 g
def pt_not(g:PT X a tA):PT X (.UnaryOp .Not a pos) (tNot tA):=by
 intro e s σ H Q I h;exact isTrue_not (g e s σ H (λc H1=>Q (!c) H1) I h)
def tAndV(a e:TE):TE:=λσ H Q=>a σ H λx H1=>∃c,x=.bl c/\if c=true then e σ H1 Q else Q (.bl false) H1
def tOrV(a e:TE):TE:=λσ H Q=>a σ H λx H1=>∃c,x=.bl c/\if c=true then Q (.bl true) H1 else e σ H1 Q
def tNotV(a:TE):TE:=λσ H Q=>a σ H λx H1=>∃c,x=.bl c/\Q (.bl (!c)) H1
def pe_one{op}{t:TE}(h:PE X a t):PE X (.BoolOp op [a] pos) t:=λc s σ H Q I e=>BoolOp_one (h c s σ H Q I e)
def pe_and(k:PE X a ta)(l:PE X (.BoolOp .And (b::wA) pos) tb):PE X (.BoolOp .And (a::b::wA) pos) (tAndV ta tb):=by
 intro e s σ H Q I h;refine BoolOp_and (thn (k e s σ H _ I h) λv i ⟨x,H1,I1,j,g⟩=>?_);obtain⟨c,rfl,g⟩:=g;cases j;refine wpAny_truthy_bool ?_;cases c with
 |true=>exact l e i σ H1 Q I1 g|false=>exact⟨.bl false,H1,I1,rfl,g⟩
def pe_or(k:PE X a ta)(l:PE X (.BoolOp .Or (b::wA) pos) tb):PE X (.BoolOp .Or (a::b::wA) pos) (tOrV ta tb):=by
 intro e s σ H Q I h;refine BoolOp_or (thn (k e s σ H _ I h) λv i ⟨x,H1,I1,j,g⟩=>?_);obtain⟨c,rfl,g⟩:=g;cases j;refine wpAny_truthy_bool ?_;cases c with
 |false=>exact l e i σ H1 Q I1 g|true=>exact⟨.bl true,H1,I1,rfl,g⟩
def pe_not(j:PE X a ta):PE X (.UnaryOp .Not a pos) (tNotV ta):=by
 intro e s σ H Q I h;refine UnaryOp_ (thn (j e s σ H _ I h) λv k ⟨x,H1,I1,i,g⟩=>?_);obtain⟨c,rfl,g⟩:=g;cases i;exact not_of (wpAny_truthy_bool ⟨.bl (!c),H1,I1,rfl,g⟩)
def tIf(t:TT)(a e:TE):TE:=λσ H Q=>t σ H λc H1=>if c=true then a σ H1 Q else e σ H1 Q
def zGG{c:Lb}(j:PT X c tA)(k:PE X a ta)(l:PE X b tb):PE X (.IfExp c a b pos) (tIf tA ta tb):=by
 intro e s σ H Q I h;refine wpAny_IfExp (thn (j e s σ H _ I h) λd g ⟨H1,I1,i⟩=>?_);cases d with
 |true=>exact k e g σ H1 Q I1 i|false=>exact l e g σ H1 Q I1 i
end
def SqL(K:qH)(H:Hp)(a:Lz)(xs:Ls V):Prop :=
 Rd H a (.l xs) \/
  ∃(o:Obj) (c:Lh) (n:Nat),K.lookup a=some o/\o.cls=.type "list"/\o.dict=none/\o.data=.seq c n/\c.size<=sizeLine/\yA xs c.toList
def SqT(K:qH)(H:Hp)(a:Lz)(xs:Ls V):Prop :=
 Rd H a (.t xs) \/
  ∃(o:Obj) (c:Lh) (n:Nat),K.lookup a=some o/\o.cls=.type "tuple"/\o.data=.seq c n/\c.size<=sizeLine/\yA xs c.toList
def absV:Lv->Lx V
 | .none=>some .non| .bool b=>some (.bl b)| .int i _=>some (.int i)| .str x _=>some (.str x)| .bytes b _=>some (.byt b)| .float b _=>some (.flt b)| .ref a=>some (.ref a)| .type n=>some (.ty n)|_=>none
def yb.abs{x:V}{u:Lv}(r:yb x u):absV u=some x:=by
 cases x with
 |non=>cases r;rfl|bl _=>cases r;rfl|int _=>obtain⟨t,rfl⟩:=r;rfl|str _=>obtain⟨t,rfl⟩:=r;rfl|byt _=>obtain⟨t,rfl⟩:=r;rfl|flt _=>obtain⟨t,rfl⟩:=r;rfl|ref _=>cases r;rfl|ty _=>cases r;rfl
theorem yb.inj{x y:V}{u:Lv}(r:yb x u)(q:yb y u):x=y:=qJ (r.abs.symm.trans q.abs)
theorem yA.inj:∀{c e:Ls V} {a:Ls Lv},yA c a->yA e a->c=e
 |_,_,_,.nil,.nil=>rfl|_,_,_,.cons r t,.cons r' t'=>by rw[r.inj r',yA.inj t t']
section
variable{X:Cx}{pins:Ls (Lz×Obj)}{σ:St}{H:Hp}{s:La}{a:Lz}{xs ys:Ls V}
def SqL.of{K:qH}(h:H a=some (.l xs)):SqL K H a xs:=.inl (.inl h)
def SqT.of{K:qH}(h:H a=some (.t xs)):SqT K H a xs:=.inl (.inl h)
def Inv.list(I:Inv X pins σ H s)(h:SqL X.K H a xs):∃c:Ls Lv,yA xs c/\PlainL s.heap a c.toArray/\xs.length<=sizeLine:=by
 rcases h with h|⟨o,c,n,i,g,hd,j,hz,r⟩
 ·obtain⟨z,c,n,r,e⟩:=h.ok I.hok
  exact⟨c,r,⟨_,n,e,rfl,rfl,rfl⟩,z⟩
 ·refine⟨c.toList,r,⟨o,n,I.kIn a o i,g,hd,by exists j⟩,?_⟩
  have e:=r.length;dsimp[Array.length_toList]at e;omega
def Inv.tuple(I:Inv X pins σ H s)(h:SqT X.K H a xs):∃c:Ls Lv,yA xs c/\IsTup s.heap a c.toArray/\xs.length<=sizeLine:=by
 rcases h with h|⟨o,c,n,i,g,j,hz,r⟩
 ·obtain⟨z,c,r,p⟩:=h.ok I.hok
  exact⟨c,r,p,z⟩
 ·refine⟨c.toList,r,⟨o,I.kIn a o i,g,n,by exists j⟩,?_⟩
  have e:=r.length;dsimp[Array.length_toList]at e;omega
def Inv.list_inj(I:Inv X pins σ H s)(h:SqL X.K H a xs)(h':SqL X.K H a ys):xs=ys:=by
 obtain⟨c,r,⟨o,n,e,_,_,d⟩,_⟩:=I.list h;obtain⟨its',j,⟨k,l,g,_,_,i⟩,_⟩:=I.list h';rw[e]at g;cases g;rw[d]at i;injection i with d1 _
 have:c=its':=by exists congrArg Array.toList d1
 subst this;exact r.inj j
def Inv.tuple_inj(I:Inv X pins σ H s)(h:SqT X.K H a xs)(h':SqT X.K H a ys):xs=ys:=by
 obtain⟨c,r,⟨o,e,_,n,d⟩,_⟩:=I.tuple h;obtain⟨its',j,⟨l,g,_,k,i⟩,_⟩:=I.tuple h';rw[e]at g;cases g;rw[d]at i;injection i with d1 _
 have:c=its':=by exists congrArg Array.toList d1
 subst this;exact r.inj j
end
abbrev Cx.wish(X:Cx)(E:Ly):Cx:={X with xe:=E}
abbrev Cx.nox(X:Cx):Cx:=X.wish λ_ _=>False
theorem Cx.Ok.wish{X:Cx}(ok:X.Ok)(E:Ly):(X.wish E).Ok :=
 ⟨ok.mod,ok.kind,ok.glob,ok.blt,ok.above,ok.inj,ok.has,ok.cab,ok.hd,ok.frames,ok.stk,ok.exf,ok.bs,ok.bsz,ok.noex,ok.exfs,ok.funs,ok.frf⟩
def Cx.Ok.unwish{X:Cx}{E:Ly}(ok:(X.wish E).Ok):X.Ok :=
 ⟨ok.mod,ok.kind,ok.glob,ok.blt,ok.above,ok.inj,ok.has,ok.cab,ok.hd,ok.frames,ok.stk,ok.exf,ok.bs,ok.bsz,ok.noex,ok.exfs,ok.funs,ok.frf⟩
section
variable{X:Cx}{pins:Ls (Lz×Obj)}{σ:St}{H:Hp}{s:La}{E:Ly}
theorem Inv.wish(I:Inv X pins σ H s)(E:Ly):Inv (X.wish E) pins σ H s:=⟨I.ok.wish E,I.os,I.bare,I.base,I.loc,I.cell,I.free,I.freeC,I.pin,I.hok,I.len⟩
theorem Inv.unwish(I:Inv (X.wish E) pins σ H s):Inv X pins σ H s:=⟨I.ok.unwish,I.os,I.bare,I.base,I.loc,I.cell,I.free,I.freeC,I.pin,I.hok,I.len⟩
theorem SP.unwish{D:Ends}{f:Flow}{s':La}(h:SP (X.wish E) pins D f s'):SP X pins D f s':=by
 cases f with
 |next=>obtain⟨σ',H',I,q⟩:=h;exact⟨σ',H',I.unwish,q⟩|brk=>obtain⟨σ',H',I,q⟩:=h;exact⟨σ',H',I.unwish,q⟩|cont=>obtain⟨σ',H',I,q⟩:=h;exact⟨σ',H',I.unwish,q⟩|ret u=>obtain⟨v,σ',H',I,r,q⟩:=h;exact⟨v,σ',H',I.unwish,r,q⟩
theorem PE.nox{e:Lb}{t:TE}(h:PE X.nox e t):PE X e t:=λa s σ H Q I c =>
 wpAny_mono (h a s σ H Q (I.wish _) c) (λ_ _ ⟨v,H',I',r,q⟩=>⟨v,H',I'.unwish,r,q⟩) λ_ _ z=>False.elim z
theorem PT.nox{e:Lb}{t:TT}(h:PT X.nox e t):PT X e t:=λa s σ H Q I c =>
 wpAny_mono (h a s σ H Q (I.wish _) c) (λ_ _ ⟨H',I',q⟩=>⟨H',I'.unwish,q⟩) λ_ _ z=>False.elim z
theorem PSs.nox{st:Ls Lf}{t:TS}(h:PSs X.nox st t):PSs X st t:=λa s σ H D I c =>
 wpAny_mono (h a s σ H D (I.wish _) c) (λ_ _ q=>q.unwish) λ_ _ z=>False.elim z
end
section
variable{X:Cx}{st:Lf}{wA:Ls Lf}{t u:TS}{e:Lb}{te:TE}{pos:Pos}
def tNext:TS:=λD σ H=>D.nx σ H
def tSeq(t u:TS):TS:=λD σ H=>t {D with nx:=u D} σ H
def pss_nil:PSs X [] tNext:=λ_ _ σ H _ I h=>wpAny_execs_nil ⟨σ,H,I,h⟩
def zGH(c:PS X st t)(e:PSs X wA u):PSs X (st::wA) (tSeq t u):=by
 intro a s σ H D I h;refine wpAny_execs_cons (thn (c a s σ H {D with nx:=u D} I h) λf g q=>?_)
 cases f with
 |next =>
  obtain⟨σ',H',I',q⟩:=q;exact e a g σ' H' D I' q
 |ret v=>exact q|brk=>exact q|cont=>exact q
def pss_one(c:PS X st t):PSs X [st] t:=by
 intro a s σ H D I h;refine wpAny_execs_cons (thn (c a s σ H D I h) λf e q=>?_);cases f with
 |next=>exact wpAny_execs_nil q|ret v=>exact q|brk=>exact q|cont=>exact q
def Inv.quiet{a:Ls (Lz×Obj)}{σ:St}{H:Hp}{s:La}(I:Inv X a σ H s):interactive X.env=false:=by simp[interactive,I.ok.kind]
def tDrop(a:TE):TS:=λD σ H=>a σ H λ_ H1=>D.nx σ H1
def zDb(c:PE X e te)(g:swapsWith e none pos.line X.env=pure false:=by rfl):PS X (.Expr e pos) (tDrop te):=by
 intro a s σ H D I h;exact wpAny_Expr_any (thn (c a s σ H _ I h) λv j ⟨x,H1,I1,k,i⟩=>⟨σ,H1,I1,i⟩) I.quiet g
def tRet(a:TE):TS:=λD σ H=>a σ H D.rt
def ps_ret(c:PE X e te):PS X (.Return (some e) pos) (tRet te):=by
 intro a s σ H D I h;exact wpAny_Return_some (thn (c a s σ H _ I h) λv j ⟨x,H1,I1,g,i⟩=>⟨x,σ,H1,I1,g,i⟩)
def tIfS(c:TT)(t u:TS):TS:=λD σ H=>c σ H λb H1=>if b=true then t D σ H1 else u D σ H1
def ps_if{c:Lb}{a b:Ls Lf}{g:TT}(k:PT X c g)(l:PSs X a t)(n:PSs X b u):PS X (.If c a b pos) (tIfS g t u):=by
 intro e s σ H D I h;refine wpAny_If (thn (k e s σ H _ I h) λd i ⟨H1,I1,j⟩=>?_);cases d with
 |true=>exact l e i σ H1 D I1 j|false=>exact n e i σ H1 D I1 j
def tNever:TS:=λ_ _ _=>False
def zGI:PS X st tNever:=λ_ _ _ _ _ _ h=>h.elim
end
abbrev TG:=V->St->Hp->(St->Hp->Prop)->Prop
abbrev TGs:=Ls V->St->Hp->(St->Hp->Prop)->Prop
def PG(X:Cx)(a:Lb)(t:TG):Prop :=
 ∀(c:Ls (Lz×Obj)) (s:La) (σ:St) (H:Hp) (v:V) (u:Lv) (Q:St->Hp->Prop),Inv X c σ H s->yb v u->t v σ H Q ->
  wpAny (model X.prog X.w) X.A (assign a X.env u) (λ_ e=>∃σ' H',Inv X c σ' H' e/\Q σ' H') X.xe s
def PGs(X:Cx)(ts:Ls Lb)(t:TGs):Prop :=
 ∀(a:Ls (Lz×Obj)) (s:La) (σ:St) (H:Hp) (c:Ls V) (e:Ls Lv) (Q:St->Hp->Prop),Inv X a σ H s->yA c e->t c σ H Q ->
  wpAny (model X.prog X.w) X.A (assignInOrder ((assignEach ts X.env).map (·.2)) e) (λ_ g=>∃σ' H',Inv X a σ' H' g/\Q σ' H') X.xe s
abbrev TSet:=V->V->V->Hp->(Hp->Prop)->Prop
def PSet(X:Cx)(t:TSet):Prop :=
 ∀(a:Ls (Lz×Obj)) (s:La) (σ:St) (H:Hp) (o i v:V) (e c u:Lv) (Q:Hp->Prop),Inv X a σ H s->yb o e->yb i c->yb v u->t o i v H Q ->
  wpAny (model X.prog X.w) X.A (setItem e c u) (λ_ g=>∃H',Inv X a σ H' g/\Q H') X.xe s
abbrev TIp:=V->V->Hp->VK->Prop
def PIp(X:Cx)(c:Operator)(t:TIp):Prop :=
 ∀(a:Ls (Lz×Obj)) (s:La) (σ:St) (H:Hp) (x y:V) (v u:Lv) (Q:VK),Inv X a σ H s->yb x v->yb y u->t x y H Q ->
  wpAny (model X.prog X.w) X.A (inplaceOp c v u) (EP X a σ Q) X.xe s
section
variable{X:Cx}{pos:Pos}
def zAi(i:Nat):TG:=λv σ H Q=>Q (σ.set i (some v)) H
def zDc{i:Nat}{x:Str}(e:X.N.Nodup)(hi:X.N[i]?=some x)(c:Loc X.env.scope x)(g:X.fn x=true\/X.env.scope.names.lookup x=some .local:=by first|exact .inl rfl|exact .inr rfl|assumption):PG X (.Name x pos) (zAi i):=by
 intro a s σ H v u Q I r h;exact wpAny_assign_Name (Yx I e hi c r (λj I'=>⟨_,H,I',h⟩) g)
def gNil:TGs:=λa σ H Q=>a=[]/\Q σ H
def gCons(t:TG)(u:TGs):TGs:=λa σ H Q=>∃v r,a=v::r/\t v σ H λσ' H'=>u r σ' H' Q
def pgs_nil:PGs X [] gNil:=by
 intro a s σ H vs us Q I r h;obtain⟨e,h⟩:=h;subst e;cases r;exact assignInOrder_nil ⟨σ,H,I,h⟩
def zGJ{e:Lb}{es:Ls Lb}{t:TG}{u:TGs}(j:PG X e t)(n:PGs X es u)
  (k:(assignEach (e::es) X.env).map (·.2)=assign e X.env::(assignEach es X.env).map (·.2):=by rfl):PGs X (e::es) (gCons t u):=by
 intro a s σ H vs us Q I r h;obtain⟨v,o,i,h⟩:=h;subst i;cases r with
 |cons r g =>
  rw[k];refine assignInOrder_cons (thn (j a s σ H _ _ _ I r h) λ_ c ⟨σ1,H1,I1,l⟩=>?_);exact n a c σ1 H1 _ _ Q I1 g l
def gTup(K:qH)(n:Nat)(t:TGs):TG:=λv σ H Q=>∃a c,v=.ref a/\SqT K H a c/\c.length=n/\t c σ H Q
def zIH{es:Ls Lb}{k:Nat}{t:TGs}{n:Nat}(q:X.calm=true)(h:PGs X es t)
  (hn:(assignEach es X.env).length=n:=by rfl) (g:(assignEach es X.env).findIdx? (·.1)=none:=by rfl):PG X (.Tuple es k pos) (gTup X.K n t):=by
 intro c s σ H v u Q I r i;obtain⟨a,z,p,l,hl,i⟩:=i;subst p;cases r;obtain⟨y,j,ht,hz⟩:=I.tuple l;refine assign_Tuple_tuple (I.ok.hd q) ht (by simp[hn,<- hl,j.length]) g λw x=>?_
 have I1:Inv X c σ H {s with heap:=w}:=I.kept (t':=s.toks) λb o e=>x b o (ne_of_lt (lt_size e)) e
 exact h c _ σ H z _ Q I1 (by exists j) i
def gSub(a c:TE)(t:TSet):TG:=λv σ H Q=>a σ H λo H1=>c σ H1 λi H2=>t o i v H2 λH3=>Q σ H3
def zII{o i:Lb}{c e:TE}{t:TSet}(k:PE X o c)(hi:PE X i e)(l:PSet X t)
  (C:∀v,assign (.Subscript o i pos) X.env v=(do
   let ov <- holding [v] (eval o X.env)
   let iv <- holding [v,ov] (eval i X.env)
   standAt pos
   holding [v,ov,iv] (setItem ov iv v)
   release [v,ov,iv] []):=by intro _;rfl):PG X (.Subscript o i pos) (gSub c e t):=by
 intro a s σ H v u Q I r h;rw[C];refine qB (wpAny_holding (thn (k a s σ H _ I h) λov g ⟨x,H1,I1,p,q⟩=>?_));refine qB (wpAny_holding (thn (hi a g σ H1 _ I1 q) λiv n ⟨y,H2,I2,w,j⟩=>?_));refine qB (wpAny_standAt (qB (wpAny_holding (thn (l a n σ H2 x y v ov iv u _ I2 p w r j) λ_ D ⟨H3,I3,z⟩=>?_))));exact wpAny_release ⟨σ,H3,I3,z⟩
def tAsg(a:TE)(g:TG):TS:=λD σ H=>a σ H λx H1=>g x σ H1 D.nx
def zDd{tg e:Lb}{c:TE}{g:TG}(i:PE X e c)(o:PG X tg g)(n:swapsWithSole [tg] e pos.line X.env=pure false:=by rfl)(k:swappedStores [tg] e X.env=pure none:=by rfl)
  (l:(assignEach [tg] X.env).map (·.2)=[assign tg X.env]:=by rfl):PS X (.Assign [tg] e pos) (tAsg c g):=by
 intro a s σ H D I h;refine wpAny_Assign_stores (thn (i a s σ H _ I h) λv j ⟨x,H1,I1,p,r⟩=>?_) n k;rw[l];exact thn (o a j σ H1 x v _ I1 p r) λ_ t q=>q
def ps_set{i:Nat}{x:Str}{e:Lb}{g:TE}{a:Pos}(p:X.N.Nodup)(hi:X.N[i]?=some x)(l:Loc X.env.scope x)(j:PE X e g)(k:swapsWith e (some (.Name x a)) pos.line X.env=pure false:=by rfl)(q:X.fn x=true\/X.env.scope.names.lookup x=some .local:=by first|exact .inl rfl|exact .inr rfl|assumption) :
  PS X (.Assign [.Name x a] e pos) (tAsg g (zAi i)):=by
 intro c s σ H D I h;refine wpAny_Assign_Name (thn (j c s σ H _ I h) λv r ⟨y,H1,I1,n,o⟩=>?_) k;exact Yx I1 p hi l n (λt I2=>⟨_,H1,I2,o⟩) q
def tPar(i j:Nat)(a:TA):TS:=λD σ H=>a σ H λc H1=>∃v w,c=[v,w]/\D.nx ((σ.set i (some v)).set j (some w)) H1
def ps_par{i j:Nat}{x y:Str}{a b:Lb}{E:TA}{t r l:Pos}{kt k2 pt2}(W:X.calm=true)(G:X.N.Nodup)(hi:X.N[i]?=some x)(Y:X.N[j]?=some y)(C:i≠j)
  (J:X.env.scope.names.lookup x=some .local) (K:X.env.scope.names.lookup y=some .local) (R:PA X [a,b] E)
  (V:swappedStores [.Tuple [.Name x t,.Name y r] kt l] (.Tuple [a,b] k2 pt2) X.env=pure (some [x,y]))
  (L:swapsWithSole [.Tuple [.Name x t,.Name y r] kt l] (.Tuple [a,b] k2 pt2) pos.line X.env=pure false:=by rfl) :
  PS X (.Assign [.Tuple [.Name x t,.Name y r] kt l] (.Tuple [a,b] k2 pt2) pos) (tPar i j E):=by
 intro c s σ H D I h;rw[exec_Assign_arm];refine qB (wpAny_standAt ?_);rw[L];refine qB (qC ?_);rw[if_neg (by decide)];refine qB (Tuple_ (thn (R _ c s σ H _ I h) λus k ⟨vs,H1,I1,M,z⟩=>?_));obtain⟨v,w,O,z⟩:=z;subst O;obtain⟨g,u2,rfl,Z,n⟩:∃g u2,us=[g,u2]/\yb v g/\yb w u2:=by
  cases M with
  |cons p q =>
   cases q with
   |cons Q S =>
    cases S;exact⟨_,_,rfl,p,Q⟩
 refine wpAny_newObj_type ?_ (by show 2<=sizeLine;decide);have I2:Inv X c σ H1 {k with heap:=k.heap.push {cls:=.type "tuple",data:=.seq [g,u2].toArray}}:=I1.kept (t':=k.toks) λb o e=>qA _ e
 rw[V];refine qB (qC ?_);show wpAny (model X.prog X.w) X.A (do rule "assign.swapped-stores";let items <- unpackItems (.ref k.heap.objs.size) 2 none;assignInOrder [λv=>bindName X.env y v,λv=>bindName X.env x v] items.reverse;pure Flow.next) _ _ _;refine qB (wpAny_rule (qB (unpackItems_tuple (items:=#[g,u2]) (I.ok.hd W) (IsTup.new k.heap _) λh' u=>?_)));have I3:=I2.kept (h':=h') (t':=k.toks) λb o e=>u b o (ne_of_lt (lt_size e)) e
 show wpAny _ _ (assignInOrder [λv=>bindName X.env y v,λv=>bindName X.env x v] [u2,g] >>= λ_=>pure Flow.next) _ _ _
 refine qB (assignInOrder_cons (wpAny_bindName (Yx I3 G Y (.inl K) n (λs2 I4=>?_) (.inr K))));refine assignInOrder_cons (wpAny_bindName (Yx I4 G hi (.inl J) Z (λs3 I5=>assignInOrder_nil (qC ?_)) (.inr J)));rw[List.set_comm _ _ (Ne.symm C)]at I5;exact⟨_,H1,I5,z⟩
def tAug(i:Nat)(a:TE)(c:TIp):TS:=λD σ H=>∃x,σ[i]?=some (some x)/\a σ H λy H1=>c x y H1 λz H2=>D.nx (σ.set i (some z)) H2
def zDe{i:Nat}{x:Str}{e:Lb}{C:TE}{q:Operator}{G:TIp}{o:Pos}(S:X.N.Nodup)(hi:X.N[i]?=some x)(t:Loc X.env.scope x)(O:PE X e C)(R:PIp X q G)(M:X.fn x=true\/X.env.scope.names.lookup x=some .local:=by first|exact .inl rfl|exact .inr rfl|assumption) :
  PS X (.AugAssign (.Name x o) q e pos) (tAug i C G):=by
 intro a s σ H D I h;obtain⟨v,Q,h⟩:=h;obtain⟨m,J,hl⟩:=I.loc;have vis:Vis X.env.scope x:=by rcases t with k|k;exact .inl k;exact .inr (.inl k)
 obtain⟨u,r,l⟩:=hl i x v hi Q vis;refine wpAny_AugAssign_Name ?_;have E:wpAny (model X.prog X.w) X.A (eval e X.env) (λw p=>wpAny (model X.prog X.w) X.A (inplaceOp q u w) (λr n=>wpAny (model X.prog X.w) X.A (storeName X.env x r) (λ_=>SP X a D .next) X.xe n) X.xe p) X.xe s:=by
  refine thn (O a s σ H _ I h) λw V ⟨y,H1,I1,K,q1⟩=>?_
  refine thn (R a V σ H1 v y u w _ I1 r K q1) λz s2 ⟨zv,H2,I2,L,Z⟩=>?_
  exact Yx I2 S hi t L (λs3 I3=>⟨_,H2,I3,Z⟩) M
 rcases l with⟨g,Y⟩|⟨g,c,W,j⟩
 ·exact wpAny_loadName_local I.ok.kind g J Y E
 ·rcases g with g|g
  ·exact wpAny_loadName_cell I.ok.kind g W j E
  ·rcases t with k|k
   ·have:X.env.scope.names.lookup x=some .free:=g
    rw[k]at this;cases this
   ·have:X.env.scope.names.lookup x=some .free:=g
    rw[k]at this;cases this
def tAugS(g j h:TE)(c:V->V->Hp->VK->Prop)(e:TIp)(a:TSet):TS:=λD σ H=>g σ H λo H1=>j σ H1 λi H2=>c o i H2 λx H3=>h σ H3 λy H4=>e x y H4 λz H5=>a o i z H5 λH6=>D.nx σ H6
def PGet(X:Cx)(t:V->V->Hp->VK->Prop):Prop :=
 ∀(a:Ls (Lz×Obj)) (s:La) (σ:St) (H:Hp) (o i:V) (e c:Lv) (Q:VK),Inv X a σ H s->yb o e->yb i c->t o i H Q ->
  wpAny (model X.prog X.w) X.A (getItem e c) (EP X a σ Q) X.xe s
def ps_augS{o i e:Lb}{x C r:TE}{g:V->V->Hp->VK->Prop}{p:TIp}{j:TSet}{t:Operator}{n:Pos}(Q:PE X o x)(hi:PE X i C)(L:PGet X g)(M:PE X e r)(hp:PIp X t p)(J:PSet X j)
  (S:∀l k c,augStore i l k c=(do holding [c,l,k] (setItem l k c);release [c,l,k] [];pure .next):=by intros;rfl):PS X (.AugAssign (.Subscript o i n) t e pos) (tAugS x C r g p j):=by
 intro a s σ H D I h;refine wpAny_AugAssign_SubscriptAny (thn (Q a s σ H _ I h) λl Y ⟨y,H1,I1,u,q1⟩=>?_) S;refine thn (hi a Y σ H1 _ I1 q1) λk s2 ⟨z,H2,I2,w,q2⟩=>?_
 refine thn (L a s2 σ H2 y z l k _ I2 u w q2) λq R ⟨E,H3,I3,r3,q3⟩=>?_
 refine thn (M a R σ H3 _ I3 q3) λv O ⟨W,H4,I4,r4,G⟩=>?_
 refine thn (hp a O σ H4 E W q v _ I4 r3 r4 G) λc s5 ⟨x5,H5,I5,r5,Z⟩=>?_
 exact thn (J a s5 σ H5 y z x5 l k c _ I5 u w r5 Z) λ_ s6 ⟨H6,I6,K⟩=>⟨σ,H6,I6,K⟩
def ipI(f:Int->Int->Int):TIp:=λx y H Q=>∃i j,x=.int i/\y=.int j/\Q (.int (f i j)) H
def zIJ:PIp X .Add (ipI λi j=>i+j):=by
 intro a s σ H x y v u Q I r1 r2 h;obtain⟨i,j,e,c,q⟩:=h;subst e;subst c;obtain⟨t,rfl⟩:=r1;obtain⟨g,rfl⟩:=r2;exact iadd_int ⟨.int _,H,I.tok _,⟨_,rfl⟩,q⟩
def ip_sub:PIp X .Sub (ipI λi j=>i-j):=by
 intro a s σ H x y v u Q I r1 r2 h;obtain⟨i,j,e,c,q⟩:=h;subst e;subst c;obtain⟨t,rfl⟩:=r1;obtain⟨g,rfl⟩:=r2;exact isub_int ⟨.int _,H,I.tok _,⟨_,rfl⟩,q⟩
end
section
variable{X:Cx}{pos:Pos}
def zIK(c:TT)(e:TS):TS:=λD σ H=>∃W:Nat->St->Hp->Prop,(∃m,W m σ H)/\∀m σ H,W m σ H ->
 c σ H λb H1=>if b=true then ∃N:St->Hp->Prop,(∀σ' H',N σ' H'->∃a,a<m/\W a σ' H')/\e {D with nx:=N,ct:=N,bk:=D.nx} σ H1 else D.nx σ H1
def zGK{c:Lb}{body:Ls Lf}{q:TT}{p:TS}(r:PassesOwn (model X.prog X.w) X.A X.env X.xe)(z:PT X c q)(u:PSs X body p):PS X (.While c body [] pos) (zIK q p):=by
 intro a s σ H D I h;obtain⟨W,⟨x,w⟩,e⟩:=h;refine wpAny_While (codeAny_whileLoop (λn E=>∃σ' H',Inv X a σ' H' E/\W n σ' H') ?_ x ⟨σ,H,I,w⟩)
 rintro n y ⟨σ1,H1,I1,t⟩
 refine wpAny_passesOwn r (thn (z a y σ1 H1 _ I1 (e n σ1 H1 t)) λb C ⟨H2,I2,i⟩=>?_);cases b with
 |true =>
  obtain⟨N,hN,i⟩:=i;rw[if_pos rfl];refine wpAny_passesOwn r (thn (u a C σ1 H2 _ I2 i) λf G g=>?_);cases f with
  |next =>
   obtain⟨σ3,H3,I3,k⟩:=g;obtain⟨j,l,o⟩:=hN σ3 H3 k;exact⟨j,l,σ3,H3,I3,o⟩
  |cont =>
   obtain⟨σ3,H3,I3,k⟩:=g;obtain⟨j,l,o⟩:=hN σ3 H3 k;exact⟨j,l,σ3,H3,I3,o⟩
  |brk=>exact g|ret v=>exact g
 |false =>
  rw[if_neg qF];exact wpAny_execs_nil ⟨σ1,H2,I2,i⟩
end
structure It where
 go:Nat->Hp->Prop
 yld:Nat->Hp->V->Hp->Prop
 stop:Nat->Hp->Prop
def zBk(X:Cx)(a:Ls (Lz×Obj))(H:Hp)(b:Lz):Prop :=
 H b=none/\b≠X.env.locals/\b∉X.fs/\(b∈X.ex\/X.s₀.heap.objs.size<=b)/\(∀x c,X.env.cells.lookup x=some c->c≠b)/\∀p∈X.pn++a,p.1≠b
def Inv.fpOk{X:Cx}{a:Ls (Lz×Obj)}{σ:St}{H h:Hp}{s:La}{b:Lz}(I:Inv X a σ H s)(g:s.heap.objs.size<=b)(hn:h b=none):zBk X a h b:=by
 refine⟨hn,ne_of_gt (lt_of_lt_of_le I.lt g),I.nofs g,.inr (le_trans I.sz g),λx c e z=>?_,λp i z=>?_⟩
 ·obtain⟨v,q⟩:=I.cell x c e
  exact absurd (lt_of_lt_of_le q.lt (by rw[z];exact g)) (lt_irrefl _)
 ·exact absurd (lt_of_lt_of_le (lt_size (I.pin p i).1) (by rw[z];exact g)) (lt_irrefl _)
structure Turn(P:Lc)(w:Le)(K:qH)(tg:Lb)(J:It)(fp:List Lz)(it:Lz)(tn:Ll):Prop where
 mem:it∈fp
 obj:∀i h,tn i h->∀b∈fp,∃o,h.get? b=some o/\∀v,o.data≠.cell v
 keep:∀i h h',tn i h->(∀b∈fp,∀o,h.get? b=some o->h'.get? b=some o)->tn i h'
 item:∀(X:Cx),X.prog=P->X.w=w->X.K=K->X.calm=true->∀(i:Nat) (pins:List (Lz×Obj)) (s:La) (σ:St) (H:Hp) (E:Ly),Inv X pins σ H s->(∀b∈fp,zBk X pins H b)->tn i s.heap->J.go i H ->
  wpAny (model P w) X.A (pyNext (.ref it)) (λr s1=>∃u,r=some u /\
   wpAny (model P w) X.A (letOwnedTupleGo tg (.ref it) u) (λ_ s2=>∃x H',Inv X pins σ H' s2/\yb x u/\J.yld i H x H'/\tn (i+1) s2.heap/\∀b∈fp,H' b=none) E s1) E s
 done:∀(X:Cx),X.prog=P->X.w=w->X.K=K->X.calm=true->∀(i:Nat) (pins:List (Lz×Obj)) (s:La) (σ:St) (H:Hp) (E:Ly),Inv X pins σ H s->(∀b∈fp,zBk X pins H b)->tn i s.heap->J.stop i H ->
  wpAny (model P w) X.A (pyNext (.ref it)) (λr s1=>r=none/\Inv X pins σ H s1) E s
 self:∀(A:Lg) (i:Nat) (s:La) (Q:Ly) (E:Ly),tn i s.heap->Q (.ref it) s->wpAny (model P w) A (pyIter (.ref it)) Q E s
abbrev TI:=St->Hp->(It->Hp->Prop)->Prop
def PIE(X:Cx)(a:Ls (Lz×Obj))(σ:St)(tg:Lb)(R:It->Hp->Prop)(c:Lv)(g:La):Prop :=
 ∃(e:Lz) (i:Ls Lz) (h:Ll) (J:It) (H':Hp),c=.ref e/\Inv X a σ H' g/\Turn X.prog X.w X.K tg J i e h/\h 0 g.heap/\(∀b∈i,zBk X a H' b)/\R J H'
def PI(X:Cx)(tg c:Lb)(g:TI):Prop :=
 ∀(a:Ls (Lz×Obj)) (s:La) (σ:St) (H:Hp) (R:It->Hp->Prop),Inv X a σ H s->g σ H R ->
  wpAny (model X.prog X.w) X.A (eval c X.env) (λv e=>wpAny (model X.prog X.w) X.A (pyIter v) (PIE X a σ tg R) X.xe e) X.xe s
def WT{M:Model}{A:Lg}{E:Ly}{s:La}{tg:Lb}{it:Lz}{u:Lv}{o:Obj}{n:String}{vs:Lh}{Q:Unit->La->Prop}(e:s.heap.get? it=some o)(c:o.cls=.type n)(hd:o.data=.fields vs)
  (hn:["enumerate","zip","dict_itemiterator","dict_reverseitemiterator","odict_iterator","itertools.zip_longest","itertools.pairwise"].contains n=false) (a:Q () s):wpAny M A (letOwnedTupleGo tg (.ref it) u) Q E s:=by
 unfold letOwnedTupleGo
 cases tg<;>first
  |exact qC a
  | (cases u<;>first
    |exact qC a
    | (refine qB (wpAny_load e ?_)
       rw[c,hd];show wpAny M A (if(["enumerate","zip","dict_itemiterator","dict_reverseitemiterator","odict_iterator","itertools.zip_longest","itertools.pairwise"].contains n&&vs[0]?==some (rawInt _))=true then _ else _) Q E s;rw[if_neg (by intro h;rw[hn,Bool.false_and]at h;cases h)];exact qC a))
def Itl(K:qH)(a:Lz):It :=
 ⟨λi H=>∃c x,SqL K H a c/\c[i]?=some x,λi H x H'=>H'=H/\∀c,SqL K H a c->c[i]?=some x,λi H=>∃c,SqL K H a c/\c.length<=i⟩
def Itt(K:qH)(a:Lz):It :=
 ⟨λi H=>∃c x,SqT K H a c/\c[i]?=some x,λi H x H'=>H'=H/\∀c,SqT K H a c->c[i]?=some x,λi H=>∃c,SqT K H a c/\c.length<=i⟩
def Itr(lo:Int)(n:Nat):It:=⟨λi _=>i<n,λi H x H'=>H'=H/\x=.int (lo+i),λi _=>n<=i⟩
def zDf{P:Lc}{w:Le}{K:qH}{tg:Lb}(a it:Lz):Turn P w K tg (Itl K a) [it] it (λi h=>h.IsListIter it a i) where
 mem:=by simp
 obj:=λi h st b j=>by
  have e:b=it:=by exists j
  subst e;obtain⟨o,e,c,d⟩:=st;exact⟨o,e,λv z=>by rw[d]at z;cases z⟩
 keep:=λi h q st k=>st.at λo e=>k it (by simp) o e
 item:=by
  intro X y C t R i g s σ H E I hf st hg;subst y C t;obtain⟨W,x,n,G⟩:=hg;obtain⟨M,J,p,hz⟩:=I.list n;obtain⟨u,hu,ru⟩:=J.get G;obtain⟨D,Q,Z,O,r,L⟩:=hf it (by simp);refine wpAny_pyNext_list_item st p.isList (x:=u) (by exists hu) λq l S=>?_
  have I1:Inv X g σ H {s with heap:=q}:=I.turned (t':=s.toks) (λb o j e=>(S.2 b j).trans e) D Q O r L
  obtain⟨o,e,c,d⟩:=id l;exact⟨u,rfl,WT (s:={s with heap:=q}) e c d (by decide) ⟨x,H,I1,ru,⟨rfl,λys Y=>by rw[I.list_inj Y n];exact G⟩,l,λb j=>(hf b j).1⟩⟩
 done:=by
  intro X y C t R i g s σ H E I hf st hg;subst y C t;obtain⟨W,n,G⟩:=hg;obtain⟨M,J,p,hz⟩:=I.list n;obtain⟨D,Q,Z,O,r,L⟩:=hf it (by simp);have hl:=J.length;exact wpAny_pyNext_list_end (I.ok.hd R) st p.isList (by simp;omega) λq V=>⟨rfl,I.turned (t':=s.toks) (λb o j e=>V b o j e) D Q O r L⟩
 self:=λ_ _ _ _ _ st h=>wpAny_pyIter_listiter st h
def zCu{P:Lc}{w:Le}{K:qH}{tg:Lb}(a it:Lz):Turn P w K tg (Itt K a) [it] it (λi h=>h.IsTupleIter it a i) where
 mem:=by simp
 obj:=λi h st b j=>by
  have e:b=it:=by exists j
  subst e;obtain⟨o,e,c,d⟩:=st;exact⟨o,e,λv z=>by rw[d]at z;cases z⟩
 keep:=λi h r st k=>st.at λo e=>k it (by simp) o e
 item:=by
  intro X C D y R i g s σ H E I hf st hg;subst C D y;obtain⟨W,x,q,J⟩:=hg;obtain⟨l,L,p,hz⟩:=I.tuple q;obtain⟨u,hu,ru⟩:=L.get J;obtain⟨G,Q,Z,O,t,M⟩:=hf it (by simp);refine wpAny_pyNext_tuple_item st (show s.heap.IsTuple a l.toArray from p) (x:=u) (by exists hu) λr n S=>?_
  have I1:Inv X g σ H {s with heap:=r}:=I.turned (t':=s.toks) (λb o j e=>(S.2 b j).trans e) G Q O t M
  obtain⟨o,e,c,d⟩:=id n;exact⟨u,rfl,WT (s:={s with heap:=r}) e c d (by decide) ⟨x,H,I1,ru,⟨rfl,λys Y=>by rw[I.tuple_inj Y q];exact J⟩,n,λb j=>(hf b j).1⟩⟩
 done:=by
  intro X C D y R i g s σ H E I hf st hg;subst C D y;obtain⟨W,q,J⟩:=hg;obtain⟨l,L,p,hz⟩:=I.tuple q;obtain⟨G,Q,Z,O,t,M⟩:=hf it (by simp);have hl:=L.length;exact wpAny_pyNext_tuple_end (I.ok.hd R) st (show s.heap.IsTuple a l.toArray from p) (by simp;omega) λr V=>⟨rfl,I.turned (t':=s.toks) (λb o j e=>V b o j e) G Q O t M⟩
 self:=λ_ _ _ _ _ st h=>wpAny_pyIter_tupleiter st h
def zCv{P:Lc}{w:Le}{K:qH}{tg:Lb}(it:Lz)(lo:Int)(n:Nat):Turn P w K tg (Itr lo n) [it] it (λi h=>IsRangeIter h it (lo+(i:Nat)*1) ((n:Int)-(i:Nat)) 1) where
 mem:=by simp
 obj:=λi h st b c=>by
  have e:b=it:=by exists c
  subst e;exact⟨_,st,λv z=>by
   have L:Data.fields _=Data.cell v:=z;cases L⟩
 keep:=λi h j st k=>k it (by simp) _ st
 item:=by
  intro X D p y r i a s σ H E I hf st hg;subst D p y;obtain⟨q,u,G,C,x,l⟩:=hf it (by simp);have W:=Walks.range (prog:=X.prog) (w:=X.w) (I.ok.hd r) it lo 1 n;refine W.item i s _ _ hg st λv j tk hv g J=>?_
  obtain⟨t,rfl⟩:=hv;have I1:Inv X a σ H {s with heap:=j,toks:=tk}:=I.turned (λb o c e=>J b o (by exists c) e) q u C x l
  refine⟨_,rfl,WT (s:={s with heap:=j,toks:=tk}) (n:="range_iterator") g rfl rfl (by decide) ⟨.int (lo+i),H,I1,⟨t,?_⟩,⟨rfl,rfl⟩,g,λb c=>(hf b c).1⟩⟩
  rw[Int.mul_one]
 done:=by
  intro X D p y r i a s σ H E I hf st hg;subst D p y;obtain⟨q,u,G,C,x,l⟩:=hf it (by simp);exact wpAny_pyNext_range_end (I.ok.hd r) st (by have:n<=i:=hg;omega) λj M=>⟨rfl,I.turned (t':=s.toks) (λb o c e=>M b o c e) q u C x l⟩
 self:=λ_ _ _ _ _ st h=>wpAny_pyIter_rangeiter st h
section
variable{X:Cx}{tg:Lb}
def iList(K:qH)(c:TE):TI:=λσ H R=>c σ H λx H1=>∃a,x=.ref a/\(∃e,SqL K H1 a e)/\R (Itl K a) H1
def iTup(K:qH)(c:TE):TI:=λσ H R=>c σ H λx H1=>∃a,x=.ref a/\(∃e,SqT K H1 a e)/\R (Itt K a) H1
def zDg{l:Lb}{i:TE}(j:PE X l i):PI X tg l (iList X.K i):=by
 intro c s σ H R I h;refine thn (j c s σ H _ I h) λv g ⟨x,H1,I1,r,t⟩=>?_
 obtain⟨a,e,⟨w,k⟩,q⟩:=t;subst e;cases r;obtain⟨n,y,p,hz⟩:=I1.list k;refine wpAny_pyIter_list p.isList ?_;refine⟨g.heap.objs.size,[g.heap.objs.size],_,_,H1,rfl,I1.kept (t':=g.toks) λb o e=>qA _ e,zDf a _,⟨_,get?_push_size _ rfl,rfl,rfl⟩,λb u=>?_,q⟩;have e:b=g.heap.objs.size:=by exists u
 subst e;exact I1.fpOk (le_refl _) (I1.hok.fresh (le_refl _))
def zIL{l:Lb}{j:TE}(k:PE X l j):PI X tg l (iTup X.K j):=by
 intro g s σ H R I h;refine thn (k g s σ H _ I h) λv c ⟨x,H1,I1,r,t⟩=>?_
 obtain⟨a,e,⟨w,n⟩,q⟩:=t;subst e;cases r;obtain⟨i,y,p,hz⟩:=I1.tuple n;refine wpAny_pyIter_tuple (show c.heap.IsTuple a i.toArray from p) ?_;refine⟨c.heap.objs.size,[c.heap.objs.size],_,_,H1,rfl,I1.kept (t':=c.toks) λb o e=>qA _ e,zCu a _,⟨_,get?_push_size _ rfl,rfl,rfl⟩,λb u=>?_,q⟩;have e:b=c.heap.objs.size:=by exists u
 subst e;exact I1.fpOk (le_refl _) (I1.hok.fresh (le_refl _))
def zGL{a:Ls (Lz×Obj)}{σ:St}{H:Hp}{s:La}{R:It->Hp->Prop}{E:Ly}{lo hi:Int}{t u v:Tok}{c:Nat}(I:Inv X a σ H s)(h:-(2^62)<=lo)(l:lo<2^62)(j:-(2^62)<=hi)(i:hi<2^62)
  (q:R (Itr lo (hi-lo).toNat) H):wpAny (model X.prog X.w) X.A (pyIter (.ref s.heap.objs.size)) (PIE X a σ tg R) E {s with heap:=s.heap.push {cls:=.type "range",data:=.fields #[.int lo t,.int hi u,.int 1 v]},toks:=c}:=by
 refine wpAny_pyIter_range (IsRange.new ..) (small_one h l j i) ?_;have I1:Inv X a σ H {s with heap:=s.heap.push {cls:=.type "range",data:=.fields #[.int lo t,.int hi u,.int 1 v]},toks:=c}:=I.kept λb o e=>qA _ e
 refine⟨(s.heap.push {cls:=.type "range",data:=.fields #[.int lo t,.int hi u,.int 1 v]}).objs.size,[(s.heap.push {cls:=.type "range",data:=.fields #[.int lo t,.int hi u,.int 1 v]}).objs.size],_,_,H,rfl,
  I1.kept (t':=c) λb o e=>qA _ e,zCv _ lo (hi-lo).toNat,?_,λb n=>?_,q⟩
 ·have g:lo+((0:Nat):Int)*1=lo:=by simp
  have k:(((hi-lo).toNat:Nat):Int)-((0:Nat):Int)=Builtin.Range.rangeSize lo hi 1:=by rw[rangeSize_one];split<;>omega
  show IsRangeIter _ _ (lo+((0:Nat):Int)*1) ((((hi-lo).toNat:Nat):Int)-((0:Nat):Int)) 1
  rw[g,k];exact get?_push_size _ rfl
 ·have e:b=(s.heap.push {cls:=.type "range",data:=.fields #[.int lo t,.int hi u,.int 1 v]}).objs.size:=by exists n
  subst e;exact I1.fpOk (le_refl _) (I1.hok.fresh (le_refl _))
def iRng1(a:TA):TI:=λσ H R=>a σ H λc H1=>∃j:Int,c=[.int j]/\-(2^62)<=j/\j<2^62/\R (Itr 0 j.toNat) H1
def QS{a:Lb}{k:TA}{p g:Pos}(u:Gl X "range")(o:X.mg "range"=none)(x:PA X [a] k)(n:starEach [a] X.env=[(false,eval a X.env)]:=by rfl):PI X tg (.Call (.Name "range" p) [a] [] g) (iRng1 k):=by
 intro c s σ H R I h;refine Call_ (Z3 I u o boot_range (PyProof.Rows.callWith_type1 (thn (x g c s σ H _ I h) λC z ⟨y,H1,I1,v,i⟩=>?_) n rfl));obtain⟨j,e,i,w,q⟩:=i;subst e;cases v with
 |cons r l =>
  cases l;obtain⟨t,rfl⟩:=r;exact call_range_1 (zGL I1 (by omega) (by omega) i w (by exists q))
def tFor(c:TI)(g:TG)(e:TS):TS:=λD σ H=>c σ H λJ H1=>∃W:Nat->Nat->St->Hp->Prop,(∃m,W 0 m σ H1)/\∀i m σ H,W i m σ H ->
 (J.stop i H/\D.nx σ H)\/(J.go i H/\∃N:St->Hp->Prop,(∀σ' H',N σ' H'->∃a,a<m/\W (i+1) a σ' H')/\∀x H',J.yld i H x H'->g x σ H' λσ2 H2=>e {D with nx:=N,ct:=N,bk:=D.nx} σ2 H2)
def QT(a:Ls Lz)(h:Heap):Ls (Lz×Obj):=a.filterMap λb=>(h.get? b).map λo=>(b,o)
def Jv{a:Ls Lz}{h:Heap}{b:Lz}{o:Obj}(c:b∈a)(e:h.get? b=some o):(b,o)∈QT a h:=mem_filterMap.mpr ⟨b,c,by rw[e];rfl⟩
def zDh{a:Ls Lz}{h:Heap}{p:Lz×Obj}(i:p∈QT a h):p.1∈a/\h.get? p.1=some p.2:=by
 obtain⟨b,g,e⟩:=mem_filterMap.mp i;exists q,h.get? b,e,o;have c:(b,o)=p:=qJ e;subst c;exact⟨g,q⟩
def Inv.pinned{a:Ls (Lz×Obj)}{σ:St}{H:Hp}{s:La}{c:Ls Lz}(I:Inv X a σ H s)(n:∀b∈c,zBk X a H b)(k:∀b∈c,∃o,s.heap.get? b=some o/\∀v,o.data≠.cell v):Inv X (a++QT c s.heap) σ H s :=
 I.pins_of λp l=>(mem_append.mp l).elim (λz=>I.pin p (qK _ z)) λz=>by
  obtain⟨h,e⟩:=zDh z;obtain⟨j,q,i,_⟩:=n p.1 h;obtain⟨o,g,d⟩:=k p.1 h;rw[e]at g;cases g;exact⟨e,j,q,i,d⟩
def Inv.unpinned{a e:Ls (Lz×Obj)}{σ:St}{H:Hp}{s:La}(I:Inv X (a++e) σ H s):Inv X a σ H s:=I.pins_of λp c=>I.pin p (qK _ (mem_append_left _ c))
def zBl{c:Lb}{body:Ls Lf}{S:TI}{g:TG}{R:TS}{K:Pos}(E:PassesOwn (model X.prog X.w) X.A X.env X.xe)(Y:X.calm=true)(hi:PI X tg c S)(hg:PG X tg g)(k:PSs X body R)
  (hs:∀x,foldedSetIterable c X.env x=pure x:=by intro _;rfl):PS X (.For tg c body [] K) (tFor S g R):=by
 intro a s σ H D I h;refine wpAny_For (thn (hi a s σ H _ I h) λv s1 h1=>thn h1 λaa s2 h2=>?_) hs;obtain⟨it,w,Z,J,H2,e,I2,T,Q,f2,W,⟨m0,w0⟩,z⟩:=h2;subst e
 -- what stays true of the iterator's objects through the loop
 have j:∀{H':Hp},(∀b∈w,H' b=none)->∀b∈w,zBk X a H' b:=λhn b k=>⟨hn b k,(f2 b k).2⟩
 refine codeAny_forLoop_any (λn s'=>∃i σ' H',Inv X a σ' H' s'/\Z i s'.heap/\(∀b∈w,H' b=none)/\W i n σ' H') ?_ m0 ⟨0,σ,H2,I2,Q,λb k=>(f2 b k).1,w0⟩
 rintro n V ⟨i,σ3,H3,I3,t,G,w3⟩
 rcases z i n σ3 H3 w3 with⟨C,qn⟩|⟨go,N,hN,step⟩
 ·refine wpAny_passesOwn E (thn (T.done X rfl rfl rfl Y i a V σ3 H3 X.xe I3 (j G) t C) λr s4 ⟨M,I4⟩=>?_)
  subst M;exact wpAny_execs_nil ⟨σ3,H3,I4,qn⟩
 ·refine wpAny_passesOwn E (thn (T.item X rfl rfl rfl Y i a V σ3 H3 X.xe I3 (j G) t go) λr s4 ⟨u,M,h4⟩=>?_)
  subst M;refine wpAny_passesOwn E (thn h4 λ_ s5 ⟨x,H5,I5,r5,y5,q,O⟩=>?_);have I5':=I5.pinned (j O) (T.obj _ _ q);refine wpAny_passesOwn E (thn (hg _ s5 σ3 H5 x u _ I5' r5 (step x H5 y5)) λ_ s6 ⟨σ6,H6,I6,q6⟩=>?_);refine wpAny_passesOwn E (thn (k _ s6 σ6 H6 _ I6 q6) λf L p=>?_);have l:∀{σ7:St} {H7:Hp},Inv X (a++QT w s5.heap) σ7 H7 L->N σ7 H7->∃m,m<n/\∃i σ' H',Inv X a σ' H' L/\Z i L.heap/\(∀b∈w,H' b=none)/\W i m σ' H':=λ{σ7 H7} I7 y=>by
   obtain⟨m',hm,w7⟩:=hN σ7 H7 y;refine⟨m',hm,i+1,σ7,H7,I7.unpinned,T.keep _ _ _ q λb k o e=>(I7.pin (b,o) (qK _ (qK _ (Jv k e)))).1,λb k=>?_,w7⟩;obtain⟨o,e,d⟩:=T.obj _ _ q b k;exact(I7.pin (b,o) (qK _ (qK _ (Jv k e)))).2.1
  cases f with
  |next=>obtain⟨σ7,H7,I7,y⟩:=p;exact l I7 y|cont=>obtain⟨σ7,H7,I7,y⟩:=p;exact l I7 y|brk=>obtain⟨σ7,H7,I7,p⟩:=p;exact⟨σ7,H7,I7.unpinned,p⟩|ret v=>obtain⟨x7,σ7,H7,I7,r7,p⟩:=p;exact⟨x7,σ7,H7,I7.unpinned,r7,p⟩
end
def zGM{K:qH}{a:Lz}{xs:Ls V}{g:TG}{j:TS}{D:Ends}{σ:St}{H:Hp}(c:Nat->St->Hp->Prop)(r:c 0 σ H)(l:∀i σ H,i<=xs.length->c i σ H->SqL K H a xs)
  (n:∀i x σ H,xs[i]?=some x->c i σ H->g x σ H λσ2 H2=>j {D with nx:=c (i+1),ct:=c (i+1),bk:=D.nx} σ2 H2) (hd:∀σ H,c xs.length σ H->D.nx σ H) :
  ∃W:Nat->Nat->St->Hp->Prop,(∃m,W 0 m σ H)/\∀i m σ H,W i m σ H ->
   ((Itl K a).stop i H/\D.nx σ H)\/((Itl K a).go i H/\∃N:St->Hp->Prop,(∀σ' H',N σ' H'->∃k,k<m/\W (i+1) k σ' H')/\∀x H',(Itl K a).yld i H x H'->g x σ H' λσ2 H2=>j {D with nx:=N,ct:=N,bk:=D.nx} σ2 H2):=by
 refine⟨λi m σ H=>m=xs.length-i/\i<=xs.length/\c i σ H,⟨xs.length,by simp,zero_le _,r⟩,?_⟩
 rintro i m σ H ⟨rfl,t,p⟩
 have q:=l i σ H t p;by_cases h:i<xs.length
 ·refine .inr ⟨⟨xs,xs[i],q,by simp[h]⟩,c (i+1),λσ' H' o=>⟨xs.length-(i+1),by omega,rfl,h,o⟩,λx H' y=>?_⟩
  obtain⟨e,y⟩:=y;subst e;exact n i x σ _ (y xs q) p
 ·have e:i=xs.length:=by omega
  subst e;exact .inl ⟨⟨xs,q,le_refl _⟩,hd σ H p⟩
def for_tup{K:qH}{a:Lz}{xs:Ls V}{g:TG}{j:TS}{D:Ends}{σ:St}{H:Hp}(c:Nat->St->Hp->Prop)(r:c 0 σ H)(l:∀i σ H,i<=xs.length->c i σ H->SqT K H a xs)
  (n:∀i x σ H,xs[i]?=some x->c i σ H->g x σ H λσ2 H2=>j {D with nx:=c (i+1),ct:=c (i+1),bk:=D.nx} σ2 H2) (hd:∀σ H,c xs.length σ H->D.nx σ H) :
  ∃W:Nat->Nat->St->Hp->Prop,(∃m,W 0 m σ H)/\∀i m σ H,W i m σ H ->
   ((Itt K a).stop i H/\D.nx σ H)\/((Itt K a).go i H/\∃N:St->Hp->Prop,(∀σ' H',N σ' H'->∃k,k<m/\W (i+1) k σ' H')/\∀x H',(Itt K a).yld i H x H'->g x σ H' λσ2 H2=>j {D with nx:=N,ct:=N,bk:=D.nx} σ2 H2):=by
 refine⟨λi m σ H=>m=xs.length-i/\i<=xs.length/\c i σ H,⟨xs.length,by simp,zero_le _,r⟩,?_⟩
 rintro i m σ H ⟨rfl,t,p⟩
 have q:=l i σ H t p;by_cases h:i<xs.length
 ·refine .inr ⟨⟨xs,xs[i],q,by simp[h]⟩,c (i+1),λσ' H' o=>⟨xs.length-(i+1),by omega,rfl,h,o⟩,λx H' y=>?_⟩
  obtain⟨e,y⟩:=y;subst e;exact n i x σ _ (y xs q) p
 ·have e:i=xs.length:=by omega
  subst e;exact .inl ⟨⟨xs,q,le_refl _⟩,hd σ H p⟩
def zDi{lo:Int}{n:Nat}{g:TG}{h:TS}{D:Ends}{σ:St}{H:Hp}(c:Nat->St->Hp->Prop)(o:c 0 σ H)
  (k:∀i σ H,i<n->c i σ H->g (.int (lo+i)) σ H λσ2 H2=>h {D with nx:=c (i+1),ct:=c (i+1),bk:=D.nx} σ2 H2) (hd:∀σ H,c n σ H->D.nx σ H) :
  ∃W:Nat->Nat->St->Hp->Prop,(∃m,W 0 m σ H)/\∀i m σ H,W i m σ H ->
   ((Itr lo n).stop i H/\D.nx σ H)\/((Itr lo n).go i H/\∃N:St->Hp->Prop,(∀σ' H',N σ' H'->∃j,j<m/\W (i+1) j σ' H')/\∀x H',(Itr lo n).yld i H x H'->g x σ H' λσ2 H2=>h {D with nx:=N,ct:=N,bk:=D.nx} σ2 H2):=by
 refine⟨λi m σ H=>m=n-i/\i<=n/\c i σ H,⟨n,by simp,zero_le _,o⟩,?_⟩
 rintro i m σ H ⟨rfl,q,p⟩
 by_cases a:i<n
 ·refine .inr ⟨a,c (i+1),λσ' H' l=>⟨n-(i+1),by omega,rfl,a,l⟩,λx H' y=>?_⟩
  obtain⟨e,y⟩:=y;subst e y;exact k i σ _ a p
 ·have e:i=n:=by omega
  subst e;exact .inl ⟨le_refl _,hd σ H p⟩
abbrev R2:=V->V->Hp->VK->Prop
def OpR(X:Cx)(f:Lv->Lv->Sem Lv)(r:R2):Prop :=
 ∀(a:Ls (Lz×Obj)) (s:La) (σ:St) (H:Hp) (x y:V) (v u:Lv) (Q:VK),Inv X a σ H s->yb x v->yb y u->r x y H Q ->
  wpAny (model X.prog X.w) X.A (f v u) (EP X a σ Q) X.xe s
def UnR(X:Cx)(f:Lv->Sem Lv)(r:V->Hp->VK->Prop):Prop :=
 ∀(a:Ls (Lz×Obj)) (s:La) (σ:St) (H:Hp) (x:V) (v:Lv) (Q:VK),Inv X a σ H s->yb x v->r x H Q ->
  wpAny (model X.prog X.w) X.A (f v) (EP X a σ Q) X.xe s
def j6(X:Cx)(f:Lv)(r:Ls V->Hp->VK->Prop):Prop :=
 ∀(a:Ls (Lz×Obj)) (s:La) (σ:St) (H:Hp) (e:Ls V) (c:Ls Lv) (Q:VK),Inv X a σ H s->yA e c->r e H Q ->
  wpAny (model X.prog X.w) X.A (call f c) (EP X a σ Q) X.xe s
def tOp(r:R2)(a c:TE):TE:=λσ H Q=>a σ H λx H1=>c σ H1 λy H2=>r x y H2 Q
def tUn(r:V->Hp->VK->Prop)(a:TE):TE:=λσ H Q=>a σ H λx H1=>r x H1 Q
def rI(C:Int->Int->Prop)(g:Int->Int->V):R2:=λx y H Q=>∃i j,x=.int i/\y=.int j/\C i j/\Q (g i j) H
def rI0(g:Int->Int->V):R2:=λx y H Q=>∃i j,x=.int i/\y=.int j/\Q (g i j) H
def rU(g:Int->V):V->Hp->VK->Prop:=λx H Q=>∃i,x=.int i/\Q (g i) H
section
variable{X:Cx}{a b c:Lb}{ta tb tc:TE}{pos:Pos}
def binT(q:PE X a ta)(r:PE X b tb){c:Ls (Lz×Obj)}{s:La}{σ:St}{H:Hp}{R:V->V->Hp->Prop}(I:Inv X c σ H s)
  (h:ta σ H λx H1=>tb σ H1 λy H2=>R x y H2) {Q:Ly} {f:Lv->Lv->Sem Lv}
  (p:∀v u i x y H2,Inv X c σ H2 i->yb x v->yb y u->R x y H2->wpAny (model X.prog X.w) X.A (f v u) Q X.xe i) :
  wpAny (model X.prog X.w) X.A (eval a X.env) (λv e=>wpAny (model X.prog X.w) X.A (eval b X.env) (λu g=>wpAny (model X.prog X.w) X.A (f v u) Q X.xe g) X.xe e) X.xe s:=by
 refine thn (q c s σ H _ I h) λv j ⟨x,H1,I1,l,n⟩=>?_
 refine thn (r c j σ H1 _ I1 n) λu i ⟨y,H2,I2,o,k⟩=>?_
 exact p v u i x y H2 I2 l o k
def pe_op{e:Operator}{r:R2}(i:OpR X (binaryOp e) r)(l:PE X a ta)(n:PE X b tb):PE X (.BinOp a e b pos) (tOp r ta tb):=by
 intro c s σ H Q I h;exact wpAny_BinOp (binT l n I h λv u k x y H2 I2 j g q=>i c k σ H2 x y v u Q I2 j g q)
def pe_un{e:UnaryOp}{r:V->Hp->VK->Prop}(i:UnR X (unaryOp e) r)(l:PE X a ta):PE X (.UnaryOp e a pos) (tUn r ta):=by
 intro c s σ H Q I h;exact UnaryOp_ (thn (l c s σ H _ I h) λv g ⟨x,H1,I1,j,k⟩=>i c g σ H1 x v Q I1 j k)
def opI{f:Lv->Lv->Sem Lv}{C:Int->Int->Prop}{g:Int->Int->Int}
  (a:∀(i j:Int) (t u:Tok) (s:La) (Q:Ly) (E:Ly),C i j->Q (.int (g i j) s.toks) {s with toks:=s.toks+1}->wpAny (model X.prog X.w) X.A (f (.int i t) (.int j u)) Q E s) :
  OpR X f (rI C λi j=>.int (g i j)):=by
 intro c s σ H x y v u Q I rx ry h;obtain⟨i,j,rfl,rfl,e,q⟩:=h;obtain⟨t,rfl⟩:=rx;obtain⟨k,rfl⟩:=ry;exact a i j t k s _ _ e ⟨.int (g i j),H,I.tok _,⟨_,rfl⟩,q⟩
def opI0{f:Lv->Lv->Sem Lv}{g:Int->Int->Int}
  (a:∀(i j:Int) (t u:Tok) (s:La) (Q:Ly) (E:Ly),Q (.int (g i j) s.toks) {s with toks:=s.toks+1}->wpAny (model X.prog X.w) X.A (f (.int i t) (.int j u)) Q E s) :
  OpR X f (rI0 λi j=>.int (g i j)):=by
 intro c s σ H x y v u Q I rx ry h;obtain⟨i,j,rfl,rfl,q⟩:=h;obtain⟨t,rfl⟩:=rx;obtain⟨e,rfl⟩:=ry;exact a i j t e s _ _ ⟨.int (g i j),H,I.tok _,⟨_,rfl⟩,q⟩
def opB0{f:Lv->Lv->Sem Lv}{g:Lj}
  (a:∀(i j:Int) (t u:Tok) (s:La) (Q:Ly) (E:Ly),Q (.bool (g i j)) s->wpAny (model X.prog X.w) X.A (f (.int i t) (.int j u)) Q E s) :
  OpR X f (rI0 λi j=>.bl (g i j)):=by
 intro c s σ H x y v u Q I rx ry h;obtain⟨i,j,rfl,rfl,q⟩:=h;obtain⟨t,rfl⟩:=rx;obtain⟨e,rfl⟩:=ry;exact a i j t e s _ _ ⟨.bl (g i j),H,I,rfl,q⟩
def CPow(i j:Int):Prop:=0<=j/\j<=1000000/\i.natAbs<2^64
def CMul(i j:Int):Prop:=(-(2^64)<i/\i<2^64)\/(-(2^64)<j/\j<2^64)
def CMul.ok{i j:Int}(h:CMul i j):IntMulOk i j:=by
 rcases h with⟨a,h2⟩|⟨a,h2⟩
 ·exact .of_left (intBits_le_64 a h2)
 ·exact .of_right (intBits_le_64 a h2)
def op_add:OpR X (binaryOp .Add) (rI0 λi j=>.int (i+j)):=opI0 λ_ _ _ _ _ _ _ q=>add_int q
def op_sub:OpR X (binaryOp .Sub) (rI0 λi j=>.int (i-j)):=opI0 λ_ _ _ _ _ _ _ q=>sub_int q
def op_mod:OpR X (binaryOp .Mod) (rI (λ_ j=>0<j) λi j=>.int (i%j)):=opI λi j _ _ _ _ _ a q=>by
 have c:(0:Int)<j:=a;exact mod_int' (by omega) (by rw[Int.fmod_eq_emod_of_nonneg i (by omega)];exact q)
def op_pow:OpR X (binaryOp .Pow) (rI CPow λi j=>.int (i^j.toNat)):=opI λ_ _ _ _ _ _ _ a q=>pow_int_small a.1 a.2.1 a.2.2 q
def unI{f:Lv->Sem Lv}{g:Int->Int}
  (a:∀(i:Int) (t:Tok) (s:La) (Q:Ly) (E:Ly),Q (.int (g i) s.toks) {s with toks:=s.toks+1}->wpAny (model X.prog X.w) X.A (f (.int i t)) Q E s) :
  UnR X f (rU λi=>.int (g i)):=by
 intro c s σ H x v Q I rx h;obtain⟨i,rfl,q⟩:=h;obtain⟨t,rfl⟩:=rx;exact a i t s _ _ ⟨.int (g i),H,I.tok _,⟨_,rfl⟩,q⟩
def un_neg:UnR X (unaryOp .USub) (rU λi=>.int (-i)):=unI λ_ _ _ _ _ q=>neg_int q
end
def scal:V->V->Bool
 | .non,.non=>true | .non,.int _=>true | .int _,.non=>true | .non,.bl _=>true | .bl _,.non=>true | .non,.str _=>true | .str _,.non=>true
 | .int _,.int _=>true | .bl _,.bl _=>true | .str _,.str _=>true | .byt _,.byt _=>true
 | .int _,.str _=>true | .str _,.int _=>true | .bl _,.str _=>true | .str _,.bl _=>true
 |_,_=>false
def rEq:R2:=λx y H Q=>scal x y=true/\Q (.bl (decide (x=y))) H
def rNe:R2:=λx y H Q=>scal x y=true/\Q (.bl (!decide (x=y))) H
def zDj{i j:Int}:decide (V.int i=V.int j)=(i==j):=by
 rw[Bool.eq_iff_iff];simp
def zIM{i j:Bool}:decide (V.bl i=V.bl j)=(i==j):=by
 rw[Bool.eq_iff_iff];simp
def zDk{i j:Str}:decide (V.str i=V.str j)=(i==j):=by
 rw[Bool.eq_iff_iff];simp
def zDl{i j:Array UInt8}:decide (V.byt i=V.byt j)=(i.toList==j.toList):=by
 rw[Bool.eq_iff_iff];cases i;cases j;simp
section
variable{X:Cx}{a b c:Lb}{ta tb tc:TE}{pos:Pos}
def yG{a:Ls (Lz×Obj)}{σ:St}{H:Hp}{s:La}{Q:VK}{k c:Bool}(I:Inv X a σ H s)(q:Q (.bl k) H)(e:k=c):EP X a σ Q (.bool c) s:=by
 subst e;exact⟨.bl k,H,I,rfl,q⟩
def op_eq:OpR X (compareOp .Eq) rEq:=by
 intro e s σ H x y v u Q I rx ry h;obtain⟨c,q⟩:=h;cases x with
 |non =>
  cases rx;cases y with
  |non=>cases ry;exact PySem.EqNone.eq_none_none (yG I q (by simp))|bl j=>cases ry;exact PySem.EqNone.eq_none_bool (yG I q (by simp))|int j=>obtain⟨a,rfl⟩:=ry;exact PySem.EqNone.eq_none_int (yG I q (by simp))|str j=>obtain⟨a,rfl⟩:=ry;exact PySem.EqNone.eq_none_str (yG I q (by simp))|_=>exact absurd (show false=true from c) qF
 |bl i =>
  cases rx;cases y with
  |non=>cases ry;exact PySem.EqNone.eq_bool_none (yG I q (by simp))|bl j=>cases ry;exact eq_bool (yG I q zIM)|str j=>obtain⟨a,rfl⟩:=ry;exact PySem.EqMixed.eq_bool_str (yG I q (by simp))|_=>exact absurd (show false=true from c) qF
 |int i =>
  obtain⟨t,rfl⟩:=rx;cases y with
  |non=>cases ry;exact PySem.EqNone.eq_int_none (yG I q (by simp))|int j=>obtain⟨a,rfl⟩:=ry;exact eq_int (yG I q zDj)|str j=>obtain⟨a,rfl⟩:=ry;exact PySem.EqMixed.eq_int_str (yG I q (by simp))|_=>exact absurd (show false=true from c) qF
 |str i =>
  obtain⟨t,rfl⟩:=rx;cases y with
  |non=>cases ry;exact PySem.EqNone.eq_str_none (yG I q (by simp))|bl j=>cases ry;exact PySem.EqMixed.eq_str_bool (yG I q (by simp))|int j=>obtain⟨a,rfl⟩:=ry;exact PySem.EqMixed.eq_str_int (yG I q (by simp))|str j=>obtain⟨a,rfl⟩:=ry;exact eq_str (yG I q zDk)|_=>exact absurd (show false=true from c) qF
 |byt i =>
  obtain⟨t,rfl⟩:=rx;cases y with
  |byt j=>obtain⟨a,rfl⟩:=ry;exact PySem.W.eq_bytes (yG I q zDl)|_=>exact absurd (show false=true from c) qF
 |_=>cases y<;>exact absurd (show false=true from c) qF
def op_ne:OpR X (compareOp .NotEq) rNe:=by
 intro e s σ H x y v u Q I rx ry h;obtain⟨c,q⟩:=h;cases x with
 |non =>
  cases rx;cases y with
  |non=>cases ry;exact PySem.EqNone.ne_none_none (yG I q (by simp))|bl j=>cases ry;exact PySem.EqNone.ne_none_bool (yG I q (by simp))|int j=>obtain⟨a,rfl⟩:=ry;exact PySem.EqNone.ne_none_int (yG I q (by simp))|str j=>obtain⟨a,rfl⟩:=ry;exact PySem.EqNone.ne_none_str (yG I q (by simp))|_=>exact absurd (show false=true from c) qF
 |bl i =>
  cases rx;cases y with
  |non=>cases ry;exact PySem.EqNone.ne_bool_none (yG I q (by simp))|bl j=>cases ry;exact ne_bool (yG I q (congrArg not zIM))|str j=>obtain⟨a,rfl⟩:=ry;exact PySem.EqMixed.ne_bool_str (yG I q (by simp))|_=>exact absurd (show false=true from c) qF
 |int i =>
  obtain⟨t,rfl⟩:=rx;cases y with
  |non=>cases ry;exact PySem.EqNone.ne_int_none (yG I q (by simp))|int j=>obtain⟨a,rfl⟩:=ry;exact ne_int (yG I q (congrArg not zDj))|str j=>obtain⟨a,rfl⟩:=ry;exact PySem.EqMixed.ne_int_str (yG I q (by simp))|_=>exact absurd (show false=true from c) qF
 |str i =>
  obtain⟨t,rfl⟩:=rx;cases y with
  |non=>cases ry;exact PySem.EqNone.ne_str_none (yG I q (by simp))|bl j=>cases ry;exact PySem.EqMixed.ne_str_bool (yG I q (by simp))|int j=>obtain⟨a,rfl⟩:=ry;exact PySem.EqMixed.ne_str_int (yG I q (by simp))|str j=>obtain⟨a,rfl⟩:=ry;exact ne_str (yG I q (congrArg not zDk))|_=>exact absurd (show false=true from c) qF
 |byt i =>
  obtain⟨t,rfl⟩:=rx;cases y with
  |byt j=>obtain⟨a,rfl⟩:=ry;exact PySem.W.ne_bytes (yG I q (congrArg not zDl))|_=>exact absurd (show false=true from c) qF
 |_=>cases y<;>exact absurd (show false=true from c) qF
def op_lt:OpR X (compareOp .Lt) (rI0 λi j=>.bl (decide (i<j))):=opB0 λ_ _ _ _ _ _ _ q=>lt_int q
def op_le:OpR X (compareOp .LtE) (rI0 λi j=>.bl (decide (i<=j))):=opB0 λ_ _ _ _ _ _ _ q=>le_int q
def op_gt:OpR X (compareOp .Gt) (rI0 λi j=>.bl (decide (j<i))):=opB0 λ_ _ _ _ _ _ _ q=>gt_int q
def op_ge:OpR X (compareOp .GtE) (rI0 λi j=>.bl (decide (j<=i))):=opB0 λ_ _ _ _ _ _ _ q=>ge_int q
def OpR.or{f:Lv->Lv->Sem Lv}{r c:R2}(h:OpR X f r)(h':OpR X f c):OpR X f (λx y H Q=>r x y H Q\/c x y H Q):=by
 intro a s σ H x y v u Q I rx ry q;rcases q with q|q
 ·exact h a s σ H x y v u Q I rx ry q
 ·exact h' a s σ H x y v u Q I rx ry q
def zDm{e:CmpOp}{r:R2}(i:OpR X (compareOp e) r)(n:PE X a ta)(o:PE X b tb)(j:behindInMarks e b=false):PE X (.Compare a [e] [b] pos) (tOp r ta tb):=by
 intro c s σ H Q I h;exact wpAny_Compare1 (binT n o I h λv u l x y H2 I2 k g q=>i c l σ H2 x y v u Q I2 k g q) j
def tTest(t:TE):TT:=λσ H Q=>t σ H λx H'=>∃k,x=.bl k/\Q k H'
def zDn{i:CmpOp}{r:R2}(o:OpR X (compareOp i) r)(E:PE X a ta)(G:PE X b tb)(p:behindInMarks i b=false):PT X (.Compare a [i] [b] pos) (tTest (tOp r ta tb)):=by
 intro g s σ H Q I h;refine wpAny_isTrue_Compare1 (thn (E g s σ H _ I h) λv j ⟨x,H1,I1,t,w⟩=>thn (G g j σ H1 _ I1 w) λu q ⟨y,H2,I2,C,n⟩ =>
  thn (o g q σ H2 x y v u _ I2 t C n) λc J ⟨z,H3,I3,l,k,e,D⟩=>?_) p
 subst e;cases l;exact wpAny_truthy_bool ⟨H3,I3,D⟩
def zDo(r c:R2)(e h a:TE):TE:=λσ H Q=>e σ H λx H1=>h σ H1 λy H2=>r x y H2 λz H3=>∃k,z=.bl k /\
 (if k=true then a σ H3 λg H4=>c y g H4 Q else Q (.bl false) H3)
def zGN{j i:CmpOp}{r n:R2}(D:OpR X (compareOp j) r)(l:OpR X (compareOp i) n)(G:PE X a ta)(w:PE X b tb)(M:PE X c tc)
  (R:lastMarks [j,i] [b,c]=false:=by with_unfolding_all rfl):PE X (.Compare a [j,i] [b,c] pos) (zDo r n ta tb tc):=by
 intro g s σ H Q I h;refine Compare_chain (thn (G g s σ H _ I h) λv J ⟨x,H1,I1,t,W⟩=>chain_link (thn (w g J σ H1 _ I1 W) λu V ⟨y,H2,I2,o,S⟩ =>
  thn (D g V σ H2 x y v u _ I2 t o S) λd E ⟨z,H3,I3,K,k,e,p⟩=>?_)) R
 subst e;cases K;refine wpAny_truthy_bool ?_;cases k with
 |false=>exact ite_ff ⟨.bl false,H3,I3,rfl,p⟩|true=>exact ite_tt (chain_last (thn (M g E σ H3 _ I3 p) λO C ⟨L,H4,I4,Y,q⟩=>l g C σ H4 y L u O Q I4 o Y q))
def zGO{j i:CmpOp}{r n:R2}(D:OpR X (compareOp j) r)(l:OpR X (compareOp i) n)(J:PE X a ta)(w:PE X b tb)(V:PE X c tc)
  (Y:lastMarks [j,i] [b,c]=false:=by with_unfolding_all rfl):PT X (.Compare a [j,i] [b,c] pos) (tTest (zDo r n ta tb tc)):=by
 intro g s σ H Q I h;refine isTrue_chain (thn (J g s σ H _ I h) λv M ⟨x,H1,I1,t,q1⟩=>test_link (thn (w g M σ H1 _ I1 q1) λu s2 ⟨y,H2,I2,o,Z⟩ =>
  thn (D g s2 σ H2 x y v u _ I2 t o Z) λd E ⟨z,H3,I3,R,k,e,p⟩=>?_)) Y
 subst e;cases R;refine wpAny_truthy_bool ?_;cases k with
 |false =>
  obtain⟨k',L,K⟩:=p;cases L;exact ite_ff ⟨H3,I3,K⟩
 |true =>
  refine ite_tt (test_last (thn (V g E σ H3 _ I3 p) λW C ⟨S,H4,I4,r4,q⟩=>thn (l g C σ H4 y S u W _ I4 o r4 q) λd' s5 ⟨z2,H5,I5,r5,k2,G,O⟩=>?_));subst G;cases r5;exact wpAny_truthy_bool ⟨H5,I5,O⟩
def QU:(sizeLine:Nat)<2^63:=by rw[sizeLine_eq];decide
def GJ{x:V}{a:Ls Lv}(r:yA [x] a):∃u,a=[u]/\yb x u:=by
 cases r with
 |cons c e=>cases e;exact⟨_,rfl,c⟩
def vals2{x y:V}{a:Ls Lv}(r:yA [x,y] a):∃u w',a=[u,w']/\yb x u/\yb y w':=by
 cases r with
 |cons e g =>
  cases g with
  |cons c h=>cases h;exact⟨_,_,rfl,e,c⟩
def zGP:j6 X (.builtin "abs") (λc H Q=>∃i,c=[.int i]/\Q (.int (if i<0 then -i else i)) H):=by
 intro a s σ H c us Q I r h;obtain⟨i,rfl,q⟩:=h;obtain⟨u,rfl,t,rfl⟩:=GJ r;exact call_abs_int λu tk=>⟨.int (if i<0 then -i else i),H,I.tok _,⟨_,rfl⟩,q⟩
def zDp(g:X.calm=true):j6 X (.builtin "max") (λc H Q=>∃i j,c=[.int i,.int j]/\Q (.int (if j > i then j else i)) H):=by
 intro e s σ H c us Q I r h;obtain⟨i,j,rfl,q⟩:=h;obtain⟨u,l,rfl,⟨t,rfl⟩,⟨o,rfl⟩⟩:=vals2 r;refine max_two_ints (I.ok.hd g) λn tk k=>⟨_,H,I.kept k,?_,q⟩
 by_cases a:j > i
 ·rw[if_pos a,if_pos a];exact⟨_,rfl⟩
 ·rw[if_neg a,if_neg a];exact⟨_,rfl⟩
def zDq(g:X.calm=true):j6 X (.builtin "min") (λc H Q=>∃i j,c=[.int i,.int j]/\Q (.int (if j<i then j else i)) H):=by
 intro e s σ H c us Q I r h;obtain⟨i,j,rfl,q⟩:=h;obtain⟨u,l,rfl,⟨t,rfl⟩,⟨o,rfl⟩⟩:=vals2 r;refine min_two_ints (I.ok.hd g) λn tk k=>⟨_,H,I.kept k,?_,q⟩
 by_cases a:j<i
 ·rw[if_pos a,if_pos a];exact⟨_,rfl⟩
 ·rw[if_neg a,if_neg a];exact⟨_,rfl⟩
def zDr:j6 X (.type "int") (λa H Q=>(∃i,a=[.int i]/\Q (.int i) H)\/∃k,a=[.bl k]/\Q (.int (if k then 1 else 0)) H):=by
 intro c s σ H a us Q I r h;rcases h with⟨i,rfl,q⟩|⟨k,rfl,q⟩
 ·obtain⟨u,rfl,t,rfl⟩:=GJ r
  exact call_int_int ⟨.int i,H,I,⟨_,rfl⟩,q⟩
 ·obtain⟨u,rfl,e⟩:=GJ r
  cases e;exact call_int_bool ⟨.int (if k then 1 else 0),H,I.tok _,⟨_,rfl⟩,q⟩
end
structure ObjM(h:Heap)(x dx C:Lz)(mA:Str->Lo):Prop where
 obj:h.get? x=some (instObj C dx)
 ns:h.Ns1 dx mA
 ne:dx≠x
structure Cls(K:qH)(C:Lz):Prop where
 pg:plainGet K C Str.empty=true
 hd:PySem.W.hasDictIn K C=true
 po:PySem.W.plainOver K C=true
 sa:findIn K (.ref C) "__setattr__"=some (some (.builtin "object.__setattr__"))
def Cls.get{K:qH}{C:Lz}(c:Cls K C)(f:Str):plainGet K C f=true:=c.pg
structure Con(K:qH)(C:Lz)(f:Str)(v:V)(u:Lv):Prop where
 at_:findIn K (.ref C) f=some (some u)
 rel:yb v u
 get:specialIn K u "__get__"=some none
 cp:PySem.W.copiedNames.contains f=false
structure Meth(K:qH)(C:Lz)(m:Str)(f:Lz):Prop where
 at_:findIn K (.ref C) m=some (some (.ref f))
 fn:PySem.W.isFn K (.ref f)=true
 kp:keepIn K (.ref f)=true
section
variable{X:Cx}{pins:Ls (Lz×Obj)}{σ:St}{H:Hp}{s:La}{a C dx:Lz}{fs:Ls (Str×V)}{f:Str}{v:V}{A:Lg}{E:Ly}
def Inv.made(I:Inv X pins σ H s):Inv X pins σ (upd (upd H s.heap.objs.size (.w (s.heap.objs.size+1))) (s.heap.objs.size+1) (.ins C s.heap.objs.size []))
  {s with heap:=(s.heap.push emptyDict).push (instObj C s.heap.objs.size)}:=by
 have c:(s.heap.push emptyDict).get? s.heap.objs.size=some emptyDict:=get?_push_size s.heap rfl;have k:((s.heap.push emptyDict).push (instObj C s.heap.objs.size)).get? (s.heap.objs.size+1)=some (instObj C s.heap.objs.size):=by
  have:=get?_push_size (s.heap.push emptyDict) (o:=instObj C s.heap.objs.size) rfl
  rwa [size_push]at this
 have i:(s.heap.push emptyDict).Ns s.heap.objs.size (λ_=>none):=⟨emptyDict,#[],_,c,rfl,(λe h=>absurd h (by simp)),λ_=>rfl⟩;have I1:=I.laid (a:=s.heap.objs.size) (o:=.w (s.heap.objs.size+1)) (h':=s.heap.push emptyDict) (t':=s.toks) (λb u q=>qA _ q) (le_refl _) ⟨_,c⟩;refine I1.laid (a:=s.heap.objs.size+1) (o:=.ins C s.heap.objs.size []) (t':=s.toks) (λb u q=>qA _ q) (Nat.le_of_eq (size_push _ _)) ?_;have g:s.heap.objs.size≠s.heap.objs.size+1:=ne_of_lt (lt_succ_self _);refine⟨by rw[zk g,y3],zero_le _,g,k,λ_=>none,(Heap.Ns1.of_empty i).at λo q=>qA _ q,λ_=>True.intro,λy j=>absurd rfl j⟩
end
section
variable{X:Cx}{pins:Ls (Lz×Obj)}{σ:St}{H:Hp}{s:La}{A:Lg}{E:Ly}{Q:Ly}{c:Lv}{b:Bool}
inductive TyOf(K:qH)(H:Hp):V->Lv->Prop where
 |non:TyOf K H .non (.type "NoneType")
 |bl (x:Bool):TyOf K H (.bl x) (.type "bool")
 |int (i:Int):TyOf K H (.int i) (.type "int")
 |str (x:Str):TyOf K H (.str x) (.type "str")
 |flt (x:UInt64):TyOf K H (.flt x) (.type "float")
 |l {a:Lz} {xs:List V} (e:H a=some (.l xs)):TyOf K H (.ref a) (.type "list")
 |frz {a:Lz} {o:Obj} {xs:List V} (e:H a=some (.frz o (.l xs))):TyOf K H (.ref a) (.type "list")
 |t {a:Lz} {xs:List V} (e:H a=some (.t xs)):TyOf K H (.ref a) (.type "tuple")
 |dK {a:Lz} {kvs:List (Key×V)} (e:H a=some (.dK kvs)):TyOf K H (.ref a) (.type "dict")
 |dT {a:Lz} {kvs:List (List Key×V)} (e:H a=some (.dT kvs)):TyOf K H (.ref a) (.type "dict")
 |ins {a C dx:Lz} {fs:List (Str×V)} (e:H a=some (.ins C dx fs)) (cl:Cls K C) (ha:findIn K (.ref C) "__class__"=some (some (.builtin "object.__class__")))
   (hn:specialIn K (.builtin "object.__class__") "__get__"=some (some (.builtin "getset_descriptor.__get__"))) (htk:takesIn K (.builtin "object.__class__")=some true)
   (hm:mroIn K C (.type "object")=some true):TyOf K H (.ref a) (.ref C)
end
structure Room(k:Nat)(A:Lg):Prop where
 hd:A.handled=none
 gd:A.guards=some []
 dp:A.depth+3*k+5<recursionLimit
 un:A.units+16*k+200<cLine
def Room.mono{j k:Nat}{A:Lg}(r:Room k A)(h:j<=k):Room j A:=⟨r.hd,r.gd,by have:=r.dp;omega,by have:=r.un;omega⟩
theorem Room.deeper{k:Nat}{A:Lg}(r:Room (k+1) A)(env:Env):Room k (A.deeper env) :=
 ⟨r.hd,r.gd,by have:=r.dp;show A.depth+1+3*k+5<_;omega,by have:=r.un;show A.units+3+16*k+200<_;omega⟩
theorem Room.in1{k:Nat}{A:Lg}(r:Room (k+1) A):Room k A.in1 :=
 ⟨r.hd,r.gd,by have:=r.dp;show A.depth+3*k+5<_;omega,by have:=r.un;show A.units+1+16*k+200<_;omega⟩
theorem Room.depth{k:Nat}{A:Lg}(r:Room k A):A.depth<recursionLimit:=by have:=r.dp;omega
theorem Room.units{k:Nat}{A:Lg}(r:Room k A):A.units+64<cLine:=by have:=r.un;omega
def tNil:TA:=λ_ H Q=>Q [] H
def zCw(a:TE)(c:TA):TA:=λσ H Q=>a σ H λx H1=>c σ H1 λe H2=>Q (x::e) H2
section
variable{X:Cx}{e:Lb}{es:Ls Lb}{te:TE}{t:TA}{pos:Pos}
def uW:PA X [] tNil:=λ_ _ _ _ H Q I h=>Calls.spliced_nil ⟨[],H,I,.nil,h⟩
def JU(q:PE X e te)(g:PA X es t)(j:starEach (e::es) X.env=(false,eval e X.env)::starEach es X.env:=by rfl):PA X (e::es) (zCw te t):=by
 intro c a s σ H Q I h;rw[j];show wpAny _ _ (spliced ((false,eval e X.env)::backTo c (starEach es X.env))) _ _ s;refine Calls.spliced_cons (thn (q a s σ H _ I h) λu i ⟨x,H1,I1,k,p⟩=>?_);exact thn (g c a i σ H1 _ I1 p) λr v ⟨l,H2,I2,n,o⟩=>⟨x::l,H2,I2,.cons k n,o⟩
def tTup(t:TA):TE:=λσ H Q=>t σ H λa H1=>a.length<=sizeLine/\∀p,H1 p=none->Q (.ref p) (upd H1 p (.t a))
def tLst(t:TA):TE:=λσ H Q=>t σ H λa H1=>a.length<=sizeLine/\∀p,H1 p=none->Q (.ref p) (upd H1 p (.l a))
def pe_tup{x1}(h:PA X es t):PE X (.Tuple es x1 pos) (tTup t):=by
 intro a s σ H Q I hq;refine wpAny_Tuple_spliced (thn (h pos a s σ H _ I hq) λg c ⟨i,H1,I1,r,z,q⟩=>⟨by rw[<- r.length];exact z,?_⟩);have hf:H1 c.heap.objs.size=none:=I1.hok.fresh (le_refl _);refine⟨.ref c.heap.objs.size,upd H1 c.heap.objs.size (.t i),I1.laid (t':=c.toks) (λb u e=>qA _ e) (le_refl _) ?_,rfl,q _ hf⟩;exact⟨z,g,r,⟨_,get?_push_size _ rfl,rfl,_,rfl⟩⟩
def pe_lst(h:PA X es t):PE X (.List es pos) (tLst t):=by
 intro a s σ H Q I hq;refine wpAny_List_spliced (thn (h pos a s σ H _ I hq) λg c ⟨i,H1,I1,r,z,q⟩=>⟨by rw[<- r.length];exact z,?_⟩);have hf:H1 c.heap.objs.size=none:=I1.hok.fresh (le_refl _);refine⟨.ref c.heap.objs.size,upd H1 c.heap.objs.size (.l i),I1.laid (t':=c.toks) (λb u e=>qA _ e) (le_refl _) ?_,rfl,q _ hf⟩;exact⟨z,g,0,r,get?_push_size _ rfl⟩
end
abbrev Sp:=Ls V->Hp->VK->XK->Prop
abbrev CXT:=Ls Env->Hp->La->XK->Ly
structure Env0(P:Lc)(w:Le)(K:qH)(mg:Str->Lo)(base:Heap)(A:Lg)(outer:List Env)(s:La)(H:Hp):Prop where
 frames:A.frames=some outer
 mod:Mod K mg base
 bs:∀b o,base.get? b=some o->s.heap.get? b=some o/\H b=none
 bsz:base.objs.size<=s.heap.objs.size
 funs:s.heap.FunFrames base outer
 frf:∀b∈frs outer,H b=none
 hok:HOk P w H s.heap
 bare:AllBare s.gens
def CE(outer:Ls Env)(P:Lc)(w:Le)(H:Hp)(s:La)(Q:VK)(u:Lv)(s':La):Prop :=
 ∃v H',s'.os=s.os/\AllBare s'.gens/\Un (frs outer) [] H H' s.heap s'.heap/\HOk P w H' s'.heap/\yb v u/\Q v H'
def CR(a:CXT)(outer:Ls Env)(P:Lc)(w:Le)(H:Hp)(s:La)(Q:VK)(E:XK)(r:Result)(s':La):Prop :=
 match r with
 | .ok (.ret u)=>CE outer P w H s Q u s'| .ok _=>False| .error e=>a outer H s E e s'
structure FnOk(P:Lc)(w:Le)(K:qH)(mg:Str->Lo)(base:Heap)(CX:CXT)(k:Nat)(f:Lz)(fd:FuncData)(ps:Ln)(sp:Sp):Prop where
 len:∀vs H Q E,sp vs H Q E->vs.length=ps.length
 run:∀(A:Lg) (outer:List Env) (s:La) (H:Hp) (args:Args) (us:List Lv) (vs:List V) (Q:VK) (E:XK),Room k A->Env0 P w K mg base A outer s H->BindsTo s fd args (ps.zip us)->yA vs us->sp vs H Q E ->
  codeAny (model P w) A (.call (.ref f) args) (CR CX outer P w H s Q E) s
theorem FnOk.mono{P:Lc}{w:Le}{K:qH}{g:Str->Lx Lv}{base:Heap}{e:CXT}{j k:Nat}{f:Lz}{c:FuncData}{i:Ls Str}{sp:Sp}(F:FnOk P w K g base e j f c i sp)(h:j<=k) :
  FnOk P w K g base e k f c i sp:=⟨F.len,λA outer s H a o n Q E l=>F.run A outer s H a o n Q E (l.mono h)⟩
def FnOk.imp{P:Lc}{w:Le}{K:qH}{i:Str->Lx Lv}{base:Heap}{g:CXT}{k:Nat}{f:Lz}{e:FuncData}{j:Ls Str}{sp sp':Sp}(F:FnOk P w K i base g k f e j sp)
  (h:∀a H Q E,sp' a H Q E->sp a H Q E):FnOk P w K i base g k f e j sp' :=
 ⟨λa H Q E q=>F.len a H Q E (h _ _ _ _ q),λA outer s H c p a Q E l n r hv o=>F.run A outer s H c p a Q E l n r hv (h _ _ _ _ o)⟩
theorem Env0.in1{P:Lc}{w:Le}{K:qH}{a:Str->Lx Lv}{base:Heap}{A:Lg}{outer:Ls Env}{s:La}{H:Hp}(e:Env0 P w K a base A outer s H) :
  Env0 P w K a base A.in1 outer s H:=⟨e.frames,e.mod,e.bs,e.bsz,e.funs,e.frf,e.hok,e.bare⟩
section
variable{X:Cx}{pins:Ls (Lz×Obj)}{σ:St}{H:Hp}{s s':La}
def Inv.env0(I:Inv X pins σ H s):Env0 X.prog X.w X.K X.mg X.base X.A X.stack s H :=
 ⟨I.ok.frames,I.ok.mod,I.bs,le_trans I.ok.bsz I.sz,I.stack,I.stkFree,I.hok,I.bare⟩
def Inv.after{Q:VK}{u:Lv}(I:Inv X pins σ H s)(h:CE X.stack X.prog X.w H s Q u s'):EP X pins σ Q u s':=by
 obtain⟨v,H',os,a,un,e,r,q⟩:=h;obtain⟨i,g,d,t,c⟩:=s';obtain rfl:c=s.os:=os;exact⟨v,H',I.call (h':=i) (g':=g) (d':=d) (t':=t) (ch:=[]) un e a (λb z=>absurd z (by simp)),r,q⟩
end
def ZS(K:qH)(e:FuncData)(c:Ls Str)(ds:Ls Lv):Prop :=
 ∀(s:La) (a:Ls Lv),K.In s.heap->(a++ds).length=c.length->BindsTo s e ⟨a,[]⟩ (c.zip (a++ds))
def ZS.all{K:qH}{e:FuncData}{c:Ls Str}(h:∀a:Ls Lv,a.length=c.length->bindArgs e ⟨a,[]⟩=pure (c.zip a)):ZS K e c []:=λs a _ hl=>by
 rw[append_nil]at hl ⊢;exact .of_eq (h a hl)
section
variable{X:Cx}{CX:CXT}{k:Nat}{f C:Lz}{fd:FuncData}{ps:Ls Str}{sp:Sp}{dvs:Ls V}{ds:Ls Lv}{E:XK}{x m:Str}{p pos apos:Pos}{e o:Lb}{es:Ls Lb}{ta:TE}{t:TA}
structure Mk(K:qH)(C f:Lz):Prop where
 makes:PySem.W.makesIn K C=true
 init:findIn K (.ref C) "__init__"=some (some (.ref f))
 fn:PySem.W.isFn K (.ref f)=true
 kp:keepIn K (.ref C)=true
end
section
variable{X:Cx}{CX:CXT}{k:Nat}{f C:Lz}{fd:FuncData}{ps ks:Ls Str}{sp:Sp}{E:XK}{x m:Str}{p pos apos kpos:Pos}{e o:Lb}{es:Ls Lb}{kws:Ls Keyword}{te ta:TE}{t tk:TA}{nm:Lx Str}
structure KBinds(K:qH)(fd:FuncData)(ps ks:Ln)(g:List Lv->List Lv->List Lv)(gV:List V->List V->List V):Prop where
 to:∀(s:La) (us ws:List Lv),K.In s.heap->(g us ws).length=ps.length->BindsTo s fd ⟨us,ks.zip ws⟩ (ps.zip (g us ws))
 rel:∀{vs:List V} {us:List Lv} {zs:List V} {ws:List Lv},yA vs us->yA zs ws->yA (gV vs zs) (g us ws)
variable{g:Ls Lv->Ls Lv->Ls Lv}{gV:Ls V->Ls V->Ls V}
end
structure FnScope(N P:Ln)(sc:Scope):Prop where
 kind:sc.kind=.function
 co:sc.isCoroutine=false
 gen:sc.isGenerator=false
 nd:N.Nodup
 pre:N.take P.length=P
 par:∀x∈P,sc.names.lookup x=some .local\/sc.names.lookup x=some .cell
 nofree:∀y∈sc.names,y.2≠.free
theorem QV{a:Str->Lx NameKind}{x:Str}:∀{binds:Ls (Str×Lv)} {m:Str->Lx Lv},(∀v,(x,v)∉binds)->bindL a binds m x=m x
 | [],_,_=>rfl
 | (n,v)::r,m,h=>by
  unfold bindL;rw[QV λw c=>h w (qD _ c)];split
  ·have:x≠n:=by rintro rfl;exact h v qE
   simp[this]
  ·rfl
theorem QW{a:Str->Lx NameKind}{x:Str}:∀{binds:Ls (Str×Lv)} {m:Str->Lx Lv},(∀v,(x,v)∉binds)->bindC a binds m x=m x
 | [],_,_=>rfl
 | (n,v)::r,m,h=>by
  unfold bindC;rw[QW λw c=>h w (qD _ c)];split
  ·rfl
  ·have:x≠n:=by rintro rfl;exact h v qE
   simp[this]
theorem QX{a:Str->Lx NameKind}{x:Str}{v:Lv}:∀{P:Ls Str} {c:Ls Lv} {i:Nat} {m:Str->Lx Lv},P.Nodup->P[i]?=some x->c[i]?=some v->a x=some .local ->
  bindL a (P.zip c) m x=some v
 | [],_,_,_,_,h,_,_=>by simp at h|_::_,[],_,_,_,_,h,_=>by simp at h
 |p::P,w::c,0,m,g,e,h2,j=>by
  simp at e h2;subst e;subst h2
  show bindL a ((p,w)::P.zip c) m p=_
  unfold bindL;rw[QV λv hv=>(nodup_cons.mp g).1 (of_mem_zip hv).1,if_pos j];simp
 |p::P,w::c,i+1,m,g,e,h2,j=>by
  show bindL a ((p,w)::P.zip c) m x=_
  unfold bindL;exact QX (i:=i) (nodup_cons.mp g).2 (by exists e) (by exists h2) j
theorem QY{a:Str->Lx NameKind}{x:Str}{v:Lv}:∀{P:Ls Str} {c:Ls Lv} {i:Nat} {m:Str->Lx Lv},P.Nodup->P[i]?=some x->c[i]?=some v->a x≠some .local ->
  bindC a (P.zip c) m x=some v
 | [],_,_,_,_,h,_,_=>by simp at h|_::_,[],_,_,_,_,h,_=>by simp at h
 |p::P,w::c,0,m,g,e,h2,j=>by
  simp at e h2;subst e;subst h2
  show bindC a ((p,w)::P.zip c) m p=_
  unfold bindC;rw[QW λv hv=>(nodup_cons.mp g).1 (of_mem_zip hv).1,if_neg j];simp
 |p::P,w::c,i+1,m,g,e,h2,j=>by
  show bindC a ((p,w)::P.zip c) m x=_
  unfold bindC;exact QY (i:=i) (nodup_cons.mp g).2 (by exists e) (by exists h2) j
def wK(N:Ls Str)(vs:Ls V):St:=vs.map some++replicate (N.length-vs.length) none
def zIN(i:CXT)(P:Lc)(w:Le)(K:qH)(mg:Str->Lx Lv)(base:Heap)(N:Ls Str)(c:Str)(a:Scope)(f:Lz)(h:Lv)(A:Lg)(outer:Ls Env)(s:La)(H:Hp)(E:XK):Cx where
 prog:=P
 w:=w
 K:=K
 mg:=mg
 base:=base
 A:=A.deeper (envOfC c a s.heap.objs.size f h)
 N:=N
 s₀:=s
 H₀:=H
 env:=envOfC c a s.heap.objs.size f h
 outer:=outer
 stack:=envOfC c a s.heap.objs.size f h::outer
 ex:=[]
 calm:=true
 fn:=λ_=>true
 pn:=[]
 xe:=λe k=>wpAny (model P w) (A.deeper (envOfC c a s.heap.objs.size f h)) (leaving (envOfC c a s.heap.objs.size f h) e) (λ_ g=>i outer H s E e g) (λj g=>i outer H s E j g) k
def zBm{sc:Scope}{n:Nat}{x:Str}(h:sc.names.lookup x=some .cell):∃c,(cellsFrom n sc.names []).lookup x=some c:=by
 have q:=cellsFrom_some sc.names n [] (.inl h);exact Option.isSome_iff_exists.mp q
def QZ{R:CXT}{P:Lc}{w:Le}{K:qH}{M:Str->Lx Lv}{base:Heap}{N o:Ls Str}{j:Str}{g:Scope}{f:Lz}{I:Lv}{A:Lg}{outer:Ls Env}{s s1:La}{H:Hp}{E:XK}{O:Ls Lv}{vs:Ls V}
  (S:FnScope N o g) (hd:A.handled=none) (l:Env0 P w K M base A outer s H) (Z:vs.length=o.length) (r:yA vs O)
  (x:InCallC s s.heap.objs.size (bindL (envOfC j g s.heap.objs.size f I).kindOf (o.zip O) λ_=>none) (cellsFrom (s.heap.objs.size+1) g.names []) (bindC (envOfC j g s.heap.objs.size f I).kindOf (o.zip O) λ_=>none) s1) :
  Inv (zIN R P w K M base N j g f I A outer s H E) [] (wK N vs) H s1:=by
 have Y:o.length<=N.length:=by have:=congrArg length S.pre;rw[List.length_take]at this;omega
 obtain⟨L,tk,rfl,Q⟩:=x.done;have C:∀b:Lz,b∉(zIN R P w K M base N j g f I A outer s H E).ex:=λb z=>absurd (show b∈([]:Ls Lz)from z) (by simp)
 refine⟨⟨l.mod,S.kind,rfl,rfl,le_refl _,λy z c L h2=>?_,λy t=>?_,λy c _ h=>?_,λ_=>hd,Around.frames_deeper l.frames,.inr ⟨rfl,rfl⟩,λb z=>absurd z (C b),l.bs,l.bsz,λb _ _=>C b,λb z=>absurd z (C b),l.funs,l.frf⟩,
  rfl,l.bare,Un.kept Q,⟨_,x.toInCall.ns,λi y v L h2 h3=>?_⟩,λy c h=>⟨_,x.cell y c h⟩,l.hok.fresh (le_refl _),λy c h=>?_,λp G=>absurd (show p∈([]:Ls (Lz×Obj))from G) (by simp),l.hok.kept Q,?_⟩
 ·exact name_of_addr x.apart (PySem.mem_of_lookup L) (PySem.mem_of_lookup h2)
 ·have t:g.names.lookup y=some .cell\/g.names.lookup y=some .free:=t
  rcases t with t|t
  ·exact zBm t
  ·exact absurd rfl (S.nofree _ (PySem.mem_of_lookup t))
 ·exact Nat.le_of_lt (x.above y c (PySem.mem_of_lookup h))
 ·have J:i<vs.length:=by
   unfold wK at h2;by_cases J:i<vs.length
   ·exact J
   ·rw[getElem?_append_right (by exists J)]at h2
    rw[List.getElem?_replicate]at h2;split at h2<;>cases h2
  have W:vs[i]?=some v:=by
   unfold wK at h2;rw[getElem?_append_left (by exists J),getElem?_map]at h2;cases e:vs[i]? with
   |none=>rw[e]at h2;cases h2|some a=>rw[e]at h2;cases h2;rfl
  obtain⟨u,hu,X⟩:=r.get W;have G:o[i]?=some y:=by
   rw[<- S.pre,List.getElem?_take_of_lt (by omega)];exact L
  have D:o.Nodup:=by rw[<- S.pre];exact S.nd.sublist (List.take_sublist _ _)
  refine⟨u,X,?_⟩;rcases S.par y (mem_of_getElem? G)with k|k
  ·exact .inl ⟨k,QX D G hu k⟩
  ·obtain⟨c,e⟩:=zBm (n:=s.heap.objs.size+1) k
   refine .inr ⟨.inl k,c,e,?_⟩;have q:=x.cell y c e;rw[QY D G hu (by show g.names.lookup y≠_;rw[k];decide)]at q;exact q
 ·exact l.hok.fresh (Nat.le_of_lt (x.above y c (PySem.mem_of_lookup h)))
 ·unfold wK
  show _=N.length
  rw[length_append,length_map,length_replicate];omega
def fn_of{M:CXT}{P:Lc}{w:Le}{K:qH}{L:Str->Lx Lv}{base:Heap}{k:Nat}{f:Lz}{name c:Str}{h:Arguments}{body:Ls Lf}{a:Scope}{dV kV D pm g ct oc:Lv}{an od:Lx Lz}
  {X:Lm} {N O:Ls Str} {sp:Sp} (lk:K.lookup f=some ⟨oc,od,.func (fnOf name c h body a dV kV D pm an g ct),X⟩) (Y:codeIn K g c=true) (S:FnScope N O a)
  (z:∀i H Q E,sp i H Q E->i.length=O.length)
  (l:∀(A:Lg) (outer:Ls Env) (s:La) (H:Hp) (i:Ls V) (Q:VK) (E:XK),Room k (A.deeper (envOfC c a s.heap.objs.size f g))->sp i H Q E ->
   ∃t,PSs (zIN M P w K L base N c a f g A outer s H E) body t/\t {nx:=λ_ H'=>Q .non H',rt:=Q} (wK N i) H) :
  FnOk P w K L base M (k+1) f (fnOf name c h body a dV kV D pm an g ct) O sp:=by
 refine⟨z,λA outer s H aa us i Q E R C hb r G=>?_⟩;have hl:=z _ _ _ _ G;have KX:K.In s.heap:=C.mod.kin.keeps λb o e=>(C.bs b o e).1
 have Z:s.heap.NoLimit:=C.mod.nolimit.keeps λb o e=>(C.bs b o e).1
 have j:∀y∈O.zip us,a.names.lookup y.1=some .local\/(a.names.lookup y.1=some .cell/\((cellsFrom (s.heap.objs.size+1) a.names []).lookup y.1).isSome=true):=λ⟨n,v⟩ hy=>by
  rcases S.par n (of_mem_zip hy).1 with q|q
  ·exact .inl q
  ·exact .inr ⟨q,cellsFrom_some _ _ _ (.inl q)⟩
 refine codeAny_call_function R.depth (KX _ _ lk) rfl S.co S.gen rfl (codeRec_of KX Y) (hb _ _ _ _ ?_);refine wpAny_newFunctionEnv_cells S.kind j λab he s1 x=>?_
 subst he;refine⟨Z.keeps x.toInCall.keep,codeAny_func ?_⟩;obtain⟨t,ht,hq⟩:=l A outer s H i Q E (R.deeper _) G;have I:Inv (zIN M P w K L base N c a f g A outer s H E) [] (wK N i) H s1:=QZ S R.hd C hl r x;refine wpAny_mono (ht [] s1 (wK N i) H _ I hq) (λfl s' p=>?_) λe s' p=>p
 have fin:∀{σ':St} {H':Hp} {v:V} {u:Lv},Inv (zIN M P w K L base N c a f g A outer s H E) [] σ' H' s'->yb v u->Q v H'->CE outer P w H s Q u s' :=
  λ{σ' H' v u} J W q=>⟨v,H',J.os,J.bare,J.base,J.hok,W,q⟩
 cases fl with
 |ret u =>
  obtain⟨v,σ',H',J,W,q⟩:=p;exact fin J W q
 |next =>
  obtain⟨σ',H',J,q⟩:=p;exact fin (v:=V.non) (u:=Value.none) J rfl q
 |brk =>
  obtain⟨_,_,_,q⟩:=p;exact False.elim q
 |cont =>
  obtain⟨_,_,_,q⟩:=p;exact False.elim q
section
variable{X:Cx}{x:Str}{p pos:Pos}{e:Lb}{es:Ls Lb}{t:TA}{id T:String}{r:Ls V->Hp->VK->Prop}
def tCB(r:Ls V->Hp->VK->Prop)(t:TA):TE:=λσ H Q=>t σ H λa H1=>r a H1 Q
def GK(n:j6 X (.builtin id) r)(u:Gl X x)(q:X.mg x=none)(l:bootBuiltins x=some (.builtin id))(y:PA X (e::es) t)(hn:x≠"__name__":=by decide)(c:(x==("__debug__":Str))=false:=by decide)
  (i:starEach (e::es) X.env=(false,eval e X.env)::starEach es X.env:=by rfl) (g:(backTo pos (starEach es X.env)).any (·.1)=false:=by rfl):PE X (.Call (.Name x p) (e::es) [] pos) (tCB r t):=by
 intro a s σ H Q I h;refine wpAny_Call_Name_kw (Z3 I u q l ?_ hn c);exact PyProof.Rows.callWith_builtin1 (thn (y pos a s σ H _ I h) λo j ⟨k,H1,I1,v,w⟩=>n a j σ H1 k o Q I1 v w) i g
def zDs(n:j6 X (.type T) r)(u:Gl X x)(q:X.mg x=none)(l:bootBuiltins x=some (.type T))(y:PA X (e::es) t)(hn:x≠"__name__":=by decide)(c:(x==("__debug__":Str))=false:=by decide)
  (i:starEach (e::es) X.env=(false,eval e X.env)::starEach es X.env:=by rfl) (g:(backTo pos (starEach es X.env)).any (·.1)=false:=by rfl):PE X (.Call (.Name x p) (e::es) [] pos) (tCB r t):=by
 intro a s σ H Q I h;refine wpAny_Call_Name_kw (Z3 I u q l ?_ hn c);exact PyProof.Rows.callWith_type1 (thn (y pos a s σ H _ I h) λo j ⟨k,H1,I1,v,w⟩=>n a j σ H1 k o Q I1 v w) i g
end
end L2
namespace HT
open PySem PyProof.Rows
section
variable{prog:Lc}{w:Le}{A:Lg}{E:Ly}{s:La}
def cat_tup{t b:Lz}{vs a:Ls Lv}{Q:Ly}(y:IsTup s.heap t vs.toArray)(C:IsTup s.heap b a.toArray)(o:vs≠[])
  (x:a=[]->Q (.ref t) s) (z:a≠[]->Q (.ref s.heap.objs.size) {s with heap:=s.heap.push {cls:=.type "tuple",data:=.seq (vs++a).toArray}})
  (hsz:vs.length+a.length<=sizeLine):wpAny (model prog w) A (binaryOp .Add (.ref t) (.ref b)) Q E s:=by
 obtain⟨⟨cls,v,data,q⟩,ho,p,n,hd⟩:=id y;obtain⟨⟨u,h,l,i⟩,c,g,r,j⟩:=id C;simp only at p hd g j;subst p hd g j;have e:vs.toArray++a.toArray=(vs++a).toArray:=by simp
 by_cases k:a=[]
 ·exact concat_meets ⟨_,ho,rfl⟩ ⟨_,c,rfl⟩ noFill_tuple_add seq_tuple_add PySem.F.slot_tuple_add PySem.F.entry_tuple_add (PySem.F.args_tuple_add_2 _ _)
   (tuple_addW1 t b vs.toArray a.toArray n r v h q i (by exists o) (by simp[k])) ⟨ho,c,x k⟩
 ·refine concat_meets ⟨_,ho,rfl⟩ ⟨_,c,rfl⟩ noFill_tuple_add seq_tuple_add PySem.F.slot_tuple_add PySem.F.entry_tuple_add (PySem.F.args_tuple_add_2 _ _)
   (tuple_addW2 t b vs.toArray a.toArray n r v h q i (by exists o) (by exists k) (by rw[size_toArray,size_toArray];exact hsz)) ⟨ho,c,?_⟩
  rw[e];exact z k
def sIx(n d:Nat):Lx Int->Nat
 |none=>d|some v=>if v<0 then(v+(n:Int)).toNat else min v.toNat n
def sIx_nat(n d k:Nat):sIx n d (some (k:Int))=min k n:=by
 show(if(k:Int)<0 then((k:Int)+(n:Int)).toNat else min (k:Int).toNat n)=min k n
 rw[if_neg (by omega),Int.toNat_natCast]
def sIx_le(n d:Nat)(hd:d<=n)(o:Lx Int):sIx n d o<=n:=by
 cases o with
 |none=>exact hd
 |some v =>
  show(if v<0 then(v+(n:Int)).toNat else min v.toNat n)<=n
  by_cases hv:v<0
  ·rw[if_pos hv];omega
  ·rw[if_neg hv];exact Nat.min_le_right _ _
def zDt(v:Int)(n d:Nat):(if v<0 then max (v+(n:Int)) 0 else min v (n:Int))=((sIx n d (some v):Nat):Int):=by
 show(if v<0 then max (v+(n:Int)) 0 else min v (n:Int))=(((if v<0 then(v+(n:Int)).toNat else min v.toNat n):Nat):Int)
 by_cases hv:v<0
 ·dsimp[if_pos hv];omega
 ·dsimp[if_neg hv];omega
def zCx(lo hi:Lx Int)(n:Nat):Builtin.Slice.sliceAdjust lo hi 1 (n:Int)=(((sIx n 0 lo:Nat):Int),((sIx n n hi:Nat):Int)):=by
 have a:¬((1:Int)<0):=by omega
 unfold Builtin.Slice.sliceAdjust;dsimp[a,if_false];refine Prod.ext ?_ ?_
 ·cases lo with
  |none=>rfl|some v=>exact zDt v n 0
 ·cases hi with
  |none=>rfl|some v=>exact zDt v n n
def zCy(i j:Nat):Builtin.Slice.slicePlaces (i:Int) (j:Int) 1=j-i:=by
 unfold Builtin.Slice.slicePlaces;have a:(1:Int) > 0:=by omega
 dsimp[a,if_true,Int.ediv_one];split<;>omega
def uX{v:Lv}{o:Lx Int}{Q:Lx Int->La->Prop}(p:IsPart v o)(h:Q o s):wpAny (model prog w) A (Builtin.Slice.slicePartIndex v) Q E s:=by
 cases p with
 |none=>exact slicePart_none h|int i t=>exact slicePart_int h
def sliceApplied_gen{i:Lz}{g e:Lv}{lo hi:Lx Int}{n:Nat}{Q:Int×Int×Nat->La->Prop}(k:s.heap.IsSliceOf i g e .none)(o:IsPart g lo)(j:IsPart e hi)
  (h:Q (((sIx n 0 lo:Nat):Int),1,sIx n n hi-sIx n 0 lo) s):wpAny (model prog w) A (Builtin.Slice.sliceApplied (.ref i) (pure (n:Int))) Q E s:=by
 obtain⟨p,a,l,c⟩:=id k;unfold Builtin.Slice.sliceApplied Builtin.Slice.sliceFields;refine qB (qB (wpAny_field a c (x:=g) rfl (qB (wpAny_field a c (x:=e) rfl (qB (wpAny_field a c (x:=.none) rfl (qC ?_)))))));refine qB (slicePart_none ?_);show wpAny _ _ (if((1:Int)==0)=true then _ else _) _ _ s;rw[if_neg (by decide)];refine qB (uX o (qB (uX j (qB (qC ?_)))));show wpAny _ _ (match Builtin.Slice.sliceAdjust lo hi 1 (n:Int)with|(lo,hi)=>pure (lo,(1:Int),Builtin.Slice.slicePlaces lo hi 1)) _ _ s
 rw[zCx lo hi n];show wpAny _ _ (pure (((sIx n 0 lo:Nat):Int),(1:Int),Builtin.Slice.slicePlaces ((sIx n 0 lo:Nat):Int) ((sIx n n hi:Nat):Int) 1)) _ _ s;rw[zCy];exact qC h
def zGQ(xs:Lh)(i k:Nat):((List.range k).filterMap λ(m:Nat)=>xs[((i:Int)+(m:Int)*1).toNat]?).toArray=((xs.toList.drop i).take k).toArray:=by
 have e:(λ(m:Nat)=>xs[((i:Int)+(m:Int)*1).toNat]?)=λm=>xs[i+m]?:=by
  funext m
  have:((i:Int)+(m:Int)*1).toNat=i+m:=by omega
  rw[this]
 rw[e];have:=pick_run xs i k;rw[List.filterMap_map]at this;have a:((λx=>xs[x]?) ∘ λx=>i+x)=λm=>xs[i+m]?:=rfl
 rw[a]at this;rw[this]
def getItem_tuple_cut{t g:Lz}{items:Lh}{n l:Lv}{lo hi:Lx Int}{Q:Ly}(c:IsTup s.heap t items)(o:s.heap.IsSliceOf g n l .none)(v:IsPart n lo)(r:IsPart l hi)
  (p:¬(sIx items.size 0 lo=0/\sIx items.size items.size hi=items.size))
  (h:Q (.ref s.heap.objs.size) {s with heap:=s.heap.push {cls:=.type "tuple",data:=.seq ((items.toList.drop (sIx items.size 0 lo)).take (sIx items.size items.size hi-sIx items.size 0 lo)).toArray}})
  (hsz:items.size<=sizeLine):wpAny (model prog w) A (getItem (.ref t) (.ref g)) Q E s:=by
 have a:sizeOk (.seq ((items.toList.drop (sIx items.size 0 lo)).take (sIx items.size items.size hi-sIx items.size 0 lo)).toArray):=by
  show((items.toList.drop (sIx items.size 0 lo)).take (sIx items.size items.size hi-sIx items.size 0 lo)).toArray.size<=sizeLine
  rw[size_toArray,List.length_take,List.length_drop,Array.length_toList];omega
 have y:sIx items.size items.size hi<=items.size:=sIx_le _ _ (le_refl _) hi;obtain⟨u,e,k,x⟩:=id o;have j:s.TypeIs (.ref g) "slice":=⟨u,e,k⟩;unfold getItem
 try with_reducible refine wpAny_holding ?_
 first|refine qB (qC ?_)|skip
 refine qB (wpAny_sequenceKey c.typeIs (by decide) ?_);refine qB (wpAny_callSpecial?_slot (name:=Str.ofString "__getitem__") c.typeIs PyProof.Rows.slot_tuple_getitem
  (wpAny_call_entry PyProof.Rows.slot_tuple_getitem c.typeIs entry_tuple_getitem ?_ (args_tuple_getitem _ _)))
 show wpAny _ _ (Builtin.Tuple.tupleItemsOf (.ref t) >>= _) _ _ s
 refine qB (tupleItemsOf_ c ?_);refine qB (wpAny_typeOf j ?_);rw[if_pos (by decide)];refine qB (sliceApplied_gen o v r ?_);have i:¬((((sIx items.size 0 lo:Nat):Int)==0&&(1:Int)==1&&(sIx items.size items.size hi-sIx items.size 0 lo)==items.size)=true):=by
  intro q;rw[Bool.and_eq_true,Bool.and_eq_true]at q;have z:((sIx items.size 0 lo:Nat):Int)=0:=eq_of_beq q.1.1;have C:sIx items.size items.size hi-sIx items.size 0 lo=items.size:=eq_of_beq q.2;exact p ⟨by omega,by omega⟩
 show wpAny _ _ (if(((sIx items.size 0 lo:Nat):Int)==0&&(1:Int)==1&&(sIx items.size items.size hi-sIx items.size 0 lo)==items.size)=true then _ else _) _ _ s
 rw[if_neg i,zGQ]
 first
  |exact qB (m:=Builtin.Tuple.tupleExact _) (wpAny_newObj_type (qC ⟨_,rfl,qC h⟩) a)
  |exact qB (m:=Builtin.Tuple.tupleExact _) (wpAny_newObj_type (qB (qC (qC ⟨_,rfl,qC h⟩))) a)
  |exact qB (qB (m:=Builtin.Tuple.tupleExact _) (wpAny_newObj_type (qC (qC ⟨_,rfl,qC h⟩)) a))
  |exact qB (qB (m:=Builtin.Tuple.tupleExact _) (wpAny_newObj_type (qC ⟨_,rfl,qC h⟩) a))
end
end HT
namespace L2
open PySem PySem.Spec PyProof.Rows
abbrev TO:=St->Hp->(Lx Int->Hp->Prop)->Prop
def PO(X:Cx)(e:Lx Lb)(t:TO):Prop :=
 ∀(a:Ls (Lz×Obj)) (s:La) (σ:St) (H:Hp) (Q:Lx Int->Hp->Prop),Inv X a σ H s->t σ H Q ->
  wpAny (model X.prog X.w) X.A (evalPart e X.env) (λu c=>∃o H',Inv X a σ H' c/\IsPart u o/\Q o H') X.xe s
def tNoPart:TO:=λ_ H Q=>Q none H
def tPart(t:TE):TO:=λσ H Q=>t σ H λx H1=>∃i,x=.int i/\Q (some i) H1
section
variable{X:Cx}{e:Lb}{te:TE}{lo hi:Lx Lb}{tl th:TO}{pos p2:Pos}
def po_none:PO X none tNoPart:=by
 intro a s σ H Q I h;rw[evalPart_none];exact qC ⟨none,H,I,.none,h⟩
def po_some(h:PE X e te):PO X (some e) (tPart te):=by
 intro a s σ H Q I hw;rw[evalPart_some];refine thn (h a s σ H _ I hw) λu j ⟨x,H1,I1,c,g⟩=>?_
 obtain⟨i,rfl,q⟩:=g;obtain⟨t,rfl⟩:=c;exact⟨some i,H1,I1,.int i t,q⟩
def SlR(X:Cx)(r:V->Lx Int->Lx Int->Hp->VK->Prop):Prop :=
 ∀(a:Ls (Lz×Obj)) (s:La) (σ:St) (H:Hp) (x:V) (v g c:Lv) (e i:Lx Int) (h:Lz) (Q:VK),Inv X a σ H s->yb x v->s.heap.IsSliceOf h g c .none->IsPart g e->IsPart c i->r x e i H Q ->
  ∃T id,typeLookup (.type T) "__getitem__"=pure (some (.builtin id))/\s.TypeIs v T/\wpAny (model X.prog X.w) X.A (getItem v (.ref h)) (EP X a σ Q) X.xe s
def SlR.or{r g:V->Lx Int->Lx Int->Hp->VK->Prop}(h:SlR X r)(h':SlR X g):SlR X (λx c e H Q=>r x c e H Q\/g x c e H Q):=by
 intro a s σ H x v vl vu c e sl Q I rx hs pl pu q;rcases q with q|q
 ·exact h a s σ H x v vl vu c e sl Q I rx hs pl pu q
 ·exact h' a s σ H x v vl vu c e sl Q I rx hs pl pu q
def tSl(r:V->Lx Int->Lx Int->Hp->VK->Prop)(c:TE)(a e:TO):TE:=λσ H Q=>c σ H λx H1=>a σ H1 λl H2=>e σ H2 λu H3=>r x l u H3 Q
def zGR{r:V->Lx Int->Lx Int->Hp->VK->Prop}(j:SlR X r)(k:PE X e te)(n:PO X lo tl)(w:PO X hi th):PE X (.Subscript e (.Slice lo hi none p2) pos) (tSl r te tl th):=by
 intro a s σ H Q I h;refine Subscript_ (thn (k a s σ H _ I h) λv o ⟨x,H1,I1,z,E⟩=>?_);refine wpAny_Slice (thn (n a o σ H1 _ I1 E) λi y ⟨l,H2,I2,G,t⟩=>thn (w a y σ H2 _ I2 t) λg c ⟨u,H3,I3,p,D⟩=>?_);rw[evalPart_none];refine qC ?_;have I4:Inv X a σ H3 {c with heap:=c.heap.push {cls:=.type "slice",data:=.fields #[i,g,.none]}}:=I3.kept (t':=c.toks) λb J q=>qA _ q
 obtain⟨T,id,hT,ht,C⟩:=j a {c with heap:=c.heap.push {cls:=.type "slice",data:=.fields #[i,g,.none]}} σ H3 x v i g l u c.heap.objs.size Q I4 z (Heap.IsSliceOf.new ..) G p D
 show wpAny (model X.prog X.w) X.A (subscriptTail e (.Slice lo hi none p2) v (.ref c.heap.objs.size)) (EP X a σ Q) X.xe {c with heap:=c.heap.push {cls:=.type "slice",data:=.fields #[i,g,.none]}}
 exact tail_any (ops:=[.ref c.heap.objs.size,v]) ht hT C (by with_unfolding_all rfl)
def zGS(xs:Ls V)(lo hi:Lx Int):Ls V:=(xs.drop (HT.sIx xs.length 0 lo)).take (HT.sIx xs.length xs.length hi-HT.sIx xs.length 0 lo)
def W0(xs:Ls V)(lo hi:Lx Int):(zGS xs lo hi).length<=xs.length:=by
 unfold zGS;rw[List.length_take,List.length_drop];omega
def rSlT(K:qH):V->Lx Int->Lx Int->Hp->VK->Prop:=λx e g H Q=>∃a c,x=.ref a/\SqT K H a c /\
 ¬(HT.sIx c.length 0 e=0/\HT.sIx c.length c.length g=c.length)/\∀p,H p=none->Q (.ref p) (upd H p (.t (zGS c e g)))
def sl_tup:SlR X (rSlT X.K):=by
 intro i s σ H x v vl vu lo hi sl Q I rx hs pl pu h;obtain⟨a,e,rfl,k,j,q⟩:=h;cases rx;obtain⟨g,r,ht,hz⟩:=I.tuple k;have c:g.toArray.size=e.length:=by rw[size_toArray];exact r.length.symm
 refine⟨"tuple",_,PyProof.Rows.slot_tuple_getitem.lookup,ht.typeIs,?_⟩;refine HT.getItem_tuple_cut ht hs pl pu (by rw[c];exact j) ?_ (by rw[c];exact hz);rw[c];refine⟨.ref s.heap.objs.size,_,I.laid (t':=s.toks) (o:=.t (zGS e lo hi)) (λb l q=>qA _ q) (le_refl _) ?_,rfl,q _ (I.hok.fresh (le_refl _))⟩;exact⟨le_trans (W0 e lo hi) hz,_,(r.drop (HT.sIx e.length 0 lo)).take (HT.sIx e.length e.length hi-HT.sIx e.length 0 lo),IsTup.new _ _⟩
def rCatT(K:qH):R2:=λx y H Q=>∃a b e c,x=.ref a/\y=.ref b/\SqT K H a e/\SqT K H b c/\e≠[]/\e.length+c.length<=sizeLine /\
 (c=[]->Q (.ref a) H)/\(c≠[]->∀p,H p=none->Q (.ref p) (upd H p (.t (e++c))))
def yA.nil_iff{xs:Ls V}{a:Ls Lv}(r:yA xs a):a=[]↔xs=[]:=by
 cases r with
 |nil=>simp|cons _ _=>simp
def op_catT:OpR X (binaryOp .Add) (rCatT X.K):=by
 intro i s σ H x y v u Q I rx ry h;obtain⟨a,b,l,t,rfl,rfl,D,r,j,hz,p,n⟩:=h;cases rx;cases ry;obtain⟨k,e,E,_⟩:=I.tuple D;obtain⟨g,c,C,_⟩:=I.tuple r;refine HT.cat_tup E C (λz=>j (e.nil_iff.mp z)) (λz=>⟨.ref a,H,I,rfl,p (c.nil_iff.mp z)⟩) (λz=>?_) (by rw[<- e.length,<- c.length];exact hz);refine⟨.ref s.heap.objs.size,_,I.laid (t':=s.toks) (o:=.t (l++t)) (λb G q=>qA _ q) (le_refl _) ?_,rfl,n (λw=>z (c.nil_iff.mpr w)) _ (I.hok.fresh (le_refl _))⟩;exact⟨by rw[length_append];exact hz,_,e.append c,IsTup.new _ _⟩
end
def ixN(n:Nat)(i:Int):Lx Nat:=if 0<=i then(if i<n then some i.toNat else none)else if -(n:Int)<=i then some (i+n).toNat else none
def atI{α:Type}(xs:Ls α)(i:Int):Lx α:=(ixN xs.length i).bind λj=>xs[j]?
def zDu{n:Nat}{i:Int}{j:Nat}(h:ixN n i=some j):seqIndex? i n=some j/\j<n/\-(n:Int)<=i/\i<n:=by
 unfold ixN at h;by_cases c:0<=i
 ·rw[if_pos c]at h
  by_cases a:i<n
  ·rw[if_pos a]at h
   have e:i.toNat=j:=qJ h;exact⟨by rw[seqIndex_of c a,e],by omega,by omega,a⟩
  ·rw[if_neg a]at h;cases h
 ·rw[if_neg c]at h
  by_cases a:-(n:Int)<=i
  ·rw[if_pos a]at h
   have e:(i+n).toNat=j:=qJ h;exact⟨by rw[seqIndex_neg (by omega) a,e],by omega,a,by omega⟩
  ·rw[if_neg a]at h;cases h
def zDv{α:Type}{xs:Ls α}{i:Int}{v:α}(h:atI xs i=some v):∃j,seqIndex? i xs.length=some j/\xs[j]?=some v/\j<xs.length/\-(xs.length:Int)<=i/\i<xs.length:=by
 unfold atI at h;exists e,ixN xs.length i,h,j;obtain⟨a,h2,c,h4⟩:=zDu e;exact⟨j,a,h,h2,c,h4⟩
def ZT(b:Lb):Prop:=∀o i,subscripted b false o i=operate [o,i] (getItem o i)
def IxR(X:Cx)(r:R2):Prop :=
 ∀(e a:Lb) (c:Ls (Lz×Obj)) (s:La) (σ:St) (H:Hp) (x y:V) (v u:Lv) (Q:VK),Inv X c σ H s->yb x v->yb y u->r x y H Q ->
  subscripted a false v u=operate [v,u] (getItem v u)->wpAny (model X.prog X.w) X.A (subscriptTail e a v u) (EP X c σ Q) X.xe s
def MtR(X:Cx)(id:String)(r:V->Ls V->Hp->VK->Prop):Prop :=
 ∀(a:Ls (Lz×Obj)) (s:La) (σ:St) (H:Hp) (x:V) (e:Ls V) (v:Lv) (c:Ls Lv) (Q:VK),Inv X a σ H s->yb x v->yA e c->r x e H Q ->
  wpAny (model X.prog X.w) X.A (call (.builtin id) (v::c)) (EP X a σ Q) X.xe s
section
variable{X:Cx}{a b:Lb}{ta tb:TE}{pos:Pos}
def IxR.or{r g:R2}(h:IxR X r)(h':IxR X g):IxR X (λx y H Q=>r x y H Q\/g x y H Q):=by
 intro c a e s σ H x y v u Q I rx ry q hs;rcases q with q|q
 ·exact h c a e s σ H x y v u Q I rx ry q hs
 ·exact h' c a e s σ H x y v u Q I rx ry q hs
def MtR.or{id:String}{r e:V->Ls V->Hp->VK->Prop}(h:MtR X id r)(h':MtR X id e):MtR X id (λx c H Q=>r x c H Q\/e x c H Q):=by
 intro a s σ H x c v us Q I rx rs q;rcases q with q|q
 ·exact h a s σ H x c v us Q I rx rs q
 ·exact h' a s σ H x c v us Q I rx rs q
def pe_ix{r:R2}(e:IxR X r)(l:PE X a ta)(n:PE X b tb)(i:ZT b):PE X (.Subscript a b pos) (tOp r ta tb):=by
 intro c s σ H Q I h;exact Subscript_ (binT l n I h λv u k x y H2 I2 j g q=>e a b c k σ H2 x y v u Q I2 j g q (i _ _))
def rIxL(K:qH):R2:=λx y H Q=>∃p a i v,x=.ref p/\y=.int i/\SqL K H p a/\atI a i=some v/\Q v H
def rIxT(K:qH):R2:=λx y H Q=>∃p a i v,x=.ref p/\y=.int i/\SqT K H p a/\atI a i=some v/\Q v H
def zDw:IxR X (rIxL X.K):=by
 intro g k a s σ H x y v u Q I rx ry h hs;obtain⟨p,M,i,z,rfl,rfl,G,E,q⟩:=h;cases rx;obtain⟨t,rfl⟩:=ry;obtain⟨l,r,o,hz⟩:=I.list G;obtain⟨j,c,h2,L,h4,h5⟩:=zDv E;obtain⟨w,D,e⟩:=r.get h2;have hl:=r.length;have K:=QU;have fin:EP X a σ Q w s:=⟨z,H,I,e,q⟩;by_cases C:0<=i
 ·have n:i.toNat=j:=by
   rw[seqIndex_of C h5]at c;exact qJ c
  exact item_listR o.isList C (by omega) (by rw[n];exists D) fin hs
 ·have n:(i+(l.toArray.size:Int)).toNat=j:=by
   rw[seqIndex_neg (by omega) h4]at c;rw[size_toArray,<- hl];exact qJ c
  exact subscriptTail_builtinR (x:=w) o.isList.typeIs slot_list_getitem.lookup
   (wpAny_getItem_list_neg (Q:=λr J=>r=w/\EP X a σ Q r J) o.isList (by omega) (by rw[size_toArray]<;>omega) (by omega) (by rw[n];exists D) ⟨rfl,fin⟩) hs
def ix_tup:IxR X (rIxT X.K):=by
 intro e g a s σ H x y v u Q I rx ry h hs;obtain⟨p,K,i,z,rfl,rfl,n,l,q⟩:=h;cases rx;obtain⟨t,rfl⟩:=ry;obtain⟨D,r,k,hz⟩:=I.tuple n;obtain⟨j,o,h2,J,h4,h5⟩:=zDv l;obtain⟨w,C,c⟩:=r.get h2;have hl:=r.length;have G:=QU;have fin:EP X a σ Q w s:=⟨z,H,I,c,q⟩;exact subscriptTail_builtinR (x:=w) k.typeIs slot_tuple_getitem.lookup
  (getItem_tuple (j:=j) (Q:=λr E=>r=w/\EP X a σ Q r E) k (by omega) (by omega) (by rw[size_toArray,<- hl];exact o) (by exists C) ⟨rfl,fin⟩) hs
def zCz(a:Ls Lv)(n j:Nat)(u:Lv):Obj.mapSeq (·.setIfInBounds j u) {cls:=.type "list",data:=.seq a.toArray n}={cls:=.type "list",data:=.seq (a.set j u).toArray n}:=by
 simp[Obj.mapSeq]
theorem Inv.lst{c:Ls (Lz×Obj)}{σ:St}{H:Hp}{s:La}{p:Lz}{xs:Ls V}(I:Inv X c σ H s)(h:H p=some (.l xs)) :
  ∃(a:Ls Lv) (n:Nat),yA xs a/\s.heap.get? p=some {cls:=.type "list",data:=.seq a.toArray n}/\xs.length<=sizeLine:=by
 obtain⟨z,a,n,r,e⟩:=I.hok p _ h;exact⟨a,n,r,e,z⟩
def Inv.lstUpd{a:Ls (Lz×Obj)}{σ:St}{H:Hp}{s:La}{p:Lz}{xs ys:Ls V}{c its':Ls Lv}{n g:Nat}{f:Obj->Obj}(I:Inv X a σ H s)(h:H p=some (.l xs))
  (k:s.heap.get? p=some {cls:=.type "list",data:=.seq c.toArray n}) (i:f {cls:=.type "list",data:=.seq c.toArray n}={cls:=.type "list",data:=.seq its'.toArray g}) (r:yA ys its') (j:ys.length<=sizeLine) (t:Nat) :
  Inv X a σ (upd H p (.l ys)) {s with heap:=s.heap.update p f,toks:=t}:=by
 have e:(s.heap.update p f).get? p=some {cls:=.type "list",data:=.seq its'.toArray g}:=by
  rw[get?_update_self f k (by rw[i]<;>rfl),i]
 refine I.write (x:=p) (e:=p) (by rw[h];trivial) (.inl rfl) (λb u l q=>(Heap.get?_update_other _ _ (Ne.symm l)).trans q) ⟨_,e⟩ ?_;exact⟨j,its',g,r,e⟩
def rSetL:V->V->V->Hp->(Hp->Prop)->Prop:=λo i v H Q=>∃p a k j,o=.ref p/\i=.int k/\H p=some (.l a)/\ixN a.length k=some j/\Q (upd H p (.l (a.set j v)))
def zBn:PSet X rSetL:=by
 intro c s σ H o i v ov iv u Q I ro ri rv h;obtain⟨p,z,k,j,rfl,rfl,w,y,q⟩:=h;cases ro;obtain⟨t,rfl⟩:=ri;obtain⟨a,n,r,ho,hz⟩:=I.lst w;obtain⟨e,h2,l,h4⟩:=zDu y;have hl:=r.length;have C:=QU;have I':Inv X c σ (upd H p (.l (z.set j v))) {s with heap:=s.heap.update p (Obj.mapSeq (·.setIfInBounds j u))} :=
  I.lstUpd w ho (zCz a n j u) (r.set rv j) (by rw[List.length_set];exact hz) s.toks
 by_cases x:0<=k
 ·have g:k.toNat=j:=by
   rw[seqIndex_of x h4]at e;exact qJ e
  exact PySem.W.ki_setAt ho x (by omega) (by rw[size_toArray,<- hl];exact h4) (by rw[g];exact⟨_,I',q⟩)
 ·have g:(k+(a.toArray.size:Int)).toNat=j:=by
   rw[seqIndex_neg (by omega) l]at e;rw[size_toArray,<- hl];exact qJ e
  exact PySem.W.ki_setBack ho (by omega) (by rw[size_toArray,<- hl];exact l) (by omega) (by rw[g];exact⟨_,I',q⟩)
def Qa(lo hi:Lx Int)(n:Nat):(sliceBounds lo hi none n).1=((HT.sIx n 0 lo:Nat):Int)/\(sliceBounds lo hi none n).2.1=((HT.sIx n n hi:Nat):Int)/\(sliceBounds lo hi none n).2.2=1:=by
 refine⟨?_,?_,rfl⟩
 ·cases lo with
  |none=>simp[sliceBounds,HT.sIx]
  |some i =>
   dsimp[sliceBounds,HT.sIx,Option.getD_none,show(1:Int) > 0 by decide,if_true];by_cases h:i<0
   ·dsimp[h,if_true]<;>omega
   ·dsimp[h,if_false]<;>omega
 ·cases hi with
  |none=>simp[sliceBounds,HT.sIx]
  |some i =>
   dsimp[sliceBounds,HT.sIx,Option.getD_none,show(1:Int) > 0 by decide,if_true];by_cases h:i<0
   ·dsimp[h,if_true]<;>omega
   ·dsimp[h,if_false]<;>omega
def GL(a:Ls Lv)(lo hi:Lx Int):slicePick a.toArray lo hi none=((a.drop (HT.sIx a.length 0 lo)).take (HT.sIx a.length a.length hi-HT.sIx a.length 0 lo)).toArray:=by
 obtain⟨c,h2,e⟩:=Qa lo hi a.toArray.size;unfold slicePick;rw[c,h2,e];dsimp[sliceRange_one,pick_run,size_toArray]<;>rfl
def rSlL(K:qH):V->Lx Int->Lx Int->Hp->VK->Prop:=λx e g H Q=>∃a c,x=.ref a/\SqL K H a c/\∀p,H p=none->Q (.ref p) (upd H p (.l (zGS c e g)))
def sl_list:SlR X (rSlL X.K):=by
 intro g s σ H x v vl vu lo hi sl Q I rx hs pl pu h;obtain⟨a,c,rfl,i,q⟩:=h;cases rx;obtain⟨j,r,ht,hz⟩:=I.list i;have e:=r.length;refine⟨"list",_,slot_list_getitem.lookup,ht.isList.typeIs,?_⟩;refine wpAny_getItem_list_slice ht.isList hs pl pu .none (by simp) ?_ (by rw[size_toArray]<;>omega);rw[GL,<- e];refine⟨.ref s.heap.objs.size,_,I.laid (t':=s.toks) (o:=.l (zGS c lo hi)) (λb k q=>qA _ q) (le_refl _) ?_,rfl,q _ (I.hok.fresh (le_refl _))⟩;exact⟨le_trans (W0 c lo hi) hz,_,0,(r.drop (HT.sIx c.length 0 lo)).take (HT.sIx c.length c.length hi-HT.sIx c.length 0 lo),get?_push_size _ rfl⟩
def v6:V->Bool
 | .non=>true| .bl _=>true| .int _=>true| .str _=>true|_=>false
def eqV:V->V->Bool
 | .non,.non=>true| .bl a,.bl b=>a==b| .bl a,.int b=>(if a then 1 else 0)==b| .int a,.bl b=>a==(if b then 1 else 0)| .int a,.int b=>a==b| .str a,.str b=>a==b|_,_=>false
def zBo{A:Lg}{s:La}{y x:V}{u v:Lv}(h:yb y u)(c:yb x v)(i:v6 y=true)(g:v6 x=true):SeqAt.EqAt A s u v (eqV y x):=by
 cases y with
 |non =>
  cases h;cases x with
  |non=>cases c;exact SeqAt.EqAt.same _|bl b=>cases c;exact SeqAt.EqAt.none_bool b|int b=>obtain⟨t,rfl⟩:=c;exact SeqAt.EqAt.none_int b t|str b=>obtain⟨t,rfl⟩:=c;exact SeqAt.EqAt.none_str b t|_=>exact absurd (show false=true from g) qF
 |bl a =>
  cases h;cases x with
  |non=>cases c;exact SeqAt.EqAt.bool_none a|bl b=>cases c;exact SeqAt.EqAt.bool_bool a b|int b=>obtain⟨t,rfl⟩:=c;exact SeqAt.EqAt.bool_int a b t|str b=>obtain⟨t,rfl⟩:=c;exact SeqAt.EqAt.bool_str a b t|_=>exact absurd (show false=true from g) qF
 |int a =>
  obtain⟨e,rfl⟩:=h;cases x with
  |non=>cases c;exact SeqAt.EqAt.int_none a e|bl b=>cases c;exact SeqAt.EqAt.int_bool a e b|int b=>obtain⟨t,rfl⟩:=c;exact SeqAt.EqAt.int_int a e b t|str b=>obtain⟨t,rfl⟩:=c;exact SeqAt.EqAt.int_str a e b t|_=>exact absurd (show false=true from g) qF
 |str a =>
  obtain⟨e,rfl⟩:=h;cases x with
  |non=>cases c;exact SeqAt.EqAt.str_none a e|bl b=>cases c;exact SeqAt.EqAt.str_bool a e b|int b=>obtain⟨t,rfl⟩:=c;exact SeqAt.EqAt.str_int a e b t|str b=>obtain⟨t,rfl⟩:=c;exact SeqAt.EqAt.str_str a e b t|_=>exact absurd (show false=true from g) qF
 |_=>exact absurd (show false=true from i) qF
def eqU(x:V)(u:Lv):Bool:=match u with
 | .none=>eqV .non x| .bool b=>eqV (.bl b) x| .int i _=>eqV (.int i) x| .str z _=>eqV (.str z) x|_=>false
def zIO{x y:V}{u:Lv}(r:yb y u)(f:v6 y=true):eqU x u=eqV y x:=by
 cases y with
 |non=>cases r;rfl|bl b=>cases r;rfl|int i=>obtain⟨t,rfl⟩:=r;rfl|str z=>obtain⟨t,rfl⟩:=r;rfl|_=>exact absurd (show false=true from f) qF
theorem W1{x:V}:∀{a:Ls V} {c:Ls Lv},yA a c->a.all v6=true->c.any (eqU x)=a.any λy=>eqV y x
 |_,_,.nil,_=>rfl
 |y::a,u::c,.cons r t,f=>by
  rw[all_cons,Bool.and_eq_true]at f;rw[any_cons,any_cons,zIO r f.1,W1 t f.2]
theorem Yy{A:Lg}{s:La}{x:V}{v:Lv}(g:yb x v)(e:v6 x=true):∀{c:Ls V} {a:Ls Lv},yA c a->c.all v6=true->∀u∈a,SeqAt.EqAt A s u v (eqU x u)
 |_,_,.nil,_=>λu hu=>by cases hu
 |y::c,u::a,.cons r t,f=>λh hu=>by
  rw[all_cons,Bool.and_eq_true]at f;rcases mem_cons.mp hu with rfl|hu
  ·rw[zIO r f.1];exact zBo r g f.1 e
  ·exact Yy g e t f.2 h hu
def inV(x:V)(xs:Ls V):Bool:=xs.any λy=>eqV y x
def rIn(K:qH)(neg:Bool):R2:=λx y H Q=>∃p a,y=.ref p/\(SqL K H p a\/SqT K H p a)/\v6 x=true/\a.all v6=true/\Q (.bl (if neg then !inV x a else inV x a)) H
def Qb:OpR X (compareOp .In) (rIn X.K false):=by
 intro j s σ H x y v u Q I rx ry h;obtain⟨p,k,rfl,c,i,fs,q⟩:=h;cases ry;rcases c with c|c
 ·obtain⟨a,r,g,hz⟩:=I.list c
  refine SeqAt.in_listAt (eqU x) g.isList (λw e=>Yy rx i r fs w (by exists e)) ⟨.bl _,H,I,rfl,?_⟩;rw[show a.toArray.any (eqU x)=a.any (eqU x)by simp,W1 r fs];exact q
 ·obtain⟨a,r,g,hz⟩:=I.tuple c
  refine SeqAt.in_tupleAt (eqU x) g (λw e=>Yy rx i r fs w (by exists e)) ⟨.bl _,H,I,rfl,?_⟩;rw[show a.toArray.any (eqU x)=a.any (eqU x)by simp,W1 r fs];exact q
def Z4:OpR X (compareOp .NotIn) (rIn X.K true):=by
 intro j s σ H x y v u Q I rx ry h;obtain⟨p,k,rfl,c,i,fs,q⟩:=h;cases ry;rcases c with c|c
 ·obtain⟨a,r,g,hz⟩:=I.list c
  refine SeqAt.notIn_listAt (eqU x) g.isList (λw e=>Yy rx i r fs w (by exists e)) ⟨.bl _,H,I,rfl,?_⟩;rw[show a.toArray.any (eqU x)=a.any (eqU x)by simp,W1 r fs];exact q
 ·obtain⟨a,r,g,hz⟩:=I.tuple c
  refine SeqAt.notIn_tupleAt (eqU x) g (λw e=>Yy rx i r fs w (by exists e)) ⟨.bl _,H,I,rfl,?_⟩;rw[show a.toArray.any (eqU x)=a.any (eqU x)by simp,W1 r fs];exact q
def Z5:j6 X (.builtin "len") (λk H Q=>∃p c,k=[.ref p]/\(SqL X.K H p c\/SqT X.K H p c)/\Q (.int c.length) H):=by
 intro l s σ H k us Q I r h;obtain⟨p,c,rfl,e,q⟩:=h;obtain⟨u,rfl,n⟩:=GJ r;cases n;have o:=QU;rcases e with e|e
 ·obtain⟨i,g,j,hz⟩:=I.list e
  have a:=g.length;exact Calls.call_len_list j.isList (by dsimp[size_toArray]<;>omega) ⟨.int c.length,H,I.tok _,⟨s.toks+1,by rw[size_toArray,a]⟩,q⟩
 ·obtain⟨i,g,j,hz⟩:=I.tuple e
  have a:=g.length;exact len_tuple j (by dsimp[size_toArray]<;>omega) ⟨.int c.length,H,I.tok _,⟨s.toks+1,by rw[size_toArray,a]⟩,q⟩
def j6.or{f:Lv}{r e:Ls V->Hp->VK->Prop}(h:j6 X f r)(h':j6 X f e):j6 X f (λc H Q=>r c H Q\/e c H Q):=by
 intro a s σ H c us Q I rs q;rcases q with q|q
 ·exact h a s σ H c us Q I rs q
 ·exact h' a s σ H c us Q I rs q
def GM:j6 X (.type "tuple") (λv H Q=>∃p g,v=[.ref p]/\((SqL X.K H p g/\∀l,H l=none->Q (.ref l) (upd H l (.t g)))\/(SqT X.K H p g/\Q (.ref p) H))):=by
 intro a s σ H v us Q I r h;obtain⟨p,g,rfl,h⟩:=h;obtain⟨u,rfl,w⟩:=GJ r;cases w;rcases h with⟨k,q⟩|⟨k,q⟩
 ·obtain⟨c,j,n,hz⟩:=I.list k
  have t:=j.length;refine call_tuple_list n.isList (λi kp=>?_) (by dsimp[size_toArray]<;>omega);have I1:Inv X a σ H {s with heap:=i}:=I.kept (t':=s.toks) kp
  have I2:Inv X a σ (upd H i.objs.size (.t g)) {s with heap:=i.push {cls:=.type "tuple",data:=.seq c.toArray}} :=
   I1.laid (t':=s.toks) (λb o e=>qA _ e) (le_refl _) (show jL X.prog X.w _ _ _ (.t g)from⟨hz,c,j,IsTup.new _ _⟩)
  exact⟨.ref i.objs.size,_,I2,rfl,q _ (I1.hok.fresh (le_refl _))⟩
 ·obtain⟨c,j,n,hz⟩:=I.tuple k
  exact call_tuple_same n ⟨.ref p,H,I,rfl,q⟩
def tyV(K:qH)(T:String)(x:V)(H:Hp):Prop:=match x with
 | .str _=>T="str"| .int _=>T="int"
 | .ref p=>(T="list"/\∃c,SqL K H p c)\/(T="tuple"/\∃o,K.lookup p=some o/\o.cls=.type "tuple"/\o.dict=none) \/
   (T="dict"/\((∃a,H p=some (.dK a))\/∃a,H p=some (.dT a)))\/(T="set"/\∃S n,H p=some (.set S n))
 |_=>False
def tyV_is{j:Ls (Lz×Obj)}{σ:St}{H:Hp}{s:La}{T:String}{x:V}{v:Lv}(I:Inv X j σ H s)(r:yb x v)(k:tyV X.K T x H) :
  s.TypeIs v T/\∀a,v=.ref a->∃u,s.heap.get? a=some u/\u.dict=none:=by
 cases x with
 |str z =>
  obtain⟨t,rfl⟩:=r;cases (show T="str" from k);exact⟨typeIs_str s z t,λ_ e=>nomatch e⟩
 |int i =>
  obtain⟨t,rfl⟩:=r;cases (show T="int" from k);exact⟨typeIs_int s i t,λ_ e=>nomatch e⟩
 |ref p =>
  cases r;rcases k with⟨rfl,E,y⟩|⟨rfl,o,g,C,hd⟩|⟨rfl,g⟩|⟨rfl,S,n,g⟩
  ·obtain⟨D,_,w,_⟩:=I.list y
   refine⟨w.isList.typeIs,λa e=>?_⟩;cases e;obtain⟨o,n,e,c,hd,_⟩:=w;exact⟨o,e,hd⟩
  ·refine⟨⟨o,I.kIn p o g,C⟩,λa e=>?_⟩
   cases e;exact⟨o,I.kIn _ o g,hd⟩
  ·have z:∃o,s.heap.get? p=some o/\o.ExactDict:=by
    rcases g with⟨l,g⟩|⟨l,g⟩
    ·obtain⟨_,_,_,_,o,_,_,e,h,_⟩:=I.hok p _ g
     exact⟨o,e,h⟩
    ·obtain⟨_,_,_,_,o,_,_,e,h,_⟩:=I.hok p _ g
     exact⟨o,e,h⟩
   obtain⟨o,e,h⟩:=z;refine⟨⟨o,e,h.1⟩,λa q=>?_⟩;cases q;exact⟨o,e,h.2.1⟩
  ·obtain⟨o,_,_,_,e,h,_⟩:=I.hok p _ g
   refine⟨⟨o,e,h.1⟩,λa q=>?_⟩;cases q;exact⟨o,e,h.2.1⟩
 |_=>exact False.elim k
def tBM(K:qH)(T:String)(r:V->Ls V->Hp->VK->Prop)(a:TE)(t:TA):TE:=λσ H Q=>a σ H λx H1=>tyV K T x H1/\t σ H1 λc H2=>r x c H2 Q
variable{o e:Lb}{es:Ls Lb}{to:TE}{t:TA}{name:Str}{apos cpos:Pos}{T id:String}{r:V->Ls V->Hp->VK->Prop}
def pe_bm(E:PlainAttrs T)(k:Slot T name id)(l:typeOf (.builtin id)=pure (.type "method_descriptor"))(D:MtR X id r)(y:PE X o to)(z:PA X (e::es) t)
  (i:attributeBase o name X.env (eval o X.env)=eval o X.env:=by rfl)
  (j:((backTo cpos (starEach (e::es) X.env)).all (λx=>!x.1)&&(backToKw cpos (keywordEach [] X.env)).all (λx=>x.1.isSome)
   && decide ((e::es).length+([]:Ls Keyword).length+(if([]:Ls Keyword).isEmpty then 0 else 1)<30))=true:=by rfl)
  (g:(apos.endLine==cpos.line)=true:=by rfl) (q:starEach (e::es) X.env=(false,eval e X.env)::starEach es X.env:=by rfl) (c:(backTo cpos (starEach es X.env)).any (·.1)=false:=by rfl) :
  PE X (.Call (.Attribute o name apos) (e::es) [] cpos) (tBM X.K T r to t):=by
 intro a s σ H Q I h;refine wpAny_Call_method_late i j g rfl (thn (y a s σ H _ I h) λv C ⟨x,H1,I1,n,ty,M⟩=>?_);obtain⟨J,h2⟩:=tyV_is I1 n ty;refine⟨T,id,E,k,l,J,h2,?_⟩;have p:=z cpos a C σ H1 _ I1 M;rw[q]at p ⊢;refine Calls.callWith_builtin (by show(false||(backTo cpos (starEach es X.env)).any (·.1))=false;rw[c]<;>rfl) (Calls.evalArgs_plain ?_);exact thn p λK L ⟨w,H2,I2,u,G⟩=>D a L σ H2 x w v K Q I2 n u G
end
def MtM(X:Cx)(id:String)(r:V->Ls V->Hp->VK->Prop):Prop :=
 ∀(a:Ls (Lz×Obj)) (s:La) (σ:St) (H:Hp) (x:V) (e:Ls V) (v:Lv) (c:Ls Lv) (Q:VK),Inv X a σ H s->yb x v->yA e c->r x e H Q ->
  wpAny (model X.prog X.w) X.A (call (.builtin id) (v::c)) (EP X a σ Q) X.xe s
def yA.one:∀{x:V} {a:Ls Lv},yA [x] a->∃u,a=[u]/\yb x u
 |_,_,.cons r .nil=>⟨_,rfl,r⟩
def yA.two:∀{x y:V} {a:Ls Lv},yA [x,y] a->∃u v,a=[u,v]/\yb x u/\yb y v
 |_,_,_,.cons r (.cons q .nil)=>⟨_,_,rfl,r,q⟩
def yA.zero:∀{a:Ls Lv},yA [] a->a=[]
 |_,.nil=>rfl
theorem yA.dropLast{xs:Ls V}{a:Ls Lv}(h:yA xs a):yA xs.dropLast a.dropLast:=by
 induction h with
 |nil=>exact .nil
 |cons r t c =>
  cases t with
  |nil=>exact .nil|cons q e=>exact .cons r c
theorem yA.eraseIdx:∀{c:Ls V} {a:Ls Lv} (i:Nat),yA c a->yA (c.eraseIdx i) (a.eraseIdx i)
 |_,_,_,.nil=>.nil|_,_,0,.cons _ t=>t|_,_,i+1,.cons r t=>.cons r (yA.eraseIdx i t)
theorem yA.reverse{xs:Ls V}{a:Ls Lv}(h:yA xs a):yA xs.reverse a.reverse:=by
 induction h with
 |nil=>exact .nil|cons r t c=>rw[reverse_cons,reverse_cons];exact yA.append c (.cons r .nil)
theorem yA.rep{xs:Ls V}{a:Ls Lv}(h:yA xs a):∀k:Nat,yA (replicate k xs).flatten (replicate k a).flatten
 |0=>.nil
 |k+1=>by
  rw[replicate_succ,replicate_succ,flatten_cons,flatten_cons];exact yA.append h (yA.rep h k)
theorem W2(a:Ls Lv):∀(k:Nat) (c:Ls Lv),
  foldl (λi g=>i++g) c.toArray (replicate k a.toArray)=(c++(replicate k a).flatten).toArray
 |0,c=>by simp
 |k+1,c=>by
  have e:c.toArray++a.toArray=(c++a).toArray:=by simp
  have h:(c++a)++(replicate k a).flatten=c++(replicate (k+1) a).flatten:=by
   rw[replicate_succ,flatten_cons,append_assoc]
  rw[<- h,<- W2 a k (c++a),<- e,replicate_succ,foldl_cons]
section
variable{X:Cx}{pins:Ls (Lz×Obj)}{σ:St}{H:Hp}{s:La}{l b:Lz}{xs ys zs:Ls V}
def Inv.lset{a its':Ls Lv}{n:Nat}{f:Lh->Lh}{t':Nat}(I:Inv X pins σ H s)(c:H l=some (.l xs))
  (e:s.heap.get? l=some {cls:=.type "list",data:=.seq a.toArray n}) (i:f a.toArray=its'.toArray) (g:yA ys its') (h:ys.length<=sizeLine) :
  Inv X pins σ (upd H l (.l ys)) {s with heap:=s.heap.update l (Obj.mapSeq f),toks:=t'}:=by
 have q:=PySem.IsL.update e f;rw[i]at q;refine I.write (x:=l) (e:=l) (by rw[c];exact trivial) (.inl rfl) (λk u j hu=>(Heap.get?_update_other s.heap (Obj.mapSeq f) (Ne.symm j)).trans hu) ⟨_,q⟩ ?_;exact⟨h,its',_,g,q⟩
def Inv.lnew{a:Ls Lv}{t':Nat}(I:Inv X pins σ H s)(e:yA ys a)(c:ys.length<=sizeLine) :
  Inv X pins σ (upd H s.heap.objs.size (.l ys)) {s with heap:=s.heap.push {cls:=.type "list",data:=.seq a.toArray},toks:=t'} :=
 I.laid (λ_ _ q=>qA _ q) (le_refl _) ⟨c,a,0,e,get?_push_size _ rfl⟩
theorem Inv.fresh(I:Inv X pins σ H s):H s.heap.objs.size=none:=I.hok.fresh (le_refl _)
def Inv.lstM(I:Inv X pins σ H s)(c:H l=some (.l xs)):xs.length<=sizeLine/\∃(a:Ls Lv) (n:Nat),yA xs a/\xs.length=a.length/\s.heap.get? l=some {cls:=.type "list",data:=.seq a.toArray n}:=by
 obtain⟨z,a,n,r,e⟩:=I.hok l _ c;exact⟨z,a,n,r,r.length,e⟩
def zGT{n:Nat}(h:n<=sizeLine):Builtin.List.listTooLong n=false:=by
 unfold Builtin.List.listTooLong;exact decide_eq_false (by omega)
end
section
variable{X:Cx}
def zDx:V->Ls V->Hp->VK->Prop:=λx c H Q=>∃l a y,x=.ref l/\c=[y]/\H l=some (.l a)/\a.length<sizeLine/\Q .non (upd H l (.l (a++[y])))
def Qc:MtM X "list.append" zDx:=by
 intro g s σ H x vs v us Q I rx rv h;obtain⟨l,j,y,rfl,rfl,c,hz,q⟩:=h;cases rx;obtain⟨u,rfl,i⟩:=rv.one;obtain⟨z,a,n,r,hl,e⟩:=I.lstM c;refine call_meets F.slot_list_append ⟨_,e,rfl⟩ F.entry_list_append (F.args_list_append_2 _ _) (PySem.list_append l a.toArray n u (by rw[size_toArray];omega)) ⟨e,?_⟩;refine⟨.non,_,I.lset (its':=a++[u]) c e (by simp) (r.append (.cons i .nil)) ?_,rfl,q⟩;rw[length_append,length_singleton];omega
def zAj{α:Type}(xs:Ls α)(k:Nat):(replicate k xs).flatten.length=k*xs.length:=by
 induction k with
 |zero=>simp|succ k a=>rw[replicate_succ,flatten_cons,length_append,a,Nat.succ_mul,add_comm]
end
end L2
namespace Att
open PySem PySem.W PySem.Calls PyProof.Rows
def W3{P:Params}{h:Heap}:∀(ns:Ls Int) (c:Ls Lv),WellAll P h c (ns.map WData.int)->IntsAre c ns:=by
 intro ns
 induction ns with
 |nil =>
  intro c w;rw[map_nil]at w;cases w;exact .nil
 |cons n ns e =>
  intro c w;rw[map_cons]at w;cases w with
  |cons a b =>
   cases a;exact .cons _ _ (e _ b)
def zDy{l:OpenLaw}{n:Nat}(hn:l.most=some n){P:Params}{h:Heap}{args:Ls WData}{g:Ls Lv}
  (e:l.row.toRowW.claim.pre args=true) (o:WellAll P h g args) :
  ∃a p c,g=[Value.ref a]/\args=[WData.list (c.map WData.int)]/\h.get? a=some {cls:=.type "list",data:=.seq p.toArray}/\IntsAre p c/\c.length<=n:=by
 have k:WShape.hasAll [] args [.list .int]=true:=(pre_splitW e).1;have t:l.pre.holds [] {args:=args}=true:=(pre_splitW e).2;obtain⟨d,r,rfl,u,h2⟩:=hasAllW_cons k;obtain rfl:=hasAllW_nil h2;obtain⟨z,rfl,w⟩:=hasW_list u;obtain⟨c,rfl⟩:=items_int w;have i:c.length<=n:=by
  unfold OpenLaw.pre at t;have h4:(WTm.not (.lt (.lit (.int (n:Int))) (.len (.arg 0)))).holds [] {args:=[.list (c.map .int)]}=true:=by
   have h4:=(holds_andW t).1;rw[hn]at h4;exact h4
  have h5:=condW_of h4 (w_not (w_lt w_lit (w_len_list (w_arg rfl))));rw[length_map]at h5;refine Nat.le_of_not_lt λq=>?_
  have y:(n:Int)<((c.length:Nat):Int):=by omega
  first
   | (rw[decide_eq_true y]at h5;exact absurd h5 (by decide))
   | (simp at h5;omega)
 cases o with
 |cons x v =>
  cases v;cases x with
  |list ho j=>exact⟨_,_,c,rfl,rfl,ho,W3 c _ j,i⟩
def zDz(l:OpenLaw)(args:Ls WData):l.row.toRowW.claim.post args (.bool true) args=true :=
 postW_of (r:=l.row.toRowW) (X:=(true==true))
  (show WShape.has [] (.bool true) .bool=true by first|rfl|decide|simp[WShape.has,WShape.arms,WShape.armsAll])
  (show(WTm.eq .res (.lit (.bool true))).value [] {args:=args,res:=some (.bool true),after:=args}=some (.bool (true==true))from w_eq_bool (w_res rfl) w_lit) rfl
def attach_call{l:OpenLaw}{n:Nat}{q:Lc}{loose:Ls Str}{XP:(Str->Lx Lv)->Heap->Prop}{YP:Le->Heap->Prop}{d:DefRec}
  (hn:l.most=some n) (H:d.params.defaults=[])
  (k:∀(w:Le) (e c:La) (y D:Str->Lx Lv) (t:Lz) (o:Obj) (E v h:Lv) (a:Lz) (i:Ls Lv) (x:Ls Int),
   Ground q loose [] XP w e y D c.heap->YP w c.heap ->
   c.heap.get? t=some o->o.data=.func (docDef d.name d.params d.body d.scope E v h)->c.heap.CodeRec v d.name->y d.name=some (.ref t) ->
   c.heap.get? a=some {cls:=.type "list",data:=.seq i.toArray}->IntsAre i x->x.length<=n->c.gens=#[] ->
   codeAny (model l.prog w) callerA (.call (.ref t) ⟨[.ref a],[]⟩) (λr z=>r=.ok (.ret (.bool true))/\OldK c.heap z.heap/\z.os=c.os/\AllBare z.gens) c) :
  WalkO q loose XP YP l.row.toRowW d [] (λf i=>PySem.call f i):=by
 intro w e c y D G Y t o E v h X kV ho hd J M I O K vals as p L W C Q;obtain rfl:X=.none:=Dflts.none M H;obtain rfl:kV=.none:=Dflts.noKw M;obtain⟨a,i,x,rfl,rfl,u,g,j⟩:=zDy hn p C;refine enter_call (codeAny_mono (k w e c y D t o E v h a i x G Y ho (fd_plain hd) J I u g j O) λr z R=>?_);obtain⟨rfl,h2,S,h4⟩:=R;exact⟨.inl ⟨.bool true,.bool true,[],rfl,λ_=>rfl,.bool true,zDz l _,λ_=>⟨List.Pairwise.nil,λ_ V=>(nomatch V)⟩⟩,h2,S,h4⟩
end Att
namespace L2
open PySem PySem.Spec PyProof.Rows
theorem Qd:∀{a:Ls Lv} {c:Ls Int},IntsAre a c->yA (c.map V.int) a
 |_,_,.nil=>.nil|_,_,.cons n t h=>.cons ⟨t,rfl⟩ (Qd h)
def Only(H:Hp):Prop:=∀b,H b=none\/∃o a,H b=some (.frz o (.l a))
def zGU{P:Lc}{w:Le}{K:qH}{E Y:Str->Lx Lv}{CX:CXT}{k:Nat}{Z a:Lz}{fd:FuncData}{x:Str}{sp:Sp}{c:La}{vs:Ls Lv}{D:Ls Int}
  (KX:K.In c.heap) (C:c.heap.Ns mainGlobals E) (i:c.heap.Ns builtinsNs Y) (W:∀x:Str,x≠"__name__"->Y x=bootBuiltins x) (G:c.heap.NoLimit) (hg:c.gens=#[])
  (S:c.heap.get? a=some {cls:=.type "list",data:=.seq vs.toArray}) (hi:IntsAre vs D) (hl:D.length<=sizeLine) (hr:Room k callerA)
  (F:∀j:Heap,K.In j->j.Ns mainGlobals E->FnOk P w K E j CX k Z fd [x] sp) (y:∀(s:La) (u:Lv),BindsTo s fd ⟨[u],[]⟩ [(x,u)])
  (ac:∀H:Hp,Only H->SqL K H a (D.map V.int)->sp [.ref a] H (λv _=>v=.bl true) λ_ _ _=>False)
  (aa:∀H e l,CX [] H c (λ_ _ _=>False) e l->False) :
  codeAny (model P w) callerA (.call (.ref Z) ⟨[.ref a],[]⟩) (λr l=>r=.ok (.ret (.bool true))/\OldK c.heap l.heap/\l.os=c.os/\AllBare l.gens) c:=by
 have rv:=Qd hi;have J:=hi.length
 -- from an abstract heap in which nothing but the script may be tracked
 have t:∀H:Hp,Only H->SqL K H a (D.map V.int)->HOk P w H c.heap->(∀b,H b≠none->b=a)->(H a≠none->K.lookup a=none) ->
   codeAny (model P w) callerA (.call (.ref Z) ⟨[.ref a],[]⟩) (λr l=>r=.ok (.ret (.bool true))/\OldK c.heap l.heap/\l.os=c.os/\AllBare l.gens) c:=by
  intro H hO hS R hA hK;have g:∀{b:Lz} {o:Obj},c.heap.get? b=some o->H b=none->(zGE c.heap H).get? b=some o:=λe n=>zGF e n
  have ab:∀{b:Lz} {o:Obj} {Q:Array DictEntry} {ep:Nat},c.heap.get? b=some o->o.data=.dict Q ep->H b=none:=λ{b o Q ep} e d=>by
   cases q:H b with
   |none=>rfl
   |some u =>
    have e':b=a:=hA b (by rw[q];simp);subst e';rw[S]at e;cases e;have d':Data.seq vs.toArray _=Data.dict Q ep:=d;cases d'
  have p:∀{b:Lz} {m:Str->Lx Lv},c.heap.Ns b m->(zGE c.heap H).Ns b m:=λ{b m} ⟨o,Q,ep,e,d,r⟩=>⟨o,Q,ep,g e (ab e d),d,r⟩
  have M:K.In (zGE c.heap H):=λb o e=>g (KX b o e) (by
   cases q:H b with
   |none=>rfl
   |some u =>
    have e':b=a:=hA b (by rw[q];simp);subst e';rw[hK (by rw[q];simp)]at e;cases e)
  have hM:Mod K E (zGE c.heap H):=⟨M,p C,⟨Y,p i,W⟩,let ⟨mc,h1,h2⟩:=G;⟨mc,p h1,h2⟩⟩;have e0:Env0 P w K E (zGE c.heap H) callerA [] c H:=⟨rfl,hM,λb o e=>of_hidT e,Nat.le_of_eq (zDZ _ _),trivial,λb i=>absurd (show b∈([]:Ls Lz)from i) (by simp),R,.of_eq hg⟩;refine codeAny_mono ((F _ M (p C)).run callerA [] c H ⟨[.ref a],[]⟩ [.ref a] [.ref a] _ _ hr e0 (y c (.ref a)) (.cons rfl .nil) (ac H hO hS)) λr l h=>?_
  cases r with
  |error e=>exact(aa H e l h).elim
  |ok fl =>
   cases fl with
   |next=>exact False.elim h|brk=>exact False.elim h|cont=>exact False.elim h
   |ret u =>
    obtain⟨v,H',os,O,un,I,r',q⟩:=h;have q':v=.bl true:=q;subst q';obtain rfl:u=Value.bool true:=r';refine⟨rfl,OldK.of_keep λb o e=>?_,os,O⟩;cases q:H b with
    |none=>exact un.keep b o e q (by intro z;exact absurd (show b∈([]:Ls Lz)from z) (by simp)) (by simp)
    |some u =>
     rcases hO b with z|⟨ob,xs,z⟩
     ·rw[q]at z;cases z
     ·have z2:=un.frzs b ob _ z
      obtain⟨e1,_⟩:=R b _ z;obtain⟨e2,_⟩:=I b _ z2;rw[e]at e1;cases e1;exact e2
 cases X:K.lookup a with
 |some o =>
  -- the script is one of the module's own objects
  have e:=KX a o X;rw[S]at e;cases e;refine t (λ_=>none) (λ_=>.inl rfl) (.inr ⟨_,vs.toArray,_,X,rfl,rfl,rfl,by rw[size_toArray,J];exact hl,by exists rv⟩) (λb u z=>by have L:(none:Lx HO)=some u:=z;cases L) (λb z=>absurd rfl z) λz=>absurd rfl z
 |none =>
  refine t (λb=>if b=a then some (.frz {cls:=.type "list",data:=.seq vs.toArray} (.l (D.map V.int)))else none) (λb=>?_) (.inl (.inr ⟨{cls:=.type "list",data:=.seq vs.toArray},if_pos rfl⟩)) (λb u z=>?_) (λb z=>?_) λ_=>X
  ·by_cases i:b=a
   ·exact .inr ⟨_,_,if_pos i⟩
   ·exact .inl (if_neg i)
  ·by_cases i:b=a
   ·have L:=(if_pos i).symm.trans z
    cases L;subst i;exact⟨S,by rw[length_map];exact hl,vs,_,rv,S⟩
   ·have L:=(if_neg i).symm.trans z
    cases L
  ·by_cases i:b=a
   ·exact i
   ·exact absurd (if_neg i) z
abbrev CX0:CXT:=λ_ _ _ _ _ _=>False
abbrev E0:XK:=λ_ _ _=>False
structure Fun(K:qH)(x qual:Str)(st:Lf)(f:Lz)(fd:FuncData):Prop where
 ex:∃(oc:Lv) (od:Option Lz) (kV doc pm:Lv) (an:Option Lz) (cdv ct:Lv) (osl:Array (Lo)),
  fd=fnOf x qual (YT st) (jK st) (ze st) .none kV doc pm an cdv ct/\K.lookup f=some ⟨oc,od,.func fd,osl⟩/\codeIn K cdv qual=true
 kp:keepIn K (.ref f)=true
section
variable{P:Lc}{w:Le}{K:qH}{mg:Str->Lx Lv}{base:Heap}
def Fun.ok{x a:Str}{st:Lf}{f:Lz}{o:FuncData}{N l:Ls Str}{k:Nat}{sp:Sp}(F:Fun K x a st f o)(S:FnScope N l (ze st))(j:∀e H Q E,sp e H Q E->e.length=l.length)
  (g:∀(c:Lv) (A:Lg) (outer:Ls Env) (s:La) (H:Hp) (e:Ls V) (Q:VK) (E:XK),Room k (A.deeper (envOfC a (ze st) s.heap.objs.size f c))->sp e H Q E ->
   ∃t,PSs (zIN CX0 P w K mg base N a (ze st) f c A outer s H E).nox (jK st) t/\t {nx:=λ_ H'=>Q .non H',rt:=Q} (wK N e) H):FnOk P w K mg base CX0 (k+1) f o l sp:=by
 obtain⟨D,y,kV,v,C,z,c,G,r,rfl,u,i⟩:=F.ex;refine fn_of u i S j λA outer s H e Q E p n=>?_
 obtain⟨t,h,q⟩:=g c A outer s H e Q E p n;exact⟨t,h.nox,q⟩
def Fun.binds{x a:Str}{st:Lf}{f:Lz}{n:FuncData}{k:Ls Str}(F:Fun K x a st f n)
  (h:∀(kV c i:Lv) (g:Lx Lz) (e l:Lv) (j:Ls Lv),j.length=k.length->bindArgs (fnOf x a (YT st) (jK st) (ze st) .none kV c i g e l) ⟨j,[]⟩=pure (k.zip j)):ZS K n k []:=by
 obtain⟨t,q,kV,c,i,g,e,l,o,rfl,r,p⟩:=F.ex;exact .all (h kV c i g e l)
def zIP{x a:Str}{st:Lf}{f:Lz}{oc:Lv}{o j:Lx Lz}{h:Lm}{i g n e ct:Lv}(l:K.lookup f=some ⟨oc,o,.func (fnOf x a (YT st) (jK st) (ze st) .none i g n j e ct),h⟩)
  (c:codeIn K e a=true) (k:keepIn K (.ref f)=true):Fun K x a st f (fnOf x a (YT st) (jK st) (ze st) .none i g n j e ct):=⟨⟨oc,o,i,g,n,j,e,ct,h,rfl,l,c⟩,k⟩
end
def zGV{A B:Prop}(h:B):if false=true then A else B:=by
 rw[if_neg qF];exact h
def zGW{A B:Prop}(h:A):if true=true then A else B:=by
 rw[if_pos rfl];exact h
def YU(H a:Hp):Prop:=∀b o,H b=some o->a b=some o
def YU.refl(H:Hp):YU H H:=λ_ _ h=>h
def YU.trans{H H1 H2:Hp}(a:YU H H1)(b:YU H1 H2):YU H H2:=λc o h=>b c o (a c o h)
def YU.free{H a:Hp}(e:YU H a){l:Lz}(h:a l=Option.none):H l=Option.none:=by
 cases q:H l with
 |none=>rfl
 |some o =>
  rw[e l o q]at h;cases h
def YU.seq{K:qH}{H c:Hp}{a:Lz}{xs:Ls V}(e:YU H c)(h:SqL K H a xs):SqL K c a xs:=by
 rcases h with(h|⟨o,h⟩)|h
 ·exact .inl (.inl (e _ _ h))
 ·exact .inl (.inr ⟨o,e _ _ h⟩)
 ·exact .inr h
end L2
namespace DV
open PySem
@[elab_as_elim] def qAnd{M:BoolOp->Type}[∀e,Inhabited (M e)](e:BoolOp)(f:M .And):M e:=match e with
 | .And=>f|_=>default
@[elab_as_elim] def qAssign{M:Lf->Type}[∀e,Inhabited (M e)](e:Lf)(f:∀a b c,M (.Assign a b c)):M e:=match e with
 | .Assign a b c=>f a b c|_=>default
@[elab_as_elim] def qAttribute{M:Lb->Type}[∀e,Inhabited (M e)](e:Lb)(f:∀a b c,M (.Attribute a b c)):M e:=match e with
 | .Attribute a b c=>f a b c|_=>default
@[elab_as_elim] def qAugAssign{M:Lf->Type}[∀e,Inhabited (M e)](e:Lf)(f:∀a b c d,M (.AugAssign a b c d)):M e:=match e with
 | .AugAssign a b c d=>f a b c d|_=>default
@[elab_as_elim] def qBinOp{M:Lb->Type}[∀e,Inhabited (M e)](e:Lb)(f:∀a b c d,M (.BinOp a b c d)):M e:=match e with
 | .BinOp a b c d=>f a b c d|_=>default
@[elab_as_elim] def qBoolOp{M:Lb->Type}[∀e,Inhabited (M e)](e:Lb)(f:∀a b c,M (.BoolOp a b c)):M e:=match e with
 | .BoolOp a b c=>f a b c|_=>default
@[elab_as_elim] def qCall{M:Lb->Type}[∀e,Inhabited (M e)](e:Lb)(f:∀a b c d,M (.Call a b c d)):M e:=match e with
 | .Call a b c d=>f a b c d|_=>default
@[elab_as_elim] def qCompare{M:Lb->Type}[∀e,Inhabited (M e)](e:Lb)(f:∀a b c d,M (.Compare a b c d)):M e:=match e with
 | .Compare a b c d=>f a b c d|_=>default
@[elab_as_elim] def qConstant{M:Lb->Type}[∀e,Inhabited (M e)](e:Lb)(f:∀a b c,M (.Constant a b c)):M e:=match e with
 | .Constant a b c=>f a b c|_=>default
@[elab_as_elim] def qDict{M:Lb->Type}[∀e,Inhabited (M e)](e:Lb)(f:∀a b c,M (.Dict a b c)):M e:=match e with
 | .Dict a b c=>f a b c|_=>default
@[elab_as_elim] def qDictComp{M:Lb->Type}[∀e,Inhabited (M e)](e:Lb)(f:∀a b c d e,M (.DictComp a b c d e)):M e:=match e with
 | .DictComp a b c d e=>f a b c d e|_=>default
@[elab_as_elim] def qExceptHandler{M:ExceptHandler->Type}[∀e,Inhabited (M e)](e:ExceptHandler)(f:∀a b c d,M (.ExceptHandler a b c d)):M e:=match e with
 | .ExceptHandler a b c d=>f a b c d
@[elab_as_elim] def qExpr{M:Lf->Type}[∀e,Inhabited (M e)](e:Lf)(f:∀a b,M (.Expr a b)):M e:=match e with
 | .Expr a b=>f a b|_=>default
@[elab_as_elim] def qFor{M:Lf->Type}[∀e,Inhabited (M e)](e:Lf)(f:∀a b c d e,M (.For a b c d e)):M e:=match e with
 | .For a b c d e=>f a b c d e|_=>default
@[elab_as_elim] def qIf{M:Lf->Type}[∀e,Inhabited (M e)](e:Lf)(f:∀a b c d,M (.If a b c d)):M e:=match e with
 | .If a b c d=>f a b c d|_=>default
@[elab_as_elim] def qIfExp{M:Lb->Type}[∀e,Inhabited (M e)](e:Lb)(f:∀a b c d,M (.IfExp a b c d)):M e:=match e with
 | .IfExp a b c d=>f a b c d|_=>default
@[elab_as_elim] def qList{M:Lb->Type}[∀e,Inhabited (M e)](e:Lb)(f:∀a b,M (.List a b)):M e:=match e with
 | .List a b=>f a b|_=>default
@[elab_as_elim] def qListComp{M:Lb->Type}[∀e,Inhabited (M e)](e:Lb)(f:∀a b c d,M (.ListComp a b c d)):M e:=match e with
 | .ListComp a b c d=>f a b c d|_=>default
@[elab_as_elim] def qName{M:Lb->Type}[∀e,Inhabited (M e)](e:Lb)(f:∀a b,M (.Name a b)):M e:=match e with
 | .Name a b=>f a b|_=>default
@[elab_as_elim] def qNot{M:UnaryOp->Type}[∀e,Inhabited (M e)](e:UnaryOp)(f:M .Not):M e:=match e with
 | .Not=>f|_=>default
@[elab_as_elim] def qOr{M:BoolOp->Type}[∀e,Inhabited (M e)](e:BoolOp)(f:M .Or):M e:=match e with
 | .Or=>f|_=>default
@[elab_as_elim] def qRaise{M:Lf->Type}[∀e,Inhabited (M e)](e:Lf)(f:∀a b c,M (.Raise a b c)):M e:=match e with
 | .Raise a b c=>f a b c|_=>default
@[elab_as_elim] def qReturn{M:Lf->Type}[∀e,Inhabited (M e)](e:Lf)(f:∀a b,M (.Return a b)):M e:=match e with
 | .Return a b=>f a b|_=>default
@[elab_as_elim] def qSlice{M:Lb->Type}[∀e,Inhabited (M e)](e:Lb)(f:∀a b c d,M (.Slice a b c d)):M e:=match e with
 | .Slice a b c d=>f a b c d|_=>default
@[elab_as_elim] def qStarred{M:Lb->Type}[∀e,Inhabited (M e)](e:Lb)(f:∀a b,M (.Starred a b)):M e:=match e with
 | .Starred a b=>f a b|_=>default
@[elab_as_elim] def qSubscript{M:Lb->Type}[∀e,Inhabited (M e)](e:Lb)(f:∀a b c,M (.Subscript a b c)):M e:=match e with
 | .Subscript a b c=>f a b c|_=>default
@[elab_as_elim] def qTry{M:Lf->Type}[∀e,Inhabited (M e)](e:Lf)(f:∀a b c d e,M (.Try a b c d e)):M e:=match e with
 | .Try a b c d e=>f a b c d e|_=>default
@[elab_as_elim] def qTuple{M:Lb->Type}[∀e,Inhabited (M e)](e:Lb)(f:∀a b c,M (.Tuple a b c)):M e:=match e with
 | .Tuple a b c=>f a b c|_=>default
@[elab_as_elim] def qUSub{M:UnaryOp->Type}[∀e,Inhabited (M e)](e:UnaryOp)(f:M .USub):M e:=match e with
 | .USub=>f|_=>default
@[elab_as_elim] def qUnaryOp{M:Lb->Type}[∀e,Inhabited (M e)](e:Lb)(f:∀a b c,M (.UnaryOp a b c)):M e:=match e with
 | .UnaryOp a b c=>f a b c|_=>default
@[elab_as_elim] def qWhile{M:Lf->Type}[∀e,Inhabited (M e)](e:Lf)(f:∀a b c d,M (.While a b c d)):M e:=match e with
 | .While a b c d=>f a b c d|_=>default
@[elab_as_elim] def qint{M:Const->Type}[∀e,Inhabited (M e)](e:Const)(f:∀a,M (.int a)):M e:=match e with
 | .int a=>f a|_=>default
@[elab_as_elim] def qstr{M:Const->Type}[∀e,Inhabited (M e)](e:Const)(f:∀a,M (.str a)):M e:=match e with
 | .str a=>f a|_=>default
@[elab_as_elim] def qNone{α:Type}{M:Lx α->Type}[∀e,Inhabited (M e)](e:Lx α)(f:M none):M e:=match e with
 |none=>f|some _=>default
@[elab_as_elim] def qCm{M:Comprehension->Type}[∀e,Inhabited (M e)](e:Comprehension)(f:∀a b c,M ⟨a,b,c,0⟩):M e:=match e with
 |⟨a,b,c,0⟩=>f a b c|_=>default
@[elab_as_elim] def qKw{M:Keyword->Type}[∀e,Inhabited (M e)]:(e:Keyword)->(f:∀a b c,M ⟨a,b,c⟩)->M e
 |⟨a,b,c⟩,f=>f a b c
@[elab_as_elim] def qJoinedStr{M:Lb->Type}[∀e,Inhabited (M e)](e:Lb)(f:∀a b,M (.JoinedStr a b)):M e:=match e with
 | .JoinedStr a b=>f a b|_=>default
end DV
namespace DV
open PySem L2
abbrev KN:=Lx Int
def oV:KN->V
 |none=>.non|some i=>.int i
def knIs:KN->Lv->Bool
 |none,.none=>true|some i,v=>Value.isInt i v|_,_=>false
def jd(h:knIs k v=true):(k=none/\v=.none)\/∃i t,k=some i/\v=.int i t:=by
 cases k with
 |none=>cases v<;>first|exact .inl ⟨rfl,rfl⟩|(cases h)
 |some i=>obtain⟨t,e⟩:=Value.isInt_shape (k:=i) (v:=v) h;exact .inr ⟨i,t,rfl,e⟩
def kn_of(r:yb (oV k) u):knIs k u=true:=by
 cases k with
 |none=>cases r;rfl|some i=>obtain⟨t,rfl⟩:=r;simp[knIs,Value.isInt]
def hN:KN->Int
 |none=>0xFCA86420|some i=>hashInt i
section
variable{prog:Lc}{w:Le}{A:Lg}{E:Ly}{s:La}
def ZU{Q:Int->La->Prop}(h:Q 0xFCA86420 {s with toks:=s.toks+1}):wpAny (model prog w) A (pyHash .none) Q E s:=by
 have hT:s.TypeIs .none "NoneType":=rfl;unfold pyHash
 first|unfold pyHashByItsType|skip
 have hv:[Value.none].any Value.onHeap=false:=rfl;refine qB ?_;rw[cRoomFor,if_neg (by rw[hv];exact qF)];refine qC ?_;refine qB (wpAny_specialOf hT F.slot_NoneType_hash.lookup ?_);show wpAny _ _ (if(some (Value.builtin "NoneType.__hash__")==some Value.none)=true then _ else _) Q E s;rw[if_neg (by rw[beq_builtin_none];exact qF)];refine qB (wpAny_specialOf hT F.slot_NoneType_hash.lookup ?_);show wpAny _ _ (callSpecialIfBoundUnlessNone? .none "__hash__" _ >>= _) Q E s;refine qB (wpAny_callSpecialIfBoundUnlessNone?_slot hT F.slot_NoneType_hash
  (wpAny_call_entry F.slot_NoneType_hash hT F.entry_NoneType_hash
   (show wpAny _ _ (do ret (<- mkInt 0xFCA86420)) _ _ s from wpAny_ret_mkInt ?_) (F.args_NoneType_hash_1 _)))
 exact qC h
end
def zC0(prog:Lc)(w:Le):KeyKind prog w KN where
 is:=knIs
 hash:=hN
 inj:=λv a b g c=>by
  rcases jd g with⟨rfl,rfl⟩|⟨i,t,rfl,rfl⟩
  ·rcases jd c with⟨rfl,e⟩|⟨j,u,rfl,e⟩
   ·rfl
   ·cases e
  ·rcases jd c with⟨rfl,e⟩|⟨j,u,rfl,e⟩
   ·cases e
   ·injection e with e1 _;rw[e1]
 byValue:=λk v h=>by
  rcases jd h with⟨rfl,rfl⟩|⟨i,t,rfl,rfl⟩<;>rfl
 pyHash:=λhv h=>by
  rcases jd hv with⟨rfl,rfl⟩|⟨i,t,rfl,rfl⟩
  ·exact ZU h
  ·exact wpAny_pyHash_int h
 eqBool:=λ{A E s a b u v Q} hu hv h=>by
  have e:(if eqV (oV a) (oV b)=true then True else True):=by split<;>trivial
  rcases jd hu with⟨rfl,rfl⟩|⟨i,t,rfl,rfl⟩
  ·rcases jd hv with⟨rfl,rfl⟩|⟨j,u,rfl,rfl⟩
   ·exact zBo (y:=.non) (x:=.non) rfl rfl rfl rfl _ _ _ _ h
   ·exact zBo (y:=.non) (x:=.int j) rfl ⟨u,rfl⟩ rfl rfl _ _ _ _ h
  ·rcases jd hv with⟨rfl,rfl⟩|⟨j,u,rfl,rfl⟩
   ·exact zBo (y:=.int i) (x:=.non) ⟨t,rfl⟩ rfl rfl rfl _ _ _ _ h
   ·refine wpAny_eqBool_int ?_
    have:(i==j)=decide (some i=some j):=by
     by_cases q:i=j
     ·subst q;simp
     ·simp[q]
    rw[this];exact h
 «strs»:=λk x t v h=>by
  rcases jd h with⟨_,e⟩|⟨_,_,_,e⟩<;>cases e
def hT(ks:Ls KN):Int:=reduceHash (Builtin.Tuple.tupleHashOf (ks.map hN))
abbrev DE:=Ls KN×Lz×V
abbrev DX:=Ls KN×Lz×Lv
def entN(x:DX):DictEntry:=⟨hT x.1,.ref x.2.1,x.2.2⟩
abbrev wL:Ls DE->Ls DX->Prop:=Paired λe x=>x.1=e.1/\x.2.1=e.2.1/\yb e.2.2 x.2.2
def zIQ(a:Lz)(es:Ls DE)(h:Heap):Prop:=(a==sysModules)=false/\es.length<=sizeLine/\(es.map (·.1)).Nodup/\∃(o:Obj) (c:Array DictEntry) (g:Nat) (e:Ls DX),h.get? a=some o/\o.ExactDict/\o.data=.dict c g/\wL es e/\c.toList=e.map entN
def WZ(a:Lz)(es:Ls DE)(ob:Obj):HO:=.dN λh=>zIQ a es h/\h.get? a=some ob
def zC1(H:Hp)(a:Lz)(es:Ls DE):Prop:=∃c,H a=some (WZ a es c)
def zC1.mono{H c:Hp}{a:Lz}{es:Ls DE}(h:zC1 H a es)(e:YU H c):zC1 c a es:=let ⟨ob,q⟩:=h;⟨ob,e _ _ q⟩
def OwnK(o:HO):Prop:=(∃a,o=.l a)\/∃φ,o=.dN φ
def zD0(x:zIQ a es h1)(k:∀o,h1.get? a=some o->h2.get? a=some o):zIQ a es h2:=by
 obtain⟨j,h,g,o,c,l,i,e,r⟩:=x;exact⟨j,h,g,o,c,l,i,k o e,r⟩
def zBp(x:zIQ a es h)(e:h.get? a=some ob):jL P w H h a (WZ a es ob) :=
 ⟨⟨x,e⟩,⟨ob,e⟩,λc h2 y k=>⟨zD0 y.1 k,k _ y.2⟩⟩
section
variable{P:Lc}{w:Le}{h:Heap}{a:Lz}{es:Ls DE}{xs:Ls DX}
theorem wL.keys:∀{c:Ls DE} {a:Ls DX},wL c a->a.map (·.1)=c.map (·.1)
 |_,_,.nil=>rfl|_,_,.cons r t=>by dsimp[map_cons];rw[r.1,wL.keys t]
theorem wL.mem:∀{c:Ls DE} {a:Ls DX} {x:DX},wL c a->x∈a->∃e∈c,x.1=e.1/\x.2.1=e.2.1/\yb e.2.2 x.2.2
 |_,_,_,.nil,h=>by cases h
 |_,_,_,.cons r t,h=>by
  rcases mem_cons.mp h with rfl|h
  ·exact⟨_,qE,r⟩
  ·obtain⟨e,g,q⟩:=wL.mem t h
   exact⟨e,qD _ g,q⟩
def atE(es:Ls DE)(k:Ls KN):Lx V:=(es.find? λe=>decide (e.1=k)).map (·.2.2)
theorem wL.at:∀{c:Ls DE} {a:Ls DX} {k:Ls KN} {v:V},wL c a->atE c k=some v->∃p,atKey a k=some p/\yb v p.2
 |_,_,_,_,.nil,h=>by cases h
 |e::c,x::a,k,v,.cons r t,h=>by
  unfold atE atKey at *;rw[find?_cons]at h ⊢;by_cases q:e.1=k
  ·rw[decide_eq_true q]at h
   rw[decide_eq_true (r.1.trans q)];dsimp[Option.map_some,Option.some.injEq]at h;subst h;exact⟨x.2,rfl,r.2.2⟩
  ·rw[decide_eq_false q]at h
   rw[decide_eq_false (λz=>q (r.1.symm.trans z))];exact wL.at t h
theorem wL.none:∀{c:Ls DE} {a:Ls DX} {k:Ls KN},wL c a->atE c k=none->atKey a k=none
 |_,_,_,.nil,_=>rfl
 |e::c,x::a,k,.cons r t,h=>by
  unfold atE atKey at *;rw[find?_cons]at h ⊢;by_cases q:e.1=k
  ·rw[decide_eq_true q]at h;cases h
  ·rw[decide_eq_false q]at h
   rw[decide_eq_false (λz=>q (r.1.symm.trans z))];exact wL.none t h
def zAk(es:Ls DE)(k:Ls KN)(ka:Lz)(v:V):Ls DE:=if(atE es k).isSome then es.map (λe=>if e.1=k then(e.1,e.2.1,v)else e)else es++[(k,ka,v)]
theorem wL.mapP:∀{c:Ls DE} {a:Ls DX} {k:Ls KN} {v:V} {u:Lv},wL c a->yb v u->wL (c.map λe=>if e.1=k then(e.1,e.2.1,v)else e) (a.map (putAt k u))
 |_,_,_,_,_,.nil,_=>.nil
 |e::c,x::a,k,v,u,.cons r t,g=>by
  dsimp[map_cons];refine .cons ?_ (wL.mapP t g);unfold putAt;by_cases q:e.1=k
  ·rw[if_pos q,if_pos (r.1.trans q)];exact⟨r.1,r.2.1,g⟩
  ·rw[if_neg q,if_neg (λz=>q (r.1.symm.trans z))];exact r
theorem wL.app:∀{c fs:Ls DE} {a e:Ls DX},wL c a->wL fs e->wL (c++fs) (a++e)
 |_,_,_,_,.nil,g=>g|_,_,_,_,.cons r t,g=>.cons r (wL.app t g)
def wL.put(h:wL es xs)(a:yb v u):wL (zAk es k ka v) (storedH xs k ka u):=by
 unfold zAk storedH;cases q:atE es k with
 |none=>rw[wL.none h q];exact h.app (.cons ⟨rfl,rfl,a⟩ .nil)
 |some y =>
  obtain⟨p,e,_⟩:=wL.at h q;rw[e];exact h.mapP a
def W4(hn:(es.map (·.1)).Nodup):((zAk es k ka v).map (·.1)).Nodup/\(zAk es k ka v).length<=es.length+1:=by
 unfold zAk;cases q:atE es k with
 |none =>
  dsimp[Option.isSome_none,Bool.false_eq_true,if_false];refine⟨?_,by simp⟩;rw[map_append];refine nodup_append.mpr ⟨hn,by simp,λa g b c=>?_⟩;dsimp[map_cons,map_nil,mem_singleton]at c;subst c;intro z;subst z;obtain⟨e,h,rfl⟩:=mem_map.mp g;unfold atE at q;dsimp[Option.map_eq_none_iff,List.find?_eq_none]at q;exact q e h (decide_eq_true rfl)
 |some y =>
  dsimp[Option.isSome_some,if_true];refine⟨?_,by simp⟩;have:(es.map λe=>if e.1=k then(e.1,e.2.1,v)else e).map (·.1)=es.map (·.1):=by
   rw[map_map];refine map_congr_left λe _=>?_
   dsimp[Function.comp];split<;>rfl
  rw[this];exact hn
end
section
variable{X:Cx}{pins:Ls (Lz×Obj)}{σ:L2.St}{H:Hp}{s:La}{a:Lz}{es:Ls DE}
def uY(I:Inv X pins σ H s)(h:SqT X.K H ka (ks.map oV)):IsTupleKey (zC0 X.prog X.w) s.heap ks ka:=by
 obtain⟨c,r,p,_⟩:=I.tuple h;obtain⟨o,ho,e,n,hd⟩:=p;refine⟨o,c.toArray,n,ho,e,hd,?_⟩;have a:∀{ks:Ls KN} {us:Ls Lv},yA (ks.map oV) us->ItemsAre (zC0 X.prog X.w) ks us:=λ{ks}=>by
  induction ks with
  |nil=>intro us h;cases h;exact .nil
  |cons k ks g=>intro us h;cases h with|cons r t=>exact .cons (kn_of r) (g t)
 exact a r
def Qe{ob:Obj}(I:Inv X pins σ H s)(e:H a=some (WZ a es ob))(j:∀x∈es,SqT X.K H x.2.1 (x.1.map oV)):∃c:Ls DX,wL es c/\s.heap.DictOfH (tupleKind (zC0 X.prog X.w)) a c/\(a==sysModules)=false/\es.length<=sizeLine/\(es.map (·.1)).Nodup:=by
 obtain⟨⟨⟨r,i,h,o,g,u,c,k,h2,l,h4,h5⟩,_⟩,_⟩:=(show jL X.prog X.w H s.heap a (WZ a es ob)from I.hok a _ e);refine⟨c,h4,⟨o,g,u,k,h2,l,h5,λx n=>?_,by rw[wL.keys h4];exact h⟩,r,i,h⟩;obtain⟨y,p,q,t,_⟩:=wL.mem h4 n;rw[q,t];exact uY I (j y p)
end
def wa(h h':Heap):Prop:=∀b o,h.get? b=some o->∃a,h'.get? b=some a/\a.dict=o.dict
def wa.refl(h:Heap):wa h h:=λ_ o e=>⟨o,e,rfl⟩
theorem wa.trans(a:wa h1 h2)(b:wa h2 h3):wa h1 h3:=λc o e=>by
 obtain⟨j,h,l⟩:=a c o e;obtain⟨g,k,i⟩:=b c j h;exact⟨g,k,i.trans l⟩
def wa.of_keeps(k:∀b o,h.get? b=some o->h'.get? b=some o):wa h h':=λb o e=>⟨o,k b o e,rfl⟩
def wa.upd{f:Obj->Obj}(g:∀o,(f o).dict=o.dict/\(o.isFreed=false->(f o).isFreed=false)):wa h (h.update a f):=λb o e=>by
 by_cases c:a=b
 ·subst c
  exact⟨f o,get?_update_self _ e ((g o).2 (Heap.get?_some_iff.mp e).2),(g o).1⟩
 ·exact⟨o,(Heap.get?_update_other _ _ c).trans e,rfl⟩
def je{α:Type}:Sem α->Prop
 | .pure _=>True| .raise _=>True| .unsupported _=>True| .finish _=>True| .rule _ k=>je (k ())| .at _ k=>je (k ())| .load _ _ k=>∀o,je (k o)| .update _ _ f k=>(∀o,(f o).dict=o.dict/\(o.isFreed=false->(f o).isFreed=false))/\je (k ())| .alloc _ k=>∀a,je (k a)| .stack k=>∀l,je (k l)|_=>False
theorem je.bind{α β:Type}{f:α->Sem β}(g:∀a,je (f a)){t:Sem α}(e:je t):je (t >>= f):=by
 show je (t.bind f)
 induction t with
 |pure a=>exact g a|raise _=>trivial|unsupported _=>trivial|finish _=>trivial|rule _ k c=>exact c () e| «at» _ k c=>exact c () e|load _ _ k c=>exact λo=>c o (e o)|update _ _ _ k c=>exact⟨e.1,c () e.2⟩|alloc _ k c=>exact λa=>c a (e a)|stack k c=>exact λl=>c l (e l)|_=>exact False.elim e
def tame_wp{α:Type}(M:Model)(Γ:Ctx)(j:Heap)(Q:α->Pos->La->Prop)(E:Lv->Pos->La->Prop)(t:Sem α):∀(p:Pos) (s:La),je t->wa j s.heap->Sem.wp M Γ t Q E p s ->
  Sem.wp M Γ t (λa l i=>Q a l i/\wa j i.heap) (λe l i=>E e l i/\wa j i.heap) p s:=by
 induction t with
 |pure a=>intro p s _ k h;rw[Sem.wp]at h ⊢;exact⟨h,k⟩|raise a=>intro p s _ k h;rw[Sem.wp]at h ⊢;exact⟨h,k⟩|unsupported _=>intro p s _ k h;rw[Sem.wp]at h;exact h.elim|finish _=>intro p s _ k h;rw[Sem.wp]at h;exact h.elim|rule _ f c=>intro p s t k h;rw[Sem.wp]at h ⊢;exact c () p s t k h| «at» _ f c=>intro p s t k h;rw[Sem.wp]at h ⊢;exact c () _ s t k h
 |load a _ f c =>
  intro p s t k h;rw[Sem.wp]at h ⊢;obtain⟨o,e,h⟩:=h;exact⟨o,e,c o p s (t o) k h⟩
 |update a _ g f c =>
  intro p s t k h;rw[Sem.wp]at h ⊢;exact⟨h.1,c () p _ t.2 (k.trans (wa.upd t.1)) h.2⟩
 |alloc o f c =>
  intro p s t k h;rw[Sem.wp]at h ⊢;exact c _ p _ (t _) (k.trans (wa.of_keeps λb o e=>qA _ e)) h
 |stack f c=>intro p s t k h;rw[Sem.wp]at h ⊢;exact c _ p s (t _) k h|_=>intro p s t;exact False.elim t
def uZ{α:Type}{t:Sem α}{Q:α->La->Prop}{E:Ly}(g:je t)(h:wpAny M A t Q E s) :
  wpAny M A t (λa c=>Q a c/\wa s.heap c.heap) (λe c=>E e c/\wa s.heap c.heap) s:=λΓ p hΓ =>
 tame_wp M Γ s.heap _ _ t p s g (wa.refl _) (h Γ p hΓ)
def jf{α:Type}{c:Prop}[Decidable c]{a b:Sem α}(ha:je a)(hb:je b):je (if c then a else b):=by split<;>assumption
def mapF_ok(f:Lh->Lh)(o:Obj):(Obj.mapFields f o).dict=o.dict/\(o.isFreed=false->(Obj.mapFields f o).isFreed=false):=by
 obtain⟨c,d,a,e⟩:=o;cases a<;>exact⟨rfl,λh=>h⟩
def W5(a:Lz):je (load a):=λ_=>trivial
def zBq{f:Obj->Obj}(h:∀o,(f o).dict=o.dict/\(o.isFreed=false->(f o).isFreed=false)):je (update a f):=⟨h,trivial⟩
def Jw(v:Lv)(i:Nat):je (field v i):=by
 unfold field fieldsOf;refine je.bind (λa=>?_) ?_
 ·cases a[i]?<;>trivial
 ·cases v<;>first|trivial|skip
  refine je.bind (λo=>?_) (W5 _);cases o.data<;>trivial
def wb(v:Lv)(i:Nat)(x:Lv):je (setField v i x):=by
 unfold setField updateField;cases v with
 |ref a =>
  refine je.bind (λo=>?_) (W5 _);cases o.data<;>first|trivial|skip;exact jf (zBq (mapF_ok _)) trivial
 |_=>trivial
def ZV:je stack:=λ_=>trivial
def v7(v:Lv)(f:Lx Lz):je (setFlight v f):=by
 unfold setFlight;refine je.bind (λa=>jf (wb _ _ _) ?_) (Jw v 1);exact trivial
theorem ub:∀l:Ls Env,je (readyFrames l)
 | []=>trivial
 |a::outer=>by
  unfold readyFrames;cases a.frame with
  |none=>trivial
  |some f =>
   refine je.bind (λo=>jf ?_ ?_) (W5 f)
   ·exact trivial
   refine je.bind (λi=>?_) ?_
   ·refine je.bind (λbk=>?_) ?_
    ·refine je.bind (λ_=>ub outer) (zBq λo=>⟨rfl,?_⟩)
     obtain⟨c,d,e,g⟩:=o;cases e<;>exact λh=>h
    ·cases outer with
     |nil =>
      refine jf ?_ (je.bind (λb=>?_) (je.bind (λ_=>?_) ZV))
      all_goals exact trivial
     |cons c r=>exact trivial
   ·unfold behindIsImport
    refine jf ?_ (jf ?_ (je.bind (λ_=>?_) (Jw _ _)))
    all_goals exact trivial
def zD1(v:Lv)(env:Env):je (noteFrame v env):=by
 unfold noteFrame;cases env.frame with
 |none=>trivial
 |some f =>
  have hN:∀c:Lv,je (do setField v 1 (<- EntryCells.newEntry c (<- frameOf env) .none (rawInt f) .none (<- entryPlaceOf f (c != .none)))):=λc=>by
   refine je.bind (λfr=>?_) ?_
   ·refine je.bind (λh=>?_) ?_
    ·refine je.bind (λx=>wb _ _ _) ?_
     unfold EntryCells.newEntry newFields newObj;refine jf ?_ ?_
     ·exact trivial
     ·exact λa=>trivial
    ·unfold entryPlaceOf
     refine je.bind (λg=>?_) ZV;split<;>exact trivial
   ·unfold frameOf frameObject
    refine je.bind (λe=>?_) (je.bind (λ_=>?_) ZV)
    ·refine je.bind (λo=>?_) ?_
     ·cases o<;>exact trivial
     ·split
      ·exact trivial
      ·refine je.bind (λ_=>?_) (ub _)
       exact trivial
    ·exact trivial
  refine je.bind (λc=>jf ?_ (hN c)) (Jw v 1);refine je.bind (λx=>jf ?_ ?_) (Jw _ _)
  ·exact trivial
  ·exact je.bind (λ_=>hN c) (wb _ _ _)
def Z6(env:Env)(v:Lv):je (leaving env v):=je.bind (λ_=>v7 v none) (zD1 v env)
end DV
namespace DV
open PySem L2 PyProof.Rows
def ExO(C a:Lz):HO:=.ext λh=>∃o,h.get? a=some o/\o.cls=.ref C
def ExA(C d a:Lz):HO:=.ext λh=>∃o,h.get? a=some o/\o.cls=.ref C/\o.dict=some d/\∃c,o.data=.fields c
def XD(d:Lz)(fs:Ls (Str×V)):HO:=.ext λh=>∃a,h.Ns1 d a/\∀f,RelO (fs.lookup f) (a f)
def GN(a:Lz)(c:Lx Lz)(h:Heap):Prop:=∀d,c=some d->∃o,h.get? a=some o/\o.dict=some d
def GN.on(l:GN a od h)(k:wa h h'):GN a od h':=λd e=>by
 obtain⟨o,c,j⟩:=l d e;obtain⟨n,i,g⟩:=k a o c;exact⟨n,i,g.trans j⟩
theorem GN.none:GN a none h:=λ_ e=>by cases e
structure MadeD(h h':Heap)(a:Lz)(C:Lv)(od:Option Lz):Prop where
 keeps:∀b o,h.get? b=some o->h'.get? b=some o
 new:h.get? a=none
 there:∃oe vs t,h'.get? a=some oe/\oe.cls=C/\(∀d,od=some d->oe.dict=some d)/\oe.data=.fields vs/\vs[1]?=some .none/\vs[0]?=some (.ref t)
def MadeD.of(x:Heap.MadeExcOf h h' a C args):MadeD h h' a C none :=
 ⟨x.keeps,x.new,let ⟨t,e,_⟩:=x.there;⟨_,_,t,e,rfl,λ_ z=>(by cases z),rfl,rfl,rfl⟩⟩
def MadeD.link(x:MadeD h h' a C od):GN a od h':=λd e=>by
 obtain⟨g,_,_,c,_,h2,_⟩:=x.there;exact⟨g,c,h2 d e⟩
def zGX(x:jL P w H h a o):∃u,h.get? a=some u:=by
 cases o with
 |l g=>obtain⟨_,_,_,_,e⟩:=x;exact⟨_,e⟩|t g=>obtain⟨_,_,_,o,e,_⟩:=x;exact⟨_,e⟩|dK c=>obtain⟨_,_,_,_,o,_,_,e,_⟩:=x;exact⟨_,e⟩|dT c=>obtain⟨_,_,_,_,o,_,_,e,_⟩:=x;exact⟨_,e⟩|set S n=>obtain⟨o,_,_,_,e,_⟩:=x;exact⟨_,e⟩|ins C q fs=>obtain⟨_,_,_,e,_⟩:=x;exact⟨_,e⟩|w y=>exact x|xd fs=>obtain⟨_,⟨_,_,_,e,_⟩,_⟩:=x;exact⟨_,e⟩|rng i p=>obtain⟨_,_,_,e⟩:=x;exact⟨_,e⟩|frz j u=>obtain⟨e,_⟩:=x;exact⟨_,e⟩|tbl k=>exact⟨_,(show h.get? a=some _ from x)⟩|met f y=>exact⟨_,(show h.get? a=some _ from x)⟩|ext φ=>obtain⟨_,e,_⟩:=x;exact e|dN φ=>obtain⟨_,e,_⟩:=x;exact e
def zIR(B:Heap)(H:Hp)(g:Heap)(fs:Ls Lz)(h:Heap):Prop:=∀b o,h.get? b=some o->((∃a,g.get? b=some a)\/H b≠none)->b∉fs->B.get? b=some o
def Flies(l:Ls Env)(H:Hp)(g:Heap)(a C:Lz)(h:Heap):Prop:=∃B t,Heap.FlyingW B l a (.ref C) (.ref t) h/\zIR B H g (frs l) h
def CXx(P:Lc)(w:Le):CXT:=λouter H s E e c=>∃a C g H',e=.ref a/\c.os=s.os/\AllBare c.gens/\Un (frs outer) [] H H' s.heap c.heap/\HOk P w H' c.heap/\H' a=none/\Flies outer H' s.heap a C c.heap/\GN a g c.heap/\E (.ref C) g H'
section
variable{P:Lc}{w:Le}{fs:Ls Lz}{H H':Hp}{g h h' B:Heap}{L:Lz}
def un_on(u:Un fs [] H H' g h)(ok:HOk P w H' h)(kb:zIR B H' g (L::fs) h)(st:B.StaysIn h')(p:g.get? L=none)(r:∀b∈fs,∀o,h.get? b=some o->∃i,h'.get? b=some {o with slots:=i}):Un fs [] H H' g h' where
 keep:=λb o e n a c=>st b o (kb b o (u.keep b o e n a c) (.inl ⟨o,e⟩) λz=>by
  rcases mem_cons.mp z with rfl|z
  ·rw[p]at e;cases e
  ·exact a z)
 slot:=λb o e n a c=>by
  obtain⟨i,q⟩:=u.slot b o e n a c;obtain⟨j,k⟩:=r b a _ q;exact⟨j,k⟩
 free:=u.free
 there:=λb o e c=>by
  obtain⟨l,q⟩:=u.there b o e c;by_cases a:b∈fs
  ·obtain⟨i,k⟩:=r b a _ q;exact⟨_,k⟩
  ·exact⟨l,st b l (kb b l q (.inl ⟨o,e⟩) λz=>by
    rcases mem_cons.mp z with rfl|z
    ·rw[p]at e;cases e
    ·exact a z)⟩
 tups:=u.tups
 frzs:=u.frzs
 tbls:=u.tbls
def zIS(ok:HOk P w H' h)(kb:zIR B H' g (L::fs) h)(st:B.StaysIn h')(hn:∀b∈L::fs,H' b=none):HOk P w H' h':=λa o e=>by
 refine(ok a o e).stay (λb u c q=>?_) (λ_ q=>q) λ_ _ q=>q
 have ht:H' b≠none:=by
  rcases c with rfl|c
  ·rw[e];exact λz=>by cases z
  ·rw[c];exact λz=>by cases z
 exact st b u (kb b u q (.inr ht) λz=>ht (hn b z))
def zD2(u:Un fs [] H H' g h)(ok:HOk P w H' h)(kb:zIR B H' g (L::fs) h)(st:B.StaysIn h')(l:g.get? L=none)(hn:∀b∈L::fs,H' b=none):zIR B H' g fs h':=λb o e a nf=>by
 have p:b∉L::fs:=λz=>by
  rcases mem_cons.mp z with rfl|z
  ·rcases a with⟨j,q⟩|q
   ·rw[l]at q;cases q
   ·exact q (hn _ (qE))
  ·exact nf z
 have:∃o1,h.get? b=some o1:=by
  rcases a with⟨j,q⟩|q
  ·exact u.there b j q (by simp)
  ·obtain⟨x,k⟩:=Option.ne_none_iff_exists'.mp q
   exact zGX (ok b x k)
 obtain⟨o1,n⟩:=this;have c:=kb b o1 n a p;have i:=st b o1 c;rw[e]at i;cases i;exact c
end
section
variable{P:Lc}{w:Le}{K:qH}{mg:Str->Lx Lv}{base:Heap}{N:Ls Str}{qual:Str}{scope:Scope}{f:Lz}{cd:Lv}{A:Lg}{outer:Ls Env}{s:La}{H:Hp}{E:XK}
abbrev cxC(c:Bool)(P:Lc)(w:Le)(K:qH)(g:Str->Lx Lv)(base:Heap)(N:Ls Str)(e:Str)(a:Scope)(f:Lz)(h:Lv)(A:Lg)(outer:Ls Env)(s:La)(H:Hp)(E:XK):Cx :=
 {zIN (CXx P w) P w K g base N e a f h A outer s H E with calm:=c}
variable{c:Bool}
variable{pins:Ls (Lz×Obj)}{σ:L2.St}{H':Hp}{s' s1:La}{a C:Lz}
def zD3:frs (envOfC qual scope s.heap.objs.size f cd::outer)=s.heap.objs.size::frs outer:=rfl
def zC2(I:Inv (cxC c P w K mg base N qual scope f cd A outer s H E) pins σ H' s')(u:Un (frs outer) [] H H' s.heap s'.heap)(hn:H' a=none)
  (y:∃B t,Heap.FlyingW B (cxC c P w K mg base N qual scope f cd A outer s H E).stack a (.ref C) (.ref t) s'.heap/\zIR B H' s.heap (frs (cxC c P w K mg base N qual scope f cd A outer s H E).stack) s'.heap) (r:GN a od s'.heap) (v:E (.ref C) od H') :
  (cxC c P w K mg base N qual scope f cd A outer s H E).xe (.ref a) s':=by
 obtain⟨B,t,x,G⟩:=y;have l:s.heap.get? s.heap.objs.size=none:=Heap.get?_none_of_le (le_refl _);have hN:∀b∈s.heap.objs.size::frs outer,H' b=none:=λb k=>I.stkFree b (by show b∈frs (envOfC qual scope s.heap.objs.size f cd::outer);rw[zD3];exact k)
 have h:zIR B H' s.heap (s.heap.objs.size::frs outer) s'.heap:=G;refine wpAny_mono (uZ (Z6 _ _) (wpAny_leaves_onW (base:=B) (E:=λ_ _=>False) (Q:=λ_ z=>∃h',z={s' with heap:=h'}/\Heap.FlyingW B outer a (.ref C) (.ref t) h'/\s'.heap.UpToSlots h') I.ok.frames rfl x λh' g i=>⟨h',rfl,g,i⟩)) (λ_ z ⟨⟨h',D,g,i⟩,p⟩=>?_) λ_ _ z=>z.1.elim
 subst D;have st:B.StaysIn h':=g.1;have j:∀b∈frs outer,∀o,s'.heap.get? b=some o->∃i,h'.get? b=some {o with slots:=i}:=λb k o e=>by
  obtain⟨_,J,q,n⟩:=I.funs.mem k;rw[e]at q;cases q;exact i b o e n
 exact⟨a,C,od,H',rfl,I.os,I.bare,un_on u I.hok h st l j,zIS I.hok h st hN,hn,⟨B,t,g,zD2 u I.hok h st l hN⟩,r.on p,v⟩
def zAl(I:Inv (cxC c P w K mg base N qual scope f cd A outer s H E) pins σ H' s1)(i:MadeD s1.heap s'.heap a (.ref C) od)(v:s'={s1 with heap:=s'.heap})(hn:H' a=none)(S:E (.ref C) od H') :
  (cxC c P w K mg base N qual scope f cd A outer s H E).xe (.ref a) s':=by
 have u:Un (frs outer) [] H H' s.heap s1.heap:=I.base;have l:s.heap.get? s.heap.objs.size=none:=Heap.get?_none_of_le (le_refl _);have hN:∀b∈s.heap.objs.size::frs outer,H' b=none:=λb g=>I.stkFree b (by show b∈frs (envOfC qual scope s.heap.objs.size f cd::outer);rw[zD3];exact g)
 have p:zIR (hideAll s1.heap (s.heap.objs.size::frs outer)) H' s.heap (s.heap.objs.size::frs outer) s1.heap:=λb o e _ nf=>hideAll_get _ e nf
 have n:∀h∈(envOfC qual scope s.heap.objs.size f cd::outer),∀b,h.frame=some b->b∈s.heap.objs.size::frs outer:=λh L b g=>by
  exact mem_filterMap.mpr ⟨h,L,g⟩
 have k:s1.heap.FunFrames base (envOfC qual scope s.heap.objs.size f cd::outer):=I.stack;obtain⟨D,vs,t,O,V,e3,R,e5,G⟩:=i.there;have fresh:(hideAll s1.heap (s.heap.objs.size::frs outer)).get? a=none:=by
  cases q:(hideAll s1.heap (s.heap.objs.size::frs outer)).get? a with
  |none=>rfl|some o'=>have:=of_hideAll _ q;rw[i.new]at this;cases this
 have j:s'.heap.FunFrames (hideAll s1.heap (s.heap.objs.size::frs outer)) (envOfC qual scope s.heap.objs.size f cd::outer):=(PySem.W.funFrames_hide k n).of_keeps λb o g _=>⟨o,i.keeps b o g,rfl⟩
 refine wpAny_mono (uZ (Z6 _ _) (wpAny_leaving_firstW (base:=hideAll s1.heap (s.heap.objs.size::frs outer)) (a0:=.ref t) (E:=λ_ _=>False) (Q:=λ_ z=>∃h',z={s' with heap:=h'}/\Heap.LeftW (hideAll s1.heap (s.heap.objs.size::frs outer)) (envOfC qual scope s.heap.objs.size f cd::outer) a D.cls (.ref t) s'.heap h') I.ok.frames j rfl O (λb o q=>i.keeps b o (of_hideAll _ q)) fresh R e5 G λh' l=>⟨h',rfl,l⟩)) (λ_ z ⟨⟨h',W,Z,⟨_,_,k2⟩,y,X⟩,M⟩=>?_) λ_ _ z=>z.1.elim
 subst W;rw[V]at y;have x:Heap.FlyingW (hideAll s1.heap (s.heap.objs.size::frs outer)) outer a (.ref C) (.ref t) h':=⟨Z,fresh,k2,y⟩;have st:=x.1;have r:∀b∈frs outer,∀o,s1.heap.get? b=some o->∃sl,h'.get? b=some {o with slots:=sl}:=λb g o e=>by
  obtain⟨_,o',q,Y⟩:=I.funs.mem g;rw[e]at q;cases q;exact X b o (i.keeps b o e) Y
 have os:s'.os=s1.os:=by rw[v]
 have J:s'.gens=s1.gens:=by rw[v]
 refine⟨a,C,od,H',rfl,os.trans I.os,?_,un_on u I.hok p st l r,zIS I.hok p st hN,hn,⟨_,t,x,zD2 u I.hok p st l hN⟩,i.link.on M,S⟩;rw[J];exact I.bare
end
structure RoomN(k:Nat)(A:Lg):Prop where
 gd:A.guards=some []
 dp:A.depth+3*k+5<recursionLimit
 un:A.units+16*k+200<cLine
def RoomN.mono(r:RoomN k A)(h:j<=k):RoomN j A:=⟨r.gd,by have:=r.dp;omega,by have:=r.un;omega⟩
theorem RoomN.deeper(r:RoomN (k+1) A)(env:Env):RoomN k (A.deeper env) :=
 ⟨r.gd,by have:=r.dp;show A.depth+1+3*k+5<_;omega,by have:=r.un;show A.units+3+16*k+200<_;omega⟩
theorem RoomN.depth(r:RoomN k A):A.depth<recursionLimit:=by have:=r.dp;omega
def RoomN.room(r:RoomN k A)(h:A.handled=none):Room k A:=⟨h,r.gd,r.dp,r.un⟩
def zGY(r:Room k A):RoomN k A:=⟨r.gd,r.dp,r.un⟩
section
variable{X:Cx}{pins:Ls (Lz×Obj)}{σ:L2.St}{H:Hp}{s:La}
def zC3(I:Inv X pins σ H s)(a:Lg)(c:Bool)(E:Ly)(hd:c=true->a.handled=none)(fr:a.frames=some X.stack):Inv {X with A:=a,calm:=c,xe:=E} pins σ H s :=
 ⟨⟨I.ok.mod,I.ok.kind,I.ok.glob,I.ok.blt,I.ok.above,I.ok.inj,I.ok.has,I.ok.cab,hd,fr,I.ok.stk,I.ok.exf,I.ok.bs,I.ok.bsz,I.ok.noex,I.ok.exfs,I.ok.funs,I.ok.frf⟩,I.os,I.bare,I.base,I.loc,I.cell,I.free,I.freeC,I.pin,I.hok,I.len⟩
end
abbrev cxN(c:Bool)(P:Lc)(w:Le)(K:qH)(g:Str->Lx Lv)(base:Heap)(N:Ls Str)(e:Str)(a:Scope)(f:Lz)(h:Lv)(A:Lg)(outer:Ls Env)(s:La)(H:Hp)(E:XK):Cx :=
 cxC c P w K g base N e a f h A outer s H E
structure FnOkN(c:Bool)(P:Lc)(w:Le)(K:qH)(mg:Str->Lo)(base:Heap)(k:Nat)(f:Lz)(fd:FuncData)(ps:Ln)(sp:Sp):Prop where
 len:∀vs H Q E,sp vs H Q E->vs.length=ps.length
 run:∀(A:Lg) (outer:List Env) (s:La) (H:Hp) (args:Args) (us:List Lv) (vs:List V) (Q:VK) (E:XK),(c=true->A.handled=none)->RoomN k A->Env0 P w K mg base A outer s H->BindsTo s fd args (ps.zip us)->yA vs us->sp vs H Q E ->
  codeAny (model P w) A (.call (.ref f) args) (CR (CXx P w) outer P w H s Q E) s
section
variable{c:Bool}{P:Lc}{w:Le}{K:qH}{mg:Str->Lx Lv}{base:Heap}
theorem FnOkN.mono(F:FnOkN c P w K mg base j f fd ps sp)(h:j<=k):FnOkN c P w K mg base k f fd ps sp :=
 ⟨F.len,λA outer s H a g e Q E hd i=>F.run A outer s H a g e Q E hd (i.mono h)⟩
def FnOkN.fn(F:FnOkN c P w K mg base k f fd ps sp):FnOk P w K mg base (CXx P w) k f fd ps sp :=
 ⟨F.len,λA outer s H a h g Q E e=>F.run A outer s H a h g Q E (λ_=>e.hd) (zGY e)⟩
def fn_ofN{k:Nat}{f:Lz}{name g:Str}{i:Arguments}{body:Ls Lf}{a:Scope}{dV Z G pm h ct oc:Lv}{an od:Lx Lz}
  {R:Lm} {N M:Ls Str} {sp:Sp} (lk:K.lookup f=some ⟨oc,od,.func (fnOf name g i body a dV Z G pm an h ct),R⟩) (W:codeIn K h g=true) (S:FnScope N M a)
  (D:∀l H Q E,sp l H Q E->l.length=M.length)
  (z:∀(A:Lg) (outer:Ls Env) (s:La) (H:Hp) (l:Ls V) (Q:VK) (E:XK),(c=true->A.handled=none)->RoomN k (A.deeper (envOfC g a s.heap.objs.size f h))->sp l H Q E ->
   ∃t,PSs (cxN c P w K mg base N g a f h A outer s H E) body t/\t {nx:=λ_ H'=>Q .non H',rt:=Q} (wK N l) H) :
  FnOkN c P w K mg base (k+1) f (fnOf name g i body a dV Z G pm an h ct) M sp:=by
 refine⟨D,λA outer s H Y us l Q E hd hr j hb r L=>?_⟩;have hl:=D _ _ _ _ L;have KX:K.In s.heap:=j.mod.kin.keeps λb o e=>(j.bs b o e).1
 have X:s.heap.NoLimit:=j.mod.nolimit.keeps λb o e=>(j.bs b o e).1
 have p:∀y∈M.zip us,a.names.lookup y.1=some .local\/(a.names.lookup y.1=some .cell/\((cellsFrom (s.heap.objs.size+1) a.names []).lookup y.1).isSome=true):=λ⟨n,v⟩ hy=>by
  rcases S.par n (of_mem_zip hy).1 with q|q
  ·exact .inl q
  ·exact .inr ⟨q,cellsFrom_some _ _ _ (.inl q)⟩
 refine codeAny_call_function hr.depth (KX _ _ lk) rfl S.co S.gen rfl (codeRec_of KX W) (hb _ _ _ _ ?_);refine wpAny_newFunctionEnv_cells S.kind p λaa he s1 x=>?_
 subst he;refine⟨X.keeps x.toInCall.keep,codeAny_func ?_⟩;obtain⟨t,ht,hq⟩:=z A outer s H l Q E hd (hr.deeper _) L;have e1:Env0 P w K mg base {A with handled:=none} outer s H:=⟨j.frames,j.mod,j.bs,j.bsz,j.funs,j.frf,j.hok,j.bare⟩
 have I0:Inv (zIN (CXx P w) P w K mg base N g a f h {A with handled:=none} outer s H E) [] (wK N l) H s1:=QZ S rfl e1 hl r x
 have I:Inv (cxN c P w K mg base N g a f h A outer s H E) [] (wK N l) H s1:=zC3 I0 (A.deeper (envOfC g a s.heap.objs.size f h)) c _ hd (Around.frames_deeper j.frames);refine wpAny_mono (ht [] s1 (wK N l) H _ I hq) (λfl s' C=>?_) λe s' C=>C
 have fin:∀{σ':L2.St} {H':Hp} {v:V} {u:Lv},Inv (cxN c P w K mg base N g a f h A outer s H E) [] σ' H' s'->yb v u->Q v H'->CE outer P w H s Q u s' :=
  λ{σ' H' v u} J O q=>⟨v,H',J.os,J.bare,J.base,J.hok,O,q⟩
 cases fl with
 |ret u =>
  obtain⟨v,σ',H',J,O,q⟩:=C;exact fin J O q
 |next =>
  obtain⟨σ',H',J,q⟩:=C;exact fin (v:=V.non) (u:=Value.none) J rfl q
 |brk =>
  obtain⟨_,_,_,q⟩:=C;exact False.elim q
 |cont =>
  obtain⟨_,_,_,q⟩:=C;exact False.elim q
end
structure Exn where
 cls:Str
 made:Bool
 vs:List Int
 deriving Inhabited
def zAm(c:Str):Ls Str:=if c == "TooGreat" then ["many","most"]else if c == "NoText" then ["row"]else []
def fsV(c:Str)(vs:Ls Int):Ls (Str×V):=(zAm c).zip (vs.map V.int)
def Fs(a:Lx Lz)(H:Hp)(c:Str)(vs:Ls Int):Prop:=vs=[]\/∃d,a=some d/\H d=some (XD d (fsV c vs))
def RelX(X:Cx)(c:Ls (Lz×Obj))(σ:L2.St)(x:Exn)(H:Hp)(e:Lv)(s:La):Prop:=∃a C g,e=.ref a/\X.mg x.cls=some (.ref C)/\H a=none/\Fs g H x.cls x.vs /\
 ((x.made=true/\∃h,Inv X c σ H h/\s={h with heap:=s.heap}/\MadeD h.heap s.heap a (.ref C) g) \/
  (x.made=false/\∃i Hc,Inv X c σ Hc i/\Un (frs X.stack) [] Hc H i.heap s.heap/\Flies X.stack H i.heap a C s.heap/\GN a g s.heap))
def XE(X:Cx)(σ:L2.St)(H:Hp)(x:Exn):Prop:=∀(a:Ls (Lz×Obj)) (s:La) (e:Lv),Inv X a σ H s->RelX X a σ x H e s->X.xe e s
def EX(X:Cx)(σ:L2.St):XK:=λc a H'=>∃x C,c=.ref C/\X.mg x.cls=some (.ref C)/\x.made=false/\Fs a H' x.cls x.vs/\XE X σ H' x
section
variable{X:Cx}{pins:Ls (Lz×Obj)}{σ:L2.St}{H:Hp}{s s':La}{e:Lv}
def pass_x(I:Inv X pins σ H s)(h:CXx X.prog X.w X.stack H s (EX X σ) e s'):X.xe e s':=by
 obtain⟨a,C,j,H',rfl,n,c,un,i,p,r,o,x,C',l,q,g,hf,k⟩:=h;cases l;have I':Inv X pins σ H' s':=I.call' (ch:=[]) n un i c (λb z=>absurd z (by simp));exact k pins s' _ I' ⟨a,C,j,rfl,q,p,hf,.inr ⟨g,s,H,I,un,r,o⟩⟩
def run_fnN(F:FnOkN c X.prog X.w X.K X.mg X.base k f fd ps sp)(hd:c=true->X.A.handled=none)(i:RoomN k X.A)(l:ZS X.K fd ps [])
  (I:Inv X pins σ H s) (r:yA vs us) (h:sp vs H Q (EX X σ)):wpAny (model X.prog X.w) X.A (call (.ref f) us) (EP X pins σ Q) X.xe s:=by
 have hl:us.length=ps.length:=by rw[<- r.length];exact F.len _ _ _ _ h
 have g:=l s us I.kIn (by rw[append_nil];exact hl);rw[append_nil]at g;refine wpAny_call (codeAny_mono (F.run X.A X.stack s H ⟨us,[]⟩ us vs Q (EX X σ) hd i I.env0 g r h) λr n a=>?_);cases r with
 |error e=>exact pass_x I a
 |ok j =>
  cases j with
  |ret u=>exact I.after a|next=>exact False.elim a|brk=>exact False.elim a|cont=>exact False.elim a
end
section
variable{X:Cx}{c:Bool}{k:Nat}{f:Lz}{fd:FuncData}{ps:Ls Str}{sp:Sp}{x:Str}{p pos:Pos}{e:Lb}{es:Ls Lb}{t:TA}
def zGZ(F:FnOkN c X.prog X.w X.K X.mg X.base k f fd ps sp)(i:c=true->X.A.handled=none)(n:RoomN k X.A)(w:Gl X x)(v:X.mg x=some (.ref f))(o:keepIn X.K (.ref f)=true)(z:ZS X.K fd ps [])
  (y:PA X (e::es) t) (g:(x==("__debug__":Str))=false:=by decide) (u:starEach (e::es) X.env=(false,eval e X.env)::starEach es X.env:=by rfl) (j:(backTo pos (starEach es X.env)).any (·.1)=false:=by rfl) :
  PE X (.Call (.Name x p) (e::es) [] pos) (λσ H Q=>t σ H λl H1=>sp l H1 Q (EX X σ)):=by
 intro a s σ H Q I h;refine wpAny_Call_Name_kw (zDa I w v ?_ g);refine PySem.W.callWith_K (h₀:=X.base) I.ok.mod.kin o (thn (y pos a s σ H _ I h) λD C ⟨l,H1,I1,r,q⟩=>⟨I1.kIn,?_⟩) u j;exact run_fnN F i n z I1 r q
end
def zGa{c:Bool}{P:Lc}{w:Le}{K:qH}{n:Str->Lx Lv}{base:Heap}{N:Ls Str}{j:Str}{g:Scope}{f:Lz}{u:Lv}{A:Lg}{outer:Ls Env}{s:La}{H k:Hp}{E:XK}{σ:L2.St}{x:Exn}
  (l:∀C i,n x.cls=some (.ref C)->Fs i k x.cls x.vs->E (.ref C) i k):XE (cxN c P w K n base N j g f u A outer s H E) σ k x:=by
 intro p Q e I ⟨a,C,i,he,hm,hn,hf,h⟩;subst he;rcases h with⟨_,M,I1,v,y⟩|⟨_,O,Hc,Ic,un,D,r⟩
 ·exact zAl I1 y v hn (l C i hm hf)
 ·obtain⟨B,t,G,J⟩:=D
  refine zC2 I I.base hn ⟨B,t,G,λb o q z nf=>J b o q ?_ nf⟩ r (l C i hm hf);rcases z with⟨L,z⟩|z
  ·exact .inl (Ic.base.there b L z (by show b∉([]:Ls Lz);simp))
  ·exact .inr z
end DV
namespace DV
open PySem L2 PyProof.Rows PySem.Spec
open PySem.W (Frag Looks)
structure XCls(K:Frag)(c:Str)(C T:Lz):Prop where
 cd:∃cd,clsIn K C=some cd/\cd.name=c/\cd.mro=[.ref C,.ref T,.type "ValueError",.type "Exception",.type "BaseException",.type "object"]
 ty:typeIn K (.ref C)=some (.type "type")
 ga:findIn K (.ref C) "__getattribute__"=some (some (.builtin "BaseException.__getattribute__"))
 gn:findIn K (.ref C) "__getattr__"=some none
 gc:findIn K (.ref C) "__class__"=some (some (.builtin "object.__class__"))
 sp:specialIn K (.builtin "object.__class__") "__get__"=some (some (.builtin "getset_descriptor.__get__"))
 tk:takesIn K (.builtin "object.__class__")=some true
section
open Builtin Builtin.ObjectAttr Builtin.Getset_descriptor
variable{K:Frag}{c:Str}{C T x:Lz}{h:Heap}{ox:Obj}{M:Model}
def XCls.mro(F:XCls K c C T)(b:Lv):mroIn K C b=some ([Value.ref C,.ref T,.type "ValueError",.type "Exception",.type "BaseException",.type "object"].contains b):=by
 obtain⟨g,a,_,e⟩:=F.cd;unfold mroIn;rw[a,Option.bind_some,e];rfl
end
structure TCls(K:Frag)(T:Lz):Prop where
 cd:∃cd,clsIn K T=some cd/\cd.mro=.ref T::VB
 ty:typeIn K (.ref T)=some (.type "type")
section
variable{K:Frag}{c y:Str}{C Y T x:Lz}{h:Heap}{ox:Obj}{M:Model}
def TCls.mro(F:TCls K T)(b:Lv):mroIn K T b=some ((Value.ref T::VB).contains b):=by
 obtain⟨e,a,c⟩:=F.cd;unfold mroIn;rw[a,Option.bind_some,c];rfl
end
end DV
namespace DV
open PySem L2 PyProof.Rows PySem.Spec
open PySem.W (Looks)
structure XSet(K:qH)(C T:Lz):Prop where
 cd:∃cd,clsIn K C=some cd/\cd.mro=.ref C::.ref T::VB/\cd.hasDict=true
 sa:findIn K (.ref C) "__setattr__"=some (some (.builtin "object.__setattr__"))
end DV
namespace DV
open PySem L2
set_option genInjectivity true in
inductive D where
 |non
 |bl (b:Bool)
 |int (i:Int)
 |str (x:Str)
 |t (ds:List D)
 |l (ds:List D)
 |fn (x:Str)
 |dic
 |exn (c:Str) (vs:List Int)
 |m (ks:List (List KN)) (vs:List D)
 deriving Inhabited
def oD:KN->D
 |none=>.non|some i=>.int i
def kD(ks:Ls KN):D:=.t (ks.map oD)
mutual
def Rep(K:qH)(g:Str->Lx Lv)(H:Hp):D->V->Prop
 | .non,v=>v=.non| .bl b,v=>v=.bl b| .int i,v=>v=.int i| .str x,v=>v=.str x| .t ds,v=>∃a h,v=.ref a/\SqT K H a h/\Reps K g H ds h| .l ds,v=>∃a h,v=.ref a/\SqL K H a h/\Reps K g H ds h| .fn x,v=>∃f,v=.ref f/\g x=some (.ref f)| .dic,v=>∃a,v=.ref a/\H a=some (.dK [])| .exn c vs,v=>∃a C,v=.ref a/\g c=some (.ref C)/\((vs=[]/\H a=some (ExO C a))\/∃d,H a=some (ExA C d a)/\H d=some (XD d (fsV c vs)))| .m ks vs,v=>∃a j,v=.ref a/\zC1 H a j/\ks=j.map (·.1)/\(∀e∈j,SqT K H e.2.1 (e.1.map oV))/\Reps K g H vs (j.map (·.2.2))
def Reps(K:qH)(c:Str->Lx Lv)(H:Hp):Ls D->Ls V->Prop
 | [],a=>a=[]|d::ds,a=>∃v r,a=v::r/\Rep K c H d v/\Reps K c H ds r
end
section
variable{K:qH}{mg:Str->Lx Lv}{H H':Hp}
def zL(e:YU H H')(h:SqT K H a xs):SqT K H' a xs:=by
 rcases h with(h|⟨o,h⟩)|h
 ·exact .inl (.inl (e _ _ h))
 ·exact .inl (.inr ⟨o,e _ _ h⟩)
 ·exact .inr h
mutual
theorem Rep.mono(e:YU H H'):∀{d:D} {v:V},Rep K mg H d v->Rep K mg H' d v
 | .non,_,h=>by simpa only[Rep]using h| .bl _,_,h=>by simpa only[Rep]using h| .int _,_,h=>by simpa only[Rep]using h| .str _,_,h=>by simpa only[Rep]using h
 | .t k,_,h=>by
  obtain⟨a,i,g,h2,c⟩:=h;exact⟨a,i,g,zL e h2,Reps.mono e c⟩
 | .l k,_,h=>by
  obtain⟨a,i,g,h2,c⟩:=h;exact⟨a,i,g,e.seq h2,Reps.mono e c⟩
 | .fn _,_,h=>by simpa only[Rep]using h
 | .dic,_,h=>by
  obtain⟨a,g,h2⟩:=h;exact⟨a,g,e _ _ h2⟩
 | .exn _ _,_,h=>by
  obtain⟨a,C,g,h2,c⟩:=h;refine⟨a,C,g,h2,?_⟩;rcases c with⟨hv,c⟩|⟨d,c,h4⟩
  ·exact .inl ⟨hv,e _ _ c⟩
  ·exact .inr ⟨d,e _ _ c,e _ _ h4⟩
 | .m o n,_,h=>by
  obtain⟨a,l,g,h2,c,h4,h5⟩:=h;exact⟨a,l,g,h2.mono e,c,λx j=>zL e (h4 x j),Reps.mono e h5⟩
theorem Reps.mono(e:YU H H'):∀{a:Ls D} {c:Ls V},Reps K mg H a c->Reps K mg H' a c
 | [],_,h=>by simpa only[Reps]using h
 |d::a,_,h=>by
  obtain⟨v,r,g,h2,i⟩:=h;exact⟨v,r,g,Rep.mono e h2,Reps.mono e i⟩
end
theorem Reps.length:∀{a:Ls D} {c:Ls V},Reps K mg H a c->c.length=a.length
 | [],_,h=>by dsimp[Reps]at h;subst h;rfl
 |d::a,_,h=>by
  obtain⟨v,r,rfl,h2,e⟩:=h;simp[Reps.length e]
def Reps.nil:Reps K mg H [] []:=by dsimp[Reps]
def Reps.cons(h:Rep K mg H d v)(t:Reps K mg H ds vs):Reps K mg H (d::ds) (v::vs):=by
 dsimp[Reps];exact⟨v,vs,rfl,h,t⟩
theorem Reps.get:∀{a:Ls D} {c:Ls V} {i:Nat} {v:V},Reps K mg H a c->c[i]?=some v->∃d,a[i]?=some d/\Rep K mg H d v
 | [],_,_,_,h,e=>by dsimp[Reps]at h;subst h;simp at e
 |d::a,_,i,v,h,e=>by
  obtain⟨n,r,rfl,h2,j⟩:=h;cases i with
  |zero=>simp at e;subst e;exact⟨d,rfl,h2⟩|succ i=>simp at e;obtain⟨g,k,l⟩:=Reps.get j e;exact⟨g,by simpa using k,l⟩
theorem Reps.get':∀{a:Ls D} {c:Ls V} {i:Nat} {d:D},Reps K mg H a c->a[i]?=some d->∃v,c[i]?=some v/\Rep K mg H d v
 | [],_,_,_,h,e=>by simp at e
 |d::a,_,i,n,h,e=>by
  obtain⟨l,r,rfl,h2,g⟩:=h;cases i with
  |zero=>simp at e;subst e;exact⟨l,rfl,h2⟩|succ i=>simp at e;obtain⟨v,j,k⟩:=Reps.get' g e;exact⟨v,by simpa using j,k⟩
theorem Reps.append:∀{a i:Ls D} {c e:Ls V},Reps K mg H a c->Reps K mg H i e->Reps K mg H (a++i) (c++e)
 | [],_,_,_,h,g=>by dsimp[Reps]at h;subst h;exact g
 |d::a,_,_,_,h,g=>by
  obtain⟨k,r,rfl,h2,j⟩:=h;exact Reps.cons h2 (Reps.append j g)
theorem Reps.set:∀{a:Ls D} {c:Ls V} (i:Nat) {d:D} {v:V},Reps K mg H a c->Rep K mg H d v->Reps K mg H (a.set i d) (c.set i v)
 | [],_,_,_,_,h,g=>by dsimp[Reps]at h;subst h;exact Reps.nil
 |d::a,_,i,_,_,h,g=>by
  obtain⟨j,r,rfl,h2,e⟩:=h;cases i with
  |zero=>exact Reps.cons g e|succ i=>exact Reps.cons h2 (Reps.set i e g)
theorem Reps.take:∀{a:Ls D} {c:Ls V} (n:Nat),Reps K mg H a c->Reps K mg H (a.take n) (c.take n)
 | [],_,_,h=>by dsimp[Reps]at h;subst h;simp[Reps.nil]
 |d::a,_,n,h=>by
  obtain⟨g,r,rfl,h2,e⟩:=h;cases n with
  |zero=>exact Reps.nil|succ n=>exact Reps.cons h2 (Reps.take n e)
theorem Reps.drop:∀{a:Ls D} {c:Ls V} (n:Nat),Reps K mg H a c->Reps K mg H (a.drop n) (c.drop n)
 | [],_,_,h=>by dsimp[Reps]at h;subst h;simp[Reps.nil]
 |d::a,_,n,h=>by
  obtain⟨g,r,rfl,h2,e⟩:=h;cases n with
  |zero=>exact Reps.cons h2 e|succ n=>exact Reps.drop n e
theorem Reps.flatten(h:Reps K mg H ds vs):∀n:Nat,Reps K mg H (replicate n ds).flatten (replicate n vs).flatten
 |0=>Reps.nil|n+1=>by dsimp[replicate_succ,flatten_cons];exact h.append (Reps.flatten h n)
end
open Classical in
def Hm(M:Ld)(H:Hp):Hp:=λb=>if M b then none else H b
section
variable{M M':Ld}{H H':Hp}{b:Lz}{o:HO}
def zq:Hm M H b=some o↔¬M b/\H b=some o:=by
 unfold Hm;by_cases h:M b
 ·simp[h]
 ·simp[h]
def zF:YU (Hm M H) H:=λb o h=>(zq.mp h).2
def jr(h:∀b,M' b->M b):YU (Hm M H) (Hm M' H):=λb o e=>zq.mpr ⟨λx=>(zq.mp e).1 (h b x),(zq.mp e).2⟩
end
inductive Slot where
 |e
 |v (d:D)
 |w (ds:List D)
 |p (ds:List D)
 |m (ks:List (List KN)) (vs:List D)
 deriving Inhabited
abbrev zU:=Ls Slot
set_option genInjectivity true in
inductive R where
 |v (d:D)
 |w (ds:List D)
 |m (ks:List (List KN)) (vs:List D)
 deriving Inhabited
def R.slot:R->Slot
 | .v d=>.v d| .w ds=>.w ds| .m ks vs=>.m ks vs
def R.d:R->D
 | .v d=>d| .w ds=>.l ds| .m ks vs=>.m ks vs
inductive Ct where
 |l (ds:List D)
 |d (ks:List (List KN)) (vs:List D)
def Slot.ct?:Slot->Lx Ct
 | .w ds=>some (.l ds)| .p ds=>some (.l ds)| .m ks vs=>some (.d ks vs)|_=>none
def CRep(K:qH)(g:Str->Lx Lv)(H:Hp)(a:Lz):Ct->HO->Prop
 | .l i,o=>∃h,o=.l h/\Reps K g H i h| .d ks vs,o=>∃c,(∃j,o=WZ a c j)/\ks=c.map (·.1)/\(∀e∈c,SqT K H e.2.1 (e.1.map oV))/\Reps K g H vs (c.map (·.2.2))
theorem CRep.mono{h:Str->Lx Lv}(e:YU H H'):∀{c:Ct},CRep K h H a c o->CRep K h H' a c o
 | .l k,⟨j,g,h2⟩=>⟨j,g,h2.mono e⟩| .d ks vs,⟨es,g,h2,h3,h4⟩=>⟨es,g,h2,λx i=>zL e (h3 x i),h4.mono e⟩
def Slot.list?:Slot->Lx (Ls D)
 | .w ds=>some ds| .p ds=>some ds|_=>none
abbrev Fz:=Ls (Lx V×Slot)
def GO:Lx V×Slot->Lx Lz
 | (some (.ref a),.w _)=>some a| (some (.ref a),.p _)=>some a| (some (.ref a),.m _ _)=>some a|_=>none
def yP(Z:Fz):Ls Lz:=Z.filterMap GO
def Mo(M:Ld)(Z:Fz):Ld:=λb=>M b\/b∈yP Z
def za(Z T:Fz):yP (Z++T)=yP Z++yP T:=List.filterMap_append
def zr(o:Lx V)(d:D)(Z:Fz):yP ((o,.v d)::Z)=yP Z:=by
 unfold yP;cases o with
 |none=>rfl
 |some v=>cases v<;>rfl
def GP(a:Lz)(ds:Ls D)(Z:Fz):yP ((some (.ref a),.w ds)::Z)=a::yP Z:=rfl
def GQ(a:Lz)(ks:Ls (Ls KN))(vs:Ls D)(Z:Fz):yP ((some (.ref a),.m ks vs)::Z)=a::yP Z:=rfl
def yc(o:Lx V)(Z:Fz):yP ((o,.e)::Z)=yP Z:=by
 unfold yP;cases o with
 |none=>rfl
 |some v=>cases v<;>rfl
def jW(M:Ld)(T Z:Fz):Mo M (T++Z)=Mo (Mo M T) Z:=by
 funext b
 apply propext;dsimp[Mo,za,mem_append];constructor
 ·rintro (h|h|h)
  ·exact .inl (.inl h)
  ·exact .inl (.inr h)
  ·exact .inr h
 ·rintro ((h|h)|h)
  ·exact .inl h
  ·exact .inr (.inl h)
  ·exact .inr (.inr h)
def GR{M:Ld}(p:T.Perm Z):Mo M T=Mo M Z:=by
 funext b
 apply propext;dsimp[Mo,yP];rw[(p.filterMap GO).mem_iff]
def Yz(M:Ld)(o:Lx V)(d:D)(Z:Fz):Mo M ((o,.v d)::Z)=Mo M Z:=by unfold Mo;rw[zr]
def Mo_emp(M:Ld)(o:Lx V)(Z:Fz):Mo M ((o,.e)::Z)=Mo M Z:=by unfold Mo;rw[yc]
structure FR(K:qH)(mg:Str->Lo)(M:Ld)(H:Hp)(Z:Fz):Prop where
 val:∀o d,(o,Slot.v d)∈Z->∃v,o=some v/\Rep K mg (Hm (Mo M Z) H) d v
 own:∀o s c,(o,s)∈Z->s.ct?=some c->∃a ho,o=some (.ref a)/\H a=some ho/\¬M a/\CRep K mg (Hm (Mo M Z) H) a c ho
 nd:(yP Z).Nodup
 mal:∀b,M b->∃o,H b=some o/\OwnK o
structure Step(M:Ld)(H:Hp)(Z:Fz)(H':Hp)(Z':Fz):Prop where
 same:YU (Hm (Mo M Z) H) (Hm (Mo M Z') H')
 keep:∀b o,M b->H b=some o->H' b=some o
section
variable{K:qH}{mg:Str->Lx Lv}{M:Ld}{H H' H1 H2:Hp}{Z Z' T Z1 Z2:Fz}
theorem Step.refl:Step M H Z H Z:=⟨YU.refl _,λ_ _ _ h=>h⟩
theorem Step.trans(a:Step M H Z H1 Z1)(b:Step M H1 Z1 H2 Z2):Step M H Z H2 Z2 :=
 ⟨a.same.trans b.same,λx o m h=>b.keep x o m (a.keep x o m h)⟩
def YD(h:∀b,b∈yP Z->b∈yP Z'):∀b,Mo M Z b->Mo M Z' b:=λb q=>q.elim .inl λq=>.inr (h b q)
def Step.weak(a:Step M H Z H' Z')(h:∀b,b∈yP T->b∈yP Z'):Step M H Z H' T :=
 ⟨a.same.trans (jr (YD h)),a.keep⟩
def Step.left(a:Step M H Z H' Z')(h:∀b,b∈yP Z->b∈yP T):Step M H T H' Z' :=
 ⟨(jr (YD h)).trans a.same,a.keep⟩
def zD(h:T.Sublist Z):∀b,b∈yP T->b∈yP Z:=λb q=>(h.filterMap GO).subset q
def zE(h:T.Perm Z):∀b,b∈yP T->b∈yP Z:=λb q=>(h.filterMap GO).subset q
def FR.perm(h:FR K mg M H Z)(p:Z.Perm T):FR K mg M H T where
 val:=λo d q=>by rw[<- GR p];exact h.val o d (p.mem_iff.mpr q)
 own:=λo s a q e=>by rw[<- GR p];exact h.own o s a (p.mem_iff.mpr q) e
 nd:=(p.filterMap GO).nodup_iff.mp h.nd
 mal:=h.mal
def FR.sub(h:FR K mg M H Z)(p:T.Sublist Z):FR K mg M H T where
 val:=λo d q=>by
  obtain⟨v,e,r⟩:=h.val o d (p.subset q);exact⟨v,e,r.mono (jr (YD (zD p)))⟩
 own:=λo s i q e=>by
  obtain⟨a,j,c,k,g,r⟩:=h.own o s i (p.subset q) e;exact⟨a,j,c,k,g,r.mono (jr (YD (zD p)))⟩
 nd:=h.nd.sublist (p.filterMap GO)
 mal:=h.mal
def FR.tail(h:FR K mg M H (x::Z)):FR K mg M H Z:=h.sub (sublist_cons_self _ _)
def zD4{s:Slot}{ds:Ls D}(e:s.list?=some ds):s.ct?=some (.l ds):=by
 cases s<;>first|(cases e;rfl)|(cases e)
def FR.ownL(h:FR K mg M H Z)(o:Lx V)(s:Slot)(ds:Ls D)(m:(o,s)∈Z)(e:s.list?=some ds):∃a xs,o=some (.ref a)/\H a=some (.l xs)/\¬M a/\Reps K mg (Hm (Mo M Z) H) ds xs:=by
 obtain⟨a,ho,i,g,c,xs,rfl,r⟩:=h.own o s _ m (zD4 e);exact⟨a,xs,i,g,c,r⟩
def jM(h:(o,s)∈Z)(e:s.ct?=some c)(g:o=some (.ref a)):a∈yP Z:=by
 subst g;refine mem_filterMap.mpr ⟨_,h,?_⟩;cases s<;>simp[Slot.ct?]at e<;>rfl
def zAn{o:Lx V}{s:Slot}{ds:Ls D}{a:Lz}(h:(o,s)∈Z)(e:s.list?=some ds)(c:o=some (.ref a)):a∈yP Z:=jM h (zD4 e) c
def zAo(h:a∈yP Z):∃s c,(some (V.ref a),s)∈Z/\Slot.ct? s=some c:=by
 obtain⟨⟨o,s⟩,g,h2⟩:=mem_filterMap.mp h;unfold GO at h2;split at h2
 ·rename_i e;cases e;cases h2;exact⟨_,_,g,rfl⟩
 ·rename_i e;cases e;cases h2;exact⟨_,_,g,rfl⟩
 ·rename_i e;cases e;cases h2;exact⟨_,_,g,rfl⟩
 ·cases h2
def CRep.own{e:Str->Lx Lv}:∀{c:Ct},CRep K e H a c o->OwnK o
 | .l _,⟨g,h,_⟩=>.inl ⟨g,h⟩| .d _ _,⟨es,⟨_,h⟩,_⟩=>.inr ⟨_,h⟩
def FR.ownAt(h:FR K mg M H Z)(e:a∈yP Z):∃o,H a=some o/\¬M a/\OwnK o:=by
 obtain⟨s,c,i,h2⟩:=zAo e;obtain⟨l,o,g,k,j,r⟩:=h.own _ s c i h2;cases g;exact⟨o,k,j,r.own⟩
def FR.moAl(h:FR K mg M H Z)(b:Lz)(e:Mo M Z b):∃o,H b=some o/\OwnK o:=by
 rcases e with e|e
 ·exact h.mal b e
 ·obtain⟨a,q,_,z⟩:=h.ownAt e
  exact⟨_,q,z⟩
def FR.inner(h:FR K mg M H (T++Z)):FR K mg (Mo M T) H Z where
 val:=λo d q=>by rw[<- jW];exact h.val o d (qK _ q)
 own:=λo s j q e=>by
  obtain⟨a,g,c,k,i,r⟩:=h.own o s j (qK _ q) e;refine⟨a,g,c,k,λm=>?_,by rw[<- jW];exact r⟩;rcases m with m|m
  ·exact i m
  ·have nd:=h.nd
   rw[za]at nd;exact(nodup_append.mp nd).2.2 a m a (jM q e c) rfl
 nd:=by
  have nd:=h.nd;rw[za]at nd;exact(nodup_append.mp nd).2.1
 mal:=λb q=>by
  rcases q with q|q
  ·exact h.mal b q
  ·obtain⟨g,q,_,z⟩:=h.ownAt (a:=b) (by rw[za];exact mem_append_left _ q)
   exact⟨_,q,z⟩
def FR.outer(h:FR K mg M H (T++Z))(g:FR K mg (Mo M T) H' Z')(st:Step (Mo M T) H Z H' Z'):FR K mg M H' (T++Z') where
 val:=λo d q=>by
  rw[jW];rcases mem_append.mp q with q|q
  ·obtain⟨v,e,r⟩:=h.val o d (mem_append_left _ q)
   rw[jW]at r;exact⟨v,e,r.mono st.same⟩
  ·exact g.val o d q
 own:=λo s l q e=>by
  rw[jW];rcases mem_append.mp q with q|q
  ·obtain⟨a,i,c,k,j,r⟩:=h.own o s l (mem_append_left _ q) e
   rw[jW]at r;exact⟨a,i,c,st.keep a _ (.inr (jM q e c)) k,j,r.mono st.same⟩
  ·obtain⟨a,i,c,k,j,r⟩:=g.own o s l q e
   exact⟨a,i,c,k,λm=>j (.inl m),r⟩
 nd:=by
  rw[za];have nd:=h.nd;rw[za]at nd;refine nodup_append.mpr ⟨(nodup_append.mp nd).1,g.nd,λa n b p e=>?_⟩;subst e;obtain⟨i,_,q,_⟩:=g.ownAt p;exact q (.inr n)
 mal:=λb q=>g.mal b (.inl q)
def Step.outer(st:Step (Mo M T) H Z H' Z'):Step M H (T++Z) H' (T++Z') :=
 ⟨by rw[jW,jW];exact st.same,λb o m h=>st.keep b o (.inl m) h⟩
def yS(a:H p=none):YU H (upd H p o):=λb u e=>by
 rw[zk (λq=>by subst q;rw[a]at e;cases e)];exact e
def FR.grow(h:FR K mg M H Z)(c:H p=none):FR K mg M (upd H p o) Z where
 val:=λg d q=>by
  obtain⟨v,e,r⟩:=h.val g d q;exact⟨v,e,r.mono λb u x=>zq.mpr ⟨(zq.mp x).1,yS c b u (zq.mp x).2⟩⟩
 own:=λg s k q e=>by
  obtain⟨a,l,i,n,j,r⟩:=h.own g s k q e;exact⟨a,l,i,yS c _ _ n,j,r.mono λb u x=>zq.mpr ⟨(zq.mp x).1,yS c b u (zq.mp x).2⟩⟩
 nd:=h.nd
 mal:=λb q=>by obtain⟨u,e,z⟩:=h.mal b q;exact⟨u,yS c _ _ e,z⟩
def Step.grow(a:H p=none):Step M H Z (upd H p o) Z :=
 ⟨λb u x=>zq.mpr ⟨(zq.mp x).1,yS a b u (zq.mp x).2⟩,λb u _ e=>yS a b u e⟩
def FR.add(h:FR K mg M H Z)(r:Rep K mg (Hm (Mo M Z) H) d v):FR K mg M H ((some v,.v d)::Z) where
 val:=λo c q=>by
  rw[Yz];rcases mem_cons.mp q with q|q
  ·cases q;exact⟨v,rfl,r⟩
  ·exact h.val o c q
 own:=λo s a q e=>by
  rw[Yz];rcases mem_cons.mp q with q|q
  ·cases q;cases e
  ·exact h.own o s a q e
 nd:=by rw[zr];exact h.nd
 mal:=h.mal
def Step.add(st:Step M H Z H' Z'):Step M H Z H' ((v,.v d)::Z'):=by
 refine⟨?_,st.keep⟩;rw[Yz];exact st.same
def Y0(h:FR K mg M H Z)(a:H p=none):¬Mo M Z p:=λq=>by
 obtain⟨o,e,_⟩:=h.moAl p q;rw[a]at e;cases e
def wc(h:FR K mg M H Z)(c:H p=none):YU (Hm (Mo M Z) H) (Hm (Mo M ((some (.ref p),.w ds)::Z)) (upd H p (.l xs))):=λb u x=>by
 obtain⟨a,h2⟩:=zq.mp x;refine zq.mpr ⟨λq=>?_,yS c _ _ h2⟩;rcases q with q|q
 ·exact a (.inl q)
 ·rw[GP]at q
  rcases mem_cons.mp q with q|q
  ·subst q;rw[c]at h2;cases h2
  ·exact a (.inr q)
def FR.newOwn(h:FR K mg M H Z)(c:H p=none)(r:Reps K mg (Hm (Mo M Z) H) ds xs):FR K mg M (upd H p (.l xs)) ((some (.ref p),.w ds)::Z) where
 val:=λo d q=>by
  rcases mem_cons.mp q with q|q
  ·cases q
  ·obtain⟨v,e,r⟩:=h.val o d q
   exact⟨v,e,r.mono (wc h c)⟩
 own:=λo s g q e=>by
  rcases mem_cons.mp q with q|q
  ·cases q;cases e
   exact⟨p,_,rfl,y3,λm=>Y0 h c (.inl m),xs,rfl,r.mono (wc h c)⟩
  ·obtain⟨a,k,i,l,j,r⟩:=h.own o s g q e
   exact⟨a,k,i,yS c _ _ l,j,r.mono (wc h c)⟩
 nd:=by
  exact nodup_cons.mpr ⟨λq=>Y0 h c (.inr q),h.nd⟩
 mal:=λb q=>by obtain⟨u,e,z⟩:=h.mal b q;exact⟨u,yS c _ _ e,z⟩
def Step.newOwn(h:FR K mg M H Z)(a:H p=none):Step M H Z (upd H p (.l xs)) ((some (.ref p),.w ds)::Z) :=
 ⟨wc h a,λb u _ e=>yS a b u e⟩
def jt(h:FR K mg M H Z)(c:H p=none):YU (Hm (Mo M Z) H) (Hm (Mo M ((some (.ref p),.m ks vs)::Z)) (upd H p o)):=λb u x=>by
 obtain⟨a,h2⟩:=zq.mp x;refine zq.mpr ⟨λq=>?_,yS c _ _ h2⟩;rcases q with q|q
 ·exact a (.inl q)
 ·rw[GQ]at q
  rcases mem_cons.mp q with q|q
  ·subst q;rw[c]at h2;cases h2
  ·exact a (.inr q)
def FR.newDct(h:FR K mg M H Z)(g:H p=none)(i:∀e∈es,SqT K (Hm (Mo M Z) H) e.2.1 (e.1.map oV))(r:Reps K mg (Hm (Mo M Z) H) vs (es.map (·.2.2))):FR K mg M (upd H p (WZ p es ob)) ((some (.ref p),.m (es.map (·.1)) vs)::Z) where
 val:=λo d q=>by
  rcases mem_cons.mp q with q|q
  ·cases q
  ·obtain⟨v,e,r⟩:=h.val o d q
   exact⟨v,e,r.mono (jt h g)⟩
 own:=λo s c q e=>by
  rcases mem_cons.mp q with q|q
  ·cases q;cases e
   exact⟨p,_,rfl,y3,λm=>Y0 h g (.inl m),es,⟨_,rfl⟩,rfl,λx l=>zL (jt h g) (i x l),r.mono (jt h g)⟩
  ·obtain⟨a,n,j,t,k,r⟩:=h.own o s c q e
   exact⟨a,n,j,yS g _ _ t,k,r.mono (jt h g)⟩
 nd:=by
  exact nodup_cons.mpr ⟨λq=>Y0 h g (.inr q),h.nd⟩
 mal:=λb q=>by obtain⟨u,e,z⟩:=h.mal b q;exact⟨u,yS g _ _ e,z⟩
def Step.newDct(h:FR K mg M H Z)(a:H p=none):Step M H Z (upd H p o) ((some (.ref p),.m ks vs)::Z) :=
 ⟨jt h a,λb u _ e=>yS a b u e⟩
def FR.newTup(h:FR K mg M H Z)(a:H p=none)(r:Reps K mg (Hm (Mo M Z) H) ds xs):FR K mg M (upd H p (.t xs)) ((some (.ref p),.v (.t ds))::Z):=by
 refine(h.grow a).add ?_;refine⟨p,xs,rfl,SqT.of (zq.mpr ⟨Y0 h a,y3⟩),r.mono λb u x=>zq.mpr ⟨(zq.mp x).1,yS a b u (zq.mp x).2⟩⟩
def Step.newVal(a:H p=none):Step M H Z (upd H p o) ((v,.v d)::Z):=(Step.grow a).add
def FR.frz{o:Lx V}{r:R}(h:FR K mg M H ((o,r.slot)::Z)):FR K mg M H ((o,.v r.d)::Z):=by
 cases r with
 |v d=>exact h
 |w n =>
  obtain⟨a,z,e,k,i,p⟩:=h.ownL o (.w n) n qE rfl;subst e;have g:¬Mo M Z a:=λq=>by
   rcases q with q|q
   ·exact i q
   ·exact(nodup_cons.mp h.nd).1 q
  refine h.tail.add ?_;exact⟨a,z,rfl,SqL.of (zq.mpr ⟨g,k⟩),p.mono (jr (YD (zD (sublist_cons_self _ _))))⟩
 |m j c =>
  obtain⟨a,ho,e,k,i,E,⟨C,rfl⟩,y,D,t⟩:=h.own o (.m j c) (.d j c) qE rfl;subst e;have g:¬Mo M Z a:=λq=>by
   rcases q with q|q
   ·exact i q
   ·exact(nodup_cons.mp h.nd).1 q
  refine h.tail.add ?_;have l:=jr (H:=H) (YD (M:=M) (zD (sublist_cons_self ((some (V.ref a),Slot.m j c)) Z)));exact⟨a,E,rfl,⟨C,zq.mpr ⟨g,k⟩⟩,y,λx u=>zL l (D x u),t.mono l⟩
def Step.frz{o:Lx V}{r:R}(h:Step M H Z H' ((o,r.slot)::Z')):Step M H Z H' ((o,.v r.d)::Z'):=by
 cases r with
 |v d=>exact h
 |w e =>
  refine h.weak λb q=>?_
  rw[zr]at q;exact(zD (sublist_cons_self _ _)) b q
 |m a c =>
  refine h.weak λb q=>?_
  rw[zr]at q;exact(zD (sublist_cons_self _ _)) b q
theorem GS:∀(σ:St) (E:zU) (i:Nat) (o:Lx V) (s:Slot),(σ.set i o).zip (E.set i s)=(σ.zip E).set i (o,s)
 | [],_,_,_,_=>by simp|_::_,[],_,_,_=>by simp|x::σ,y::E,0,o,s=>by simp|x::σ,y::E,i+1,o,s=>by simp[GS σ E i o s]
theorem zX{α:Type}(x:α):∀(l:Ls α) (i:Nat),i<l.length->(l.set i x).Perm (x::l.eraseIdx i)
 | [],_,h=>by simp at h|y::l,0,_=>List.Perm.refl _
 |y::l,i+1,h=>by
  have a:=zX x l i (by exists h);exact(a.cons y).trans (List.Perm.swap x y _)
def FR.put(h:FR K mg M H (((o:Lx V),s)::Z))(hi:i<Z.length):FR K mg M H (Z.set i (o,s)) :=
 (h.sub ((eraseIdx_sublist Z i).cons_cons (o,s))).perm (zX _ _ _ hi).symm
def Step.put(h:Step M H Z H' ((o,s)::Z'))(hi:i<Z'.length):Step M H Z H' (Z'.set i (o,s)):=by
 refine h.weak λb q=>?_
 exact zD ((eraseIdx_sublist Z' i).cons_cons (o,s)) b (zE (zX _ _ _ hi) b q)
end
inductive Out(α:Type) where
 |z
 |ok (a:α)
 |y (x:Exn) (E:zU)
 deriving Inhabited
abbrev ME:=zU->Out (R×zU)
abbrev MA:=zU->Out (Ls R×zU)
abbrev MT:=zU->Out (Bool×zU)
def PKp(σ:St)(E:zU)(σ':St)(E':zU):Prop:=∀(i:Nat) c,E[i]?=some (.p c)->(∃a,E'[i]?=some (.p a))/\σ'[i]?=σ[i]?
def PKp.refl{σ:St}{E:zU}:PKp σ E σ E:=λi a h=>⟨⟨a,h⟩,rfl⟩
theorem PKp.trans{σ σ1 σ2:St}{E E1 E2:zU}(a:PKp σ E σ1 E1)(b:PKp σ1 E1 σ2 E2):PKp σ E σ2 E2:=λi j h=>by
 obtain⟨⟨c,g⟩,e⟩:=a i j h;obtain⟨h2,k⟩:=b i c g;exact⟨h2,k.trans e⟩
structure Got(K:qH)(mg:Str->Lo)(M:Ld)(σ:St)(E:zU)(H:Hp)(T0:Fz)(σ':St)(E':zU)(H':Hp)(T:Fz):Prop where
 len:E'.length=σ'.length
 fr:FR K mg M H' (T++(T0++σ'.zip E'))
 st:Step M H (T0++σ.zip E) H' (T++(T0++σ'.zip E'))
 pk:PKp σ E σ' E'
def zD5(vs:Ls V)(rs:Ls R):Fz:=(vs.zip rs).map λp=>(some p.1,p.2.slot)
def KM(X:Cx)(M:Ld)(σ:St)(E:zU)(H:Hp)(T0:Fz)(Q:VK):Out (R×zU)->Prop
 | .z=>False| .ok (r,E')=>∀v H',Got X.K X.mg M σ E H T0 σ E' H' [(some v,r.slot)]->Q v H'| .y x E'=>∀H',Got X.K X.mg M σ E H T0 σ E' H' []->XE X σ H' x
def KT(X:Cx)(M:Ld)(σ:St)(E:zU)(H:Hp)(T0:Fz)(Q:Bool->Hp->Prop):Out (Bool×zU)->Prop
 | .z=>False| .ok (b,E')=>∀H',Got X.K X.mg M σ E H T0 σ E' H' []->Q b H'| .y x E'=>∀H',Got X.K X.mg M σ E H T0 σ E' H' []->XE X σ H' x
def KA(X:Cx)(M:Ld)(σ:St)(E:zU)(H:Hp)(T0:Fz)(Q:Ls V->Hp->Prop):Out (Ls R×zU)->Prop
 | .z=>False| .ok (rs,E')=>∀a H',a.length=rs.length->Got X.K X.mg M σ E H T0 σ E' H' (zD5 a rs)->Q a H'| .y x E'=>∀H',Got X.K X.mg M σ E H T0 σ E' H' []->XE X σ H' x
def tM(X:Cx)(m:ME):TE:=λσ H Q=>∃M E,E.length=σ.length/\FR X.K X.mg M H (σ.zip E)/\KM X M σ E H [] Q (m E)
def tMT(X:Cx)(m:MT):TT:=λσ H Q=>∃M E,E.length=σ.length/\FR X.K X.mg M H (σ.zip E)/\KT X M σ E H [] Q (m E)
def tMA(X:Cx)(m:MA):TA:=λσ H Q=>∃M E,E.length=σ.length/\FR X.K X.mg M H (σ.zip E)/\KA X M σ E H [] Q (m E)
abbrev EOk(X:Cx)(e:Lb)(m:ME):Prop:=PE X e (tM X m)
abbrev TOk(X:Cx)(e:Lb)(m:MT):Prop:=PT X e (tMT X m)
abbrev AOk(X:Cx)(es:Ls Lb)(m:MA):Prop:=PA X es (tMA X m)
def zi{X:Cx}{e:Lb}{t t':TE}(h:PE X e t)(i:∀σ H Q,t' σ H Q->t σ H Q):PE X e t':=λa s σ H Q I q=>h a s σ H Q I (i σ H Q q)
def Qf{X:Cx}{e:Lb}{t t':TT}(h:PT X e t)(i:∀σ H Q,t' σ H Q->t σ H Q):PT X e t':=λa s σ H Q I q=>h a s σ H Q I (i σ H Q q)
def zIT{X:Cx}{e:Lb}{t t':TT}(h:PW X e t)(i:∀σ H Q,t' σ H Q->t σ H Q):PW X e t':=λc a s σ H Q I q=>h c a s σ H Q I (i σ H Q q)
def Qg{X:Cx}{e:Ls Lb}{t t':TA}(h:PA X e t)(i:∀σ H Q,t' σ H Q->t σ H Q):PA X e t':=λp a s σ H Q I q=>h p a s σ H Q I (i σ H Q q)
def yx{X:Cx}{e:Lf}{t t':TS}(h:PS X e t)(i:∀D σ H,t' D σ H->t D σ H):PS X e t':=λa s σ H D I q=>h a s σ H D I (i D σ H q)
def zD6{X:Cx}{e:Ls Lf}{t t':TS}(h:PSs X e t)(i:∀D σ H,t' D σ H->t D σ H):PSs X e t':=λa s σ H D I q=>h a s σ H D I (i D σ H q)
section
variable{X:Cx}{K:qH}{mg:Str->Lx Lv}{M:Ld}{σ σ' σ1 σ2:St}{E E' E1 E2:zU}{H H' H1 H2:Hp}{T0 T T1 T2:Fz}{Q:VK}
def swapP{α:Type}(A B C:Ls α):(A++(B++([]++C))).Perm (B++(A++C)):=by
 rw[nil_append,<- append_assoc,<- append_assoc];exact(perm_append_comm).append_right _
def we{α:Type}{l:Ls α}{i:Nat}{x:α}(h:l[i]?=some x):l.set i x=l:=by
 obtain⟨a,rfl⟩:=qG.mp h;exact List.set_getElem_self a
theorem Got.outer(h:FR K mg M H (T0++σ.zip E))(g:Got K mg (Mo M T0) σ E H [] σ' E' H' T):Got K mg M σ E H T0 σ' E' H' T where
 len:=g.len
 fr:=by
  have q:=FR.outer h g.fr g.st;exact q.perm (swapP _ _ _)
 st:=by
  have q:=Step.outer g.st;refine q.weak λb a=>?_
  exact zE (swapP _ _ _).symm b a
 pk:=g.pk
theorem Got.trans(a:Got K mg M σ E H T0 σ1 E1 H1 T1)(b:Got K mg M σ1 E1 H1 (T1++T0) σ2 E2 H2 T2):Got K mg M σ E H T0 σ2 E2 H2 (T2++T1) where
 len:=b.len
 fr:=by
  have q:=b.fr;rw[append_assoc]at q;rw[append_assoc];exact q
 st:=by
  have q:=b.st;rw[append_assoc,append_assoc]at q;rw[append_assoc];exact a.st.trans q
 pk:=a.pk.trans b.pk
def Got.drop(a:Got K mg M σ E H T0 σ1 E1 H1 (T2++T1)):Got K mg M σ E H T0 σ1 E1 H1 T1 where
 len:=a.len
 fr:=a.fr.sub (by rw[append_assoc];exact sublist_append_right _ _)
 st:=a.st.weak (zD (by rw[append_assoc];exact sublist_append_right _ _))
 pk:=a.pk
def Got.dropAll(a:Got K mg M σ E H T0 σ1 E1 H1 T1):Got K mg M σ E H T0 σ1 E1 H1 [] where
 len:=a.len
 fr:=a.fr.sub (sublist_append_right _ _)
 st:=a.st.weak (zD (sublist_append_right _ _))
 pk:=a.pk
def Got.trans'(a:Got K mg M σ E H [] σ1 E1 H1 T1)(b:Got K mg M σ1 E1 H1 T1 σ2 E2 H2 T2):Got K mg M σ E H [] σ2 E2 H2 (T2++T1):=a.trans (by rw[append_nil];exact b)
theorem Got.refl(a:E.length=σ.length)(h:FR K mg M H (T0++σ.zip E)):Got K mg M σ E H T0 σ E H []:=⟨a,h,Step.refl,PKp.refl⟩
def Got.more(a:Got K mg M σ E H [] σ1 E1 H1 T1)(f:FR K mg M H2 (T++σ1.zip E1))(s:Step M H1 (σ1.zip E1) H2 (T++σ1.zip E1)):Got K mg M σ E H [] σ1 E1 H2 T where
 len:=a.len
 fr:=f
 st:=(a.st.weak (zD (sublist_append_right _ _))).trans s
 pk:=a.pk
def Got.frame(a:Got K mg M σ E H [] σ1 E1 H1 T1):FR K mg M H1 (σ1.zip E1):=a.fr.sub (sublist_append_right _ _)
def zC4(v:V)(r:R)(vs:Ls V)(rs:Ls R):zD5 (v::vs) (r::rs)=(some v,r.slot)::zD5 vs rs:=rfl
theorem zD7:∀{a:Ls V} {c:Ls R} {Z:Fz},a.length=c.length->FR K mg M H (zD5 a c++Z)->Reps K mg (Hm (Mo M Z) H) (c.map R.d) a
 | [],[],Z,_,h=>Reps.nil
 |v::a,r::c,Z,hl,h=>by
  rw[zC4,cons_append]at h;refine Reps.cons ?_ (zD7 (by exists hl) h.tail);obtain⟨i,e,q⟩:=h.frz.val (some v) r.d qE;cases e;refine q.mono (jr (YD λb g=>?_));rw[zr,za];exact qK _ g
def Got.reps{vs:Ls V}{rs:Ls R}(c:vs.length=rs.length)(a:Got K mg M σ E H [] σ1 E1 H1 (zD5 vs rs)):Reps K mg (Hm (Mo M (σ1.zip E1)) H1) (rs.map R.d) vs:=zD7 c a.fr
def Got.rep{v:V}{r:R}(a:Got K mg M σ E H [] σ1 E1 H1 [(some v,r.slot)]):Rep K mg (Hm (Mo M (σ1.zip E1)) H1) r.d v:=by
 have q:=Got.reps (vs:=[v]) (rs:=[r]) rfl a;obtain⟨g,c,e,h,_⟩:=q;cases e;exact h
def zc{m:ME}(c:E.length=σ.length)(h:FR X.K X.mg M H (T0++σ.zip E))
  (k:KM X M σ E H T0 Q (m E)):tM X m σ H Q:=by
 refine⟨Mo M T0,E,c,h.inner,?_⟩;cases e:m E with
 |z=>rw[e]at k;exact k|ok a=>rw[e]at k;exact λv H' g=>k v H' (g.outer h)|y x E'=>rw[e]at k;exact λH' g=>k H' (g.outer h)
def JV{m:MT}{Q:Bool->Hp->Prop}(c:E.length=σ.length)(h:FR X.K X.mg M H (T0++σ.zip E))
  (k:KT X M σ E H T0 Q (m E)):tMT X m σ H Q:=by
 refine⟨Mo M T0,E,c,h.inner,?_⟩;cases e:m E with
 |z=>rw[e]at k;exact k|ok a=>rw[e]at k;exact λH' g=>k H' (g.outer h)|y x E'=>rw[e]at k;exact λH' g=>k H' (g.outer h)
def YV{m:MA}{Q:Ls V->Hp->Prop}(i:E.length=σ.length)(h:FR X.K X.mg M H (T0++σ.zip E))
  (k:KA X M σ E H T0 Q (m E)):tMA X m σ H Q:=by
 refine⟨Mo M T0,E,i,h.inner,?_⟩;cases e:m E with
 |z=>rw[e]at k;exact k|ok a=>rw[e]at k;exact λc H' hv g=>k c H' hv (g.outer h)|y x E'=>rw[e]at k;exact λH' g=>k H' (g.outer h)
def eC(d:D):ME:=λE=>.ok (.v d,E)
def flat:D->Bool
 | .non | .bl _ | .int _ | .str _=>true
 |_=>false
def flV:D->V
 | .bl b=>.bl b| .int i=>.int i| .str x=>.str x|_=>.non
def zBr{d:D}(h:flat d=true):Rep K mg H d (flV d):=by
 cases d<;>simp[flat]at h<;>simp[Rep,flV]
theorem Got.flat(a:Got K mg M σ E H [] σ1 E1 H1 T1){d:D}(h:flat d=true):Got K mg M σ E H [] σ1 E1 H1 [(some (flV d),.v d)] :=
 a.more (a.frame.add (zBr h)) Step.refl.add
def ok_c{e:Lb}{d:D}(h:PE X e (tC (flV d)))(a:flat d=true:=by rfl):EOk X e (eC d):=zi h λσ H Q ⟨M,E,hl,f,k⟩ =>
 k (flV d) H ((Got.refl (T0:=[]) hl f).flat a)
def ok_int{i j pos}:EOk X (.Constant (.int i) j pos) (eC (.int i)):=ok_c pe_int
def ok_bl{b j pos}:EOk X (.Constant (.bool b) j pos) (eC (.bl b)):=ok_c pe_bl
def ok_non{j pos}:EOk X (.Constant .none j pos) (eC .non):=ok_c pe_non
def ok_str{x j pos}:EOk X (.Constant (.str x) j pos) (eC (.str x)):=ok_c pe_str
def zC5(i:Nat):ME:=λE=>match E[i]? with
 |some (.v d)=>.ok (.v d,E)|some (.w ds)=>.ok (.v (.l ds),E.set i (.v (.l ds)))|some (.m ks vs)=>.ok (.v (.m ks vs),E.set i (.v (.m ks vs)))|_=>.z
def wf{i:Nat}{s:Slot}(a:E.length=σ.length)(h:E[i]?=some s):∃o,σ[i]?=some o/\(σ.zip E)[i]?=some (o,s):=by
 have c:i<E.length:=(qG.mp h).1;have:i<σ.length:=a▸c;refine⟨σ[i],by simp[this],?_⟩;rw[List.getElem?_zip_eq_some];exact⟨by simp[this],h⟩
def jN{i:Nat}{s:Slot}(c:E.length=σ.length)(h:E[i]?=some s):∃o,σ[i]?=some o/\(o,s)∈σ.zip E:=by
 obtain⟨o,a,h2⟩:=wf c h;exact⟨o,a,mem_of_getElem? h2⟩
def zg{i:Nat}{o:Lx V}(s:Slot)(h:σ[i]?=some o):σ.zip (E.set i s)=(σ.zip E).set i (o,s):=by
 rw[<- GS];congr 1;have a:i<σ.length:=(qG.mp h).1;apply ext_getElem?;intro j;by_cases e:i=j
 ·subst e;rw[getElem?_set_self a,h]
 ·rw[getElem?_set_ne e]
def Qh{i:Nat}{s:Slot}{ds0:Ls D}(h:E[i]?=some s)(g:∀a,s≠.p a)(o:Slot):PKp σ E σ (E.set i o):=λj a e=>by
 have c:i≠j:=λq=>by subst q;rw[h]at e;exact g a (qJ e)
 exact⟨⟨a,by rw[getElem?_set_ne c];exact e⟩,rfl⟩
def ok_var(i:Nat){x:Str}{C:Pos}(h:PE X (.Name x C) (Wz i)):EOk X (.Name x C) (zC5 i):=zi h λσ H Q ⟨M,E,hl,f,k⟩=>by
 unfold zC5 at k;cases e:E[i]? with
 |none=>rw[e]at k;exact k.elim
 |some J =>
 rw[e]at k;cases J with
 |e=>exact k.elim|p j=>exact k.elim
 |v d =>
  obtain⟨o,g,h2⟩:=jN hl e;obtain⟨v,rfl,r⟩:=f.val o d h2;exact⟨v,g,k v H ⟨hl,f.add r,Step.refl.add,PKp.refl⟩⟩
 |w j =>
  obtain⟨o,g,h2⟩:=wf hl e;obtain⟨a,S,rfl,L,K,O⟩:=f.ownL o (.w j) j (mem_of_getElem? h2) rfl;refine⟨.ref a,g,k _ H ?_⟩;have c:i<(σ.zip E).length:=(qG.mp h2).1;have p:(σ.zip E).Perm ((some (.ref a),R.slot (.w j))::(σ.zip E).eraseIdx i):=by
   have:=zX (some (V.ref a),Slot.w j) (σ.zip E) i c;rw[we h2]at this;exact this
  have z:=(f.perm p).frz;have u:FR X.K X.mg M H ((σ.zip E).set i (some (.ref a),.v (.l j))):=z.perm (zX _ _ _ c).symm;rw[<- zg (.v (.l j)) g]at u;have r:=z.val _ _ qE;obtain⟨v,ev,y⟩:=r;cases ev;have G:Mo M ((some (V.ref a),Slot.v (R.w j).d)::(σ.zip E).eraseIdx i)=Mo M (σ.zip (E.set i (.v (.l j)))):=by
   rw[zg (.v (.l j)) g];exact(GR (zX _ _ _ c)).symm
  rw[G]at y;refine⟨by simp[hl],u.add y,?_,?_⟩
  ·refine Step.add ?_
   refine Step.weak Step.refl λb D=>?_
   refine zE p.symm b ?_;rw[nil_append,zg (.v (.l j)) g]at D;have t:=zE (zX _ _ _ c) b D;exact zD (sublist_cons_self _ _) b t
  ·exact Qh (ds0:=[]) e (λI q=>by cases q) _
 |m n l =>
  obtain⟨o,g,h2⟩:=wf hl e;obtain⟨a,ho,rfl,L,K,O⟩:=f.own o (.m n l) (.d n l) (mem_of_getElem? h2) rfl;refine⟨.ref a,g,k _ H ?_⟩;have c:i<(σ.zip E).length:=(qG.mp h2).1;have p:(σ.zip E).Perm ((some (.ref a),R.slot (.m n l))::(σ.zip E).eraseIdx i):=by
   have:=zX (some (V.ref a),Slot.m n l) (σ.zip E) i c;rw[we h2]at this;exact this
  have z:=(f.perm p).frz;have u:FR X.K X.mg M H ((σ.zip E).set i (some (.ref a),.v (.m n l))):=z.perm (zX _ _ _ c).symm;rw[<- zg (.v (.m n l)) g]at u;have r:=z.val _ _ qE;obtain⟨v,ev,y⟩:=r;cases ev;have G:Mo M ((some (V.ref a),Slot.v (R.m n l).d)::(σ.zip E).eraseIdx i)=Mo M (σ.zip (E.set i (.v (.m n l)))):=by
   rw[zg (.v (.m n l)) g];exact(GR (zX _ _ _ c)).symm
  rw[G]at y;refine⟨by simp[hl],u.add y,?_,?_⟩
  ·refine Step.add ?_
   refine Step.weak Step.refl λb D=>?_
   refine zE p.symm b ?_;rw[nil_append,zg (.v (.m n l)) g]at D;have t:=zE (zX _ _ _ c) b D;exact zD (sublist_cons_self _ _) b t
  ·exact Qh (ds0:=[]) e (λI q=>by cases q) _
end
def zd:Lb->Bool
 | .Starred _ _=>true|_=>false
def ju:Ls Lb->Bool
 | []=>true|e::es=>!zd e&&ju es
def zf{e:Lb}{es:Ls Lb}{env:Env}(h:zd e=false):starEach (e::es) env=(false,eval e env)::starEach es env:=by
 cases e<;>first|rfl|(cases h)
def star2{a b:Lb}{env:Env}(c:zd a=false)(e:zd b=false):starEach [a,b] env=[(false,eval a env),(false,eval b env)]:=by
 rw[zf c,zf e];rfl
def zD8{a:Lb}{env:Env}(c:zd a=false):starEach [a] env=[(false,eval a env)]:=by
 rw[zf c];rfl
def jv:Lb->Bool
 | .Set _ _ _=>false|_=>true
def jX{e:Lb}{env:Env}(h:jv e=true):∀x,foldedSetIterable e env x=pure x:=by
 intro x;cases e<;>first|rfl|(cases h)
def ZW:Lb->Bool
 | .ListComp _ _ _ _=>false| .SetComp _ _ _ _=>false| .DictComp _ _ _ _ _=>false|_=>true
def GT{e:Lb}{t:Lx Lb}{l:Nat}{env:Env}(h:ZW e=true):swapsWith e t l env=pure false:=by
 cases e<;>first|rfl|(cases h)
def zIU:Lb->Bool
 | .UnaryOp .Not _ _=>false| .BoolOp _ _ _=>false| .IfExp _ _ _ _=>false| .Compare _ _ _ _=>false|_=>true
def test_of{e:Lb}{env:Env}(h:zIU e=true):∀a,isTrue e env a=(do let v <- a;standAt e.pos;holding [v] (truthy v)):=by
 intro x;cases e<;>first|rfl|(cases h)|skip;rename_i op _ _;cases op<;>first|rfl|(cases h)
def v8:Lb->Bool
 | .Slice _ _ _ _=>false|_=>true
theorem Qi{env:Env}:∀{a:Ls Lb},ju a=true->(starEach a env).any (·.1)=false
 | [],_=>rfl
 |e::a,h=>by
  dsimp[ju,Bool.and_eq_true,Bool.not_eq_true']at h;rw[zf h.1];simp[Qi h.2]
def zGb(a:Pos)(l:Ls (Bool×Sem Lv)):(backTo a l).any (·.1)=l.any (·.1):=by
 unfold backTo;rw[List.any_map];rfl
def JW{env:Env}{es:Ls Lb}{a:Pos}(h:ju es=true):(backTo a (starEach es env)).any (·.1)=false:=by
 rw[zGb,Qi h]
end DV
namespace L2
open PySem PySem.Spec PyProof.Rows
section
variable{X:Cx}
def zIV(K:qH):R2:=λx y H Q=>∃a b c e,x=.ref a/\y=.ref b/\SqT K H a c/\SqT K H b e/\c.length+e.length<=sizeLine /\
 (c=[]->Q (.ref b) H)/\(c≠[]->e=[]->Q (.ref a) H)/\(c≠[]->e≠[]->∀p,H p=none->Q (.ref p) (upd H p (.t (c++e))))
def zGc:OpR X (binaryOp .Add) (zIV X.K):=by
 intro j s σ H x y v u Q I rx ry h;obtain⟨a,b,r,G,rfl,rfl,z,t,hz,q0,V,O⟩:=h;cases rx;cases ry;obtain⟨i,E,L,_⟩:=I.tuple z;obtain⟨e,Y,K,_⟩:=I.tuple t;by_cases g:r=[]
 ·have J:i=[]:=E.nil_iff.mpr g
  obtain⟨⟨R,W,C,S⟩,ho,M,n,hd⟩:=id L;obtain⟨⟨w,k,p,l⟩,c,o,D,q⟩:=id K;subst M hd o q;exact concat_meets ⟨_,ho,rfl⟩ ⟨_,c,rfl⟩ noFill_tuple_add seq_tuple_add PySem.F.slot_tuple_add PySem.F.entry_tuple_add (PySem.F.args_tuple_add_2 _ _)
   (tuple_addW0 a b i.toArray e.toArray n D W k S l (by simp[J])) ⟨ho,c,⟨.ref b,H,I,rfl,q0 g⟩⟩
 ·exact op_catT j s σ H (.ref a) (.ref b) (.ref a) (.ref b) Q I rfl rfl ⟨a,b,r,G,rfl,rfl,z,t,g,hz,V g,O g⟩
def rCatL(K:qH):R2:=λx y H Q=>∃l b c a,x=.ref l/\y=.ref b/\SqL K H l c/\SqL K H b a/\c.length+a.length<=sizeLine/\∀p,H p=none->Q (.ref p) (upd H p (.l (c++a)))
def op_catL:OpR X (binaryOp .Add) (rCatL X.K):=by
 intro D s σ H x y v u Q I rx ry h;obtain⟨l,b,Z,Y,rfl,rfl,E,K,hz,q⟩:=h;cases rx;cases ry;obtain⟨c,r,J,_⟩:=I.list E;obtain⟨a,t,i,_⟩:=I.list K;have hl:=r.length;have W:=t.length;obtain⟨⟨R,V,z,S⟩,n,ho,L,O,hd⟩:=J;obtain⟨⟨w,g,o,j⟩,G,e,k,C,p⟩:=i;subst L hd k p;refine concat_meets ⟨_,ho,rfl⟩ ⟨_,e,rfl⟩ noFill_list_add seq_list_add PySem.F.slot_list_add PySem.F.entry_list_add (PySem.F.args_list_add_2 _ _) (list_addW l b c.toArray a.toArray n G V g S j (by rw[size_toArray,size_toArray];omega)) ⟨ho,e,?_⟩;have M:c.toArray++a.toArray=(c++a).toArray:=by simp
 rw[M];exact⟨.ref _,_,I.lnew (t':=s.toks) (r.append t) (by rw[length_append];omega),rfl,q _ I.fresh⟩
def YW{prog:Lc}{w:Le}{A:Lg}{E:Ly}{s:La}{t e:Lz}{items:Lh}{l k:Lv}{lo hi:Lx Int}{Q:Ly}(a:IsTup s.heap t items)(n:s.heap.IsSliceOf e l k .none)(u:IsPart l lo)(p:IsPart k hi)
  (q:HT.sIx items.size 0 lo=0) (v:HT.sIx items.size items.size hi=items.size)
  (h:Q (.ref t) s):wpAny (model prog w) A (getItem (.ref t) (.ref e)) Q E s:=by
 obtain⟨r,g,j,o⟩:=id n;have i:s.TypeIs (.ref e) "slice":=⟨r,g,j⟩;unfold getItem
 try with_reducible refine wpAny_holding ?_
 first|refine qB (qC ?_)|skip
 refine qB (wpAny_sequenceKey a.typeIs (by decide) ?_);refine qB (wpAny_callSpecial?_slot (name:=Str.ofString "__getitem__") a.typeIs PyProof.Rows.slot_tuple_getitem
  (wpAny_call_entry PyProof.Rows.slot_tuple_getitem a.typeIs entry_tuple_getitem ?_ (args_tuple_getitem _ _)))
 show wpAny _ _ (Builtin.Tuple.tupleItemsOf (.ref t) >>= _) _ _ s
 refine qB (tupleItemsOf_ a ?_);refine qB (wpAny_typeOf i ?_);refine qB (HT.sliceApplied_gen n u p ?_);have c:(((HT.sIx items.size 0 lo:Nat):Int)==0&&(1:Int)==1&&(HT.sIx items.size items.size hi-HT.sIx items.size 0 lo)==items.size)=true:=by
  rw[q,v];simp
 show wpAny _ _ (if(((HT.sIx items.size 0 lo:Nat):Int)==0&&(1:Int)==1&&(HT.sIx items.size items.size hi-HT.sIx items.size 0 lo)==items.size)=true then _ else _) _ _ s
 rw[if_pos c];refine qB (qB (wpAny_typeOf a.typeIs (qC ?_)));exact qB (wpAny_rule (qC ⟨_,rfl,qC h⟩))
def rSlTT(K:qH):V->Lx Int->Lx Int->Hp->VK->Prop:=λx e g H Q=>∃a c,x=.ref a/\SqT K H a c /\
 ((HT.sIx c.length 0 e=0/\HT.sIx c.length c.length g=c.length)->Q (.ref a) H) /\
 (¬(HT.sIx c.length 0 e=0/\HT.sIx c.length c.length g=c.length)->∀p,H p=none->Q (.ref p) (upd H p (.t (zGS c e g))))
def sl_tupT:SlR X (rSlTT X.K):=by
 intro i s σ H x v vl vu lo hi sl Q I rx hs pl pu h;obtain⟨a,e,rfl,k,l,n⟩:=h;by_cases g:HT.sIx e.length 0 lo=0/\HT.sIx e.length e.length hi=e.length
 ·cases rx
  obtain⟨j,r,ht,hz⟩:=I.tuple k;have c:j.toArray.size=e.length:=by rw[size_toArray];exact r.length.symm
  refine⟨"tuple",_,PyProof.Rows.slot_tuple_getitem.lookup,ht.typeIs,?_⟩;exact YW ht hs pl pu (by rw[c];exact g.1) (by rw[c];exact g.2) ⟨.ref a,H,I,rfl,l g⟩
 ·exact sl_tup i s σ H (.ref a) v vl vu lo hi sl Q I rx hs pl pu ⟨a,e,rfl,k,g,n g⟩
theorem Qj:∀bs:Ls Bool,(List.range bs.length).all (λi=>bs.getD i false)=bs.all id
 | []=>rfl
 |b::bs=>by
  rw[length_cons,range_succ_eq_map,all_cons,all_cons,List.all_map,<- Qj bs];rfl
def zGd(O:X.calm=true):j6 X (.builtin "all") (λy H Q=>∃(p:Lz) (bs:Ls Bool),y=[.ref p]/\SqL X.K H p (bs.map V.bl)/\Q (.bl (bs.all id)) H):=by
 intro G s σ H y us Q I r h;obtain⟨p,bs,rfl,M,q⟩:=h;obtain⟨u,rfl,K⟩:=GJ r;cases K;obtain⟨a,E,k,hz⟩:=I.list M;have g:=E.length;refine call_all_walk (wpAny_pyIter_list k.isList ?_);have R:p<s.heap.objs.size:=by obtain⟨o,n,e,_⟩:=k;exact lt_size e
 have z:∀b o,s.heap.get? b=some o->(s.heap.push {cls:=.type "list_iterator",data:=.fields #[.ref p,.int 0 0]}).get? b=some o:=λb o e=>qA _ e
 have l:∀(i:Nat) (v:Lv),a.toArray[i]?=some v->v=Value.bool (bs.getD i false):=λi v hv=>by
  have j:a[i]?=some v:=by exists hv
  have L:i<a.length:=(qG.mp j).1;have t:i<(bs.map V.bl).length:=by rw[g];exact L
  obtain⟨S,C,D⟩:=E.get (i:=i) (x:=(bs.map V.bl)[i]) (by simp[t]);rw[j]at C;cases C;rw[length_map]at t;rw[getElem_map]at D;have:v=.bool (bs[i]):=D;rw[this];simp[t]
 refine⟨s.heap.objs.size,[s.heap.objs.size,p],[s.heap.objs.size],a.toArray.size,_,_,λi=>bs.getD i false,rfl,
  Walks.list (by show X.A.handled=none;exact I.ok.hd O) _ p (ne_of_lt R) a.toArray,⟨⟨_,get?_push_size _ rfl,rfl,rfl⟩,?_⟩,?_,?_⟩
 ·obtain⟨o,e,c⟩:=k.isList
  exact⟨o,z _ _ e,c⟩
 ·intro i v Y Q' E' hv J
  rw[l i v hv];exact wpAny_truthy_bool J
 ·intro W tk kp
  have e:(List.range a.toArray.size).all (λi=>bs.getD i false)=bs.all id:=by
   rw[size_toArray,<- g,length_map,Qj]
  rw[e];exact⟨.bl (bs.all id),H,I.kept (t':=tk) λb o w=>kp b o (λm=>by
   have:b=s.heap.objs.size:=by exists m
   subst this;exact absurd (lt_size w) (lt_irrefl _)) (z b o w),rfl,q⟩
def WU:fillsNumberSlot (.type "tuple") "mul"=pure false :=
 PySem.fillsNumberSlot_seq (id:="tuple.__mul__") (r:=some (.builtin "tuple.__rmul__")) F.slot_tuple_mul.lookup (by left) F.slot_tuple_rmul.lookup (by left)
def Qk:seqRepeat? (.type "tuple")=pure (some (.builtin "tuple.__mul__")):=by
 unfold seqRepeat?;rfl
def v9(a:Int)(t:Tok)(l:Lz)(items:Lh)(n:Nat)(i:Lx Lz)(e:Lm) :
  Meets (Builtin.«int.__rmul__» ⟨[.int a t,.ref l],[]⟩) (λ_ R s=>s.heap.get? l=some {cls:=.type "tuple",dict:=i,data:=.seq items n,slots:=e}/\R (.ok (.ret Value.notImplemented)) s) :=
 .of_wp λc w A R s h=>by obtain⟨k,g,d,tk,j⟩:=s;obtain⟨hl,h⟩:=h;wp_walk;exact⟨_,rfl,h⟩
def uA{E:Ly}{Q:Ly}(h:IsTup s.heap l items)(r:-(2^63)<=k)(u:k<2^63)
  (n:(items.size:Int)*k<=sizeLine) (j:items.isEmpty=true\/k=1->Q (.ref l) s)
  (p:k<=0->Q (.ref s.heap.objs.size) {s with heap:=s.heap.push {cls:=.type "tuple",data:=.seq #[]}})
  (q:Q (.ref s.heap.objs.size) {s with heap:=s.heap.push {cls:=.type "tuple",data:=.seq ((replicate k.toNat items).foldl (·++·) #[])}})
  (g:sizeOk (.seq ((replicate k.toNat items).foldl (·++·) #[]))) :
  wpAny (model prog w) A (call (.builtin "tuple.__mul__") [.ref l,.int k t]) Q E s:=by
 refine wpAny_call_entry F.slot_tuple_mul h.typeIs F.entry_tuple_mul ?_ (F.args_tuple_mul_2 _ _);show wpAny _ _ (asIndex (.int k t) >>= _) _ _ s;refine qB (wpAny_of_eq (a:=k) rfl ?_);dsimp;rw[if_neg (by dsimp[Bool.or_eq_true,decide_eq_true_eq];omega)];refine qB (tupleItemsOf_ h ?_);by_cases e:(items.isEmpty||k==1)=true
 ·rw[if_pos e]
  unfold Builtin.Tuple.tupleIsExact;refine qB (qB (wpAny_typeOf h.typeIs (qC ?_)));rw[if_pos (by decide)];refine qB (wpAny_rule (qC ⟨_,rfl,j ?_⟩));rw[Bool.or_eq_true,beq_iff_eq]at e;exact e
 ·rw[if_neg e]
  by_cases c:(decide (k<=0)||items.isEmpty)=true
  ·rw[if_pos c]
   have i:k<=0:=by
    dsimp[Bool.or_eq_true,decide_eq_true_eq,beq_iff_eq,not_or]at e c;rcases c with c|c
    ·exact c
    ·exact absurd c e.1
   exact qB (m:=Builtin.Tuple.tupleExact _) (wpAny_newObj_type (qC ⟨_,rfl,p i⟩) (by show(#[]:Lh).size<=sizeLine;simp))
  ·rw[if_neg c]
   have o:sizeLine=16777216:=sizeLine_eq;rw[if_neg (by rw[o]at n;omega),if_neg (by unfold Builtin.Tuple.tupleTooMany;dsimp[decide_eq_true_eq];omega)];exact qB (m:=Builtin.Tuple.tupleExact _) (wpAny_newObj_type (qC ⟨_,rfl,q⟩) g)
def rRepT(K:qH):R2:=λx y H Q=>∃l k a,x=.ref l/\y=.int k/\SqT K H l a/\-(2^63)<=k/\k<2^63/\a.length*k.toNat<=sizeLine /\
 (a=[]\/k=1->Q (.ref l) H)/\(∀p,H p=none->Q (.ref p) (upd H p (.t (replicate k.toNat a).flatten)))
def op_repT:OpR X (binaryOp .Mult) (rRepT X.K):=by
 intro z s σ H x y v u Q I rx ry h;obtain⟨l,k,i,rfl,rfl,C,O,h2,hz,q0,q⟩:=h;cases rx;obtain⟨t,rfl⟩:=ry;obtain⟨a,r,pt,_⟩:=I.tuple C;have hl:=r.length;obtain⟨⟨M,S,w,R⟩,ho,L,n,hd⟩:=id pt;subst L hd;have c:foldl (λJ K=>J++K) #[] (replicate k.toNat a.toArray)=(replicate k.toNat a).flatten.toArray:=by
  have:=W2 a k.toNat [];exact this
 have g:(replicate k.toNat a).flatten.length<=sizeLine:=by rw[zAj,mul_comm,<- hl];exact hz
 have j:((a.toArray.size:Nat):Int)*k<=(sizeLine:Nat):=by
  rw[size_toArray,<- hl];by_cases G:0<=k
  ·obtain⟨m,rfl⟩:=Int.eq_ofNat_of_zero_le G
   have:i.length*m<=sizeLine:=by exists hz
   exact_mod_cast this
  ·have:(i.length:Int)*k<=0:=Int.mul_nonpos_of_nonneg_of_nonpos (Int.natCast_nonneg _) (by omega)
   omega
 refine wpAny_binaryOp_repeat_ref (T:="tuple") (U:="int") (by decide) ⟨_,ho,rfl⟩ (λV=>typeIs_int V k t) WU F.fills_int_mul F.slot_int_rmul Qk F.slot_int_index.lookup
  (call_meets F.slot_int_rmul (typeIs_int s k t) F.entry_int_rmul (F.args_int_rmul_2 _ _) (v9 k t l a.toArray n S R) ⟨ho,rfl,⟨_,ho,rfl⟩,?_⟩)
 refine uA pt O h2 j (λe=>⟨.ref l,H,I,rfl,q0 ?_⟩) (λe=>?_) ?_ ?_
 ·rcases e with e|e
  ·apply Or.inl
   have:a=[]:=by exists e
   exact r.nil_iff.mp this
  ·right;exact e
 ·have D:k.toNat=0:=by omega
  have p:=q s.heap.objs.size I.fresh;rw[D]at p;exact⟨.ref s.heap.objs.size,_,I.laid (t':=s.toks) (o:=.t []) (λb E q=>qA _ q) (le_refl _) ⟨zero_le _,[],.nil,IsTup.new _ _⟩,rfl,p⟩
 ·rw[c]
  exact⟨.ref s.heap.objs.size,_,I.laid (t':=s.toks) (o:=.t (replicate k.toNat i).flatten) (λb E q=>qA _ q) (le_refl _) ⟨by rw[zAj,mul_comm];exact hz,_,r.rep k.toNat,IsTup.new _ _⟩,rfl,q _ I.fresh⟩
 ·rw[c]
  show(replicate k.toNat a).flatten.toArray.size<=sizeLine
  rw[size_toArray];exact g
end
end L2
namespace DV
open PySem L2
def cap:Nat:=1000000
def Z7(h:n<=cap):n<=sizeLine:=le_trans h (by rw[sizeLine_eq];decide)
abbrev Kt(K:qH)(a:Str->Lx Lv)(M:Ld)(H:Hp)(Z:Fz)(res:R)(Q:VK):Prop :=
 ∀v H',FR K a M H' ((some v,res.slot)::Z)->Step M H Z H' ((some v,res.slot)::Z)->Q v H'
def ROk(K:qH)(c:Str->Lx Lv)(rel:R2)(f:D->D->Lx R):Prop :=
 ∀(M:Ld) (H:Hp) (Z:Fz) (x y:V) (e g:D) (a:R) (Q:VK),FR K c M H Z->Rep K c (Hm (Mo M Z) H) e x->Rep K c (Hm (Mo M Z) H) g y->f e g=some a->Kt K c M H Z a Q->rel x y H Q
def COk(K:qH)(c:Str->Lx Lv)(rel:Ls V->Hp->VK->Prop)(f:Ls D->Lx R):Prop :=
 ∀(M:Ld) (H:Hp) (Z:Fz) (g:Ls V) (e:Ls D) (a:R) (Q:VK),FR K c M H Z->Reps K c (Hm (Mo M Z) H) e g->f e=some a->Kt K c M H Z a Q->rel g H Q
section
variable{X:Cx}{K:qH}{mg:Str->Lx Lv}{M:Ld}{H H':Hp}{Z:Fz}{Q:VK}{σ:St}
theorem Kt.flat(k:Kt K mg M H Z (.v d) Q)(f:FR K mg M H Z)(h:flat d=true):Q (flV d) H:=k _ _ (f.add (zBr h)) Step.refl.add
def Kt.rep(k:Kt K mg M H Z (.v d) Q)(f:FR K mg M H Z)(h:Rep K mg (Hm (Mo M Z) H) d v):Q v H:=k _ _ (f.add h) Step.refl.add
theorem Kt.tup{ds:Ls D}{xs:Ls V}{p:Lz}(k:Kt K mg M H Z (.v (.t ds)) Q)(f:FR K mg M H Z)(a:H p=none)(h:Reps K mg (Hm (Mo M Z) H) ds xs):Q (.ref p) (upd H p (.t xs)):=k _ _ (f.newTup a h) (Step.newVal a)
theorem Kt.own(k:Kt K mg M H Z (.w ds) Q)(f:FR K mg M H Z)(a:H p=none)(h:Reps K mg (Hm (Mo M Z) H) ds xs):Q (.ref p) (upd H p (.l xs)):=k _ _ (f.newOwn a h) (Step.newOwn f a)
def Y1(f:D->D->Lx R)(a b:ME):ME:=λE=>match a E with
 | .z=>.z| .y x E1=>.y x E1
 | .ok (c,E1)=>match b E1 with
  | .z=>.z| .y x E2=>.y x E2
  | .ok (e,E2)=>match f c.d e.d with
   |some r=>.ok (r,E2)|none=>.z
def GU{f:D->D->Lx R}(n:ROk X.K X.mg rel f)(h:tM X (Y1 f a b) σ H Q):tOp rel (tM X a) (tM X b) σ H Q:=by
 obtain⟨M,E,hl,fr,k⟩:=h;unfold Y1 at k;refine zc (T0:=[]) hl fr ?_;cases i:a E with
 |z=>rw[i]at k;exact k|y x E1=>rw[i]at k;exact λH' g=>k H' g
 |ok p =>
  obtain⟨e,E1⟩:=p;rw[i]at k;intro x H1 c;refine zc (T0:=[(some x,e.slot)]) c.len c.fr ?_;dsimp at k;cases j:b E1 with
  |z=>rw[j]at k;exact k|y x E2=>rw[j]at k;exact λH' g=>k H' (c.trans' g).dropAll
  |ok p =>
   obtain⟨l,E2⟩:=p;rw[j]at k;intro y H2 t;have g:=c.trans' t;have G:=Got.reps (vs:=[y,x]) (rs:=[l,e]) rfl g;obtain⟨K,_,q,o,J,_,C,u,_⟩:=G;cases q;cases C;dsimp at k;exists ef,f e.d l.d,k,r;exact n M H2 _ x y e.d l.d r Q g.frame u o ef λv H' I w=>k v H' (g.more (T:=[(some v,r.slot)]) I w)
def zC6{f:D->D->Lx R}(g:OpR X (binaryOp op) rel)(c:ROk X.K X.mg rel f)(i:EOk X a ma)(e:EOk X b mb):EOk X (.BinOp a op b pos) (Y1 f ma mb) :=
 zi (pe_op g i e) λσ H Q h=>GU c h
def Y2{f:D->D->Lx R}(e:OpR X (compareOp op) rel)(c:ROk X.K X.mg rel f)(g:behindInMarks op b=false)(i:EOk X a ma)(j:EOk X b mb):EOk X (.Compare a [op] [b] pos) (Y1 f ma mb) :=
 zi (zDm e i j g) λσ H Q h=>GU c h
def ok_ix{f:D->D->Lx R}(e:IxR X rel)(c:ROk X.K X.mg rel f)(g:ZT b)(i:EOk X a ma)(j:EOk X b mb):EOk X (.Subscript a b pos) (Y1 f ma mb) :=
 zi (pe_ix e i j g) λσ H Q h=>GU c h
def tT(m:ME):MT:=λE=>match m E with
 | .z=>.z| .y x E1=>.y x E1| .ok (.v (.bl b),E1)=>.ok (b,E1)|_=>.z
def zBs{Q:Bool->Hp->Prop}(h:tMT X (tT m) σ H Q):tM X m σ H λx H'=>∃k,x=.bl k/\Q k H':=by
 obtain⟨M,E,hl,fr,k⟩:=h;refine⟨M,E,hl,fr,?_⟩;unfold tT at k;exists e,m E,k,r,E1;cases r with
 |w c=>exact k.elim|m _ _=>exact k.elim
 |v d =>
  cases d with
  |bl b =>
   intro v H' g;have a:=g.rep;exact⟨b,a,k H' g.dropAll⟩
  |_=>exact k.elim
def ok_test(h:EOk X e m)(c:∀a,isTrue e X.env a=(do let v <- a;standAt e.pos;holding [v] (truthy v)):=by intro _;rfl):TOk X e (tT m) :=
 Qf (pt_val h c) λσ H Q q=>zBs q
def wg{f:D->D->Lx R}(e:OpR X (compareOp op) rel)(c:ROk X.K X.mg rel f)(g:behindInMarks op b=false)(i:EOk X a ma)(j:EOk X b mb):TOk X (.Compare a [op] [b] pos) (tT (Y1 f ma mb)) :=
 Qf (zDn e i j g) λσ H Q h=>GU c (zBs h)
def Y3(a b:MT):MT:=λE=>match a E with
 | .ok (true,E1)=>b E1|o=>o
def zBt(a b:MT):MT:=λE=>match a E with
 | .ok (false,E1)=>b E1|o=>o
def ZX(a:MT):MT:=λE=>match a E with
 | .z=>.z| .y x E1=>.y x E1| .ok (b,E1)=>.ok (!b,E1)
def and_run{Q:Bool->Hp->Prop}(h:tMT X (Y3 a b) σ H Q):tAnd (tMT X a) (tMT X b) σ H Q:=by
 obtain⟨M,E,hl,fr,k⟩:=h;unfold Y3 at k;refine JV (T0:=[]) hl fr ?_;exists ea,a E,k,c,E1;intro H1 e;cases c with
 |false=>exact zGV (k H1 e)
 |true =>
  refine zGW ?_;refine JV (T0:=[]) e.len e.fr ?_;dsimp at k;cases i:b E1 with
  |z=>rw[i]at k;exact k|y x E2=>rw[i]at k;exact λH' g=>k H' (e.trans' g)|ok p=>rw[i]at k;exact λH' g=>k H' (e.trans' g)
def or_run{Q:Bool->Hp->Prop}(h:tMT X (zBt a b) σ H Q):tOr (tMT X a) (tMT X b) σ H Q:=by
 obtain⟨M,E,hl,fr,k⟩:=h;unfold zBt at k;refine JV (T0:=[]) hl fr ?_;exists ea,a E,k,c,E1;intro H1 e;cases c with
 |true=>exact zGW (k H1 e)
 |false =>
  refine zGV ?_;refine JV (T0:=[]) e.len e.fr ?_;dsimp at k;cases i:b E1 with
  |z=>rw[i]at k;exact k|y x E2=>rw[i]at k;exact λH' g=>k H' (e.trans' g)|ok p=>rw[i]at k;exact λH' g=>k H' (e.trans' g)
def not_run{Q:Bool->Hp->Prop}(h:tMT X (ZX a) σ H Q):tNot (tMT X a) σ H Q:=by
 obtain⟨M,E,hl,fr,k⟩:=h;unfold ZX at k;refine JV (T0:=[]) hl fr ?_;cases c:a E with
 |z=>rw[c]at k;exact k|y x E1=>rw[c]at k;exact k|ok p=>rw[c]at k;exact k
abbrev WOk(X:Cx)(e:Lb)(m:MT):Prop:=PW X e (tMT X m)
def wk_and1(h:TOk X a m):WOk X (.BoolOp .And [a] pos) m:=pw_and1 h
def wk_or1(h:TOk X a m):WOk X (.BoolOp .Or [a] pos) m:=pw_or1 h
def zIW{a b:Lb}{g:Ls Lb}{ma e:MT}{c:Pos}(h:TOk X a ma)(i:WOk X (.BoolOp .And (b::g) c) e):WOk X (.BoolOp .And (a::b::g) c) (Y3 ma e):=zIT (pw_and h i) λσ H Q=>and_run
def wk_or{a b:Lb}{g:Ls Lb}{ma e:MT}{c:Pos}(h:TOk X a ma)(i:WOk X (.BoolOp .Or (b::g) c) e):WOk X (.BoolOp .Or (a::b::g) c) (zBt ma e):=zIT (pw_or h i) λσ H Q=>or_run
def tk_w(h:WOk X e m):TOk X e m:=h.pt
def tk_not(h:TOk X a m):TOk X (.UnaryOp .Not a pos) (ZX m):=Qf (pt_not h) λσ H Q=>not_run
def zD9(a:ME):ME:=λE=>match a E with
 | .ok (.v (.bl b),E1)=>.ok (.v (.bl (!b)),E1)| .y x E1=>.y x E1|_=>.z
def zBu(a b:ME):ME:=λE=>match a E with
 | .ok (.v (.bl true),E1)=>b E1| .ok (.v (.bl false),E1)=>.ok (.v (.bl false),E1)| .y x E1=>.y x E1|_=>.z
def eOr(a b:ME):ME:=λE=>match a E with
 | .ok (.v (.bl false),E1)=>b E1| .ok (.v (.bl true),E1)=>.ok (.v (.bl true),E1)| .y x E1=>.y x E1|_=>.z
def zGe(h:tM X (zD9 a) σ H Q):tNotV (tM X a) σ H Q:=by
 obtain⟨M,E,hl,fr,k⟩:=h;unfold zD9 at k;refine zc (T0:=[]) hl fr ?_;exists ea,a E,k,r,E1;cases r with
 |w e=>exact k.elim|m _ _=>exact k.elim
 |v d =>
  cases d with
  |bl b =>
   intro v H' g;have c:=g.rep;exact⟨b,c,k _ H' (g.flat (d:=.bl (!b)) rfl)⟩
  |_=>exact k.elim
def zGf(h:tM X (zBu a b) σ H Q):tAndV (tM X a) (tM X b) σ H Q:=by
 obtain⟨M,E,hl,fr,k⟩:=h;unfold zBu at k;refine zc (T0:=[]) hl fr ?_;exists ea,a E,k,r,E1;cases r with
 |w n=>exact k.elim|m _ _=>exact k.elim
 |v d =>
  cases d with
  |bl c =>
   intro v H' g;have l:=g.rep;refine⟨c,l,?_⟩;cases c with
   |false=>exact zGV (k _ H' (g.flat (d:=.bl false) rfl))
   |true =>
    refine zGW (zc (T0:=[]) g.len g.frame ?_);dsimp at k;cases j:b E1 with
    |z=>rw[j]at k;exact k|y x E2=>rw[j]at k;exact λH'' i=>k H'' (g.dropAll.trans' i)|ok p=>rw[j]at k;exact λe H'' i=>k e H'' (g.dropAll.trans' i)
  |_=>exact k.elim
def eOr_run(h:tM X (eOr a b) σ H Q):tOrV (tM X a) (tM X b) σ H Q:=by
 obtain⟨M,E,hl,fr,k⟩:=h;unfold eOr at k;refine zc (T0:=[]) hl fr ?_;exists ea,a E,k,r,E1;cases r with
 |w n=>exact k.elim|m _ _=>exact k.elim
 |v d =>
  cases d with
  |bl c =>
   intro v H' g;have l:=g.rep;refine⟨c,l,?_⟩;cases c with
   |true=>exact zGW (k _ H' (g.flat (d:=.bl true) rfl))
   |false =>
    refine zGV (zc (T0:=[]) g.len g.frame ?_);dsimp at k;cases j:b E1 with
    |z=>rw[j]at k;exact k|y x E2=>rw[j]at k;exact λH'' i=>k H'' (g.dropAll.trans' i)|ok p=>rw[j]at k;exact λe H'' i=>k e H'' (g.dropAll.trans' i)
  |_=>exact k.elim
def ok_not(h:EOk X a m):EOk X (.UnaryOp .Not a pos) (zD9 m):=zi (pe_not h) λσ H Q=>zGe
def zIX{a b:Lb}{g:Ls Lb}{ma e:ME}{c:Pos}(h:EOk X a ma)(i:EOk X (.BoolOp .And (b::g) c) e):EOk X (.BoolOp .And (a::b::g) c) (zBu ma e):=zi (pe_and h i) λσ H Q=>zGf
def ok_or{a b:Lb}{g:Ls Lb}{ma e:ME}{c:Pos}(h:EOk X a ma)(i:EOk X (.BoolOp .Or (b::g) c) e):EOk X (.BoolOp .Or (a::b::g) c) (eOr ma e):=zi (pe_or h i) λσ H Q=>eOr_run
def zIY(h:EOk X a m):EOk X (.BoolOp op [a] pos) m:=pe_one h
def eIf(c:MT)(a b:ME):ME:=λE=>match c E with
 | .ok (true,E1)=>a E1| .ok (false,E1)=>b E1| .y x E1=>.y x E1| .z=>.z
def if_run(h:tM X (eIf c a b) σ H Q):tIf (tMT X c) (tM X a) (tM X b) σ H Q:=by
 obtain⟨M,E,hl,fr,k⟩:=h;unfold eIf at k;refine JV (T0:=[]) hl fr ?_;exists ea,c E,k,t,E1;intro H1 e;cases t with
 |true =>
  refine zGW (zc (T0:=[]) e.len e.fr ?_);dsimp at k;cases i:a E1 with
  |z=>rw[i]at k;exact k|y x E2=>rw[i]at k;exact λH' g=>k H' (e.trans' g)|ok p=>rw[i]at k;exact λv H' g=>k v H' (e.trans' g)
 |false =>
  refine zGV (zc (T0:=[]) e.len e.fr ?_);dsimp at k;cases i:b E1 with
  |z=>rw[i]at k;exact k|y x E2=>rw[i]at k;exact λH' g=>k H' (e.trans' g)|ok p=>rw[i]at k;exact λv H' g=>k v H' (e.trans' g)
def ok_if(h:TOk X c mc)(e:EOk X a ma)(g:EOk X b mb):EOk X (.IfExp c a b pos) (eIf mc ma mb):=zi (zGG h e g) λσ H Q=>if_run
def zEA:MA:=λE=>.ok ([],E)
def ZY(a:ME)(m:MA):MA:=λE=>match a E with
 | .z=>.z| .y x E1=>.y x E1
 | .ok (r,E1)=>match m E1 with
  | .z=>.z| .y x E2=>.y x E2| .ok (rs,E2)=>.ok (r::rs,E2)
def ak_nil:AOk X [] zEA:=Qg uW λσ H Q ⟨M,E,hl,fr,k⟩=>k [] H rfl (Got.refl (T0:=[]) hl fr)
theorem Got.perm{c:Str->Lx Lv}{M:Ld}(a:Got K c M σ E H T0 σ1 E1 H1 T)(p:T.Perm T'):Got K c M σ E H T0 σ1 E1 H1 T' where
 len:=a.len
 fr:=a.fr.perm (p.append_right _)
 st:=a.st.weak (zE (p.append_right _).symm)
 pk:=a.pk
def zGg{Q:Ls V->Hp->Prop}(h:tMA X (ZY a m) σ H Q):zCw (tM X a) (tMA X m) σ H Q:=by
 obtain⟨M,E,hl,fr,k⟩:=h;unfold ZY at k;refine zc (T0:=[]) hl fr ?_;exists ea,a E,k,r1,E1;intro x H1 c;refine YV (T0:=[(some x,r1.slot)]) c.len c.fr ?_;dsimp at k;cases e:m E1 with
 |z=>rw[e]at k;exact k|y x E2=>rw[e]at k;exact λH' g=>k H' (c.trans' g).dropAll
 |ok p =>
  rw[e]at k;intro j H2 hv i;refine k (x::j) H2 (by simp[hv]) ?_;exact(c.trans' i).perm (perm_append_comm)
def ak_cons(c:EOk X e a)(h:AOk X es m)(g:zd e=false:=by rfl):AOk X (e::es) (ZY a m):=Qg (JU c h (zf g)) λσ H Q=>zGg
def eCB(f:Ls D->Lx R)(m:MA):ME:=λE=>match m E with
 | .z=>.z| .y x E1=>.y x E1
 | .ok (a,E1)=>match f (a.map R.d)with
  |some r=>.ok (r,E1)|none=>.z
def Ql{rel:Ls V->Hp->VK->Prop}{f:Ls D->Lx R}(c:COk X.K X.mg rel f)(h:tM X (eCB f m) σ H Q):tCB rel (tMA X m) σ H Q:=by
 obtain⟨M,E,hl,fr,k⟩:=h;unfold eCB at k;refine YV (T0:=[]) hl fr ?_;exists ea,m E,k,rs,E1;intro e H1 hv g;have j:=Got.reps hv g;dsimp at k;cases a:f (rs.map R.d)with
 |none=>rw[a]at k;exact k.elim
 |some r =>
  rw[a]at k;exact c M H1 _ e _ r Q g.frame j a λv H' l i=>k v H' (g.more (T:=[(some v,r.slot)]) l i)
def zEB(m:MA):ME:=eCB (λa=>if a.length<=cap then some (.v (.t a))else none) m
def zEC(m:MA):ME:=eCB (λa=>if a.length<=cap then some (.w a)else none) m
def ok_tup(h:AOk X es m):EOk X (.Tuple es x1 pos) (zEB m) :=
 zi (pe_tup h) λσ H Q q=>Ql (rel:=λa H1 Q=>a.length<=sizeLine/\∀p,H1 p=none->Q (.ref p) (upd H1 p (.t a))) (λM H Z a j c Q f r e k=>by
  split at e
  ·rename_i g
   cases e;exact⟨by rw[r.length];exact Z7 g,λp i=>k.tup f i r⟩
  ·cases e) q
def ok_lst(h:AOk X es m):EOk X (.List es pos) (zEC m) :=
 zi (pe_lst h) λσ H Q q=>Ql (rel:=λa H1 Q=>a.length<=sizeLine/\∀p,H1 p=none->Q (.ref p) (upd H1 p (.l a))) (λM H Z a j c Q f r e k=>by
  split at e
  ·rename_i g
   cases e;exact⟨by rw[r.length];exact Z7 g,λp i=>k.own f i r⟩
  ·cases e) q
def Jx{f:Ls D->Lx R}{m:MA}{rel:Ls V->Hp->VK->Prop}{id:String}{x:Str}{p c:Pos}{e:Lb}{es:Ls Lb}(k:j6 X (.builtin id) rel)(h:COk X.K X.mg rel f)(n:Gl X x)(l:X.mg x=none)(j:bootBuiltins x=some (.builtin id))(o:AOk X (e::es) m)(hn:x≠"__name__":=by decide)(a:(x==("__debug__":Str))=false:=by decide)
  (i:zd e=false:=by rfl) (g:ju es=true:=by rfl):EOk X (.Call (.Name x p) (e::es) [] c) (eCB f m) :=
 zi (GK k n l j o hn a (zf i) (JW g)) λσ H Q q=>Ql h q
def W6{f:Ls D->Lx R}{rel:Ls V->Hp->VK->Prop}(j:j6 X (.type T) rel)(g:COk X.K X.mg rel f)(l:Gl X x)(k:X.mg x=none)(i:bootBuiltins x=some (.type T))(n:AOk X (e::es) m)(hn:x≠"__name__":=by decide)(a:(x==("__debug__":Str))=false:=by decide)
  (h:zd e=false:=by rfl) (c:ju es=true:=by rfl):EOk X (.Call (.Name x p) (e::es) [] pos) (eCB f m) :=
 zi (zDs j l k i n hn a (zf h) (JW c)) λσ H Q q=>Ql g q
end
section
variable{X:Cx}{K:qH}{mg:Str->Lx Lv}
def zJ(h:Rep K mg H (.int i) v):v=.int i:=by simpa only[Rep]using h
def jJ(h:Rep K mg H (.bl i) v):v=.bl i:=by simpa only[Rep]using h
def wM(h:Rep K mg H (.str i) v):v=.str i:=by simpa only[Rep]using h
def jO(h:Rep K mg H .non v):v=.non:=by simpa only[Rep]using h
def yT(h:Rep K mg H (.t ds) v):∃a xs,v=.ref a/\SqT K H a xs/\Reps K mg H ds xs:=by simpa only[Rep]using h
def yH(h:Rep K mg H (.l ds) v):∃a xs,v=.ref a/\SqL K H a xs/\Reps K mg H ds xs:=by simpa only[Rep]using h
def zAp(a:flat d=true)(h:Rep K mg H d v):v=flV d:=by
 cases d<;>simp[flat]at a<;>simpa only[Rep,flV]using h
def Wa:D->D->Lx R
 | .int i,.int j=>some (.v (.int (i+j)))| .t a,.t b=>if a.length+b.length<=cap then some (.v (.t (a++b)))else none| .l a,.l b=>if a.length+b.length<=cap then some (.w (a++b))else none|_,_=>none
def rAddD(K:qH):R2:=λx y H Q=>rI0 (λi j=>.int (i+j)) x y H Q\/(zIV K x y H Q\/rCatL K x y H Q)
def op_addD:OpR X (binaryOp .Add) (rAddD X.K):=op_add.or (zGc.or op_catL)
def ro_add:ROk K mg (rAddD K) Wa:=by
 intro M H Z x y G u D Q f g h e k;cases G with
 |int i =>
  cases u with
  |int j =>
   cases e;exact .inl ⟨i,j,zJ g,zJ h,k.flat f rfl⟩
  |_=>cases e
 |t a =>
  cases u with
  |t b =>
   dsimp[Wa]at e;split at e
   ·rename_i o
    cases e;obtain⟨p,z,rfl,r,h2⟩:=yT g;obtain⟨q,C,rfl,v,h4⟩:=yT h;have c:=h2.length;have n:=h4.length;refine .inr (.inl ⟨p,q,z,C,rfl,rfl,zL zF r,zL zF v,by rw[c,n];exact Z7 o,λe=>?_,λ_ e=>?_,λ_ _ E w=>k.tup f w (h2.append h4)⟩)
    ·subst e
     have:a=[]:=by exists c.symm
     subst this;exact k.rep f (by exists h)
    ·subst e
     have:b=[]:=by exists n.symm
     subst this;exact k.rep f (by exists g)
   ·cases e
  |_=>cases e
 |l a =>
  cases u with
  |l b =>
   dsimp[Wa]at e;split at e
   ·rename_i o
    cases e;obtain⟨p,z,rfl,r,h2⟩:=yH g;obtain⟨q,C,rfl,v,h4⟩:=yH h;have c:=h2.length;have n:=h4.length;exact .inr (.inr ⟨p,q,z,C,rfl,rfl,zF.seq r,zF.seq v,by rw[c,n];exact Z7 o,λE w=>k.own f w (h2.append h4)⟩)
   ·cases e
  |_=>cases e
 |_=>cases e
def zED(C:Lj)(g:Int->Int->D):D->D->Lx R
 | .int i,.int j=>if C i j=true then some (.v (g i j))else none|_,_=>none
def zEE{C:Lj}{P:Int->Int->Prop}{g:Int->Int->D}{a:Int->Int->V}(o:∀i j,C i j=true->P i j)(c:∀i j,flat (g i j)=true/\flV (g i j)=a i j):ROk K mg (rI P a) (zED C g):=by
 intro M H Z x y r n h Q f p q e k;cases r with
 |int i =>
  cases n with
  |int j =>
   dsimp[zED]at e;split at e
   ·rename_i l
    cases e;refine⟨i,j,zJ p,zJ q,o i j l,?_⟩;have:=k.flat f (c i j).1;rw[(c i j).2]at this;exact this
   ·cases e
  |_=>cases e
 |_=>cases e
def zEF(g:Int->Int->D):D->D->Lx R
 | .int i,.int j=>some (.v (g i j))|_,_=>none
def W7{g:Int->Int->D}{a:Int->Int->V}(c:∀i j,flat (g i j)=true/\flV (g i j)=a i j):ROk K mg (rI0 a) (zEF g):=by
 intro M H Z x y p l h Q f n o e k;cases p with
 |int i =>
  cases l with
  |int j =>
   cases e;refine⟨i,j,zJ n,zJ o,?_⟩;have:=k.flat f (c i j).1;rw[(c i j).2]at this;exact this
  |_=>cases e
 |_=>cases e
abbrev subD:=zEF λi j=>.int (i-j)
def ro_sub:ROk K mg (rI0 λi j=>.int (i-j)) subD:=W7 λ_ _=>⟨rfl,rfl⟩
def Big:Nat:=2^4000
def zEG(h:n<Big):n.log2<4000:=by
 by_cases a:n=0
 ·subst a;left
 ·exact(Nat.log2_lt a).mpr h
def zBv(h:i.natAbs<Big):Builtin.Int.intBits i<=4000:=by
 unfold Builtin.Int.intBits;split
 ·exact zero_le _
 ·exact zEG h
def zEH(a:i.natAbs<Big)(c:j.natAbs<Big):IntMulOk i j:=by
 have g:=zBv a;have e:=zBv c;unfold IntMulOk;have:Builtin.Int.intTooBig (((Builtin.Int.intBits i:Nat):Int)+(Builtin.Int.intBits j:Nat))=false:=by
  unfold Builtin.Int.intTooBig bitsLine;dsimp[decide_eq_false_iff_not];omega
 rw[this,Bool.and_false];decide
def CDivB(i j:Int):Prop:=0<j/\(j<1073741824\/j.natAbs<Big)
def zGh:OpR X (binaryOp .FloorDiv) (rI CDivB λi j=>.int (i/j)):=opI λi j _ _ _ _ _ a q=>by
 have c:(0:Int)<j:=a.1;refine PyProof.Rows.floordiv_int (by omega) (by rw[Int.fdiv_eq_ediv_of_nonneg i (by omega)];exact q) (.inl ?_);rcases a.2 with h|h
 ·exact PyProof.noPylong_small (by omega)
 ·exact PyProof.noPylong_of_log2 (lt_of_lt_of_le (zEG h) (by decide))
def CMulB(i j:Int):Prop:=CMul i j\/(i.natAbs<Big/\j.natAbs<Big)
def op_mulB:OpR X (binaryOp .Mult) (rI CMulB λi j=>.int (i*j)):=opI λ_ _ _ _ _ _ _ a q=>PyProof.Rows.mul_int q (by
 rcases a with h|h
 ·exact h.ok
 ·exact zEH h.1 h.2)
abbrev zC7:=zED (λ_ j=>decide (0<j/\(j<1073741824\/j.natAbs<Big))) λi j=>.int (i/j)
def ro_fdiv:ROk K mg (rI CDivB λi j=>.int (i/j)) zC7:=zEE (λi j h=>(of_decide_eq_true h:0<j/\(j<1073741824\/j.natAbs<Big))) λ_ _=>⟨rfl,rfl⟩
abbrev zIZ:=zED (λ_ j=>decide (0<j)) λi j=>.int (i%j)
def ro_mod:ROk K mg (rI (λ_ j=>0<j) λi j=>.int (i%j)) zIZ:=zEE (λi j h=>of_decide_eq_true h) λ_ _=>⟨rfl,rfl⟩
abbrev powD:=zED (λi j=>decide (0<=j/\j<=1000000/\i.natAbs<2^64)) λi j=>.int (i^j.toNat)
def ro_pow:ROk K mg (rI CPow λi j=>.int (i^j.toNat)) powD:=zEE (λi j h=>(of_decide_eq_true h:0<=j/\j<=1000000/\i.natAbs<2^64)) λ_ _=>⟨rfl,rfl⟩
def uB:D->D->Lx R
 | .int i,.int j=>if((-(2^64)<i/\i<2^64)\/(-(2^64)<j/\j<2^64))\/(i.natAbs<Big/\j.natAbs<Big)then some (.v (.int (i*j)))else none| .t a,.int k=>if -(2^63)<=k/\k<2^63/\a.length*k.toNat<=cap then some (.v (.t (replicate k.toNat a).flatten))else none|_,_=>none
def rMulD(K:qH):R2:=λx y H Q=>rI CMulB (λi j=>.int (i*j)) x y H Q\/rRepT K x y H Q
def op_mulD:OpR X (binaryOp .Mult) (rMulD X.K):=op_mulB.or op_repT
def ro_mul:ROk K mg (rMulD K) uB:=by
 intro M H Z x y w h q Q f g o e k;cases w with
 |int i =>
  cases h with
  |int j =>
   dsimp[uB]at e;split at e
   ·rename_i c
    cases e;exact .inl ⟨i,j,zJ g,zJ o,c,k.flat f rfl⟩
   ·cases e
  |_=>cases e
 |t a =>
  cases h with
  |int n =>
   dsimp[uB]at e;split at e
   ·rename_i c
    cases e;obtain⟨p,v,rfl,r,h2⟩:=yT g;have l:=h2.length;refine .inr ⟨p,n,v,rfl,zJ o,zL zF r,c.1,c.2.1,by rw[l];exact Z7 c.2.2,λe=>?_,λz u=>k.tup f u (h2.flatten _)⟩;refine k.rep f ?_;rcases e with e|e
    ·subst e
     have:a=[]:=by exists l.symm
     subst this;exists g
    ·subst e
     exists g
   ·cases e
  |_=>cases e
 |_=>cases e
abbrev ltD:=zEF λi j=>.bl (decide (i<j))
def ro_lt:ROk K mg (rI0 λi j=>.bl (decide (i<j))) ltD:=W7 λ_ _=>⟨rfl,rfl⟩
abbrev leD:=zEF λi j=>.bl (decide (i<=j))
def ro_le:ROk K mg (rI0 λi j=>.bl (decide (i<=j))) leD:=W7 λ_ _=>⟨rfl,rfl⟩
abbrev gtD:=zEF λi j=>.bl (decide (j<i))
def ro_gt:ROk K mg (rI0 λi j=>.bl (decide (j<i))) gtD:=W7 λ_ _=>⟨rfl,rfl⟩
abbrev geD:=zEF λi j=>.bl (decide (j<=i))
def ro_ge:ROk K mg (rI0 λi j=>.bl (decide (j<=i))) geD:=W7 λ_ _=>⟨rfl,rfl⟩
def eqF:D->D->Lx R
 | .int i,.int j=>some (.v (.bl (decide (i=j))))| .bl i,.bl j=>some (.v (.bl (decide (i=j))))| .str i,.str j=>some (.v (.bl (decide (i=j))))|_,_=>none
def neF:D->D->Lx R
 | .int i,.int j=>some (.v (.bl (!decide (i=j))))| .bl i,.bl j=>some (.v (.bl (!decide (i=j))))| .str i,.str j=>some (.v (.bl (!decide (i=j))))|_,_=>none
def vint:decide (V.int i=V.int j)=decide (i=j):=by simp
def vbl:decide (V.bl i=V.bl j)=decide (i=j):=by simp
def vstr:decide (V.str i=V.str j)=decide (i=j):=by simp
def ro_eq:ROk K mg rEq eqF:=by
 intro M H Z x y i h g Q f a c e k;cases i<;>cases h<;>cases e
 ·rw[jJ a,jJ c];refine⟨rfl,?_⟩;rw[vbl];exact k.flat f rfl
 ·rw[zJ a,zJ c];refine⟨rfl,?_⟩;rw[vint];exact k.flat f rfl
 ·rw[wM a,wM c];refine⟨rfl,?_⟩;rw[vstr];exact k.flat f rfl
def ro_ne:ROk K mg rNe neF:=by
 intro M H Z x y i h g Q f a c e k;cases i<;>cases h<;>cases e
 ·rw[jJ a,jJ c];refine⟨rfl,?_⟩;rw[vbl];exact k.flat f rfl
 ·rw[zJ a,zJ c];refine⟨rfl,?_⟩;rw[vint];exact k.flat f rfl
 ·rw[wM a,wM c];refine⟨rfl,?_⟩;rw[vstr];exact k.flat f rfl
def inF(neg:Bool)(d:D):D->Lx R
 | .t a=>if flat d=true/\a.all flat=true then some (.v (.bl (if neg then !inV (flV d) (a.map flV)else inV (flV d) (a.map flV))))else none| .l a=>if flat d=true/\a.all flat=true then some (.v (.bl (if neg then !inV (flV d) (a.map flV)else inV (flV d) (a.map flV))))else none|_=>none
theorem W8:∀{a:Ls D} {c:Ls V},a.all flat=true->Reps K mg H a c->c=a.map flV
 | [],_,_,h=>by dsimp[Reps]at h;subst h;rfl
 |d::a,_,hf,h=>by
  obtain⟨v,r,rfl,e,h2⟩:=h;dsimp[all_cons,Bool.and_eq_true]at hf;rw[zAp hf.1 e,W8 hf.2 h2];rfl
def W9(h:flat d=true):v6 (flV d)=true:=by cases d<;>simp[flat]at h<;>rfl
theorem vA:∀{a:Ls D},a.all flat=true->(a.map flV).all v6=true
 | [],_=>rfl
 |d::a,h=>by
  dsimp[all_cons,Bool.and_eq_true]at h;dsimp[map_cons,all_cons,Bool.and_eq_true];exact⟨W9 h.1,vA h.2⟩
def ro_in:ROk K mg (rIn K neg) (inF neg):=by
 intro M H Z x y q j i Q f g h e k;cases j with
 |t o =>
  dsimp[inF]at e;split at e
  ·rename_i a
   cases e;obtain⟨p,n,rfl,c,h2⟩:=yT h;rw[zAp a.1 g];have:=W8 a.2 h2;subst this;exact⟨p,_,rfl,.inr (zL zF c),W9 a.1,vA a.2,k.flat f rfl⟩
  ·cases e
 |l o =>
  dsimp[inF]at e;split at e
  ·rename_i a
   cases e;obtain⟨p,n,rfl,c,h2⟩:=yH h;rw[zAp a.1 g];have:=W8 a.2 h2;subst this;exact⟨p,_,rfl,.inl (zF.seq c),W9 a.1,vA a.2,k.flat f rfl⟩
  ·cases e
 |_=>cases e
def ixD:D->D->Lx R
 | .t a,.int i=>(atI a i).map .v| .l a,.int i=>(atI a i).map .v|_,_=>none
def Wb(h:Reps K mg H ds xs)(e:atI ds i=some d):∃v,atI xs i=some v/\Rep K mg H d v:=by
 unfold atI at e ⊢;have hl:=h.length;rw[hl];exists hj,ixN ds.length i,e,j;exact h.get' e
def ro_ix:ROk K mg (λx y H Q=>rIxL K x y H Q\/rIxT K x y H Q) ixD:=by
 intro M H Z x y u n r Q f o q e k;cases u with
 |t g =>
  cases n with
  |int i =>
   dsimp[ixD]at e;exists ea,atI g i,e,d;cases e;obtain⟨p,h,rfl,c,h2⟩:=yT o;obtain⟨v,a,j⟩:=Wb h2 ea;exact .inr ⟨p,h,i,v,rfl,zJ q,zL zF c,a,k.rep f j⟩
  |_=>cases e
 |l g =>
  cases n with
  |int i =>
   dsimp[ixD]at e;exists ea,atI g i,e,d;cases e;obtain⟨p,h,rfl,c,h2⟩:=yH o;obtain⟨v,a,j⟩:=Wb h2 ea;exact .inl ⟨p,h,i,v,rfl,zJ q,zF.seq c,a,k.rep f j⟩
  |_=>cases e
 |_=>cases e
def ix_both:IxR X (λx y H Q=>rIxL X.K x y H Q\/rIxT X.K x y H Q):=zDw.or ix_tup
def zAq:Ls D->Lx R
 | [.t a]=>some (.v (.int a.length))| [.l a]=>some (.v (.int a.length))|_=>none
def J3(h:Reps K mg H [d] xs):∃v,xs=[v]/\Rep K mg H d v:=by
 dsimp[Reps]at h;obtain⟨v,r,rfl,a,rfl⟩:=h;exact⟨v,rfl,a⟩
def reps2(h:Reps K mg H [d,e] xs):∃v w,xs=[v,w]/\Rep K mg H d v/\Rep K mg H e w:=by
 dsimp[Reps]at h;obtain⟨v,r,rfl,a,w,c,rfl,h2,rfl⟩:=h;exact⟨v,w,rfl,a,h2⟩
def co_len:COk K mg (λi H Q=>∃p a,i=[.ref p]/\(SqL K H p a\/SqT K H p a)/\Q (.int a.length) H) zAq:=by
 intro M H Z i g j Q f r e k
 match g,e with
 | [.t g],e =>
  cases e;obtain⟨v,rfl,h⟩:=J3 r;obtain⟨p,a,rfl,c,h2⟩:=yT h;refine⟨p,a,rfl,.inr (zL zF c),?_⟩;rw[h2.length];exact k.flat f rfl
 | [.l g],e =>
  cases e;obtain⟨v,rfl,h⟩:=J3 r;obtain⟨p,a,rfl,c,h2⟩:=yH h;refine⟨p,a,rfl,.inl (zF.seq c),?_⟩;rw[h2.length];exact k.flat f rfl
def zEI:Ls D->Lx R
 | [.int i,.int j]=>some (.v (.int (if j > i then j else i)))|_=>none
def co_max:COk K mg (λa H Q=>∃i j,a=[.int i,.int j]/\Q (.int (if j > i then j else i)) H) zEI:=by
 intro M H Z a g h Q f r e k
 match g,e with
 | [.int i,.int j],e =>
  cases e;obtain⟨v,w,rfl,c,h2⟩:=reps2 r;exact⟨i,j,by rw[zJ c,zJ h2],k.flat f rfl⟩
def intF:Ls D->Lx R
 | [.int i]=>some (.v (.int i))| [.bl b]=>some (.v (.int (if b then 1 else 0)))|_=>none
def co_int:COk K mg (λc H Q=>(∃i,c=[.int i]/\Q (.int i) H)\/∃k,c=[.bl k]/\Q (.int (if k then 1 else 0)) H) intF:=by
 intro M H Z c g h Q f r e k
 match g,e with
 | [.int i],e =>
  cases e;obtain⟨v,rfl,a⟩:=J3 r;exact .inl ⟨i,by rw[zJ a],k.flat f rfl⟩
 | [.bl b],e =>
  cases e;obtain⟨v,rfl,a⟩:=J3 r;exact .inr ⟨b,by rw[jJ a],k.flat f rfl⟩
def zIa:Ls D->Lx R
 | [.l a]=>some (.v (.t a))| [.t a]=>some (.v (.t a))|_=>none
def zGi:COk K mg (λi H Q=>∃p a,i=[.ref p]/\((SqL K H p a/\∀l,H l=none->Q (.ref l) (upd H l (.t a)))\/(SqT K H p a/\Q (.ref p) H))) zIa:=by
 intro M H Z i g j Q f r e k
 match g,e with
 | [.l g],e =>
  cases e;obtain⟨v,rfl,h⟩:=J3 r;obtain⟨p,a,rfl,c,h2⟩:=yH h;exact⟨p,a,rfl,.inl ⟨zF.seq c,λl hl=>k.tup f hl h2⟩⟩
 | [.t g],e =>
  cases e;obtain⟨v,rfl,h⟩:=J3 r;have n:=h;obtain⟨p,a,rfl,c,h2⟩:=yT h;exact⟨p,a,rfl,.inr ⟨zL zF c,k.rep f n⟩⟩
def JX:Ls D->Lx (Ls Bool)
 | []=>some []| .bl b::ds=>(JX ds).map (b::·)|_=>none
theorem ud:∀{a:Ls D} {c:Ls V} {bs:Ls Bool},JX a=some bs->Reps K mg H a c->c=bs.map V.bl
 | [],_,_,e,h=>by cases e;dsimp[Reps]at h;subst h;rfl
 |d::a,_,bs,e,h=>by
  obtain⟨v,r,rfl,g,h2⟩:=h;cases d with
  |bl b =>
   dsimp[JX]at e;exists eb,JX a,e,cs;cases e;rw[jJ g,ud eb h2];rfl
  |_=>cases e
def allD:Ls D->Lx R
 | [.l a]=>(JX a).map λbs=>.v (.bl (bs.all id))|_=>none
def co_all:COk K mg (λc H Q=>∃(p:Lz) (bs:Ls Bool),c=[.ref p]/\SqL K H p (bs.map V.bl)/\Q (.bl (bs.all id)) H) allD:=by
 intro M H Z c a g Q f r e k
 match a,e with
 | [.l a],e =>
  dsimp[allD]at e;exists eb,JX a,e,bs;cases e;obtain⟨v,rfl,h⟩:=J3 r;obtain⟨p,j,rfl,i,h2⟩:=yH h;have:=ud eb h2;subst this;exact⟨p,bs,rfl,zF.seq i,k.flat f rfl⟩
end
abbrev MO:=zU->Out (Lx Int×zU)
def tMO(X:Cx)(m:MO):TO:=λσ H Q=>∃M E,E.length=σ.length/\FR X.K X.mg M H (σ.zip E)/\match m E with
 | .z=>False| .ok (b,E')=>∀H',Got X.K X.mg M σ E H [] σ E' H' []->Q b H'| .y x E'=>∀H',Got X.K X.mg M σ E H [] σ E' H' []->XE X σ H' x
section
variable{X:Cx}{K:qH}{mg:Str->Lx Lv}{σ:St}{M:Ld}{E:zU}{H:Hp}{T0:Fz}
def zEJ{Q:Lx Int->Hp->Prop}(c:E.length=σ.length)(h:FR X.K X.mg M H (T0++σ.zip E))
  (k:match m E with | .z=>False | .ok (b,E')=>∀H',Got X.K X.mg M σ E H T0 σ E' H' []->Q b H' | .y x E'=>∀H',Got X.K X.mg M σ E H T0 σ E' H' []->XE X σ H' x):tMO X m σ H Q:=by
 refine⟨Mo M T0,E,c,h.inner,?_⟩;cases e:m E with
 |z=>rw[e]at k;exact k|ok a=>rw[e]at k;exact λH' g=>k H' (g.outer h)|y x E'=>rw[e]at k;exact λH' g=>k H' (g.outer h)
abbrev OOk(X:Cx)(e:Lx Lb)(m:MO):Prop:=PO X e (tMO X m)
def zIb(h:PO X e t)(i:∀σ H Q,t' σ H Q->t σ H Q):PO X e t':=λa s σ H Q I q=>h a s σ H Q I (i σ H Q q)
def zGj:MO:=λE=>.ok (none,E)
def zEK(m:ME):MO:=λE=>match m E with
 | .ok (.v (.int i),E1)=>.ok (some i,E1)| .y x E1=>.y x E1|_=>.z
def oo_none:OOk X none zGj:=zIb po_none λσ H Q ⟨M,E,hl,fr,k⟩=>k H (Got.refl (T0:=[]) hl fr)
def oo_some(h:EOk X e m):OOk X (some e) (zEK m):=zIb (po_some h) λσ H Q ⟨M,E,hl,fr,k⟩=>by
 unfold zEK at k;refine zc (T0:=[]) hl fr ?_;exists ea,m E,k,r,E1;cases r with
 |w a=>exact k.elim|m _ _=>exact k.elim
 |v d =>
  cases d with
  |int i =>
   intro v H' g;exact⟨i,zJ g.rep,k H' g.dropAll⟩
  |_=>exact k.elim
def eSl(f:D->Lx Int->Lx Int->Lx R)(a:ME)(lo hi:MO):ME:=λE=>match a E with
 | .z=>.z| .y x E1=>.y x E1
 | .ok (r,E1)=>match lo E1 with
  | .z=>.z| .y x E2=>.y x E2
  | .ok (l,E2)=>match hi E2 with
   | .z=>.z| .y x E3=>.y x E3
   | .ok (u,E3)=>match f r.d l u with
    |some r=>.ok (r,E3)|none=>.z
def zAr(ds:Ls D)(lo hi:Lx Int):Ls D:=(ds.drop (HT.sIx ds.length 0 lo)).take (HT.sIx ds.length ds.length hi-HT.sIx ds.length 0 lo)
def slD:D->Lx Int->Lx Int->Lx R
 | .t c,a,e=>some (.v (.t (zAr c a e)))| .l c,a,e=>some (.w (zAr c a e))|_,_,_=>none
def zBw(h:Reps K mg H ds xs)(lo hi:Lx Int):Reps K mg H (zAr ds lo hi) (zGS xs lo hi):=by
 unfold zAr zGS;rw[h.length];exact(h.drop _).take _
def sl_run(h:tM X (eSl slD a lo hi) σ H Q):tSl (λx l u H Q=>rSlTT X.K x l u H Q\/rSlL X.K x l u H Q) (tM X a) (tMO X lo) (tMO X hi) σ H Q:=by
 obtain⟨M,E,hl,fr,k⟩:=h;unfold eSl at k;refine zc (T0:=[]) hl fr ?_;cases r:a E with
 |z=>rw[r]at k;exact k|y x E1=>rw[r]at k;exact λH' g=>k H' g
 |ok p =>
  obtain⟨C,E1⟩:=p;rw[r]at k;intro x H1 i;refine zEJ (T0:=[(some x,C.slot)]) i.len i.fr ?_;dsimp at k;cases w:lo E1 with
  |z=>rw[w]at k;exact k|y x E2=>rw[w]at k;exact λH' g=>k H' (i.trans' g).dropAll
  |ok p =>
   obtain⟨l,E2⟩:=p;rw[w]at k;intro H2 L;have c:=i.trans' L;refine zEJ (T0:=[(some x,C.slot)]) c.len c.fr ?_;dsimp at k;cases o:hi E2 with
   |z=>rw[o]at k;exact k|y x E3=>rw[o]at k;exact λH' g=>k H' (c.trans' g).dropAll
   |ok p =>
    obtain⟨u,E3⟩:=p;rw[o]at k;intro H3 O;have g:=c.trans' O;have e:=g.rep;have f:=g.frame;cases J:C.d with
    |t ds =>
     rw[J]at k e;have j:Kt X.K X.mg M H3 (σ.zip E3) (.v (.t (zAr ds l u))) Q:=λv H' K I=>k v H' (g.more (T:=[(some v,_)]) K I)
     obtain⟨p,D,rfl,q,h2⟩:=yT e;refine .inl ⟨p,D,rfl,zL zF q,λn=>j.rep f ?_,λ_ R G=>j.tup f G (zBw h2 l u)⟩;have:zAr ds l u=ds:=by
      have hl:=h2.length;rw[hl]at n;unfold zAr;rw[n.1,n.2];simp
     rw[this];exact e
    |l ds =>
     rw[J]at k e;have j:Kt X.K X.mg M H3 (σ.zip E3) (.w (zAr ds l u)) Q:=λv H' K I=>k v H' (g.more (T:=[(some v,_)]) K I)
     obtain⟨p,D,rfl,q,h2⟩:=yH e;exact .inr ⟨p,D,rfl,zF.seq q,λR G=>j.own f G (zBw h2 l u)⟩
    |_=>rw[J]at k;exact k.elim
def ok_sl(c:EOk X a ma)(e:OOk X lo ml)(g:OOk X hi mh):EOk X (.Subscript a (.Slice lo hi none p2) pos) (eSl slD ma ml mh) :=
 zi (zGR (sl_tupT.or sl_list) c e g) λσ H Q=>sl_run
def tyD:D->Lx String
 | .non=>some "NoneType"| .bl _=>some "bool"| .int _=>some "int"| .str _=>some "str"| .t _=>some "tuple"| .l _=>some "list"| .dic=>some "dict"| .fn _=>none| .exn _ _=>none| .m _ _=>none
def Qm(t T:String):Bool:=t==T||(t == "bool"&&T == "int")
def zGk(j:∀t∈["NoneType","bool","int","str","tuple","list","dict"],kitOne X.K (.type t) (.type T)=some (Qm t T)) :
  j6 X (.builtin "isinstance") (λw H Q=>∃x d t,w=[x,.ty T]/\Rep X.K X.mg H d x/\tyD d=some t/\Q (.bl (Qm t T)) H):=by
 intro v s σ H w us Q I r h;obtain⟨x,d,t,rfl,rd,g,q⟩:=h;obtain⟨u,J,rfl,c,G⟩:=vals2 r;cases (show J=Value.type T from G);have fin:∀tk,EP X v σ Q (.bool (Qm t T)) {s with toks:=tk}:=λtk=>⟨.bl _,H,I.tok tk,rfl,q⟩
 cases d with
 |non=>cases g;rw[jO rd]at c;cases (show u=Value.none from c);exact kia_one PySem.W.kitx_none I.kIn True.intro (j _ (by simp)) (λz=>nomatch z) fin|bl b=>cases g;rw[jJ rd]at c;cases (show u=Value.bool b from c);exact kia_one PySem.W.kitx_bool I.kIn True.intro (j _ (by simp)) (λz=>nomatch z) fin|int i=>cases g;rw[zJ rd]at c;obtain⟨t,q⟩:=(show ∃t,u=Value.int i t from c);cases q;exact kia_one PySem.W.kitx_int I.kIn True.intro (j _ (by simp)) (λz=>nomatch z) fin|str y=>cases g;rw[wM rd]at c;obtain⟨t,q⟩:=(show ∃t,u=Value.str y t from c);cases q;exact kia_one PySem.W.kitx_str I.kIn True.intro (j _ (by simp)) (λz=>nomatch z) fin
 |t K =>
  cases g;obtain⟨a,w,rfl,k,_⟩:=yT rd;cases (show u=Value.ref a from c);obtain⟨D,_,p,_⟩:=I.tuple k;obtain⟨o,C,E,_⟩:=p;exact kia_one PySem.W.kitx_tuple I.kIn ⟨o,C,E⟩ (j _ (by simp)) (λz=>nomatch z) fin
 |l K =>
  cases g;obtain⟨a,w,rfl,k,_⟩:=yH rd;cases (show u=Value.ref a from c);obtain⟨D,_,p,_⟩:=I.list k;obtain⟨o,n,C,E,_⟩:=p;exact kia_one PySem.W.kitx_list I.kIn ⟨o,C,E⟩ (j _ (by simp)) (λz=>nomatch z) fin
 |dic =>
  cases g;obtain⟨a,rfl,e⟩:=rd;cases (show u=Value.ref a from c);obtain⟨_,_,L,_,p⟩:=(show jL X.prog X.w H s.heap a (.dK [])from I.hok a _ e);obtain⟨o,M,O,k,h2,_⟩:=p;exact kia_one PySem.W.kitx_dict I.kIn ⟨o,k,h2.1⟩ (j _ (by simp)) (λz=>nomatch z) fin
 |fn x=>cases g|exn x y=>cases g|m _ _=>cases g
def eIs(T:String)(m:ME):ME:=λE=>match m E with
 | .z=>.z| .y x E1=>.y x E1
 | .ok (r,E1)=>match tyD r.d with
  |some t=>.ok (.v (.bl (Qm t T)),E1)|none=>.z
def ok_is(j:∀t∈["NoneType","bool","int","str","tuple","list","dict"],kitOne X.K (.type t) (.type T)=some (Qm t T))(o:Gl X "isinstance")(n:X.mg "isinstance"=none)
  (e:Gl X x) (c:X.mg x=none) (h:bootBuiltins x=some (.type T)) (q:EOk X a m) (l:bootBuiltins "isinstance"=some (.builtin "isinstance")) (hn:x≠"__name__":=by decide) (hd:(x==("__debug__":Str))=false:=by decide)
  (i:zd a=false:=by rfl) :
  EOk X (.Call (.Name "isinstance" p) [a,.Name x p1] [] pos) (eIs T m):=by
 refine zi (GK (zGk j) o n l (JU q (JU (pe_bltn (v:=.ty T) e c h rfl hn hd) uW (zf rfl)) (zf i)) (by decide) (by decide) (zf i) (JW rfl)) λσ H Q ⟨M,E,hl,fr,k⟩=>?_
 unfold eIs at k;refine zc (T0:=[]) hl fr ?_;exists ea,m E,k,r,E1;intro v H' g;dsimp at k;exists et,tyD r.d,k,t;exact⟨v,r.d,t,rfl,g.rep.mono zF,et,k _ H' (g.flat (d:=.bl (Qm t T)) rfl)⟩
inductive Fl where
 |nx
 |ret (r:R)
 |bk
 |ct
 deriving Inhabited
abbrev MS:=zU->Out (Fl×zU)
def KS(X:Cx)(M:Ld)(σ:St)(E:zU)(H:Hp)(T0:Fz)(D:Ends):Out (Fl×zU)->Prop
 | .z=>False| .ok (.nx,E')=>∀σ' H',Got X.K X.mg M σ E H T0 σ' E' H' []->D.nx σ' H'| .ok (.bk,E')=>∀σ' H',Got X.K X.mg M σ E H T0 σ' E' H' []->D.bk σ' H'| .ok (.ct,E')=>∀σ' H',Got X.K X.mg M σ E H T0 σ' E' H' []->D.ct σ' H'| .ok (.ret r,E')=>∀v σ' H',Got X.K X.mg M σ E H T0 σ' E' H' [(some v,r.slot)]->D.rt v H'| .y x E'=>∀σ' H',Got X.K X.mg M σ E H T0 σ' E' H' []->XE X σ' H' x
def tS(X:Cx)(m:MS):TS:=λD σ H=>∃M E,E.length=σ.length/\FR X.K X.mg M H (σ.zip E)/\KS X M σ E H [] D (m E)
abbrev SOk(X:Cx)(st:Lf)(m:MS):Prop:=PS X st (tS X m)
abbrev zAe(X:Cx)(st:Ls Lf)(m:MS):Prop:=PSs X st (tS X m)
def uf{m:MS}{D:Ends}(i:E.length=σ.length)(h:FR X.K X.mg M H (T0++σ.zip E))
  (k:KS X M σ E H T0 D (m E)):tS X m D σ H:=by
 refine⟨Mo M T0,E,i,h.inner,?_⟩;cases e:m E with
 |z=>rw[e]at k;exact k
 |ok a =>
  obtain⟨c,E'⟩:=a;rw[e]at k;cases c with
  |nx=>exact λσ' H' g=>k σ' H' (g.outer h)|bk=>exact λσ' H' g=>k σ' H' (g.outer h)|ct=>exact λσ' H' g=>k σ' H' (g.outer h)|ret r=>exact λv σ' H' g=>k v σ' H' (g.outer h)
 |y x E'=>rw[e]at k;exact λσ' H' g=>k σ' H' (g.outer h)
def zEL:MS:=λE=>.ok (.nx,E)
def zBx(a b:MS):MS:=λE=>match a E with
 | .ok (.nx,E1)=>b E1|o=>o
def sk_nil:zAe X [] zEL:=zD6 pss_nil λD σ H ⟨M,E,hl,fr,k⟩=>k σ H (Got.refl (T0:=[]) hl fr)
def sk_one(h:SOk X st m):zAe X [st] m:=pss_one h
def seq_run{a b:MS}{D:Ends}(h:tS X (zBx a b) D σ H):tSeq (tS X a) (tS X b) D σ H:=by
 obtain⟨M,E,hl,fr,k⟩:=h;unfold zBx at k;refine uf (T0:=[]) hl fr ?_;exists ea,a E,k,fl,E1;cases fl with
 |bk=>exact k|ct=>exact k|ret r=>exact k
 |nx =>
  intro σ1 H1 g1;refine uf (T0:=[]) g1.len g1.fr ?_;dsimp at k;cases e:b E1 with
  |z=>rw[e]at k;exact k|y x E2=>rw[e]at k;exact λσ' H' g=>k σ' H' (g1.trans' g)
  |ok p =>
   obtain⟨c,E2⟩:=p;rw[e]at k;cases c with
   |nx=>exact λσ' H' g=>k σ' H' (g1.trans' g)|bk=>exact λσ' H' g=>k σ' H' (g1.trans' g)|ct=>exact λσ' H' g=>k σ' H' (g1.trans' g)|ret r=>exact λv σ' H' g=>k v σ' H' (g1.trans' g)
def sk_cons{st:Lf}{c:Ls Lf}{a b:MS}(e:SOk X st a)(g:zAe X c b):zAe X (st::c) (zBx a b):=zD6 (zGH e g) λD σ H=>seq_run
def sIf(c:MT)(a b:MS):MS:=λE=>match c E with
 | .ok (true,E1)=>a E1| .ok (false,E1)=>b E1| .y x E1=>.y x E1| .z=>.z
def tS_go{m:MS}{D:Ends}{σ1:St}{E1:zU}{H1:Hp}(a:Got X.K X.mg M σ E H [] σ1 E1 H1 [])
  (k:match m E1 with
   | .z=>False| .ok (.nx,E')=>∀σ' H',Got X.K X.mg M σ E H [] σ' E' H' []->D.nx σ' H'| .ok (.bk,E')=>∀σ' H',Got X.K X.mg M σ E H [] σ' E' H' []->D.bk σ' H'| .ok (.ct,E')=>∀σ' H',Got X.K X.mg M σ E H [] σ' E' H' []->D.ct σ' H'| .ok (.ret r,E')=>∀v σ' H',Got X.K X.mg M σ E H [] σ' E' H' [(some v,r.slot)]->D.rt v H'
   | .y x E'=>∀σ' H',Got X.K X.mg M σ E H [] σ' E' H' []->XE X σ' H' x):tS X m D σ1 H1:=by
 refine uf (T0:=[]) a.len a.fr ?_;cases e:m E1 with
 |z=>rw[e]at k;exact k|y x E2=>rw[e]at k;exact λσ' H' g=>k σ' H' (a.trans' g)
 |ok p =>
  obtain⟨c,E2⟩:=p;rw[e]at k;cases c with
  |nx=>exact λσ' H' g=>k σ' H' (a.trans' g)|bk=>exact λσ' H' g=>k σ' H' (a.trans' g)|ct=>exact λσ' H' g=>k σ' H' (a.trans' g)|ret r=>exact λv σ' H' g=>k v σ' H' (a.trans' g)
def sif_run{c:MT}{a b:MS}{D:Ends}(h:tS X (sIf c a b) D σ H):tIfS (tMT X c) (tS X a) (tS X b) D σ H:=by
 obtain⟨M,E,hl,fr,k⟩:=h;unfold sIf at k;refine JV (T0:=[]) hl fr ?_;cases e:c E with
 |z=>rw[e]at k;exact k|y x E1=>rw[e]at k;exact λH' g=>k σ H' g
 |ok p =>
  obtain⟨t,E1⟩:=p;rw[e]at k;intro H1 i;cases t with
  |true=>exact zGW (tS_go i k)|false=>exact zGV (tS_go i k)
def sk_if(h:TOk X c mc)(e:zAe X a ma)(g:zAe X b mb):SOk X (.If c a b pos) (sIf mc ma mb):=yx (ps_if h e g) λD σ H=>sif_run
def Wc(i:Nat)(r:R)(E:zU):Out zU:=match E[i]? with
 |none=>.z|some (.p _)=>.z|some _=>.ok (E.set i r.slot)
def sSet(i:Nat)(m:ME):MS:=λE=>match m E with
 | .z=>.z| .y x E1=>.y x E1
 | .ok (r,E1)=>match Wc i r E1 with
  | .ok E2=>.ok (.nx,E2)|_=>.z
def GV(g:Got K mg M σ E H T0 σ1 E1 H1 [(some v,r.slot)])(e:Wc i r E1=.ok E2):Got K mg M σ E H T0 (σ1.set i (some v)) E2 H1 []:=by
 unfold Wc at e;exists e1,E1[i]?,e,sl;have a:∀ds,sl≠.p ds:=λds q=>by subst q;cases e
 have k:E2=E1.set i r.slot:=by
  cases sl with
  |p ds=>exact absurd rfl (a ds)|_=>cases e;rfl
 subst k;have l:i<E1.length:=(qG.mp e1).1;have hl:=g.len;have hz:i<(σ1.zip E1).length:=by rw[length_zip];omega
 have hT:T0++((σ1.set i (some v)).zip (E1.set i r.slot))=(T0++σ1.zip E1).set (T0.length+i) (some v,r.slot):=by
  rw[GS,List.set_append_right _ _ (by omega)];congr 2;omega
 have c:T0.length+i<(T0++σ1.zip E1).length:=by rw[length_append];omega
 refine⟨by simp[hl],?_,?_,?_⟩
 ·show FR K mg M H1 (T0++((σ1.set i (some v)).zip (E1.set i r.slot)))
  rw[hT];exact FR.put g.fr c
 ·show Step M H _ H1 (T0++((σ1.set i (some v)).zip (E1.set i r.slot)))
  rw[hT];exact Step.put g.st c
 ·refine g.pk.trans λj ds q=>?_
  have h:i≠j:=λz=>by subst z;rw[e1]at q;exact a ds (qJ q)
  exact⟨⟨ds,by rw[getElem?_set_ne h];exact q⟩,by rw[getElem?_set_ne h]⟩
def zEM{i:Nat}{m:ME}{D:Ends}(h:tS X (sSet i m) D σ H):tAsg (tM X m) (zAi i) D σ H:=by
 obtain⟨M,E,hl,fr,k⟩:=h;unfold sSet at k;refine zc (T0:=[]) hl fr ?_;cases c:m E with
 |z=>rw[c]at k;exact k|y x E1=>rw[c]at k;exact λH' g=>k σ H' g
 |ok p =>
  obtain⟨r,E1⟩:=p;rw[c]at k;intro v H' g;dsimp at k;cases a:Wc i r E1 with
  |z=>rw[a]at k;exact k.elim|y _ _=>rw[a]at k;exact k.elim
  |ok E2 =>
   rw[a]at k;exact k _ H' (GV g a)
def zEN(h:X.N.Nodup)(hi:X.N[i]?=some x)(g:Loc X.env.scope x)(a:EOk X e m)(c:swapsWith e (some (.Name x pos')) pos.line X.env=pure false:=by rfl)
  (j:X.fn x=true\/X.env.scope.names.lookup x=some .local:=by first|exact .inl rfl|exact .inr rfl|assumption):SOk X (.Assign [.Name x pos'] e pos) (sSet i m) :=
 yx (ps_set h hi g a c j) λD σ H=>zEM
def sRet(m:ME):MS:=λE=>match m E with
 | .z=>.z| .y x E1=>.y x E1| .ok (r,E1)=>.ok (.ret r,E1)
def ret_run{m:ME}{D:Ends}(h:tS X (sRet m) D σ H):tRet (tM X m) D σ H:=by
 obtain⟨M,E,hl,fr,k⟩:=h;unfold sRet at k;refine zc (T0:=[]) hl fr ?_;cases a:m E with
 |z=>rw[a]at k;exact k|y x E1=>rw[a]at k;exact λH' g=>k σ H' g|ok p=>rw[a]at k;exact λv H' g=>k v σ H' g
def sk_ret(a:EOk X e m):SOk X (.Return (some e) pos) (sRet m):=yx (ps_ret a) λD σ H=>ret_run
def zC8(i:Nat):ME:=λE=>match E[i]? with
 |some (.w a)=>.ok (.w a,E.set i .e)|some (.m ks vs)=>.ok (.m ks vs,E.set i .e)|some (.v d)=>.ok (.v d,E)|_=>.z
def ok_move(i:Nat)(h:PE X (.Name x pos) (Wz i)):EOk X (.Name x pos) (zC8 i):=zi h λσ H Q ⟨M,E,hl,f,k⟩=>by
 unfold zC8 at k;cases e:E[i]? with
 |none=>rw[e]at k;exact k.elim
 |some J =>
 rw[e]at k;cases J with
 |e=>exact k.elim|p l=>exact k.elim
 |v d =>
  obtain⟨o,t,h2⟩:=jN hl e;obtain⟨v,rfl,r⟩:=f.val o d h2;exact⟨v,t,k v H ⟨hl,f.add r,Step.refl.add,PKp.refl⟩⟩
 |w l =>
  obtain⟨o,t,h2⟩:=wf hl e;obtain⟨a,S,rfl,K,L,O⟩:=f.ownL o (.w l) l (mem_of_getElem? h2) rfl;refine⟨.ref a,t,k _ H ?_⟩;have c:i<(σ.zip E).length:=(qG.mp h2).1;have p:(σ.zip E).Perm ((some (.ref a),R.slot (.w l))::(σ.zip E).eraseIdx i):=by
   have:=zX (some (V.ref a),Slot.w l) (σ.zip E) i c;rw[we h2]at this;exact this
  have G:σ.zip (E.set i .e)=(σ.zip E).set i (some (.ref a),.e):=zg .e t;have C:((some (V.ref a),R.slot (.w l))::σ.zip (E.set i .e)).Perm ((some (V.ref a),Slot.e)::((some (V.ref a),R.slot (.w l))::(σ.zip E).eraseIdx i)):=by
   rw[G];exact((zX _ _ _ c).cons _).trans (List.Perm.swap _ _ _)
  have j:=f.perm p;have D:FR X.K X.mg M H ((some (V.ref a),Slot.e)::((some (V.ref a),R.slot (.w l))::(σ.zip E).eraseIdx i)):={
   val:=λo d q=>by
    rcases mem_cons.mp q with q|q
    ·cases q
    ·exact j.val o d q
   own:=λo s g q z=>by
    rcases mem_cons.mp q with q|q
    ·cases q;cases z
    ·exact j.own o s g q z
   nd:=by rw[yc];exact j.nd
   mal:=j.mal}
  refine⟨by simp[hl],D.perm C.symm,?_,Qh (ds0:=[]) e (λg q=>by cases q) _⟩;refine Step.weak Step.refl λb I=>?_
  have u:=zE C b I;exact zE p.symm b u
 |m y n =>
  obtain⟨o,t,h2⟩:=wf hl e;obtain⟨a,ho,rfl,K,L,O⟩:=f.own o (.m y n) (.d y n) (mem_of_getElem? h2) rfl;refine⟨.ref a,t,k _ H ?_⟩;have c:i<(σ.zip E).length:=(qG.mp h2).1;have p:(σ.zip E).Perm ((some (.ref a),R.slot (.m y n))::(σ.zip E).eraseIdx i):=by
   have:=zX (some (V.ref a),Slot.m y n) (σ.zip E) i c;rw[we h2]at this;exact this
  have G:σ.zip (E.set i .e)=(σ.zip E).set i (some (.ref a),.e):=zg .e t;have C:((some (V.ref a),R.slot (.m y n))::σ.zip (E.set i .e)).Perm ((some (V.ref a),Slot.e)::((some (V.ref a),R.slot (.m y n))::(σ.zip E).eraseIdx i)):=by
   rw[G];exact((zX _ _ _ c).cons _).trans (List.Perm.swap _ _ _)
  have j:=f.perm p;have D:FR X.K X.mg M H ((some (V.ref a),Slot.e)::((some (V.ref a),R.slot (.m y n))::(σ.zip E).eraseIdx i)):={
   val:=λo d q=>by
    rcases mem_cons.mp q with q|q
    ·cases q
    ·exact j.val o d q
   own:=λo s g q z=>by
    rcases mem_cons.mp q with q|q
    ·cases q;cases z
    ·exact j.own o s g q z
   nd:=by rw[yc];exact j.nd
   mal:=j.mal}
  refine⟨by simp[hl],D.perm C.symm,?_,Qh (ds0:=[]) e (λg q=>by cases q) _⟩;refine Step.weak Step.refl λb I=>?_
  have u:=zE C b I;exact zE p.symm b u
def sDrop(m:ME):MS:=λE=>match m E with
 | .z=>.z| .y x E1=>.y x E1| .ok (_,E1)=>.ok (.nx,E1)
def zGl{m:ME}{D:Ends}(h:tS X (sDrop m) D σ H):tDrop (tM X m) D σ H:=by
 obtain⟨M,E,hl,fr,k⟩:=h;unfold sDrop at k;refine zc (T0:=[]) hl fr ?_;cases a:m E with
 |z=>rw[a]at k;exact k|y x E1=>rw[a]at k;exact λH' g=>k σ H' g|ok p=>rw[a]at k;exact λv H' g=>k σ H' g.dropAll
def sk_drop(a:EOk X e m)(c:swapsWith e none pos.line X.env=pure false:=by rfl):SOk X (.Expr e pos) (sDrop m):=yx (zDb a c) λD σ H=>zGl
end
theorem y4{α β:Type}{f:α->Lx β}{x y:α}(h:f y=f x):∀{l:Ls α} {i:Nat},l[i]?=some x->(l.set i y).filterMap f=l.filterMap f
 | [],_,e=>by simp at e
 |a::l,0,e=>by
  simp at e;subst e
  dsimp[List.set_cons_zero,filterMap_cons,h]
 |a::l,i+1,e=>by
  simp at e
  dsimp[List.set_cons_succ,filterMap_cons,y4 h e]
section
variable{X:Cx}{K:qH}{mg:Str->Lx Lv}{σ:St}{M:Ld}{E:zU}{H:Hp}{T0 Z:Fz}
def Slot.put:Slot->Ls D->Slot
 | .w _,es=>.w es| .p _,es=>.p es|s,_=>s
def GW(a:s.list?=some ds):GO (some (.ref p),s.put es)=GO (some (.ref p),s)/\(s.put es).list?=some es:=by
 cases s<;>simp[Slot.list?]at a<;>exact⟨rfl,rfl⟩
def FR.mut(h:FR K mg M H Z)(hi:Z[i]?=some (some (.ref p),s))(g:s.list?=some ds)(r:Reps K mg (Hm (Mo M Z) H) es ys) :
  FR K mg M (upd H p (.l ys)) (Z.set i (some (.ref p),s.put es))/\Step M H Z (upd H p (.l ys)) (Z.set i (some (.ref p),s.put es)):=by
 have E:yP (Z.set i (some (.ref p),s.put es))=yP Z:=y4 (GW g).1 hi;have u:Mo M (Z.set i (some (.ref p),s.put es))=Mo M Z:=by unfold Mo;rw[E]
 have G:p∈yP Z:=zAn (mem_of_getElem? hi) g rfl;obtain⟨R,Y,C,_⟩:=h.ownAt G;have c:Hm (Mo M Z) (upd H p (.l ys))=Hm (Mo M Z) H:=by
  funext b
  unfold Hm;by_cases n:Mo M Z b
  ·simp[n]
  ·have:b≠p:=λe=>n (by subst e;exact .inr G)
   simp[n,zk this]
 have mem:∀{q:Lx V×Slot},q∈Z.set i (some (.ref p),s.put es)->q=(some (.ref p),s.put es)\/q∈Z:=λ{q} Q=>(List.mem_or_eq_of_mem_set Q).symm
 have j:i<Z.length:=(qG.mp hi).1;have v:(yP (Z.eraseIdx i)).Nodup/\p∉yP (Z.eraseIdx i):=by
  have S:Z.Perm ((some (.ref p),s)::Z.eraseIdx i):=by
   have:=zX (some (V.ref p),s) Z i j;rw[we hi]at this;exact this
  have w:=(S.filterMap GO).nodup_iff.mp h.nd;have e:List.filterMap GO ((some (V.ref p),s)::Z.eraseIdx i)=p::yP (Z.eraseIdx i):=by
   cases s<;>simp[Slot.list?]at g<;>rfl
  rw[e]at w;exact⟨(nodup_cons.mp w).2,(nodup_cons.mp w).1⟩
 have t:(Z.set i (some (.ref p),s.put es)).Perm ((some (.ref p),s.put es)::Z.eraseIdx i):=zX _ _ _ j;refine⟨⟨λo d q=>?_,λo I l q e=>?_,by rw[E];exact h.nd,λb q=>?_⟩,⟨by rw[u,c];exact YU.refl _,λb o m e=>?_⟩⟩
 ·rw[u,c]
  rcases mem q with q|q
  ·exfalso
   cases s<;>simp[Slot.list?]at g<;>cases q
  ·exact h.val o d q
 ·rw[u,c]
  rcases mem_cons.mp (t.mem_iff.mp q)with k|k
  ·cases k
   rw[zD4 (GW (p:=p) g).2]at e;cases e;exact⟨p,_,rfl,y3,C,ys,rfl,r⟩
  ·have y:(o,I)∈Z:=(eraseIdx_sublist Z i).subset k
   obtain⟨a,J,D,O,W,L⟩:=h.own o I l y e;have x:a≠p:=λz=>by
    subst z;exact v.2 (jM k e D)
   exact⟨a,J,D,by rw[zk x];exact O,W,L⟩
 ·obtain⟨o,e,X⟩:=h.mal b q
  by_cases z:b=p
  ·subst z;exact⟨_,y3,.inl ⟨_,rfl⟩⟩
  ·exact⟨o,by rw[zk z];exact e,X⟩
 ·have x:b≠p:=λz=>C (by subst z;exact m)
  rw[zk x];exact e
theorem Got.mut(g:Got K mg M σ E H [] σ1 E1 H1 T)(hi:E1[i]?=some s)(k:s.list?=some ds)(r:Reps K mg (Hm (Mo M (σ1.zip E1)) H1) es ys) :
  ∃p,σ1[i]?=some (some (.ref p))/\Got K mg M σ E H [] σ1 (E1.set i (s.put es)) (upd H1 p (.l ys)) []:=by
 obtain⟨o,h,h2⟩:=wf g.len hi;obtain⟨p,n,rfl,_⟩:=g.frame.ownL o s ds (mem_of_getElem? h2) k;refine⟨p,h,?_⟩;obtain⟨f,st⟩:=FR.mut g.frame h2 k r;have e:=zg (E:=E1) (s.put es) h;rw[<- e]at f st;refine⟨by simp[g.len],f,(g.st.weak (zD (sublist_append_right _ _))).trans st,g.pk.trans λj c q=>?_⟩;by_cases l:i=j
 ·subst l
  rw[hi]at q;cases q;have a:i<E1.length:=(qG.mp hi).1;exact⟨⟨es,by rw[getElem?_set_self a];rfl⟩,rfl⟩
 ·exact⟨⟨c,by rw[getElem?_set_ne l];exact q⟩,rfl⟩
def ug{i:Nat}{s:Slot}(g:E.length=σ.length)(f:FR K mg M H (σ.zip E))(h:E[i]?=some s)(j:s≠.e):∃v,σ[i]?=some (some v):=by
 obtain⟨o,c,h2⟩:=jN g h;cases s with
 |e=>exact absurd rfl j|v d=>obtain⟨v,rfl,_⟩:=f.val o d h2;exact⟨v,c⟩|w k=>obtain⟨a,_,rfl,_⟩:=f.own o _ _ h2 rfl;exact⟨_,c⟩|p k=>obtain⟨a,_,rfl,_⟩:=f.own o _ _ h2 rfl;exact⟨_,c⟩|m n l=>obtain⟨a,_,rfl,_⟩:=f.own o _ _ h2 rfl;exact⟨_,c⟩
def jw:Lx Slot->Bool
 |none=>true|some .e=>true|_=>false
def ZZ(h:jw o=false):∃s,o=some s/\s≠.e:=by
 cases o with
 |none=>cases h
 |some s=>cases s<;>simp[jw]at h<;>exact⟨_,rfl,by intro q;cases q⟩
def ixS:Slot->Int->Lx D
 | .w a,i=>atI a i| .p a,i=>atI a i| .v (.l a),i=>atI a i|_,_=>none
def zGm(i:Nat)(m:ME):ME:=λE=>if jw E[i]?=true then .z else match m E with
 | .z=>.z| .y x E1=>.y x E1
 | .ok (.v (.int k),E1)=>match E1[i]? with
  |some s=>match ixS s k with
   |some d=>.ok (.v d,E1)|none=>.z
  |none=>.z
 |_=>.z
def ixO_run{i:Nat}{m:ME}{Q:VK}(h:tM X (zGm i m) σ H Q):tOp (rIxL X.K) (Wz i) (tM X m) σ H Q:=by
 obtain⟨M,E,hl,fr,k⟩:=h;unfold zGm at k;cases u:jw E[i]? with
 |true=>rw[u]at k;exact k.elim
 |false =>
  rw[u]at k;obtain⟨s,z,q⟩:=ZZ u;obtain⟨v,hv⟩:=ug hl fr z q;refine⟨v,hv,?_⟩;refine zc (T0:=[]) hl fr ?_;exists ea,m E,k,r,E1;cases r with
  |w c=>exact k.elim|m _ _=>exact k.elim
  |v d =>
   cases d with
   |int n =>
    intro y H' g;dsimp at k;exists e1,E1[i]?,k,s1;dsimp at k;exists e2,ixS s1 n,k,d;have f:=g.frame;have fin:∀{w:V},Rep X.K X.mg (Hm (Mo M (σ.zip E1)) H') d w->Q w H':=λ{w} I=>k w H' (g.more (T:=[(some w,.v d)]) (f.add I) Step.refl.add)
    obtain⟨o,K,h2⟩:=jN g.len e1;have ho:o=some v:=by rw[hv]at K;exact(qJ K).symm
    subst ho;have j:∀{c:Ls D},s1.list?=some c->atI c n=some d->rIxL X.K v y H' Q:=λ{c} x S=>by
     obtain⟨a,C,ev,G,_,R⟩:=f.ownL _ s1 c h2 x;cases ev;obtain⟨w,t,J⟩:=Wb R S;exact⟨a,C,n,w,rfl,zJ g.rep,SqL.of G,t,fin J⟩
    cases s1 with
    |e=>cases e2|w c=>exact j rfl e2|p c=>exact j rfl e2|m _ _=>cases e2
    |v W =>
     cases W with
     |l c =>
      obtain⟨Y,ev,L⟩:=f.val _ _ h2;cases ev;obtain⟨a,C,rfl,G,O⟩:=yH L;obtain⟨w,t,J⟩:=Wb O e2;exact⟨a,C,n,w,rfl,zJ g.rep,zF.seq G,t,fin J⟩
     |_=>cases e2
   |_=>exact k.elim
def ok_ixO(i:Nat)(e:PE X (.Name x p) (Wz i))(a:EOk X b m)(c:ZT b):EOk X (.Subscript (.Name x p) b pos) (zGm i m) :=
 zi (pe_ix zDw e a c) λσ H Q=>ixO_run
def zC9(i:Nat):ME:=λE=>match E[i]? with
 |some (.w a)=>.ok (.v (.int a.length),E)|some (.p a)=>.ok (.v (.int a.length),E)|some (.v (.l a))=>.ok (.v (.int a.length),E)|_=>.z
def zGn(h:tM X (zC9 i) σ H Q):tCB (λg H Q=>∃p j,g=[.ref p]/\(SqL X.K H p j\/SqT X.K H p j)/\Q (.int j.length) H) (zCw (Wz i) tNil) σ H Q:=by
 obtain⟨M,E,hl,f,k⟩:=h;unfold zC9 at k;exists e1,E[i]?,k,s;obtain⟨o,t,h2⟩:=jN hl e1;have n:∀{c:Ls D},s.list?=some c->(∀(v:V) (H':Hp),Got X.K X.mg M σ E H [] σ E H' [(some v,.v (.int c.length))]->Q v H')->tCB (λg H Q=>∃p j,g=[.ref p]/\(SqL X.K H p j\/SqT X.K H p j)/\Q (.int j.length) H) (zCw (Wz i) tNil) σ H Q:=λ{c} q u=>by
  obtain⟨a,g,ev,r,_,y⟩:=f.ownL _ s c h2 q;subst ev;refine⟨.ref a,t,a,g,rfl,.inl (SqL.of r),?_⟩;rw[y.length];exact u _ H ((Got.refl (T0:=[]) hl f).flat (d:=.int c.length) rfl)
 cases s with
 |e=>exact k.elim|w c=>exact n rfl k|p c=>exact n rfl k|m _ _=>exact k.elim
 |v d =>
  cases d with
  |l c =>
   obtain⟨C,ev,x⟩:=f.val _ _ h2;subst ev;obtain⟨a,g,rfl,r,z⟩:=yH x;refine⟨.ref a,t,a,g,rfl,.inl (zF.seq r),?_⟩;rw[z.length];exact k _ H ((Got.refl (T0:=[]) hl f).flat (d:=.int c.length) rfl)
  |_=>exact k.elim
def ok_lenO(i:Nat)(e:PE X (.Name x p1) (Wz i))(c:Gl X "len")(a:X.mg "len"=none) :
  EOk X (.Call (.Name "len" p) [.Name x p1] [] pos) (zC9 i) :=
 zi (GK Z5 c a PySem.boot_len (JU e uW (zf rfl)) (by decide) (by decide) (zf rfl) (JW rfl)) λσ H Q=>zGn
def vC(i:Nat)(e c:ME):MS:=λE=>if jw E[i]?=true then .z else match c E with
 | .z=>.z| .y x E1=>.y x E1
 | .ok (r,E1)=>match e E1 with
  | .z=>.z| .y x E2=>.y x E2
  | .ok (.v (.int k),E2)=>match E2[i]? with
   |none=>.z
   |some s=>match s.list? with
    |none=>.z
    |some a=>match ixN a.length k with
     |none=>.z|some j=>.ok (.nx,E2.set i (s.put (a.set j r.d)))
  |_=>.z
def zEO{i:Nat}{e u:ME}{D:Ends}(h:tS X (vC i e u) D σ H):tAsg (tM X u) (gSub (Wz i) (tM X e) rSetL) D σ H:=by
 obtain⟨M,E,hl,fr,k⟩:=h;unfold vC at k;cases C:jw E[i]? with
 |true=>rw[C]at k;exact k.elim
 |false =>
  rw[C]at k;obtain⟨s,q,G⟩:=ZZ C;obtain⟨v,hv⟩:=ug hl fr q G;refine zc (T0:=[]) hl fr ?_;cases I:u E with
  |z=>rw[I]at k;exact k|y x E1=>rw[I]at k;exact λH' g=>k σ H' g
  |ok p =>
   obtain⟨r,E1⟩:=p;rw[I]at k;intro y H1 c;refine⟨v,hv,?_⟩;refine zc (T0:=[(some y,r.slot)]) c.len c.fr ?_;dsimp at k;cases l:e E1 with
   |z=>rw[l]at k;exact k|y x E2=>rw[l]at k;exact λH' g=>k σ H' (c.trans' g).dropAll
   |ok p =>
    obtain⟨Q,E2⟩:=p;rw[l]at k;cases Q with
    |w t=>exact k.elim|m _ _=>exact k.elim
    |v d =>
     cases d with
     |int n =>
      intro z H2 Y;have g:=c.trans' Y;dsimp at k;exists e1,E2[i]?,k,s1;dsimp at k;exists e2,s1.list?,k,t;dsimp at k;exists e3,ixN t.length n,k,j;have rp:=Got.reps (vs:=[z,y]) (rs:=[.v (.int n),r]) rfl g;obtain⟨z',_,q1,W,y',_,Z,S,_⟩:=rp;cases q1;cases Z;obtain⟨o,J,h2⟩:=jN g.len e1;obtain⟨a,R,ev,O,_,K⟩:=g.frame.ownL _ s1 t h2 e2;subst ev;have ev:v=.ref a:=by rw[hv]at J;exact qJ (qJ J)
      subst ev;obtain⟨p,L,g'⟩:=g.mut e1 e2 (K.set j S);have V:p=a:=by rw[J]at L;cases L;rfl
      subst V;exact⟨p,R,n,j,rfl,zJ W,O,by rw[K.length];exact e3,k σ _ g'⟩
     |_=>exact k.elim
def zGo(i:Nat)(c:PE X (.Name x p) (Wz i))(j:EOk X b mi)(a:EOk X e mv)
  (h:∀v,assign (.Subscript (.Name x p) b p1) X.env v=(do
   let ov <- holding [v] (eval (.Name x p) X.env)
   let iv <- holding [v,ov] (eval b X.env)
   standAt p1
   holding [v,ov,iv] (setItem ov iv v)
   release [v,ov,iv] []):=by intro _;rfl) (g:swapsWithSole [.Subscript (.Name x p) b p1] e pos.line X.env=pure false:=by rfl):SOk X (.Assign [.Subscript (.Name x p) b p1] e pos) (vC i mi mv) :=
 yx (zDd a (zII c j zBn h) g) λD σ H=>zEO
def sApp(i:Nat)(m:ME):MS:=λE=>match E[i]? with
 |none=>.z
 |some c=>match c.list? with
  |none=>.z
  |some _=>match m E with
   | .z=>.z| .y x E1=>.y x E1
   | .ok (r,E1)=>match E1[i]? with
    |none=>.z
    |some s=>match s.list? with
     |none=>.z|some a=>if a.length<cap then .ok (.nx,E1.set i (s.put (a++[r.d])))else .z
def app_run{i:Nat}{m:ME}{D:Ends}(h:tS X (sApp i m) D σ H):tDrop (tBM X.K "list" zDx (Wz i) (zCw (tM X m) tNil)) D σ H:=by
 obtain⟨M,E,hl,fr,k⟩:=h;unfold sApp at k;exists e0,E[i]?,k,s0;dsimp at k;exists e00,s0.list?,k,ds0;obtain⟨o,l,h2⟩:=jN hl e0;obtain⟨a,G,ev,w,_,K⟩:=fr.ownL _ s0 ds0 h2 e00;subst ev;refine⟨.ref a,l,.inl ⟨rfl,G,SqL.of w⟩,?_⟩;refine zc (T0:=[]) hl fr ?_;cases n:m E with
 |z=>rw[n]at k;exact k|y x E1=>rw[n]at k;exact λH' g=>k σ H' g
 |ok p =>
  obtain⟨r,E1⟩:=p;rw[n]at k;intro y H1 g;dsimp at k;exists e1,E1[i]?,k,s;dsimp at k;exists e2,s.list?,k,ds;dsimp at k;by_cases j:ds.length<cap
  ·rw[if_pos j]at k
   obtain⟨o,c,e⟩:=jN g.len e1;obtain⟨a',C,ev,I,_,u⟩:=g.frame.ownL _ s ds e e2;subst ev;have q:a'=a:=by rw[l]at c;cases c;rfl
   subst q;obtain⟨p,t,v⟩:=g.mut e1 e2 (u.append (Reps.cons g.rep Reps.nil));have J:p=a':=by rw[l]at t;cases t;rfl
   subst J;exact⟨p,C,y,rfl,rfl,I,by rw[u.length];exact lt_of_lt_of_le j (Z7 (le_refl _)),k σ _ v⟩
  ·rw[if_neg j]at k;exact k.elim
def sk_app(i:Nat)(n:PE X (.Name x p) (Wz i))(l:EOk X e m)
  (g:attributeBase (.Name x p) "append" X.env (eval (.Name x p) X.env)=eval (.Name x p) X.env:=by rfl)
  (h:((backTo cpos (starEach (e::[]) X.env)).all (λx=>!x.1)&&(backToKw cpos (keywordEach [] X.env)).all (λx=>x.1.isSome)
   && decide ((e::([]:Ls Lb)).length+([]:Ls Keyword).length+(if([]:Ls Keyword).isEmpty then 0 else 1)<30))=true:=by rfl)
  (c:(apos.endLine==cpos.line)=true:=by rfl) (k:starEach (e::[]) X.env=(false,eval e X.env)::starEach [] X.env:=by rfl) (a:(backTo cpos (starEach [] X.env)).any (·.1)=false:=by rfl)
  (j:swapsWith (.Call (.Attribute (.Name x p) "append" apos) [e] [] cpos) none pos.line X.env=pure false:=by rfl):SOk X (.Expr (.Call (.Attribute (.Name x p) "append" apos) [e] [] cpos) pos) (sApp i m) :=
 yx (zDb (pe_bm PySem.F.plainAttrs_list PySem.F.slot_list_append PySem.F.type_list_append Qc n (JU l uW k) g h c k a) j) λD σ H=>app_run
end
section
variable{X:Cx}{K:qH}{mg:Str->Lx Lv}{σ:St}{M:Ld}{E:zU}{H:Hp}{T0 Z:Fz}
abbrev MG:=D->zU->Out zU
def GOk(X:Cx)(g:TG)(tg:MG):Prop:=∀(M:Ld) (σ:St) (E:zU) (H:Hp) (T0:Fz) (x:V) (d:D) (E':zU) (Q:St->Hp->Prop),E.length=σ.length->FR X.K X.mg M H ((some x,.v d)::(T0++σ.zip E))->tg d E=.ok E' ->
 (∀σ',Got X.K X.mg M σ E H T0 σ' E' H []->Q σ' H)->g x σ H Q
def gN(i:Nat):MG:=λd E=>Wc i (.v d) E
def go_name(i:Nat):GOk X (zAi i) (gN i):=λM σ E H T0 x d E' Q hl f e k =>
 k _ (GV (σ1:=σ) (E1:=E) (H1:=H) (r:=.v d) (v:=x) ⟨hl,f,Step.refl.add,PKp.refl⟩ e)
def gNs:Ls Nat->Ls D->zU->Out zU
 | [],[],E=>.ok E
 |i::c,d::a,E=>match Wc i (.v d) E with
  | .ok E1=>gNs c a E1|_=>.z
 |_,_,_=>.z
def gT(c:Ls Nat):MG:=λd E=>match d with
 | .t a=>gNs c a E|_=>.z
def YX:Ls Nat->TGs
 | []=>gNil|i::is=>gCons (zAi i) (YX is)
theorem vD:∀(l:Ls Nat) (n:Ls D) (j:Ls V) {M:Ld} {σ0 σ:St} {E0 E E':zU} {H:Hp} {T0:Fz} {a:Lz} {ts:Ls D} {Q:St->Hp->Prop},
  Got X.K X.mg M σ0 E0 H T0 σ E H []->Reps X.K X.mg (Hm (Mo M (T0++σ.zip E)) H) n j->gNs l n E=.ok E'->(∀σ',Got X.K X.mg M σ0 E0 H T0 σ' E' H []->Q σ' H)->YX l j σ H Q
 | [],[],j,M,σ0,σ,E0,E,E',H,T0,a,ts,Q,g,r,e,k=>by
  cases e;exact⟨r,k σ g⟩
 | [],d::n,j,M,σ0,σ,E0,E,E',H,T0,a,ts,Q,g,r,e,k=>by cases e|i::l,[],j,M,σ0,σ,E0,E,E',H,T0,a,ts,Q,g,r,e,k=>by cases e
 |i::l,d::n,j,M,σ0,σ,E0,E,E',H,T0,a,ts,Q,g,r,e,k=>by
  obtain⟨x,wA,rfl,t,o⟩:=r;dsimp[gNs]at e;cases c:Wc i (.v d) E with
  |z=>rw[c]at e;cases e|y _ _=>rw[c]at e;cases e
  |ok E1 =>
   rw[c]at e;refine⟨x,wA,rfl,?_⟩;have u:Got X.K X.mg M σ0 E0 H T0 σ E H [(some x,R.slot (.v d))]:=⟨g.len,g.fr.add t,g.st.add,g.pk⟩;have q:=GV u c;refine vD l n wA (a:=a) (ts:=ts) q (o.mono ?_) e k;refine jr (YD λb h=>?_)
   -- the stored slot l a value: it yP nothing
   unfold Wc at c;exists e2,E[i]?,c,sl;have p:E1=E.set i (.v d):=by cases sl<;>cases c<;>rfl
   subst p;have v:i<E.length:=(qG.mp e2).1;have hz:i<(σ.zip E).length:=by rw[length_zip];have:=g.len;omega
   rw[GS]at h;rw[za]at h ⊢;rcases mem_append.mp h with h|h
   ·exact mem_append_left _ h
   ·refine qK _ ?_
    have:=zE (zX _ _ _ hz) b h;rw[zr]at this;exact zD (eraseIdx_sublist _ _) b this
def zIc(g:Ls Nat)(hn:g.length=n):GOk X (gTup X.K n (YX g)) (gT g):=λM σ E H T0 x d E' Q hl f e k=>by
 cases d with
 |t c =>
  obtain⟨v,ev,r⟩:=f.val _ _ qE;cases ev;obtain⟨a,o,rfl,p,h2⟩:=yT r;have j:c.length=g.length:=by
   have:∀(g:Ls Nat) (c:Ls D) (E E':zU),gNs g c E=.ok E'->c.length=g.length:=by
    intro g
    induction g with
    |nil=>intro c E E' h;cases c with|nil=>rfl|cons d c=>cases h
    |cons i g q =>
     intro c E E' h;cases c with
     |nil=>cases h
     |cons d c =>
      dsimp[gNs]at h;cases l:Wc i (.v d) E with
      |ok E1=>rw[l]at h;simp[q c E1 E' h]|z=>rw[l]at h;cases h|y _ _=>rw[l]at h;cases h
   exact this g c E E' e
  refine⟨a,o,rfl,zL zF p,by rw[h2.length,j,hn],?_⟩;exact vD g c o (a:=a) (ts:=[]) (Got.refl hl f.tail) h2 e k
 |_=>cases e
def Yn(tg:MG)(body:MS):Ls D->zU->Out (Fl×zU)
 | [],E=>.ok (.nx,E)
 |d::a,E=>match tg d E with
  | .ok E1=>match body E1 with
   | .ok (.nx,E2)=>Yn tg body a E2| .ok (.ct,E2)=>Yn tg body a E2| .ok (.bk,E2)=>.ok (.nx,E2)| .ok (.ret r,E2)=>.ok (.ret r,E2)| .y x E2=>.y x E2| .z=>.z
  |_=>.z
def Fin(X:Cx)(M:Ld)(σ:St)(E:zU)(H:Hp)(D:Ends)(o:Out (Fl×zU)):Prop:=match o with
 | .z=>False| .ok (.nx,E')=>∀σ' H',Got X.K X.mg M σ E H [] σ' E' H' []->D.nx σ' H'| .ok (.bk,E')=>∀σ' H',Got X.K X.mg M σ E H [] σ' E' H' []->D.bk σ' H'| .ok (.ct,E')=>∀σ' H',Got X.K X.mg M σ E H [] σ' E' H' []->D.ct σ' H'| .ok (.ret r,E')=>∀v σ' H',Got X.K X.mg M σ E H [] σ' E' H' [(some v,r.slot)]->D.rt v H'| .y x E'=>∀σ' H',Got X.K X.mg M σ E H [] σ' E' H' []->XE X σ' H' x
def Got.dropT{c:Str->Lx Lv}{M:Ld}(a:Got K c M σ E H [] σ1 E1 H1 (T++T')):Got K c M σ E H [] σ1 E1 H1 T where
 len:=a.len
 fr:=a.fr.sub (by rw[append_assoc];exact(sublist_append_right _ _).append_left _)
 st:=a.st.weak (zD (by rw[append_assoc];exact(sublist_append_right _ _).append_left _))
 pk:=a.pk
def Wd{tg:MG}{body:MS}{g:TG}{D:Ends}{d:DV.D}{ds:Ls DV.D}{σ1:St}{E1:zU}{H1:Hp}{T:Fz}{x:V}{P:St->Hp->Prop}(o:GOk X g tg)
  (j:Got X.K X.mg M σ E H [] σ1 E1 H1 T) (l:Rep X.K X.mg (Hm (Mo M (T++σ1.zip E1)) H1) d x) (a:Fin X M σ E H D (Yn tg body (d::ds) E1))
  (next:∀σ2 E2 H2,Got X.K X.mg M σ E H [] σ2 E2 H2 T->Step M H1 (T++σ1.zip E1) H2 (T++σ2.zip E2)->Fin X M σ E H D (Yn tg body ds E2)->P σ2 H2) :
  g x σ1 H1 λσ2 H2=>tS X body {D with nx:=P,ct:=P,bk:=D.nx} σ2 H2:=by
 dsimp[Yn]at a;cases i:tg d E1 with
 |z=>rw[i]at a;exact a.elim|y _ _=>rw[i]at a;exact a.elim
 |ok E2 =>
  rw[i]at a;dsimp at a;refine o M σ1 E1 H1 T x d E2 _ j.len (j.fr.add l) i λσ2 h=>?_
  have e:=j.trans' h;refine uf (T0:=T) h.len h.fr ?_;cases k:body E2 with
  |z=>rw[k]at a;exact a|y y E3=>rw[k]at a;exact λσ' H' c=>a σ' H' (e.trans' c).dropAll
  |ok p =>
   obtain⟨n,E3⟩:=p;rw[k]at a;cases n with
   |nx=>exact λσ' H' c=>next σ' E3 H' (e.trans' c) (h.st.trans c.st) a|ct=>exact λσ' H' c=>next σ' E3 H' (e.trans' c) (h.st.trans c.st) a|bk=>exact λσ' H' c=>a σ' H' (e.trans' c).dropAll|ret r=>exact λv σ' H' c=>a v σ' H' (e.trans' c).dropT
def sForL(m:ME)(tg:MG)(body:MS):MS:=λE=>match m E with
 | .z=>.z| .y x E1=>.y x E1
 | .ok (r,E1)=>match r.d with
  | .l a=>Yn tg body a E1|_=>.z
def sForT(m:ME)(tg:MG)(body:MS):MS:=λE=>match m E with
 | .z=>.z| .y x E1=>.y x E1
 | .ok (r,E1)=>match r.d with
  | .t a=>Yn tg body a E1|_=>.z
def zBy{m:MS}{D:Ends}(h:tS X m D σ H):∃M E,E.length=σ.length/\FR X.K X.mg M H (σ.zip E)/\Fin X M σ E H D (m E):=h
def zGp{m:ME}{tg:MG}{g:TG}{body:MS}{D:Ends}(O:GOk X g tg)(h:tS X (sForL m tg body) D σ H):tFor (iList X.K (tM X m)) g (tS X body) D σ H:=by
 obtain⟨M,E,hl,fr,k⟩:=zBy h;unfold sForL at k;refine zc (T0:=[]) hl fr ?_;cases u:m E with
 |z=>rw[u]at k;exact k|y x E1=>rw[u]at k;exact λH' g=>k σ H' g
 |ok p =>
  obtain⟨r,E1⟩:=p;rw[u]at k;intro v H1 e;have C:Got X.K X.mg M σ E H [] σ E1 H1 [(some v,.v r.d)]:=⟨e.len,e.fr.frz,e.st.frz,e.pk⟩;dsimp at k;cases n:r.d with
  |l c =>
   rw[n]at k C;have G:=e.rep;rw[n]at G;obtain⟨a,xs,rfl,J,Y⟩:=yH G;refine⟨a,rfl,⟨xs,zF.seq J⟩,?_⟩;have Q:∀(σ':St) (E':zU),Mo M ([(some (V.ref a),Slot.v (.l c))]++σ'.zip E')=Mo M (σ'.zip E'):=λσ' E'=>Yz _ _ _ _
   refine zGM (K:=X.K) (a:=a) (xs:=xs) (λi σ1 H2=>∃E2,Got X.K X.mg M σ E H [] σ1 E2 H2 [(some (.ref a),.v (.l c))]/\SqL X.K (Hm (Mo M (σ1.zip E2)) H2) a xs/\Reps X.K X.mg (Hm (Mo M (σ1.zip E2)) H2) c xs/\Fin X M σ E H D (Yn tg body (c.drop i) E2))
    ⟨E1,C,J,Y,k⟩ (λi σ' H' _ ⟨E2,_,q,_⟩=>zF.seq q) ?_ ?_
   ·rintro i x σ1 H2 W ⟨E2,t,I,o,fin⟩
    obtain⟨d,hd,R⟩:=o.get W;have n:c.drop i=d::c.drop (i+1):=by
     obtain⟨S,rfl⟩:=qG.mp hd;exact List.drop_eq_getElem_cons S
    rw[n]at fin;refine Wd O t (by rw[Q];exact R) fin λσ3 E3 H3 L st j=>?_
    have w:=st.same;exact⟨E3,L,w.seq I,o.mono w,j⟩
   ·rintro σ1 H2 ⟨E2,t,I,o,fin⟩
    rw[o.length,drop_length]at fin;exact fin σ1 H2 t.dropAll
  |_=>rw[n]at k;exact k.elim
def zGq{m:ME}{tg:MG}{g:TG}{body:MS}{D:Ends}(O:GOk X g tg)(h:tS X (sForT m tg body) D σ H):tFor (iTup X.K (tM X m)) g (tS X body) D σ H:=by
 obtain⟨M,E,hl,fr,k⟩:=zBy h;unfold sForT at k;refine zc (T0:=[]) hl fr ?_;cases u:m E with
 |z=>rw[u]at k;exact k|y x E1=>rw[u]at k;exact λH' g=>k σ H' g
 |ok p =>
  obtain⟨r,E1⟩:=p;rw[u]at k;intro v H1 e;have C:Got X.K X.mg M σ E H [] σ E1 H1 [(some v,.v r.d)]:=⟨e.len,e.fr.frz,e.st.frz,e.pk⟩;dsimp at k;cases l:r.d with
  |t c =>
   rw[l]at k C;have G:=e.rep;rw[l]at G;obtain⟨a,xs,rfl,J,Y⟩:=yT G;refine⟨a,rfl,⟨xs,zL zF J⟩,?_⟩;have Q:∀(σ':St) (E':zU),Mo M ([(some (V.ref a),Slot.v (.t c))]++σ'.zip E')=Mo M (σ'.zip E'):=λσ' E'=>Yz _ _ _ _
   refine for_tup (K:=X.K) (a:=a) (xs:=xs) (λi σ1 H2=>∃E2,Got X.K X.mg M σ E H [] σ1 E2 H2 [(some (.ref a),.v (.t c))]/\SqT X.K (Hm (Mo M (σ1.zip E2)) H2) a xs/\Reps X.K X.mg (Hm (Mo M (σ1.zip E2)) H2) c xs/\Fin X M σ E H D (Yn tg body (c.drop i) E2))
    ⟨E1,C,J,Y,k⟩ (λi σ' H' _ ⟨E2,_,q,_⟩=>zL zF q) ?_ ?_
   ·rintro i x σ1 H2 W ⟨E2,o,I,n,fin⟩
    obtain⟨d,hd,R⟩:=n.get W;have l:c.drop i=d::c.drop (i+1):=by
     obtain⟨S,rfl⟩:=qG.mp hd;exact List.drop_eq_getElem_cons S
    rw[l]at fin;refine Wd O o (by rw[Q];exact R) fin λσ3 E3 H3 L st j=>?_
    have w:=st.same;exact⟨E3,L,zL w I,n.mono w,j⟩
   ·rintro σ1 H2 ⟨E2,o,I,n,fin⟩
    rw[n.length,drop_length]at fin;exact fin σ1 H2 o.dropAll
  |_=>rw[l]at k;exact k.elim
def zI(lo:Int):Nat->Ls D
 |0=>[]|n+1=>.int lo::zI (lo+1) n
theorem ya(lo:Int):∀n,(zI lo n).length=n
 |0=>rfl|n+1=>by simp[zI,ya (lo+1) n]
theorem wj:∀(n i:Nat) (a:Int),i<n->(zI a n).drop i=.int (a+i)::(zI a n).drop (i+1)
 |0,_,_,h=>by omega|n+1,0,a,_=>by simp[zI]
 |n+1,i+1,a,h=>by
  have:=wj n i (a+1) (by omega);dsimp[zI,List.drop_succ_cons];rw[this];congr 2;omega
def sForR1(m:MA)(tg:MG)(body:MS):MS:=λE=>match m E with
 | .z=>.z| .y x E1=>.y x E1
 | .ok ([r],E1)=>match r.d with
  | .int j=>if -(2^62)<=j/\j<2^62 then Yn tg body (zI 0 j.toNat) E1 else .z|_=>.z
 |_=>.z
def zAs{tg:MG}{g:TG}{body:MS}{D:Ends}(l:GOk X g tg){lo:Int}{n:Nat}{E1:zU}{H1:Hp}(k:Got X.K X.mg M σ E H [] σ E1 H1 [])(a:Fin X M σ E H D (Yn tg body (zI lo n) E1)) :
  ∃W:Nat->Nat->St->Hp->Prop,(∃m,W 0 m σ H1)/\∀i m σ H,W i m σ H ->
   ((Itr lo n).stop i H/\D.nx σ H)\/((Itr lo n).go i H/\∃N:St->Hp->Prop,(∀σ' H',N σ' H'->∃h,h<m/\W (i+1) h σ' H')/\∀x H',(Itr lo n).yld i H x H'->g x σ H' λσ2 H2=>tS X body {D with nx:=N,ct:=N,bk:=D.nx} σ2 H2):=by
 refine zDi (λi σ1 H2=>∃E2,Got X.K X.mg M σ E H [] σ1 E2 H2 []/\Fin X M σ E H D (Yn tg body ((zI lo n).drop i) E2)) ⟨E1,k,a⟩ ?_ ?_
 ·rintro i σ1 H2 o ⟨E2,e,a⟩
  rw[wj n i lo o]at a;exact Wd l e (by dsimp[Rep]) a λσ3 E3 H3 j st c=>⟨E3,j,c⟩
 ·rintro σ1 H2 ⟨E2,e,a⟩
  rw[List.drop_of_length_le (by rw[ya];exact le_refl _)]at a;exact a σ1 H2 e
def zEP{m:MA}{tg:MG}{g:TG}{body:MS}{D:Ends}(q:GOk X g tg)(h:tS X (sForR1 m tg body) D σ H):tFor (iRng1 (tMA X m)) g (tS X body) D σ H:=by
 obtain⟨M,E,hl,fr,k⟩:=zBy h;unfold sForR1 at k;refine YV (T0:=[]) hl fr ?_;cases c:m E with
 |z=>rw[c]at k;exact k|y x E1=>rw[c]at k;exact λH' g=>k σ H' g
 |ok p =>
  obtain⟨o,E1⟩:=p;rw[c]at k
  match o,k with
  | [r],k =>
   intro t H1 hv i;have l:=Got.reps hv i;dsimp at k;cases e:r.d with
   |int j =>
    rw[e]at k;dsimp[List.map,e]at l;obtain⟨v,rfl,n⟩:=J3 l;dsimp at k;by_cases a:-(2^62)<=j/\j<2^62
    ·rw[if_pos a]at k
     exact⟨j,by rw[zJ n],a.1,a.2,zAs q i.dropAll k⟩
    ·rw[if_neg a]at k;exact k.elim
   |_=>rw[e]at k;exact k.elim
  | [],k=>exact k.elim|_::_::_,k=>exact k.elim
def sk_forL(h:PassesOwn (model X.prog X.w) X.A X.env X.xe)(a:X.calm=true)(hi:EOk X iter m)(i:PG X tgt g)(c:GOk X g tg)(j:zAe X body mb)
  (e:∀x,foldedSetIterable iter X.env x=pure x:=by intro _;rfl):SOk X (.For tgt iter body [] pos) (sForL m tg mb):=yx (zBl h a (zDg hi) i j e) λD σ H=>zGp c
def sk_forT(h:PassesOwn (model X.prog X.w) X.A X.env X.xe)(a:X.calm=true)(hi:EOk X iter m)(i:PG X tgt g)(c:GOk X g tg)(j:zAe X body mb)
  (e:∀x,foldedSetIterable iter X.env x=pure x:=by intro _;rfl):SOk X (.For tgt iter body [] pos) (sForT m tg mb):=yx (zBl h a (zIL hi) i j e) λD σ H=>zGq c
def zGr(l:PassesOwn (model X.prog X.w) X.A X.env X.xe)(h:X.calm=true)(e:Gl X "range")(k:X.mg "range"=none)(o:AOk X [a] m)(n:PG X tgt g)(i:GOk X g tg)(q:zAe X body mb)
  (c:zd a=false:=by rfl) (j:∀x,foldedSetIterable (.Call (.Name "range" p) [a] [] cpos) X.env x=pure x:=by intro _;rfl):SOk X (.For tgt (.Call (.Name "range" p) [a] [] cpos) body [] pos) (sForR1 m tg mb) :=
 yx (zBl l h (QS e k o (zD8 c)) n q j) λD σ H=>zEP i
end
section
variable{X:Cx}{K:qH}{mg:Str->Lx Lv}{σ:St}{M:Ld}{E:zU}{H H':Hp}{T0 Z T:Fz}
def zGs(h:s.list?=some ds)(h':s'.list?=some ds):GO (o,s')=GO (o,s):=by
 cases s<;>simp[Slot.list?]at h<;>cases s'<;>simp[Slot.list?]at h'<;>(cases o with|none=>rfl|some v=>cases v<;>rfl)
def We(h:s.list?=some ds)(h':s'.list?=some ds):yP ((o,s')::Z)=yP ((o,s)::Z):=by
 unfold yP;rw[filterMap_cons,filterMap_cons,zGs h h']
def FR.lab(f:FR K mg M H ((o,s)::Z))(h:s.list?=some ds)(h':s'.list?=some ds):FR K mg M H ((o,s')::Z):=by
 have c:Mo M ((o,s')::Z)=Mo M ((o,s)::Z):=by unfold Mo;rw[We h h']
 refine⟨λa d q=>?_,λa t g q e=>?_,by rw[We h h'];exact f.nd,f.mal⟩
 ·rw[c]
  rcases mem_cons.mp q with q|q
  ·cases q;cases h'
  ·exact f.val a d (qD _ q)
 ·rw[c]
  rcases mem_cons.mp q with q|q
  ·cases q
   rw[zD4 h']at e;cases e;exact f.own o s _ qE (zD4 h)
  ·exact f.own a t g (qD _ q) e
def Qn(hi:Z[i]?=some (o,s2)):((o,s1)::(T++Z)).Perm ((o,s2)::(T++Z.set i (o,s1))):=by
 have c:i<Z.length:=(qG.mp hi).1;have g:Z.Perm ((o,s2)::Z.eraseIdx i):=by
  have:=zX (o,s2) Z i c;rw[we hi]at this;exact this
 have e:(Z.set i (o,s1)).Perm ((o,s1)::Z.eraseIdx i):=zX _ _ _ c;refine((g.append_left T).cons _).trans ?_;refine List.Perm.trans ?_ ((e.append_left T).cons _).symm;have a:(T++(o,s2)::Z.eraseIdx i).Perm ((o,s2)::(T++Z.eraseIdx i)):=perm_middle;have b:(T++(o,s1)::Z.eraseIdx i).Perm ((o,s1)::(T++Z.eraseIdx i)):=perm_middle;exact((a.cons _).trans (List.Perm.swap _ _ _)).trans (b.cons _).symm
inductive AR where
 |tmp (d:D)
 |ln (i:Nat)
 deriving Inhabited
def AR.slot:AR->Slot
 | .tmp d=>.v d| .ln _=>.e
def yB(vs:Ls V)(as:Ls AR):Fz:=(vs.map some).zip (as.map AR.slot)
def AV(σ:St):Ls AR->Ls V->Prop
 | [],a=>a=[]| .tmp _::as,a=>∃v r,a=v::r/\AV σ as r| .ln i::as,a=>∃v r,a=v::r/\σ[i]?=some (some v)/\AV σ as r
theorem AV.length:∀{as:Ls AR} {a:Ls V},AV σ as a->a.length=as.length
 | [],_,h=>by dsimp[AV]at h;subst h;rfl| .tmp _::as,_,h=>by dsimp[AV]at h;obtain⟨v,r,rfl,h⟩:=h;simp[AV.length h]| .ln i::as,_,h=>by dsimp[AV]at h;obtain⟨v,r,rfl,_,h⟩:=h;simp[AV.length h]
def zR:Ls AR->zU->Out (Ls Slot×zU)
 | [],E=>.ok ([],E)
 | .tmp d::as,E=>match zR as E with
  | .ok (a,E')=>.ok (.v d::a,E')|_=>.z
 | .ln i::as,E=>match E[i]? with
  |none=>.z
  |some s=>match s.list? with
   |none=>.z
   |some c=>match zR as (E.set i .e)with
    | .ok (a,E')=>.ok (.p c::a,E')|_=>.z
def zO:Ls AR->Ls Slot->zU->zU->Out zU
 | [],[],_,E=>.ok E| .tmp _::as,_::a,E0,E=>zO as a E0 E
 | .ln i::as,e::a,E0,E=>match E0[i]? with
  |none=>.z
  |some s=>match s.list?,e.list?,E[i]? with
   |some _,some c,some .e=>zO as a E0 (E.set i (s.put c))|_,_,_=>.z
 |_,_,_,_=>.z
theorem vE:∀(as:Ls AR) {j:Ls V} {E E':zU} {k:Ls Slot} {T:Fz},E.length=σ.length->AV σ as j->zR as E=.ok (k,E')->FR K mg M H (T++(yB j as++σ.zip E)) ->
  FR K mg M H (T++((j.map some).zip k++σ.zip E'))/\(∀b,b∈yP (T++(yB j as++σ.zip E))↔b∈yP (T++((j.map some).zip k++σ.zip E')))/\k.length=as.length/\E'.length=σ.length
 | [],j,E,E',k,T,hl,c,e,f=>by
  cases e;dsimp[AV]at c;subst c;exact⟨f,λb=>Iff.rfl,rfl,hl⟩
 | .tmp d::as,j,E,E',k,T,hl,c,e,f=>by
  dsimp[AV]at c;obtain⟨v,r,rfl,c⟩:=c;dsimp[zR]at e;cases h:zR as E with
  |z=>rw[h]at e;cases e|y _ _=>rw[h]at e;cases e
  |ok p =>
   obtain⟨g,E1⟩:=p;rw[h]at e;cases e;have t:FR K mg M H ((T++[(some v,.v d)])++(yB r as++σ.zip E)):=by
    rw[append_assoc];exact f
   obtain⟨l,q,n,u⟩:=vE as hl c h t;refine⟨by rw[append_assoc]at l;exact l,λb=>?_,by simp[n],u⟩;have:=q b;rw[append_assoc,append_assoc]at this;exact this
 | .ln i::as,j,E,E',k,T,hl,c,e,f=>by
  dsimp[AV]at c;obtain⟨v,r,rfl,hv,c⟩:=c;dsimp[zR]at e;exists e0,E[i]?,e,s;dsimp at e;exists e2,s.list?,e,ds;dsimp at e;cases h:zR as (E.set i .e)with
  |z=>rw[h]at e;cases e|y _ _=>rw[h]at e;cases e
  |ok p =>
   obtain⟨g,E1⟩:=p;rw[h]at e;cases e;obtain⟨o,C,h2⟩:=wf hl e0;have ho:o=some v:=by rw[hv]at C;exact(qJ C).symm
   subst ho;have I:σ.zip (E.set i .e)=(σ.zip E).set i (some v,.e):=zg .e hv;have x:(T++(((some v,Slot.e)::yB r as)++σ.zip E)).Perm ((some v,s)::(T++(yB r as++σ.zip (E.set i .e)))):=by
    rw[I];have a:(T++(((some v,Slot.e)::yB r as)++σ.zip E)).Perm ((some v,Slot.e)::((T++yB r as)++σ.zip E)):=by
     rw[append_assoc];exact perm_middle
    refine a.trans ((Qn h2).trans ?_);rw[append_assoc]
   have t:=(f.perm x).lab e2 (s':=.p ds) rfl;have O:FR K mg M H ((((some v,Slot.p ds))::T)++(yB r as++σ.zip (E.set i .e))):=t;obtain⟨l,q,n,u⟩:=vE as (by simp[hl]) c h O;have w:(((some v,Slot.p ds)::T)++((r.map some).zip g++σ.zip E')).Perm (T++(((some v,Slot.p ds)::(r.map some).zip g)++σ.zip E')):=perm_middle.symm;refine⟨l.perm w,λb=>?_,by simp[n],u⟩;have G:b∈yP (T++(((some v,Slot.e)::yB r as)++σ.zip E))↔b∈yP ((some v,s)::(T++(yB r as++σ.zip (E.set i .e)))):=(x.filterMap GO).mem_iff;have L:yP ((some v,Slot.p ds)::(T++(yB r as++σ.zip (E.set i .e))))=yP ((some v,s)::(T++(yB r as++σ.zip (E.set i .e)))):=We e2 rfl;have D:=q b;have J:b∈yP (((some v,Slot.p ds)::T)++((r.map some).zip g++σ.zip E'))↔b∈yP (T++(((some v,Slot.p ds)::(r.map some).zip g)++σ.zip E')):=(w.filterMap GO).mem_iff;refine G.trans ?_;rw[<- L];exact D.trans J
theorem GX:∀(as:Ls AR) {g:Ls V} {E0 E E':zU} {a:Ls Slot} {T:Fz},E.length=σ.length->AV σ as g->zO as a E0 E=.ok E'->FR K mg M H (T++((g.map some).zip a++σ.zip E)) ->
  FR K mg M H (T++σ.zip E')/\(∀b,b∈yP (T++σ.zip E')->b∈yP (T++((g.map some).zip a++σ.zip E)))/\E'.length=σ.length
 | [],g,E0,E,E',a,T,hl,c,e,f=>by
  cases a with
  |cons _ _=>cases e
  |nil =>
   cases e;dsimp[AV]at c;subst c;exact⟨f,λb q=>q,hl⟩
 | .tmp d::as,g,E0,E,E',a,T,hl,c,e,f=>by
  dsimp[AV]at c;obtain⟨v,r,rfl,c⟩:=c;cases a with
  |nil=>cases e
  |cons s a =>
   dsimp[zO]at e;have sub:(T++((r.map some).zip a++σ.zip E)).Sublist (T++(((some v,s)::(r.map some).zip a)++σ.zip E)):=(sublist_cons_self _ _).append_left _;obtain⟨l,n,k⟩:=GX as hl c e (f.sub sub);exact⟨l,λb q=>zD sub b (n b q),k⟩
 | .ln i::as,g,E0,E,E',a,T,hl,c,e,f=>by
  dsimp[AV]at c;obtain⟨v,r,rfl,hv,c⟩:=c;cases a with
  |nil=>cases e
  |cons u a =>
   dsimp[zO]at e;exists e0,E0[i]?,e,s;dsimp at e;cases h:s.list? with
   |none=>rw[h]at e;cases e
   |some L =>
    cases j:u.list? with
    |none=>rw[h,j]at e;cases e
    |some ds =>
     cases t:E[i]? with
     |none=>rw[h,j,t]at e;cases e
     |some J =>
      rw[h,j,t]at e;cases J with
      |e =>
       dsimp at e;obtain⟨o,C,h2⟩:=wf hl t;have ho:o=some v:=by rw[hv]at C;exact(qJ C).symm
       subst ho;have I:σ.zip (E.set i (s.put ds))=(σ.zip E).set i (some v,s.put ds):=zg _ hv;have D:(s.put ds).list?=some ds:=(GW (p:=0) h).2;have x:(T++(((some v,u)::(r.map some).zip a)++σ.zip E)).Perm ((some v,u)::((T++(r.map some).zip a)++σ.zip E)):=by
        rw[append_assoc];exact perm_middle
       have Q:=(f.perm x).lab j D;have w:((some v,s.put ds)::((T++(r.map some).zip a)++σ.zip E)).Perm ((some v,Slot.e)::((T++(r.map some).zip a)++σ.zip (E.set i (s.put ds)))):=by
        rw[I];exact Qn h2
       have z:=(Q.perm w).tail;rw[append_assoc]at z;obtain⟨l,n,k⟩:=GX as (by simp[hl]) c e z;refine⟨l,λb q=>?_,k⟩;have G:=n b q;rw[<- append_assoc]at G;have O:b∈yP ((some v,Slot.e)::((T++(r.map some).zip a)++σ.zip (E.set i (s.put ds)))):=zD (sublist_cons_self _ _) b G;have y:=zE w.symm b O;rw[We j D]at y;exact zE x.symm b y
      |_=>cases e
def zAt:Ls AR->Ls Nat
 | []=>[]| .tmp _::as=>zAt as| .ln i::as=>i::zAt as
theorem GY:∀(as:Ls AR) {E E':zU} {c:Ls Slot},zR as E=.ok (c,E')->∀(k:Nat),k∉zAt as->E'[k]?=E[k]?
 | [],E,E',c,e,k,h=>by cases e;rfl
 | .tmp d::as,E,E',c,e,k,h=>by
  dsimp[zR]at e;cases a:zR as E with
  |z=>rw[a]at e;cases e|y _ _=>rw[a]at e;cases e
  |ok p =>
   rw[a]at e;cases e;exact GY as a k h
 | .ln i::as,E,E',c,e,k,h=>by
  dsimp[zR]at e;exists e0,E[i]?,e,s;dsimp at e;exists e2,s.list?,e,ds;cases a:zR as (E.set i .e)with
  |z=>rw[a]at e;cases e|y _ _=>rw[a]at e;cases e
  |ok p =>
   rw[a]at e;cases e;dsimp[zAt,mem_cons,not_or]at h;rw[GY as a k h.2,getElem?_set_ne (λq=>h.1 q.symm)]
theorem Wf:∀(as:Ls AR) {E0 E E':zU} {a:Ls Slot},zO as a E0 E=.ok E'->∀(k:Nat),E'[k]?=E[k]?\/∃(s:Slot) (j:Ls D),E0[k]?=some s/\E'[k]?=some (s.put j)
 | [],E0,E,E',a,e,k=>by
  cases a with
  |cons _ _=>cases e|nil=>cases e;exact .inl rfl
 | .tmp d::as,E0,E,E',a,e,k=>by
  cases a with
  |nil=>cases e|cons s a=>exact Wf as e k
 | .ln i::as,E0,E,E',a,e,k=>by
  cases a with
  |nil=>cases e
  |cons p a =>
   dsimp[zO]at e;exists e0,E0[i]?,e,s;dsimp at e;cases c:s.list? with
   |none=>rw[c]at e;cases e
   |some o =>
    cases l:p.list? with
    |none=>rw[c,l]at e;cases e
    |some j =>
     cases h:E[i]? with
     |none=>rw[c,l,h]at e;cases e
     |some r =>
      rw[c,l,h]at e;cases r with
      |e =>
       rcases Wf as e k with q|q
       ·by_cases n:i=k
        ·subst n
         have g:i<E.length:=(qG.mp h).1;rw[getElem?_set_self g]at q;exact .inr ⟨s,j,e0,q⟩
        ·rw[getElem?_set_ne n]at q
         exact .inl q
       ·exact .inr q
      |_=>cases e
theorem vF:∀(as:Ls AR) {E0 E E':zU} {a:Ls Slot},zO as a E0 E=.ok E'->∀(k:Nat),k∈zAt as->∃(s:Slot) (l:Ls D),E0[k]?=some s/\E'[k]?=some (s.put l)
 | [],E0,E,E',a,e,k,h=>by cases h
 | .tmp d::as,E0,E,E',a,e,k,h=>by
  cases a with
  |nil=>cases e|cons s a=>exact vF as e k h
 | .ln i::as,E0,E,E',a,e,k,h=>by
  cases a with
  |nil=>cases e
  |cons r a =>
   dsimp[zO]at e;exists e0,E0[i]?,e,s;dsimp at e;cases c:s.list? with
   |none=>rw[c]at e;cases e
   |some p =>
    cases n:r.list? with
    |none=>rw[c,n]at e;cases e
    |some l =>
     cases j:E[i]? with
     |none=>rw[c,n,j]at e;cases e
     |some t =>
      rw[c,n,j]at e;cases t with
      |e =>
       by_cases o:i=k
       ·subst o
        rcases Wf as e i with q|q
        ·have g:i<E.length:=(qG.mp j).1
         rw[getElem?_set_self g]at q;exact⟨s,l,e0,q⟩
        ·exact q
       ·dsimp[zAt,mem_cons]at h
        rcases h with h|h
        ·exact absurd h.symm o
        ·exact vF as e k h
      |_=>cases e
def zEQ{as:Ls AR}(j:zR as E1=.ok (ss,E2))(i:zO as outs E1 E2=.ok E3):PKp σ E1 σ E3:=λk l e=>by
 refine⟨?_,rfl⟩;by_cases h:k∈zAt as
 ·obtain⟨s,c,a,g⟩:=vF as i k h
  rw[e]at a;cases a;exact⟨c,g⟩
 ·rcases Wf as i k with q|⟨s,c,a,g⟩
  ·rw[q,GY as j k h];exact⟨l,e⟩
  ·rw[e]at a;cases a
   exact⟨c,g⟩
abbrev MF:=Ls Slot->Out (R×Ls Slot)
def spM(K:qH)(e:Str->Lx Lv)(n:Nat)(F:MF):Sp:=λa H Q XQ=>a.length=n/\∃(M:Ld) (c:Ls Slot),c.length=a.length/\FR K e M H ((a.map some).zip c)/\match F c with
 | .z=>False| .ok (r,outs)=>∀v H',outs.length=a.length->FR K e M H' ((some v,r.slot)::(a.map some).zip outs)->Step M H ((a.map some).zip c) H' ((some v,r.slot)::(a.map some).zip outs)->Q v H'| .y x _=>∀C g H',e x.cls=some (.ref C)->Fs g H' x.cls x.vs->FR K e M H' []->Step M H ((a.map some).zip c) H' []->XQ (.ref C) g H'
inductive Arg where
 |ev (m:ME)
 |lend (i:Nat)
def yI:Ls Arg->zU->Out (Ls AR×zU)
 | [],E=>.ok ([],E)
 | .ev m::as,E=>match m E with
  | .z=>.z| .y x E1=>.y x E1
  | .ok (r,E1)=>match yI as E1 with
   | .ok (a,E2)=>.ok (.tmp r.d::a,E2)| .y x E2=>.y x E2| .z=>.z
 | .lend i::as,E=>if jw E[i]?=true then .z else match yI as E with
  | .ok (a,E2)=>.ok (.ln i::a,E2)| .y x E2=>.y x E2| .z=>.z
def tArgs(X:Cx)(as:Ls Arg):TA:=λσ H Q=>∃M E,E.length=σ.length/\FR X.K X.mg M H (σ.zip E)/\match yI as E with
 | .z=>False| .ok (ars,E')=>∀a H',AV σ ars a->Got X.K X.mg M σ E H [] σ E' H' (yB a ars)->Q a H'| .y x E'=>∀H',Got X.K X.mg M σ E H [] σ E' H' []->XE X σ H' x
abbrev zId(X:Cx)(es:Ls Lb)(as:Ls Arg):Prop:=PA X es (tArgs X as)
def vG{as:Ls Arg}{Q:Ls V->Hp->Prop}(i:E.length=σ.length)(h:FR X.K X.mg M H (T0++σ.zip E))
  (k:match yI as E with | .z=>False | .ok (ars,E')=>∀c H',AV σ ars c->Got X.K X.mg M σ E H T0 σ E' H' (yB c ars)->Q c H' | .y x E'=>∀H',Got X.K X.mg M σ E H T0 σ E' H' []->XE X σ H' x):tArgs X as σ H Q:=by
 refine⟨Mo M T0,E,i,h.inner,?_⟩;cases e:yI as E with
 |z=>rw[e]at k;exact k|ok a=>rw[e]at k;exact λc H' j g=>k c H' j (g.outer h)|y x E'=>rw[e]at k;exact λH' g=>k H' (g.outer h)
def ga_nil:zId X [] []:=Qg uW λσ H Q ⟨M,E,hl,fr,k⟩=>k [] H (by dsimp[AV]) (Got.refl (T0:=[]) hl fr)
def ga_ev{as:Ls Arg}(l:EOk X e m)(j:zId X es as)(q:zd e=false:=by rfl):zId X (e::es) (.ev m::as):=Qg (JU l j (zf q)) λσ H Q ⟨M,E,hl,fr,k⟩=>by
 dsimp[yI]at k;refine zc (T0:=[]) hl fr ?_;exists ea,m E,k,r1,E1;intro x H1 a;have c:Got X.K X.mg M σ E H [] σ E1 H1 [(some x,.v r1.d)]:=⟨a.len,a.fr.frz,a.st.frz,a.pk⟩;refine vG (T0:=[(some x,.v r1.d)]) c.len c.fr ?_;dsimp at k;cases h:yI as E1 with
 |z=>rw[h]at k;exact k|y x E2=>rw[h]at k;exact λH' g=>k H' (c.trans' g).dropAll
 |ok p =>
  rw[h]at k;intro i H2 o n;refine k (x::i) H2 (by dsimp[AV];exact⟨x,i,rfl,o⟩) ?_;exact(c.trans' n).perm (perm_append_comm)
def ga_lend{as:Ls Arg}(j:PE X (.Name x p) (Wz i))(w:zId X es as)  : zId X (.Name x p::es) (.lend i::as):=Qg (JU j w (zf rfl)) λσ H Q ⟨M,E,hl,fr,k⟩=>by
 dsimp[yI]at k;cases n:jw E[i]? with
 |true=>rw[n]at k;exact k.elim
 |false =>
  rw[n]at k;obtain⟨s,r,l⟩:=ZZ n;obtain⟨v,j⟩:=ug hl fr r l;refine⟨v,j,?_⟩;refine vG (T0:=[]) hl fr ?_;exists eb,yI as E,k,ars,E2;intro c H2 y g;refine k (v::c) H2 (by dsimp[AV];exact⟨v,c,rfl,j,y⟩) ?_;have h:Mo M ((some v,Slot.e)::(yB c ars++([]++σ.zip E2)))=Mo M (yB c ars++([]++σ.zip E2)):=Mo_emp _ _ _;refine⟨g.len,⟨λo d q=>?_,λo t u q e=>?_,?_,g.fr.mal⟩,⟨?_,g.st.keep⟩,g.pk⟩
  ·show ∃z,_/\Rep X.K X.mg (Hm (Mo M ((some v,Slot.e)::(yB c ars++([]++σ.zip E2)))) H2) d z
   rw[h];rcases mem_cons.mp q with q|q
   ·cases q
   ·exact g.fr.val o d q
  ·show ∃a ho,_/\_/\_/\CRep X.K X.mg (Hm (Mo M ((some v,Slot.e)::(yB c ars++([]++σ.zip E2)))) H2) a u ho
   rw[h];rcases mem_cons.mp q with q|q
   ·cases q;cases e
   ·exact g.fr.own o t u q e
  ·show(yP ((some v,Slot.e)::(yB c ars++([]++σ.zip E2)))).Nodup
   rw[yc];exact g.fr.nd
  ·show YU _ (Hm (Mo M ((some v,Slot.e)::(yB c ars++([]++σ.zip E2)))) H2)
   rw[h];exact g.st.same
def Qo:Ls AR->Bool
 | []=>true| .tmp _::as=>Qo as| .ln _::_=>false
theorem uh:∀{as:Ls AR} {E E':zU} {a:Ls Slot},Qo as=true->zR as E=.ok (a,E')->E'=E
 | [],E,E',a,_,e=>by cases e;rfl
 | .tmp d::as,E,E',a,h,e=>by
  dsimp[zR]at e;cases q:zR as E with
  |z=>rw[q]at e;cases e|y _ _=>rw[q]at e;cases e|ok p=>obtain⟨c,E1⟩:=p;rw[q]at e;cases e;exact uh (as:=as) h q
 | .ln i::as,E,E',a,h,e=>by cases h
def wm(F:MF)(as:Ls Arg):ME:=λE=>match yI as E with
 | .z=>.z| .y x E1=>.y x E1
 | .ok (a,E1)=>match zR a E1 with
  | .ok (e,E2)=>match F e with
   | .ok (r,c)=>match zO a c E1 E2 with
    | .ok E3=>.ok (r,E3)|_=>.z
   | .y x _=>if Qo a=true then .y ⟨x.cls,false,x.vs⟩ E1 else .z| .z=>.z
  |_=>.z
def zGt(hn:ars.length=n)(l:zR ars E1=.ok (ss,E2))(y:F ss=.ok (r,outs))(o:zO ars outs E1 E2=.ok E3)
  (i:AV σ ars vs) (g:Got K mg M σ E H [] σ E1 H1 (yB vs ars)) (k:∀v H',Got K mg M σ E H [] σ E3 H' [(some v,r.slot)]->Q v H'):spM K mg n F vs H1 Q XQ:=by
 obtain⟨J,w,G,z⟩:=vE (T:=[]) ars g.len i l g.fr;have c:FR K mg M H1 (σ.zip E2++(vs.map some).zip ss):=FR.perm (T:=σ.zip E2++(vs.map some).zip ss) (Z:=(vs.map some).zip ss++σ.zip E2) J perm_append_comm;have a:=i.length;refine⟨a.trans hn,Mo M (σ.zip E2),ss,G.trans a.symm,c.inner,?_⟩;rw[y];intro v H' L D q;have I:=FR.outer c D q;have x:=Step.outer q;have p:(σ.zip E2++((some v,r.slot)::(vs.map some).zip outs)).Perm ([(some v,r.slot)]++((vs.map some).zip outs++σ.zip E2)):=by
  refine perm_append_comm.trans ?_;exact List.Perm.refl _
 obtain⟨u,C,t⟩:=GX ars z i o (I.perm p);refine k v H' ⟨t,u,?_,g.pk.trans (zEQ l o)⟩;have h:Step M H (σ.zip E) H1 (σ.zip E2++(vs.map some).zip ss):=g.st.weak λb e=>(w b).mpr (zE (T:=σ.zip E2++(vs.map some).zip ss) (Z:=(vs.map some).zip ss++σ.zip E2) perm_append_comm b e)
 have j:=h.trans x;exact j.weak λb e=>zE p.symm b (C b e)
def zGu(hn:ars.length=n)(q:Qo ars=true)(i:zR ars E1=.ok (ss,E2))(w:F ss=.y x outs)
  (j:AV σ ars vs) (g:Got K mg M σ E H [] σ E1 H1 (yB vs ars)) (k:∀C e H',mg x.cls=some (.ref C)->Fs e H' x.cls x.vs->Got K mg M σ E H [] σ E1 H' []->XQ (.ref C) e H'):spM K mg n F vs H1 Q XQ:=by
 obtain⟨y,v,u,D⟩:=vE (T:=[]) ars g.len j i g.fr;have c:FR K mg M H1 (σ.zip E2++(vs.map some).zip ss):=FR.perm (T:=σ.zip E2++(vs.map some).zip ss) (Z:=(vs.map some).zip ss++σ.zip E2) y perm_append_comm;have a:=j.length;refine⟨a.trans hn,Mo M (σ.zip E2),ss,u.trans a.symm,c.inner,?_⟩;rw[w];intro C e H' t hf r o;have p:=FR.outer c r o;have l:=Step.outer o;rw[append_nil]at p l;have h:Step M H (σ.zip E) H1 (σ.zip E2++(vs.map some).zip ss):=g.st.weak λb z=>(v b).mpr (zE (T:=σ.zip E2++(vs.map some).zip ss) (Z:=(vs.map some).zip ss++σ.zip E2) perm_append_comm b z)
 obtain rfl:=uh q i;exact k C e H' t hf ⟨g.len,p,h.trans l,g.pk⟩
theorem jg:∀(as:Ls Arg) {E E':zU} {c:Ls AR},yI as E=.ok (c,E')->c.length=as.length
 | [],E,E',c,e=>by cases e;rfl
 | .ev m::as,E,E',c,e=>by
  dsimp[yI]at e;cases h:m E with
  |z=>rw[h]at e;cases e|y _ _=>rw[h]at e;cases e
  |ok p =>
   obtain⟨r,E1⟩:=p;rw[h]at e;dsimp at e;cases g:yI as E1 with
   |z=>rw[g]at e;cases e|y _ _=>rw[g]at e;cases e|ok p=>obtain⟨a,b⟩:=p;rw[g]at e;cases e;simp[jg as g]
 | .lend i::as,E,E',c,e=>by
  dsimp[yI]at e;split at e
  ·cases e
  ·cases g:yI as E with
   |z=>rw[g]at e;cases e|y _ _=>rw[g]at e;cases e|ok p=>obtain⟨a,b⟩:=p;rw[g]at e;cases e;simp[jg as g]
def zGv{as:Ls Arg}(hn:as.length=n)(h:tM X (wm F as) σ H Q):tArgs X as σ H λj H1=>spM X.K X.mg n F j H1 Q (EX X σ):=by
 obtain⟨M,E,hl,fr,k⟩:=h;unfold wm at k;refine vG (T0:=[]) hl fr ?_;exists ea,yI as E,k,ars,E1;intro j H1 l g;dsimp at k;cases a:zR ars E1 with
 |z=>rw[a]at k;exact k.elim|y _ _=>rw[a]at k;exact k.elim
 |ok p =>
  obtain⟨q,E2⟩:=p;rw[a]at k;dsimp at k;cases e:F q with
  |z=>rw[e]at k;exact k.elim
  |y x o =>
   rw[e]at k;cases hl:Qo ars with
   |false=>rw[hl]at k;exact k.elim
   |true =>
    rw[hl]at k;exact zGu ((jg as ea).trans hn) hl a e l g λC v H' u hf t=>⟨⟨x.cls,false,x.vs⟩,C,rfl,u,rfl,hf,k H' t⟩
  |ok p =>
   obtain⟨r,c⟩:=p;rw[e]at k;dsimp at k;cases i:zO ars c E1 E2 with
   |z=>rw[i]at k;exact k.elim|y _ _=>rw[i]at k;exact k.elim
   |ok E3 =>
    rw[i]at k;exact zGt ((jg as ea).trans hn) a e i l g k
inductive Mask:Fz->Fz->Prop
 |nil (Z:Fz):Mask Z []
 |keep {z:Option V×Slot} {Z W:Fz}:Mask Z W->Mask (z::Z) (z::W)
 |skip {z:Option V×Slot} {Z W:Fz}:Mask Z W->Mask (z::Z) W
 |extra {o:Option V} {Z W:Fz}:Mask Z W->Mask Z ((o,.e)::W)
def Mask.emq(h:Mask Z W):Mask (z::Z) ((o,.e)::W):=.skip (.extra h)
theorem Mask.sub:∀{Z W:Fz},Mask Z W->(yP W).Sublist (yP Z)
 |_,_,.nil Z=>by simp[yP]
 |_,_,.keep (z:=z) (Z:=Z) (W:=W) h=>by
  have e:∀W:Fz,yP (z::W)=yP [z]++yP W:=λW=>za [z] W
  rw[e Z,e W];exact h.sub.append_left _
 |_,_,.skip (z:=z) (Z:=Z) (W:=W) h=>by
  have e:∀W:Fz,yP (z::W)=yP [z]++yP W:=λW=>za [z] W
  rw[e Z];exact h.sub.trans (sublist_append_right _ _)
 |_,_,.extra (Z:=Z) (W:=W) h=>by
  rw[yc];exact h.sub
theorem Mask.mem:∀{Z W:Fz},Mask Z W->∀o s,s≠Slot.e->(o,s)∈W->(o,s)∈Z
 |_,_,.nil Z,o,s,a,h=>by cases h
 |_,_,.keep h,o,s,a,q=>by
  rcases mem_cons.mp q with q|q
  ·subst q;exact qE
  ·exact qD _ (h.mem o s a q)
 |_,_,.skip h,o,s,a,q=>qD _ (h.mem o s a q)
 |_,_,.extra h,o,s,a,q=>by
  rcases mem_cons.mp q with q|q
  ·cases q;exact absurd rfl a
  ·exact h.mem o s a q
def FR.mask(f:FR K mg M H Z)(h:Mask Z W):FR K mg M H W where
 val:=λo d q=>by
  obtain⟨v,e,r⟩:=f.val o d (h.mem o _ (by intro z;cases z) q);exact⟨v,e,r.mono (jr (YD λb c=>h.sub.subset c))⟩
 own:=λo s j q e=>by
  obtain⟨a,k,g,l,i,r⟩:=f.own o s j (h.mem o s (by intro z;subst z;cases e) q) e;exact⟨a,k,g,l,i,r.mono (jr (YD λb c=>h.sub.subset c))⟩
 nd:=f.nd.sublist h.sub
 mal:=f.mal
def yC:Ls Slot->zU->Ls Slot
 | [],_=>[]| .p _::ss,s::E=>s::yC ss E|_::ss,_::E=>.e::yC ss E|_::ss,[]=>.e::yC ss []
def fnM(N:Nat)(body:MS):MF:=λa=>match body (a++replicate (N-a.length) .e)with
 | .ok (.ret r,E')=>.ok (r,yC a E')| .ok (.nx,E')=>.ok (.v .non,yC a E')| .y x E'=>.y x (yC a E')|_=>.z
theorem zh:∀(a:Ls Slot) (E:zU),(yC a E).length=a.length
 | [],_=>rfl| .p _::a,s::E=>by simp[yC,zh a E]| .e::a,s::E=>by simp[yC,zh a E]| .v _::a,s::E=>by simp[yC,zh a E]| .w _::a,s::E=>by simp[yC,zh a E]| .m _ _::a,s::E=>by simp[yC,zh a E]| .p _::a,[]=>by simp[yC,zh a []]| .e::a,[]=>by simp[yC,zh a []]| .v _::a,[]=>by simp[yC,zh a []]| .w _::a,[]=>by simp[yC,zh a []]| .m _ _::a,[]=>by simp[yC,zh a []]
theorem Wg:∀(c:Ls Slot) (a:Ls (Lx V)) (σ:St) (E:zU),E.length=σ.length->a.length=c.length->(∀(i:Nat) g,c[i]?=some (.p g)->σ[i]?=a[i]?)->Mask (σ.zip E) (a.zip (yC c E))
 | [],a,σ,E,_,_,_=>by
  dsimp[yC,List.zip_nil_right];exact .nil _
 |s::c,[],σ,E,_,h,_=>by simp at h|s::c,v::a,[],y::E,h,_,_=>by simp at h|s::c,v::a,x::σ,[],h,_,_=>by simp at h
 |s::c,v::a,[],[],k,h2,h4=>by
  have j:=Wg c a [] [] rfl (by exists h2) λi g e=>by
   have:=h4 (i+1) g (by exists e);exists this
  cases s<;>exact .extra j
 |s::c,v::a,x::σ,y::E,k,h2,h4=>by
  have j:=Wg c a σ E (by exists k) (by exists h2) λi g e=>by
   have:=h4 (i+1) g (by exists e);exists this
  cases s with
  |p g =>
   have e:=h4 0 g rfl;simp at e;subst e;exact .keep j
  |e=>dsimp[yC,zip_cons_cons];exact .emq j|v d=>dsimp[yC,zip_cons_cons];exact .emq j|w g=>dsimp[yC,zip_cons_cons];exact .emq j|m l a=>dsimp[yC,zip_cons_cons];exact .emq j
theorem zAu:∀n:Nat,(replicate n (none:Lx V)).zip (replicate n Slot.e)=replicate n (none,Slot.e)
 |0=>rfl|n+1=>by simp[replicate_succ,zAu n]
def GZ(n:Nat):yP (replicate n ((none:Lx V),Slot.e))=[]:=by
 induction n with
 |zero=>rfl|succ n a=>rw[replicate_succ,yc,a]
def FR.emps(f:FR K mg M H Z)(n:Nat):FR K mg M H (Z++replicate n (none,.e)):=by
 have a:yP (Z++replicate n (none,Slot.e))=yP Z:=by rw[za,GZ,append_nil]
 have c:Mo M (Z++replicate n (none,Slot.e))=Mo M Z:=by unfold Mo;rw[a]
 refine⟨λo d q=>?_,λo s g q e=>?_,by rw[a];exact f.nd,f.mal⟩
 ·rw[c]
  rcases mem_append.mp q with q|q
  ·exact f.val o d q
  ·have:=eq_of_mem_replicate q;cases this
 ·rw[c]
  rcases mem_append.mp q with q|q
  ·exact f.own o s g q e
  ·have:=eq_of_mem_replicate q;cases this;cases e
def body_ok(I:∀x σ' H',(∀C j,X.mg x.cls=some (.ref C)->Fs j H' x.cls x.vs->XQ (.ref C) j H')->XE X σ' H' x)(h:spM X.K X.mg n (fnM N.length body) vs H Q XQ):tS X body {nx:=λ_ H'=>Q .non H',rt:=Q} (L2.wK N vs) H:=by
 obtain⟨hv,M,a,hl,f,k⟩:=h;have q:(L2.wK N vs).zip (a++replicate (N.length-a.length) Slot.e)=(vs.map some).zip a++replicate (N.length-a.length) (none,.e):=by
  unfold L2.wK;rw[zip_append (by simp[hl]),hl,zAu]
 have E:(a++replicate (N.length-a.length) Slot.e).length=(L2.wK N vs).length:=by
  unfold L2.wK;simp[hl]
 have w:FR X.K X.mg M H ((L2.wK N vs).zip (a++replicate (N.length-a.length) Slot.e)):=by rw[q];exact f.emps _
 have t:∀b,b∈yP ((L2.wK N vs).zip (a++replicate (N.length-a.length) Slot.e))->b∈yP ((vs.map some).zip a):=λb c=>by
  rw[q,za,GZ,append_nil]at c;exact c
 refine⟨M,a++replicate (N.length-a.length) Slot.e,E,w,?_⟩;unfold fnM at k;have fin:∀{σ':St} {E':zU} {H':Hp} {v:V} {r:R},Got X.K X.mg M (L2.wK N vs) (a++replicate (N.length-a.length) Slot.e) H [] σ' E' H' [(some v,r.slot)] ->
   (∀v H',(yC a E').length=vs.length->FR X.K X.mg M H' ((some v,r.slot)::(vs.map some).zip (yC a E'))->Step M H ((vs.map some).zip a) H' ((some v,r.slot)::(vs.map some).zip (yC a E'))->Q v H')->Q v H':=λ{σ' E' H' v r} g u=>by
  have mk:Mask (σ'.zip E') ((vs.map some).zip (yC a E')):=Wg a _ σ' E' g.len (by simp[hl]) λi o e=>by
   have K:i<a.length:=(qG.mp e).1;have D:(a++replicate (N.length-a.length) Slot.e)[i]?=some (.p o):=by rw[getElem?_append_left K];exact e
   have:=(g.pk i o D).2;rw[this];unfold L2.wK;rw[getElem?_append_left (by simp;omega)]
  refine u v H' (by rw[zh,hl]) (g.fr.mask (.keep mk)) ?_;exact(g.st.weak λb c=>(Mask.keep mk).sub.subset c).left t
 cases l:body (a++replicate (N.length-a.length) Slot.e)with
 |z=>rw[l]at k;exact k
 |y x E' =>
  rw[l]at k;intro σ' H' g;refine I x σ' H' λC j G hf=>k C j H' G hf (g.fr.sub (List.nil_sublist _)) ?_
  exact(g.st.weak λb c=>by cases c).left t
 |ok p =>
  obtain⟨J,E'⟩:=p;rw[l]at k;cases J with
  |bk=>exact k.elim|ct=>exact k.elim|ret r=>exact λv σ' H' g=>fin g k|nx=>exact λσ' H' g=>fin (r:=.v .non) (g.flat (d:=.non) rfl) k
end
section
variable{P:Lc}{w:Le}{K:qH}{mg:Str->Lx Lv}{base:Heap}
def fn_ok(F:Fun K x qual st f fd)(S:FnScope N ps (ze st))
  (p:∀(a:Lv) (A:Lg) (outer:Ls Env) (s:La) (H:Hp) (E:XK),(c=true->A.handled=none)->RoomN k (A.deeper (PyProof.Rows.envOfC qual (ze st) s.heap.objs.size f a)) ->
   zAe (cxN c P w K mg base N qual (ze st) f a A outer s H E) (jK st) body):FnOkN c P w K mg base (k+1) f fd ps (spM K mg ps.length (fnM N.length body)):=by
 obtain⟨u,q,kV,o,t,r,a,v,j,rfl,n,e⟩:=F.ex;exact fn_ofN n e S (λi H Q E h=>h.1) λA outer s H i Q E hd g h=>⟨_,p a A outer s H E hd g,body_ok (X:=cxN c P w K mg base N qual (ze st) f a A outer s H E) (λx σ' H' l=>zGa l) h⟩
end
section
variable{X:Cx}{k:Nat}{f:Lz}{fd:FuncData}{ps:Ls Str}{F:MF}{x:Str}{p pos:Pos}{e:Lb}{es:Ls Lb}{as:Ls Arg}
def ok_call(G:FnOkN c X.prog X.w X.K X.mg X.base k f fd ps (spM X.K X.mg ps.length F))(hd:c=true->X.A.handled=none)(h:RoomN k X.A)(n:Gl X x)(l:X.mg x=some (.ref f))(i:keepIn X.K (.ref f)=true)(q:ZS X.K fd ps [])(o:zId X (e::es) as)(hn:as.length=ps.length:=by rfl)
  (a:(x==("__debug__":Str))=false:=by decide) (j:zd e=false:=by rfl) (g:ju es=true:=by rfl):EOk X (.Call (.Name x p) (e::es) [] pos) (wm F as) :=
 zi (zGZ G hd h n l i q o a (zf j) (JW g)) λσ H Q=>zGv hn
end
end DV
namespace L2
open PySem PySem.Spec PyProof.Rows
def Inv.big(I:Inv X pins σ H s):sysModules<s.heap.objs.size:=by
 have h:mainGlobals<s.heap.objs.size:=(I.mod.glob.keeps I.bk).lt;exact lt_trans (by decide) h
def cxB(X:Cx)(N:Ls Str)(a:Scope)(cl:Ls (Str×Lz))(C:Lz)(ex:Ls Lz)(s:La)(H:Hp):Cx :=
 {X with N:=N,s₀:=s,H₀:=H,env:=compEnvC a cl C X.env,outer:=X.stack,ex:=ex,fn:=λy=>a.names.lookup y==some NameKind.cell,pn:=[]}
def zGw(X:Cx)(e:Ls Lb)(t:TT):Prop:=∀(a:Ls (Lz×Obj)) (s:La) (σ:St) (H:Hp) (Q:Bool->Hp->Prop),Inv X a σ H s->t σ H Q ->
 wpAny (model X.prog X.w) X.A (forIn e true λc r=>if r=true then do let ok <- isTrue c X.env (eval c X.env);pure (ForInStep.yield ok)else pure (ForInStep.yield r)) (TP X a σ Q) X.xe s
def pif_nil:zGw X [] (λσ H Q=>Q true H):=λa s σ H Q I h=>wpAny_tests_nil ⟨H,I,h⟩
def pif_one(h:PT X c t):zGw X [c] t:=λa s σ H Q I q=>wpAny_tests_one (h a s σ H Q I q)
def yy(nl:Nat)(caps:Ls Nat)(σ:St):St:=replicate nl none++caps.map λj=>(σ[j]?).getD none
def zIe(p:Pos)(t:Lb)(fs:Ls Lb)(it:Lv)(env:Env)(a:Sem PySem.Fin->Sem PySem.Fin)(k:Sem PySem.Fin):Sem PySem.Fin:=do
 standAt p
 let r <- pyNext it
 match r with
 |none=>pure (.done .next)
 |some v=>do
  letOwnedTupleGo t it v
  assign t env v
  let ok <- forIn fs true λc r=>if r=true then do let ok <- isTrue c env (eval c env);pure (ForInStep.yield ok)else pure (ForInStep.yield r)
  if ok=true then a k else k
abbrev TAc:=Lz->St->Hp->(St->Hp->Prop)->Prop
def PAc(Y:Cx)(c:Lv->Env->Sem PySem.Fin->Sem PySem.Fin)(e:TAc):Prop:=∀(D:Lz) (a:Ls (Lz×Obj)) (s:La) (σ:St) (H:Hp) (Nx:St->Hp->Prop) (k:Sem PySem.Fin) (Q:PySem.Fin->La->Prop) (E:Ly),Inv Y a σ H s->e D σ H Nx ->
 (∀σ' H' s',Inv Y a σ' H' s'->Nx σ' H'->wpAny (model Y.prog Y.w) Y.A k Q E s')->wpAny (model Y.prog Y.w) Y.A (c (.ref D) Y.env k) Q E s
def Trn(J:It)(g:TG)(tt:TT)(c:TAc)(D:Lz)(e:St->Hp->Prop)(σ:St)(H:Hp):Prop:=∃W:Nat->Nat->St->Hp->Prop,(∃m,W 0 m σ H)/\∀i m σ' H',W i m σ' H' ->
 (J.stop i H'/\e σ' H')\/(J.go i H'/\∃N2:St->Hp->Prop,(∀σ'' H'',N2 σ'' H''->∃a,a<m/\W (i+1) a σ'' H'')/\∀x H'',J.yld i H' x H''->g x σ' H'' λσ2 H2 =>
  tt σ2 H2 λb H3=>if b=true then c D σ2 H3 N2 else N2 σ2 H3)
def zGx(e:Lz->HO)(nl:Nat)(caps:Ls Nat)(a:TI)(g:TG)(tt:TT)(c:TAc):TE:=λσ H Q=>a σ H λJ H1=>∀D,H1 D=none->Trn J g tt c D (λ_ H'=>Q (.ref D) H') (yy nl caps σ) (upd H1 D (e D))
def LoopN(P:Lc)(w:Le)(e:Lb):Prop:=∀d g c a,(Code.compLoop e d g c a).quiet=true/\(∀A:Lg,A.under (.compLoop e d g c a)=A)/\(model P w).den (.compLoop e d g c a)=(compTurn e d g c a).onRaise (λx=>do noteFrame x a;theTreesLotGoes x)
def zAv{E:Ll}{v:Lv->Env->Sem PySem.Fin->Sem PySem.Fin}{R:Result->La->Prop}{X:St->Hp->Prop} 
  (hL:LoopN Y.prog Y.w ce) (Q:∀e s,¬Y.xe e s) (O:Y.calm=true) (hg:PG Y t g) (ht:zGw Y fs tt) (he:PAc Y v ta)
  (hT:compTurn ce d (.ref it) (.ref D) Y.env=zIe p t fs (.ref it) Y.env (v (.ref D) Y.env) (again (.compLoop ce d (.ref it) (.ref D) Y.env)))
  (T:Turn Y.prog Y.w Y.K t J fp it E) (a:∀{H':Hp},(∀b∈fp,H' b=none)->∀b∈fp,zBk Y pins H' b) (I:Inv Y pins σ H s) (st:E 0 s.heap) (fr:∀b∈fp,H b=none) (h:Trn J g tt ta D X σ H)
  (hR:∀σ' H' s',Inv Y pins σ' H' s'->X σ' H'->R (.ok .next) s'):codeAny (model Y.prog Y.w) Y.A (.compLoop ce d (.ref it) (.ref D) Y.env) R s:=by
 obtain⟨W,⟨m0,w0⟩,step⟩:=h;obtain⟨l1,l2,l3⟩:=hL d (.ref it) (.ref D) Y.env;refine codeAny_loop l1 (λn s'=>∃i σ' H',Inv Y pins σ' H' s'/\E i s'.heap/\(∀b∈fp,H' b=none)/\W i n σ' H') (λn S h5=>?_) m0 ⟨0,σ,H,I,st,fr,w0⟩;obtain⟨i,σ5,H5,I5,k,w,Z⟩:=h5;rw[l2,l3];refine wpAny_noted ?_;rw[hT];refine qB (wpAny_standAt (qB ?_));rcases step i n σ5 H5 Z with⟨y,q⟩|⟨go,N2,hN,l⟩
 ·refine wpAny_mono (T.done Y rfl rfl rfl O i pins S σ5 H5 (λ_ _=>False) I5 (a w) k y) (λr M j=>?_) (λ_ _ z=>z.elim)
  obtain⟨G,I6⟩:=j;subst G;exact qC (hR σ5 H5 M I6 q)
 ·refine wpAny_mono (T.item Y rfl rfl rfl O i pins S σ5 H5 (λ_ _=>False) I5 (a w) k go) (λr M j=>?_) (λ_ _ z=>z.elim)
  obtain⟨u,G,j⟩:=j;subst G;refine qB (wpAny_mono j (λ_ L h7=>?_) (λ_ _ z=>z.elim));obtain⟨x,H7,I7,r7,y7,c,K⟩:=h7;have I7':=I7.pinned (a K) (T.obj _ _ c);refine qB (wpAny_mono (hg _ L σ5 H7 x u _ I7' r7 (l x H7 y7)) (λ_ s8 h8=>?_) (λ_ _ z=>absurd z (Q _ _)));obtain⟨σ8,H8,I8,q8⟩:=h8;refine qB (wpAny_mono (ht _ s8 σ8 H8 _ I8 q8) (λb s9 h9=>?_) (λ_ _ z=>absurd z (Q _ _)));obtain⟨H9,I9,V⟩:=h9;have again:∀{σ7:St} {H':Hp} {s':La},Inv Y (pins++QT fp L.heap) σ7 H' s'->N2 σ7 H'->∃m,m<n/\∃i σ' H',Inv Y pins σ' H' s'/\E i s'.heap/\(∀b∈fp,H' b=none)/\W i m σ' H':=λ{σ7 H' s'} I' n7=>by
   obtain⟨m',hm,w7⟩:=hN σ7 H' n7;refine⟨m',hm,i+1,σ7,H',I'.unpinned,T.keep _ _ _ c λb C o e=>(I'.pin (b,o) (qK _ (qK _ (Jv C e)))).1,λb C=>?_,w7⟩;obtain⟨o,e,d⟩:=T.obj _ _ c b C;exact(I'.pin (b,o) (qK _ (qK _ (Jv C e)))).2.1
  cases b with
  |false =>
   exact qC ⟨rfl,again I9 V⟩
  |true =>
   exact he D _ s9 σ8 H9 N2 _ _ _ I9 V λσ' H' s' I' n'=>qC ⟨rfl,again I' n'⟩
theorem YE{env:Env}:∀{a:Ls (Str×NameKind)} {x:Str} {k:NameKind},(a.map λ(n,k)=>if(k==NameKind.free&&env.scope.kind==.function&&env.kindOf n==some .cell)then(n,NameKind.cell)else(n,k)).lookup x=some k ->
  ∃j,a.lookup x=some j/\(k=j\/(j=.free/\k=.cell))
 | [],_,_,h=>by simp at h
 | (n,g)::r,x,k,h=>by
  have l:=@YE env r x k;rw[map_cons]at h;by_cases e:(g==NameKind.free&&env.scope.kind==.function&&env.kindOf n==some .cell)=true
  ·dsimp[e,if_true]at h
   cases c:x==n with
   |true =>
    dsimp[lookup_cons,c]at h ⊢;cases h;refine⟨g,rfl,.inr ⟨?_,rfl⟩⟩;dsimp[Bool.and_eq_true,beq_iff_eq]at e;exact e.1.1
   |false=>dsimp[lookup_cons,c]at h ⊢;exact l h
  ·have i:(g==NameKind.free&&env.scope.kind==.function&&env.kindOf n==some .cell)=false:=by exists e
   dsimp[i,Bool.false_eq_true,if_false]at h;cases c:x==n with
   |true=>dsimp[lookup_cons,c]at h ⊢;cases h;exact⟨g,rfl,.inl rfl⟩|false=>dsimp[lookup_cons,c]at h ⊢;exact l h
theorem Z8{env:Env}:∀{a:Ls (Str×NameKind)} {x:Str},a.lookup x=some .free->env.scope.kind=.function->env.kindOf x=some .cell ->
  (a.map λ(n,k)=>if(k==NameKind.free&&env.scope.kind==.function&&env.kindOf n==some .cell)then(n,NameKind.cell)else(n,k)).lookup x=some .cell
 | [],_,h,_,_=>by simp at h
 | (n,o)::r,x,h,i,j=>by
  have l:=@Z8 env r x;rw[map_cons];cases c:x==n with
  |true =>
   have:x=n:=by exists c
   subst this;dsimp[lookup_cons,c]at h;cases h;have:(NameKind.free==NameKind.free&&env.scope.kind==.function&&env.kindOf x==some .cell)=true:=by simp[i,j]
   dsimp[this,if_true,lookup_cons,c]
  |false =>
   dsimp[lookup_cons,c]at h;by_cases g:(o==NameKind.free&&env.scope.kind==.function&&env.kindOf n==some .cell)=true
   ·dsimp[g,if_true,lookup_cons,c];exact l h i j
   ·have e:(o==NameKind.free&&env.scope.kind==.function&&env.kindOf n==some .cell)=false:=by exists g
    dsimp[e,Bool.false_eq_true,if_false,lookup_cons,c];exact l h i j
def zDU(env:Env):Ls (Str×NameKind)->Ls (Str×Lz)->Ls (Str×Lz)
 | [],a=>a| (n,k)::r,a=>if k==.free then zDU env r ((n,(env.cells.lookup n).getD 0)::a)else zDU env r a
theorem Za:∀(a:Ls (Str×NameKind)) (e:Ls (Str×Lz)),(∀y∈a,y.2=.free->∃c,env.cells.lookup y.1=some c) ->
  (forIn a e (λx r=>if(x.snd==NameKind.free)=true then do
    let c <- cellOf env x.fst
    pure (ForInStep.yield ((x.fst,c)::r))
   else pure (ForInStep.yield r)):Sem (Ls (Str×Lz)))=pure (zDU env a e)
 | [],e,_=>by rfl
 | (n,k)::r,e,h=>by
  rw[List.forIn_cons];by_cases g:(k==NameKind.free)=true
  ·obtain⟨c,j⟩:=h (n,k) qE (by exists g)
   have l:cellOf env n=pure c:=by unfold cellOf;rw[j]
   rw[if_pos g,l];show(forIn r ((n,c)::e) _:Sem (Ls (Str×Lz)))=_;rw[Za r _ λy i=>h y (qD _ i)]
   conv=>rhs;unfold zDU
   rw[if_pos g,j];rfl
  ·rw[if_neg g]
   show(forIn r e _:Sem (Ls (Str×Lz)))=_
   rw[Za r _ λy i=>h y (qD _ i)]
   conv=>rhs;unfold zDU
   rw[if_neg g]
theorem wn:∀(a:Ls (Str×NameKind)) (j:Ls (Str×Lz)) (x:Str),(∀y∈a,y.2=.free->∃c,env.cells.lookup y.1=some c)->(∀c,j.lookup x=some c->env.cells.lookup x=some c) ->
  (∀c,(zDU env a j).lookup x=some c->env.cells.lookup x=some c)/\(((∃c,j.lookup x=some c)\/∃y∈a,y.1=x/\y.2=.free)->∃c,(zDU env a j).lookup x=some c)
 | [],j,x,_,i=>⟨i,λh=>h.elim id λ⟨y,g,_⟩=>by cases g⟩
 | (n,k)::r,j,x,h,i=>by
  unfold zDU;by_cases o:(k==NameKind.free)=true
  ·rw[if_pos o]
   obtain⟨c,w⟩:=h (n,k) qE (by exists o);have l:=wn r ((n,(env.cells.lookup n).getD 0)::j) x (λy g=>h y (qD _ g)) (λv e=>by
    rw[lookup_cons]at e;cases p:x==n with
    |true =>
     have:x=n:=by exists p
     subst this;rw[p]at e;dsimp[w,Option.getD_some]at e;rw[w];exact e
    |false=>rw[p]at e;exact i v e)
   refine⟨l.1,λq=>l.2 ?_⟩;rcases q with⟨v,q⟩|⟨y,g,t,u⟩
   ·apply Or.inl
    rw[lookup_cons];cases p:x==n with
    |true=>exact⟨_,rfl⟩|false=>exact⟨v,q⟩
   ·rcases mem_cons.mp g with g|g
    ·subst g
     apply Or.inl
     subst t;exact⟨(env.cells.lookup n).getD 0,by rw[lookup_cons,beq_self_eq_true]⟩
    ·right;exact⟨y,g,t,u⟩
  ·rw[if_neg o]
   have l:=wn r j x (λy g=>h y (qD _ g)) i;refine⟨l.1,λq=>l.2 ?_⟩;rcases q with q|⟨y,g,t,u⟩
   ·exact .inl q
   ·rcases mem_cons.mp g with g|g
    ·subst g
     exact absurd (by exists u) o
    ·exact .inr ⟨y,g,t,u⟩
theorem vH:∀(a:Ls (Str×NameKind)) (h:Heap) (g:Ls (Str×Lz)) (x:Str) (c:Lz),(cellsFrom h.objs.size a g).lookup x=some c ->
  g.lookup x=some c\/((x,NameKind.cell)∈a/\h.objs.size<=c/\(pushCells h a).IsCell c none)
 | [],h,g,x,c,e=>.inl e
 | (n,k)::r,h,g,x,c,e=>by
  unfold cellsFrom at e;unfold pushCells;split at e
  ·rename_i i
   rw[if_pos i];have sz:(h.push {cls:=.type "cell",data:=.cell none}).objs.size=h.objs.size+1:=size_push ..;rw[<- sz]at e;rcases vH r (h.push {cls:=.type "cell",data:=.cell none}) _ x c e with q|⟨t,u,p⟩
   ·rw[lookup_cons]at q
    cases l:x==n with
    |true =>
     rw[l]at q;cases q;have o:x=n:=by exists l
     have j:k=.cell:=by exists i
     subst o;subst j;exact .inr ⟨qE,le_refl _,⟨_,pushCells_keeps _ _ _ _ (get?_push_size _ rfl),rfl⟩⟩
    |false=>rw[l]at q;exact .inl q
   ·exact .inr ⟨qD _ t,by rw[sz]at u;omega,p⟩
  ·rename_i i
   rw[if_neg i];rcases vH r h g x c e with q|⟨t,u,p⟩
   ·exact .inl q
   ·exact .inr ⟨qD _ t,u,p⟩
theorem Ga:∀(a:Ls (Str×NameKind)) (n:Nat) (c:Ls (Str×Lz)) (x:Str),(x,NameKind.cell)∉a->(cellsFrom n a c).lookup x=c.lookup x
 | [],n,c,x,_=>rfl
 | (y,k)::r,n,c,x,h=>by
  dsimp[mem_cons,not_or]at h;unfold cellsFrom;split
  ·rename_i i
   rw[Ga r _ _ x h.2,lookup_cons];cases j:x==y with
   |true =>
    have g:x=y:=by exists j
    have e:k=.cell:=by exists i
    subst g;subst e;exact absurd rfl h.1
   |false=>rfl
  ·exact Ga r _ _ x h.2
theorem zER:∀(a:Ls (Str×NameKind)) (n:Nat) (g:Ls (Str×Lz)) (x:Str) (c:Lz),(x,NameKind.cell)∈a->(cellsFrom n a g).lookup x=some c->n<=c
 | [],_,_,_,_,h,_=>by cases h
 | (y,k)::r,n,g,x,c,h,e=>by
  unfold cellsFrom at e;by_cases i:(x,NameKind.cell)∈r
  ·split at e
   ·exact Nat.le_of_succ_le (zER r _ _ x c i e)
   ·exact zER r _ _ x c i e
  ·rcases mem_cons.mp h with q|q
   ·cases q
    rw[if_pos (by rfl),Ga r _ _ _ i,lookup_cons,beq_self_eq_true]at e;cases e;exact le_refl _
   ·exact absurd q i
theorem zES:∀(i:Ls (Str×NameKind)) (n:Nat) (a:Ls (Str×Lz)),(∀x y c,a.lookup x=some c->a.lookup y=some c->x=y)->(∀x c,a.lookup x=some c->c<n) ->
  ∀x y c,(cellsFrom n i a).lookup x=some c->(cellsFrom n i a).lookup y=some c->x=y
 | [],n,a,p,_,x,y,c,g,h=>p x y c g h
 | (z,k)::r,n,a,p,o,x,y,c,g,h=>by
  unfold cellsFrom at g h;split at g
  ·refine zES r (n+1) ((z,n)::a) (λx y c g h=>?_) (λx c e=>?_) x y c g (by rename_i q;rwa [if_pos q]at h)
   ·rw[lookup_cons]at g h
    cases j:x==z with
    |true =>
     rw[j]at g;cases g;have u:x=z:=by exists j
     cases l:y==z with
     |true =>
      have t:y=z:=by exists l
      rw[u,t]
     |false=>rw[l]at h;exact absurd (o y _ h) (lt_irrefl _)
    |false =>
     rw[j]at g;cases l:y==z with
     |true=>rw[l]at h;cases h;exact absurd (o x _ g) (lt_irrefl _)|false=>rw[l]at h;exact p x y c g h
   ·rw[lookup_cons]at e
    cases j:x==z with
    |true=>rw[j]at e;cases e;exact lt_succ_self _|false=>rw[j]at e;exact lt_succ_of_lt (o x c e)
  ·exact zES r n a p o x y c g (by rename_i q;rwa [if_neg q]at h)
def WV{E:Ly}{Q:Env->La->Prop}
  (h:Q (newEnv scope s.heap.objs.size globals (cellsFrom (s.heap.objs.size+1) scope.names cl) qual none .none (some env) builtinsNs) {s with heap:=pushCells (s.heap.push {cls:=.type "dict",data:=.dict #[]}) scope.names}) :
  wpAny M A (newFunctionEnv scope globals cl [] qual none .none (some env)) Q E s:=by
 dsimp[newFunctionEnv,Option.isSome_some,if_true];refine qB (wpAny_alloc ?_);refine qB (wpAny_layCells _ (λg a e=>by cases c:a==NameKind.cell<;>simp[c]) _ _ _ _ ?_);rw[show({s with heap:=s.heap.push {cls:=.type "dict",data:=.dict #[]}}:La).heap.objs.size=s.heap.objs.size+1 from size_push ..]
 exact qB (qC (qC h))
structure CNd(P:Lc)(w:Le)(ce target iter:Lb)(ifs:List Lb)(ma:Sem Lv)(ob:Obj)(o0:Lz->HO)(act:Lv->Env->Sem PySem.Fin->Sem PySem.Fin)(gs:List Comprehension)(p:Pos):Prop where
 cl:clausesOf ce=⟨target,iter,ifs,0⟩::gs
 lp:LoopN P w ce
 new:∀{A:Lg} {E:Ly} {s:La} {Q:Ly},Q (.ref s.heap.objs.size) {s with heap:=s.heap.push ob}->wpAny (model P w) A ma Q E s
 lay:∀(h:Heap) (H:Hp),sysModules<h.objs.size->jL P w H (h.push ob) h.objs.size (o0 h.objs.size)
 st:∀{A:Lg} {it acc:Lv} {env:Env} {R:Result->La->Prop} {s:La},codeAny (model P w) A (.compLoop ce 0 it acc env) R s->wpAny (model P w) A (pyIter it) (λit' s'=>codeAny (model P w) A (.compLoop ce 0 it' acc env) R s') (notedBy (model P w) A env λx s'=>R (.error x) s') s ->
  codeAny (model P w) A (.compStart ce 0 it acc env) R s
 tn:∀it acc env,compTurn ce 0 it acc env=zIe p target ifs it env (act acc env) (again (.compLoop ce 0 it acc env))
structure CSc(X:Cx)(scope:Scope)(nl:Nat)(caps:List Nat)(N':Ln):Prop where
 hx:∀e s,¬X.xe e s
 hc:X.calm=true
 kind:scope.kind=.function
 nm:∀y∈scope.names,y.2=.local->scope.names.lookup y.1=some .local
 ce:∀y∈scope.names,y.2=.cell->scope.names.lookup y.1=some .cell
 fr:(scope.names.all λy=>y.2 != .free||X.env.kindOf y.1==some .cell)=true
 ln:N'.length=nl+caps.length
 cp:∀(i j:Nat),caps[i]?=some j->∃x,N'[nl+i]?=some x/\X.N[j]?=some x/\scope.names.lookup x=some .free
section
variable{X:Cx}{ce target iter:Lb}{ifs:Ls Lb}{scope:Scope}{nl:Nat}{caps:Ls Nat}{N':Ls Str}{mk:Sem Lv}{ob:Obj}{o0:Lz->HO}{act:Lv->Env->Sem PySem.Fin->Sem PySem.Fin}{gs:Ls Comprehension}{p p0:Pos}{wi:TI}{g:TG}{tt:TT}{ta:TAc}
def Qp{use:Lx (Lv->Sem Unit)}{QQ:Ly}(C:CSc X scope nl caps N')(N:CNd X.prog X.w ce target iter ifs mk ob o0 act gs p)
  (hi:PI X target iter wi) (hg:∀t C ex s H,PG (cxB X N' scope t C ex s H) target g) (ht:∀t C ex s H,zGw (cxB X N' scope t C ex s H) ifs tt) (he:∀t C ex s H,PAc (cxB X N' scope t C ex s H) act ta)
  (hs:∀x,foldedSetIterable iter X.env x=pure x) (I:Inv X pins σ H s) (h:zGx o0 nl caps wi g tt ta σ H Q)
  (ah:∀(D C:Lz) (H5:Hp) (s6:La) (m6:Str->Lx Lv),Inv X pins σ H5 s6->zBk X pins H5 C->s6.heap.Ns C m6->Q (.ref D) H5->compPost (model X.prog X.w) X.A X.xe use QQ (.ref D) C (.ok .next) s6) :
  wpAny (model X.prog X.w) X.A (comprehension ce scope X.env p0 mk false (eval iter X.env) use) QQ X.xe s:=by
 have an:∀y∈scope.names,y.2=.free->X.env.kindOf y.1=some .cell:=λy hy e=>by
  have:=all_eq_true.mp C.fr y hy;rw[e]at this;exists this
 have ad:∀y∈scope.names,y.2=.free->∃c,X.env.cells.lookup y.1=some c:=λy hy e=>I.ok.has y.1 (.inl (an y hy e))
 have K:closureFor scope X.env=pure (zDU X.env scope.names []):=by
  dsimp[closureFor];rw[Za scope.names [] ad];rfl
 have n:∀x c,(zDU X.env scope.names []).lookup x=some c->X.env.cells.lookup x=some c:=λx c e=>(wn scope.names [] x ad (λ_ z=>by cases z)).1 c e
 have ac:∀x,(∃y∈scope.names,y.1=x/\y.2=.free)->∃c,(zDU X.env scope.names []).lookup x=some c:=λx q=>(wn scope.names [] x ad (λ_ z=>by cases z)).2 (.inr q)
 generalize zDU X.env scope.names []=t at K n ac;refine wpAny_comprehension_free (use:=use) N.cl hs K C.kind C.nm (thn (hi pins s σ H _ I h) λxv s1 h1=>thn h1 λa0 a h2=>?_);obtain⟨it,M,tn,J,H2,e,I2,T,R,f2,aj⟩:=h2;subst e;refine N.new (WV ?_);dsimp;generalize aa:a.heap.push ob=h3;have hC:h3.objs.size=a.heap.objs.size+1:=by rw[<- aa,size_push]
 have hD:H2 a.heap.objs.size=none:=I2.hok.fresh (le_refl _);have ay:=aj a.heap.objs.size hD
 -- the state at the block's entry
 have I3:Inv X pins σ (upd H2 a.heap.objs.size (o0 a.heap.objs.size)) {a with heap:=h3}:=by
  rw[<- aa];exact I2.laid (t':=a.toks) (λb o q=>qA _ q) (le_refl _) (N.lay _ _ (Inv.big I2))
 have ak:∀x,scope.names.lookup x=some .free->(x,NameKind.cell)∉scope.names:=λx e z=>by
  have:=C.ce _ z rfl;rw[e]at this;cases this
 have av:(h3.push {cls:=.type "dict",data:=.dict #[]}).objs.size=h3.objs.size+1:=size_push ..;have cw:∀x c,(cellsFrom (h3.objs.size+1) scope.names t).lookup x=some c->t.lookup x=some c\/((x,NameKind.cell)∈scope.names/\h3.objs.size+1<=c/\(pushCells (h3.push {cls:=.type "dict",data:=.dict #[]}) scope.names).IsCell c none):=λx c e=>by
  rw[<- av]at e ⊢;exact vH _ _ _ x c e
 have ae:∀x,scope.names.lookup x=some .free->(cellsFrom (h3.objs.size+1) scope.names t).lookup x=t.lookup x:=λx e=>Ga _ _ _ x (ak x e)
 have S:∀x,scope.names.lookup x=some .cell->∃c,(cellsFrom (h3.objs.size+1) scope.names t).lookup x=some c:=λx e=>by
  have:=cellsFrom_some scope.names (h3.objs.size+1) t (x:=x) (.inl e);exact Option.isSome_iff_exists.mp this
 have ap:∀x c,t.lookup x=some c->c<h3.objs.size:=λx c e=>by
  obtain⟨v,q⟩:=I3.cell x c (n x c e);exact q.lt
 have V:=zES scope.names (h3.objs.size+1) t (λx y c e1 r=>I.ok.inj x y c (n x c e1) (n y c r)) λx c e=>lt_succ_of_lt (ap x c e)
 have E:(pushCells (h3.push {cls:=.type "dict",data:=.dict #[]}) scope.names).Ns h3.objs.size λ_=>none:=(Heap.Ns.new h3 (.type "dict")).keeps (pushCells_keeps _ _)
 have G:∀b o,h3.get? b=some o->(pushCells (h3.push {cls:=.type "dict",data:=.dict #[]}) scope.names).get? b=some o:=λb o e=>pushCells_keeps _ _ b o (qA _ e)
 generalize az:pushCells (h3.push {cls:=.type "dict",data:=.dict #[]}) scope.names=h₁ at E G cw ⊢;generalize aq:cellsFrom (h3.objs.size+1) scope.names t=cs at cw ae S V ⊢;have ax:∀b∈M,b≠a.heap.objs.size:=λb l z=>by
  obtain⟨o,e,_⟩:=T.obj 0 a.heap R b l;subst z;exact absurd (lt_size e) (lt_irrefl _)
 have aw:∀b∈M,upd H2 a.heap.objs.size (o0 a.heap.objs.size) b=none:=λb l=>by rw[zk (ax b l)];exact(f2 b l).1
 have ag:∀b∈M,b≠h3.objs.size:=λb l z=>by
  obtain⟨o,e,_⟩:=T.obj 0 a.heap R b l;have q:b<a.heap.objs.size:=lt_size e;rw[z,hC]at q;exact absurd q (not_lt.mpr (le_succ _))
 have ao:upd H2 a.heap.objs.size (o0 a.heap.objs.size) h3.objs.size=none:=I3.hok.fresh (le_refl _);have w:∀b∈M,(b∈X.ex\/X.s₀.heap.objs.size<=b)/\b≠X.env.locals/\(∀x c,X.env.cells.lookup x=some c->c≠b)/\∀p∈X.pn++pins,p.1≠b:=λb l=>by
  obtain⟨_,q2,_,q4,q5,q6⟩:=f2 b l;exact⟨q4,q2,q5,q6⟩
 have ar:∀b∈M,b<h3.objs.size:=λb l=>by
  obtain⟨o,e,_⟩:=T.obj 0 a.heap R b l;have q:b<a.heap.objs.size:=lt_size e;rw[hC];exact lt_succ_of_lt q
 have Z:∀b∈M,∀x c,cs.lookup x=some c->c≠b:=λb l x c e=>by
  rcases cw x c e with q|⟨_,q,_⟩
  ·exact(w b l).2.2.1 x c (n x c q)
  ·intro z;subst z
   exact absurd (lt_of_lt_of_le (ar _ l) (Nat.le_of_succ_le q)) (lt_irrefl _)
 let Y:Cx:=cxB X N' scope cs h3.objs.size M {a with heap:=h3} (upd H2 a.heap.objs.size (o0 a.heap.objs.size))
 have O:∀x k,Y.env.kindOf x=some k->∃k0,scope.names.lookup x=some k0/\(k=k0\/(k0=.free/\k=.cell)):=λx k e=>YE e
 have ai:Y.Ok:={
  mod:=I.ok.mod
  kind:=C.kind
  glob:=I.ok.glob
  blt:=I.ok.blt
  above:=le_refl _
  inj:=V
  has:=λx q=>by
   have:scope.names.lookup x=some .cell\/scope.names.lookup x=some .free:=by
    rcases q with q|q
    ·obtain⟨k0,e,z⟩:=O x _ q
     rcases z with z|z
     ·subst z;exact .inl e
     ·rw[z.1]at e;exact .inr e
    ·obtain⟨k0,e,z⟩:=O x _ q
     rcases z with z|z
     ·subst z;exact .inr e
     ·rw[z.1]at e;exact .inr e
   rcases this with q|q
   ·exact S x q
   ·obtain⟨c,e⟩:=ac x ⟨(x,.free),PySem.mem_of_lookup q,rfl,rfl⟩
    exact⟨c,by show cs.lookup x=_;rw[ae x q];exact e⟩
  cab:=λx c z e=>by
   have z:scope.names.lookup x=some .cell:=by
    have z:(scope.names.lookup x==some NameKind.cell)=true:=z;exists z
   have e:cs.lookup x=some c:=e;rw[<- aq]at e;exact le_trans (le_succ _) (zER _ _ _ x c (PySem.mem_of_lookup z) e)
  hd:=I.ok.hd
  frames:=I.ok.frames
  stk:=.inl rfl
  exf:=λb l=>⟨ag b l,Z b l⟩
  bs:=λb o e=>I3.bs b o e
  bsz:=le_trans I.ok.bsz I3.sz
  noex:=λb o e l=>by
   obtain⟨q,_⟩:=w b l;rcases q with q|q
   ·exact I.ok.noex b o e q
   ·exact absurd (lt_of_lt_of_le (lt_size e) I.ok.bsz) (not_lt.mpr q)
  exfs:=λb l z=>by
   have:=I2.stkSub b z;rcases mem_cons.mp this with q|q
   ·exact(w b l).2.1 q
   ·exact(f2 b l).2.2.1 q
  funs:=I3.stack
  frf:=I3.stkFree}
 have ab:∀b o,h3.get? b=some o->h₁.get? b=some o:=G;have am:(yy nl caps σ).length=N'.length:=by unfold yy;simp[C.ln]
 have IY:Inv Y [] (yy nl caps σ) (upd H2 a.heap.objs.size (o0 a.heap.objs.size)) {a with heap:=h₁}:={
  ok:=ai
  os:=rfl
  bare:=I3.bare
  base:=Un.kept ab
  loc:=by
   refine⟨_,E,λi x v e1 r e3=>?_⟩;have e1:N'[i]?=some x:=e1;have hi:nl<=i:=by
    by_cases z:nl<=i
    ·exact z
    ·unfold yy at r
     rw[getElem?_append_left (by simp;omega),List.getElem?_replicate]at r;split at r<;>cases r
   unfold yy at r;rw[getElem?_append_right (by exists hi),length_replicate,getElem?_map]at r;exists ej,caps[i-nl]?,r,j;dsimp[Option.map_some,Option.some.injEq]at r;obtain⟨W,c1,c2,c3⟩:=C.cp (i-nl) j ej;have ex:W=x:=by
    rw[show nl+(i-nl)=i by omega,e1]at c1;exact(qJ c1).symm
   subst ex;have e4:σ[j]?=some (some v):=by
    cases z:σ[j]? with
    |none=>rw[z]at r;cases r|some o=>rw[z]at r;simp at r;rw[r]
   have kx:X.env.kindOf W=some .cell:=an (W,.free) (PySem.mem_of_lookup c3) rfl;obtain⟨mm,_,lk⟩:=I3.loc;obtain⟨u,ru,lu⟩:=lk j W v c2 e4 (.inr (.inl kx));refine⟨u,ru,?_⟩;rcases lu with⟨z,_⟩|⟨_,c,d1,d2⟩
   ·rw[kx]at z;cases z
   ·obtain⟨c',d3⟩:=ac W ⟨(W,.free),PySem.mem_of_lookup c3,rfl,rfl⟩
    have:c'=c:=by have:=n W c' d3;rw[d1]at this;exact(qJ this).symm
    subst this;exact .inr ⟨.inl (Z8 c3 I.ok.kind kx),c',by show cs.lookup _=_;rw[ae W c3];exact d3,d2.keeps G⟩
  cell:=λx c e=>by
   rcases cw x c e with e|⟨_,_,q⟩
   ·obtain⟨v,q⟩:=I3.cell x c (n x c e)
    exact⟨v,q.keeps G⟩
   ·exact⟨_,q⟩
  free:=ao
  freeC:=λx c e=>by
   rcases cw x c e with e|⟨_,q,_⟩
   ·exact I3.freeC x c (n x c e)
   ·exact I3.hok.fresh (le_trans (le_succ _) q)
  pin:=λp hp=>absurd (show p∈([]:Ls (Lz×Obj))from hp) (by simp)
  hok:=I3.hok.kept G
  len:=am}
 have af:tn 0 h₁:=T.keep 0 a.heap h₁ R λb l o e=>G b o (by rw[<- aa];exact qA _ e)
 have au:∀{H':Hp},(∀b∈M,H' b=none)->∀b∈M,zBk Y [] H' b:=λhn b l =>
  ⟨hn b l,ag b l,ai.exfs b l,.inl l,Z b l,λp hp=>absurd (show p∈([]:Ls (Lz×Obj))from hp) (by simp)⟩
 have fin:∀L:La,L={a with heap:=h₁}->codeAny (model X.prog X.w) X.A (.compLoop ce 0 (.ref it) (.ref a.heap.objs.size) Y.env) (compPost (model X.prog X.w) X.A X.xe use QQ (.ref a.heap.objs.size) h3.objs.size) L:=by
  rintro L rfl
  refine zAv (Y:=Y) N.lp C.hx C.hc (hg _ _ _ _ _) (ht _ _ _ _ _) (he _ _ _ _ _) (N.tn _ _ _) T au IY af aw ay λσ5 H5 s6 I6 q=>?_
  obtain⟨m6,n6,_⟩:=I6.loc;have u:Un (frs X.stack) M (upd H2 a.heap.objs.size (o0 a.heap.objs.size)) H5 h3 s6.heap:=I6.base;have I7:Inv X pins σ H5 s6:=I3.call' (s':=s6) (ch:=M) I6.os u I6.hok I6.bare w;exact ah _ _ H5 s6 m6 I7 (I3.fpOk (le_refl _) I6.free) n6 q
 exact N.st (fin _ rfl) (T.self X.A 0 _ _ _ af (fin _ rfl))
def pe_comp(C:CSc X scope nl caps N')(N:CNd X.prog X.w ce target iter ifs mk ob o0 act gs p)(hi:PI X target iter wi)(n:∀a C c s H,PG (cxB X N' scope a C c s H) target g)(K:∀a C c s H,zGw (cxB X N' scope a C c s H) ifs tt)(t:∀a C c s H,PAc (cxB X N' scope a C c s H) act ta)
  (l:∀x,foldedSetIterable iter X.env x=pure x) (J:eval ce X.env=comprehension ce scope X.env p0 mk false (eval iter X.env)):PE X ce (zGx o0 nl caps wi g tt ta):=by
 intro j s σ H Q I h;rw[J];refine Qp (use:=none) C N hi n K t l I h λD C H5 w y I7 f k q=>?_
 refine⟨y,k,λM i=>?_⟩;obtain⟨L,E,O,v,G,u⟩:=f;exact⟨.ref D,H5,I7.turned (it:=C) (t':=w.toks) (λb o r e=>i.extBut b o r e) L (λz=>E z) v G u,rfl,q⟩
def ps_setC(Y:X.N.Nodup)(t:X.N[i]?=some y)(hy:Loc X.env.scope y)(Q:X.fn y=true\/X.env.scope.names.lookup y=some .local)(C:CSc X scope nl caps N')(N:CNd X.prog X.w ce target iter ifs mk ob o0 act gs p)
  (hi:PI X target iter wi) (O:∀c C k s H,PG (cxB X N' scope c C k s H) target g) (ht:∀c C k s H,zGw (cxB X N' scope c C k s H) ifs tt) (S:∀c C k s H,PAc (cxB X N' scope c C k s H) act ta)
  (M:∀x,foldedSetIterable iter X.env x=pure x) (r:swapsWith ce (some (.Name y py)) spos.line X.env=pure true)
  (hv:∀u,evalThenUse ce X.env u=(do let _ <- comprehension ce scope X.env p0 mk false (eval iter X.env) (some u))) :
  PS X (.Assign [.Name y py] ce spos) (tAsg (zGx o0 nl caps wi g tt ta) (zAi i)):=by
 intro l s σ H D I h;rw[exec_Assign_Name_used _ _ _ _ r];refine qB (wpAny_standAt (qB ?_));rw[hv];refine qB (wpAny_mono (Qp (use:=some (assign (.Name y py) X.env)) (QQ:=λ_ J=>SP X l D .next J) C N hi O ht S M I h λDa C H5 s6 m6 I7 f K q=>?_) (λ_ J hq=>qC (qC hq)) λ_ _ e=>e);obtain⟨f1,E,f3,W,G,V⟩:=f;show wpAny _ X.A (assign (.Name y py) X.env (.ref Da)) _ _ s6;refine wpAny_assign_Name (QR I7 Y t hy (v:=.ref Da) rfl (λZ I8 ⟨a,L,j⟩=>?_) Q);have n:C≠a:=by
  rcases j with j|j
  ·rw[j];exact E
  ·exact λz=>G y a j z.symm
 refine⟨m6,K.sameBut L n,λh' w=>?_⟩;exact⟨_,H5,I8.turned (it:=C) (t':=Z.toks) (λb o R e=>w.extBut b o R e) f1 (λz=>E z) W G V,q⟩
end
def act1(e:Lb):Lv->Env->Sem PySem.Fin->Sem PySem.Fin:=λc a k=>do
 (do let x <- eval e a;let _ <- call (.builtin "list.append") [c,x];pure ())
 k
def ta1(c:TE):TAc:=λD σ H Nx=>c σ H λy H4=>∃a,H4 D=some (.l a)/\a.length<sizeLine/\Nx σ (upd H4 D (.l (a++[y])))
def pa_elt(p:∀e s,¬Y.xe e s)(u:PE Y elt te):PAc Y (act1 elt) (ta1 te):=λD a s σ H Nx k Q E I h t=>by
 unfold act1;refine qB (qB (wpAny_mono (u a s σ H _ I h) (λy o j=>?_) λ_ _ z=>absurd z (p _ _)));obtain⟨q,H10,I10,i,C,x,hz,c⟩:=j;have r:=Qc (X:=Y) _ o σ H10 (.ref D) [q] (.ref D) [y] (λv H'=>Nx σ H') I10 rfl (.cons i .nil) ⟨_,C,q,rfl,rfl,x,hz,c⟩;refine qB (wpAny_mono r (λ_ n l=>?_) λ_ _ z=>absurd z (p _ _));obtain⟨w,H11,I11,_,g⟩:=l;exact qC (t σ H11 n I11 g)
abbrev lstO:Obj:={cls:=.type "list",data:=.seq #[]}
def zGy(h:Heap)(H:Hp)(_:sysModules<h.objs.size):jL P w H (h.push lstO) h.objs.size (.l []):=⟨zero_le _,[],0,.nil,get?_push_size _ rfl⟩
def mk_list{E:Ly}{Q:Ly}(h:Q (.ref s.heap.objs.size) {s with heap:=s.heap.push lstO}):wpAny (model P w) A (newList []) Q E s :=
 wpAny_newObj_type h (by show(#[]:Lh).size<=sizeLine;simp)
def zET:CNd P w (.ListComp elt [⟨target,iter,ifs,0⟩] scope pos) target iter ifs (newList []) lstO (λ_=>.l []) (act1 elt) [] iter.pos :=
 ⟨rfl,λ_ _ _ _=>⟨rfl,λ_=>rfl,rfl⟩,mk_list,zGy,λa h=>codeAny_compStart_list a h,λ_ _ _=>rfl⟩
end L2
namespace DV
open PySem L2
section
variable{X:Cx}{K:qH}{mg:Str->Lx Lv}{σ:St}{M:Ld}{E:zU}{H:Hp}{T0 Z T:Fz}
structure ItOk(K:qH)(mg:Str->Lo)(J:It)(ds:List D)(Iv:Hp->Prop):Prop where
 mono:∀H H',YU H H'->Iv H->Iv H'
 go:∀i Hh H,YU Hh H->Iv Hh->i<ds.length->J.go i H
 yld:∀i Hh H x H',YU Hh H->Iv Hh->i<ds.length->J.yld i H x H'->∃d,ds[i]?=some d/\((H'=H/\Rep K mg Hh d x)\/∃q xs es,H q=none/\H'=upd H q (.t xs)/\x=.ref q/\d=.t es/\Reps K mg Hh es xs)
 stop:∀i Hh H,YU Hh H->Iv Hh->ds.length<=i->J.stop i H
abbrev MI:=zU->Out (Ls D×zU)
def tMI(X:Cx)(m:MI):TI:=λσ H R=>∃M E,E.length=σ.length/\FR X.K X.mg M H (σ.zip E)/\match m E with
 | .z=>False| .ok (ds,E')=>∀J Iv H',ItOk X.K X.mg J ds Iv->Iv (Hm (Mo M (σ.zip E')) H')->Got X.K X.mg M σ E H [] σ E' H' []->R J H'| .y x E'=>∀H',Got X.K X.mg M σ E H [] σ E' H' []->XE X σ H' x
abbrev IOk(X:Cx)(tg e:Lb)(m:MI):Prop:=PI X tg e (tMI X m)
def ui(h:PI X tg e t)(i:∀σ H R,t' σ H R->t σ H R):PI X tg e t':=λa s σ H R I q=>h a s σ H R I (i σ H R q)
def iL(m:ME):MI:=λE=>match m E with
 | .z=>.z| .y x E1=>.y x E1
 | .ok (r,E1)=>match r.d with
  | .l a=>.ok (a,E1)|_=>.z
def iT(m:ME):MI:=λE=>match m E with
 | .z=>.z| .y x E1=>.y x E1
 | .ok (r,E1)=>match r.d with
  | .t a=>.ok (a,E1)|_=>.z
def it_list:ItOk K mg (Itl K a) ds (λH=>SqL K H a xs/\Reps K mg H ds xs) where
 mono:=λH H' s h=>⟨s.seq h.1,h.2.mono s⟩
 go:=λi Hh H s h c=>⟨xs,xs[i]'(by rw[h.2.length];exact c),s.seq h.1,by simp⟩
 yld:=λi Hh H x H' s h c y=>by
  obtain⟨e,y⟩:=y;obtain⟨d,g,h2⟩:=h.2.get (y xs (s.seq h.1));exact⟨d,g,.inl ⟨e,h2⟩⟩
 stop:=λi Hh H s h c=>⟨xs,s.seq h.1,by rw[h.2.length];exact c⟩
def it_tup:ItOk K mg (Itt K a) ds (λH=>SqT K H a xs/\Reps K mg H ds xs) where
 mono:=λH H' s h=>⟨zL s h.1,h.2.mono s⟩
 go:=λi Hh H s h c=>⟨xs,xs[i]'(by rw[h.2.length];exact c),zL s h.1,by simp⟩
 yld:=λi Hh H x H' s h c y=>by
  obtain⟨e,y⟩:=y;obtain⟨d,g,h2⟩:=h.2.get (y xs (zL s h.1));exact⟨d,g,.inl ⟨e,h2⟩⟩
 stop:=λi Hh H s h c=>⟨xs,zL s h.1,by rw[h.2.length];exact c⟩
def Qq:∀(n i:Nat) (a:Int),i<n->(zI a n)[i]?=some (.int (a+i)):=λn i a h=>by
 have:=wj n i a h;have e:((zI a n).drop i)[0]?=some (.int (a+i)):=by rw[this];rfl
 exists e
def it_rng:ItOk K mg (Itr lo n) (zI lo n) (λ_=>True) where
 mono:=λ_ _ _ h=>h
 go:=λi Hh H s h a=>by rw[ya]at a;exact a
 yld:=λi Hh H x H' s h a y=>by
  obtain⟨e,y⟩:=y;rw[ya]at a;exact⟨_,Qq n i lo a,.inl ⟨e,by rw[y];dsimp[Rep]⟩⟩
 stop:=λi Hh H s h a=>by rw[ya]at a;exact a
def io_list(h:EOk X e m):IOk X tg e (iL m):=ui (zDg h) λσ H R ⟨M,E,hl,fr,k⟩=>by
 unfold iL at k;refine zc (T0:=[]) hl fr ?_;exists ea,m E,k,r,E1;intro v H1 g;dsimp at k;cases c:r.d with
 |l p =>
  rw[c]at k;have i:=g.rep;rw[c]at i;obtain⟨a,n,rfl,j,o⟩:=yH i;exact⟨a,rfl,⟨n,zF.seq j⟩,k _ _ H1 it_list ⟨j,o⟩ g.dropAll⟩
 |_=>rw[c]at k;exact k.elim
def io_tup(h:EOk X e m):IOk X tg e (iT m):=ui (zIL h) λσ H R ⟨M,E,hl,fr,k⟩=>by
 unfold iT at k;refine zc (T0:=[]) hl fr ?_;exists ea,m E,k,r,E1;intro v H1 g;dsimp at k;cases c:r.d with
 |t o =>
  rw[c]at k;have i:=g.rep;rw[c]at i;obtain⟨a,l,rfl,j,n⟩:=yT i;exact⟨a,rfl,⟨l,zL zF j⟩,k _ _ H1 it_tup ⟨j,n⟩ g.dropAll⟩
 |_=>rw[c]at k;exact k.elim
def iR1(m:MA):MI:=λE=>match m E with
 | .z=>.z| .y x E1=>.y x E1
 | .ok ([r],E1)=>match r.d with
  | .int j=>if -(2^62)<=j/\j<2^62 then .ok (zI 0 j.toNat,E1)else .z|_=>.z
 |_=>.z
def io_r1(g:Gl X "range")(o:X.mg "range"=none)(q:AOk X [a] m)(e:zd a=false:=by rfl):IOk X tg (.Call (.Name "range" p) [a] [] cpos) (iR1 m):=ui (QS g o q (zD8 e)) λσ H R ⟨M,E,hl,fr,k⟩=>by
 unfold iR1 at k;refine YV (T0:=[]) hl fr ?_;exists ea,m E,k,rs,E1
 match rs,k with
 | [r],k =>
  intro t H1 hv i;have l:=Got.reps hv i;dsimp at k;cases h:r.d with
  |int j =>
   rw[h]at k;dsimp[List.map,h]at l;obtain⟨v,rfl,n⟩:=J3 l;dsimp at k;by_cases c:-(2^62)<=j/\j<2^62
   ·rw[if_pos c]at k
    exact⟨j,by rw[zJ n],c.1,c.2,k _ _ H1 it_rng trivial i.dropAll⟩
   ·rw[if_neg c]at k;exact k.elim
  |_=>rw[h]at k;exact k.elim
 | [],k=>exact k.elim|_::_::_,k=>exact k.elim
structure Ak(α:Type) where
 r:α->R
 z:α
 o:Lz->HO
abbrev Ak.s{α:Type}(k:Ak α)(a:α):Slot:=(k.r a).slot
abbrev MC(α:Type):=zU->α->Out (α×zU)
def J4{α:Type}(tg:MG)(tt:MT)(ma:MC α):Ls D->zU->α->Out (α×zU)
 | [],E,a=>.ok (a,E)
 |d::e,E,a=>match tg d E with
  | .ok E1=>match tt E1 with
   | .ok (true,E2)=>match ma E2 a with
    | .ok (c,E3)=>J4 tg tt ma e E3 c|_=>.z
   | .ok (false,E2)=>J4 tg tt ma e E2 a|_=>.z
  |_=>.z
def ma1(el:ME):MC (Ls D):=λE a=>match el E with
 | .ok (r,E3)=>if a.length<cap then .ok (a++[r.d],E3)else .z|_=>.z
def JP(E:zU):Ls Nat->Out (Ls AR)
 | []=>.ok []
 |j::a=>match E[j]? with
  |some (.v d)=>match JP E a with
   | .ok as=>.ok (.tmp d::as)|_=>.z
  |some s=>match s.list? with
   |some _=>match JP E a with
    | .ok as=>.ok (.ln j::as)|_=>.z
   |none=>.z
  |none=>.z
def Y4{α:Type}(k:Ak α)(nl:Nat)(caps:Ls Nat)(g:MI)(tg:MG)(tt:MT)(ma:MC α):ME:=λE=>match g E with
 | .z=>.z| .y x E1=>.y x E1
 | .ok (h,E1)=>match JP E1 caps with
  | .ok a=>match zR a E1 with
   | .ok (e,E2)=>match J4 tg tt ma h (replicate nl .e++e) k.z with
    | .ok (c,Eb)=>match zO a ((yC (replicate nl .e++e) Eb).drop nl) E1 E2 with
     | .ok E3=>.ok (k.r c,E3)|_=>.z
    |_=>.z
   |_=>.z
  |_=>.z
abbrev akL:Ak (Ls D):=⟨.w,[],λ_=>.l []⟩
abbrev Gb(tg:MG)(tt:MT)(el:ME):=J4 tg tt (ma1 el)
abbrev zAw(nl:Nat)(caps:Ls Nat)(a:MI)(tg:MG)(tt:MT)(el:ME):ME:=Y4 akL nl caps a tg tt (ma1 el)
def Gc:MT:=λE=>.ok (true,E)
abbrev zIf(X:Cx)(a:Ls Lb)(m:MT):Prop:=zGw X a (tMT X m)
def Gd(h:zGw X ifs t)(i:∀σ H Q,t' σ H Q->t σ H Q):zGw X ifs t':=λa s σ H Q I q=>h a s σ H Q I (i σ H Q q)
def ifk_nil:zIf X [] Gc:=Gd pif_nil λσ H Q ⟨M,E,hl,fr,k⟩=>k H (Got.refl (T0:=[]) hl fr)
def zAx(h:TOk X c m):zIf X [c] m:=pif_one h
theorem zEU:∀(h:Ls Nat) {as:Ls AR} {T:Fz},E.length=σ.length->JP E h=.ok as->FR K mg M H (T++σ.zip E) ->
  ∃c,AV σ as c/\c.map some=h.map (λj=>(σ[j]?).getD none)/\FR K mg M H (T++(yB c as++σ.zip E))/\∀b,b∈yP (T++(yB c as++σ.zip E))->b∈yP (T++σ.zip E)
 | [],as,T,hl,e,f=>by
  cases e;exact⟨[],by dsimp[AV],rfl,f,λb q=>q⟩
 |j::h,as,T,hl,e,f=>by
  dsimp[JP]at e;exists ej,E[j]?,e,s;obtain⟨o,I,h2⟩:=jN hl ej;have l:∀{k:Ls D},s.list?=some k->(match JP E h with | .ok as=>Out.ok (AR.ln j::as)|_=>.z)=.ok as->∃c,AV σ as c/\c.map some=(j::h).map (λj=>(σ[j]?).getD none)/\FR K mg M H (T++(yB c as++σ.zip E))/\∀b,b∈yP (T++(yB c as++σ.zip E))->b∈yP (T++σ.zip E):=λ{k} O e=>by
   cases i:JP E h with
   |z=>rw[i]at e;cases e|y _ _=>rw[i]at e;cases e
   |ok g =>
    rw[i]at e;cases e;obtain⟨a,S,ev,_⟩:=f.ownL o s k (qK _ h2) O;subst ev;obtain⟨c,J,G,n,t⟩:=zEU h hl i f;have p:(T++(((some (V.ref a),Slot.e)::yB c g)++σ.zip E)).Perm ((some (V.ref a),Slot.e)::(T++(yB c g++σ.zip E))):=perm_middle;have Q:FR K mg M H ((some (V.ref a),Slot.e)::(T++(yB c g++σ.zip E))):=n.mask (.extra (by
     have:∀W:Fz,Mask W W:=by
      intro W
      induction W with
      |nil=>exact .nil _|cons x W R=>exact .keep R
     exact this _))
    refine⟨.ref a::c,by dsimp[AV];exact⟨_,c,rfl,I,J⟩,by simp[I,G],Q.perm p.symm,λb C=>?_⟩;have:=zE p b C;exact t b this
  cases s with
  |e=>cases e|w k=>exact l rfl e|p k=>exact l rfl e|m _ _=>cases e
  |v d =>
   cases i:JP E h with
   |z=>rw[i]at e;cases e|y _ _=>rw[i]at e;cases e
   |ok g =>
    rw[i]at e;cases e;obtain⟨v,ev,r⟩:=f.val o d (qK _ h2);subst ev;obtain⟨c,J,G,n,t⟩:=zEU h hl i f;obtain⟨X,u,L⟩:=n.val (some v) d (qK _ (qK _ h2));cases u;have p:(T++(((some v,Slot.v d)::yB c g)++σ.zip E)).Perm ((some v,Slot.v d)::(T++(yB c g++σ.zip E))):=perm_middle;refine⟨v::c,by dsimp[AV];exact⟨v,c,rfl,J⟩,by simp[I,G],(n.add L).perm p.symm,λb C=>?_⟩;have:=zE p b C;rw[zr]at this;exact t b this
def zEV(n:Nat)(Z:Fz):yP (replicate n ((none:Lx V),Slot.e)++Z)=yP Z:=by rw[za,GZ,nil_append]
def FR.emps0(f:FR K mg M H Z)(n:Nat):FR K mg M H (replicate n (none,.e)++Z):=(f.emps n).perm perm_append_comm
end
def tN(K:qH)(a:Str->Lx Lv)(m:ME):TE:=λσ H Q=>∃M E,E.length=σ.length/\FR K a M H (σ.zip E)/\match m E with
 | .ok (r,E')=>∀v H',Got K a M σ E H [] σ E' H' [(some v,r.slot)]->Q v H'|_=>False
def tNT(K:qH)(a:Str->Lx Lv)(m:MT):TT:=λσ H Q=>∃M E,E.length=σ.length/\FR K a M H (σ.zip E)/\match m E with
 | .ok (b,E')=>∀H',Got K a M σ E H [] σ E' H' []->Q b H'|_=>False
section
variable{X:Cx}{K:qH}{mg:Str->Lx Lv}{σ:St}{M:Ld}{E:zU}{H:Hp}{T0 Z T:Fz}
def tN_M(h:tN X.K X.mg m σ H Q):tM X m σ H Q:=by
 obtain⟨M,E,hl,fr,k⟩:=h;refine⟨M,E,hl,fr,?_⟩;cases e:m E with
 |z=>rw[e]at k;exact k|y x E1=>rw[e]at k;exact k.elim|ok p=>rw[e]at k;exact k
def tNT_M{Q:Bool->Hp->Prop}(h:tNT X.K X.mg m σ H Q):tMT X m σ H Q:=by
 obtain⟨M,E,hl,fr,k⟩:=h;refine⟨M,E,hl,fr,?_⟩;cases e:m E with
 |z=>rw[e]at k;exact k|y x E1=>rw[e]at k;exact k.elim|ok p=>rw[e]at k;exact k
def zEW(a:E.length=σ.length)(h:FR K mg M H (T0++σ.zip E))(e:m E=.ok (r,E'))(k:∀v H',Got K mg M σ E H T0 σ E' H' [(some v,r.slot)]->Q v H'):tN K mg m σ H Q:=by
 refine⟨Mo M T0,E,a,h.inner,?_⟩;rw[e];exact λv H' g=>k v H' (g.outer h)
def tNT_run{Q:Bool->Hp->Prop}(a:E.length=σ.length)(h:FR K mg M H (T0++σ.zip E))(e:m E=.ok (b,E'))(k:∀H',Got K mg M σ E H T0 σ E' H' []->Q b H'):tNT K mg m σ H Q:=by
 refine⟨Mo M T0,E,a,h.inner,?_⟩;rw[e];exact λH' g=>k H' (g.outer h)
def zEX{c:Ls AR}{E1 E2 k:zU}{e a:Ls Slot}{r:R}{vs:Ls V}{v:V}{H1 g:Hp}(t:zR c E1=.ok (e,E2))(l:zO c a E1 E2=.ok k)
  (z:AV σ c vs) (i:FR K mg M H1 (σ.zip E2++(vs.map some).zip e)) (h:Step M H (σ.zip E) H1 (σ.zip E2++(vs.map some).zip e)) (l2:E2.length=σ.length) (C:PKp σ E σ E1)
  (y:FR K mg (Mo M (σ.zip E2)) g ((some v,r.slot)::(vs.map some).zip a)) (n:Step (Mo M (σ.zip E2)) H1 ((vs.map some).zip e) g ((some v,r.slot)::(vs.map some).zip a)):Got K mg M σ E H [] σ k g [(some v,r.slot)]:=by
 have D:=FR.outer i y n;have w:=Step.outer n;have p:(σ.zip E2++((some v,r.slot)::(vs.map some).zip a)).Perm ([(some v,r.slot)]++((vs.map some).zip a++σ.zip E2)):=by
  refine perm_append_comm.trans ?_;exact List.Perm.refl _
 obtain⟨u,x,o⟩:=GX c l2 z l (D.perm p);refine⟨o,u,?_,C.trans (zEQ t l)⟩;have j:=h.trans w;exact j.weak λb q=>zE p.symm b (x b q)
theorem Y5:∀(n:Nat) {Z W:Fz},Mask Z W->Mask Z (W.drop n)
 |0,_,_,h=>h|n+1,_,_,.nil Z=>by dsimp[List.drop_nil];exact .nil _|n+1,_,_,.keep h=>.skip (Y5 n h)|n+1,_,_,.skip h=>.skip (Y5 (n+1) h)|n+1,_,_,.extra h=>Y5 n h
theorem Qr{α β:Type}:∀(n:Nat) (l:Ls α) (m:Ls β),(l.zip m).drop n=(l.drop n).zip (m.drop n)
 |0,_,_=>rfl|n+1,[],_=>by simp|n+1,_::_,[]=>by simp|n+1,_::l,_::m=>by simp[Qr n l m]
structure GA(K:qH)(mg:Str->Lo)(M:Ld)(D:Lz)(σ:St)(E:zU)(H:Hp)(a:Slot)(σ':St)(E':zU)(H':Hp)(a':Slot):Prop where
 len:E'.length=σ'.length
 fr:FR K mg M H' ((some (.ref D),a')::σ'.zip E')
 st:Step M H ((some (.ref D),a)::σ.zip E) H' ((some (.ref D),a')::σ'.zip E')
 pk:PKp σ E σ' E'
def GA.of{D:Lz}{a:Slot}{σ':St}{E':zU}{c:Hp}(g:Got K mg M σ E H [(some (.ref D),a)] σ' E' c []):GA K mg M D σ E H a σ' E' c a:=⟨g.len,g.fr,g.st,g.pk⟩
theorem GA.trans{D:Lz}{a0 a1 a2:Slot}{σ1 σ2:St}{E1 E2:zU}{H1 c:Hp}(a:GA K mg M D σ E H a0 σ1 E1 H1 a1)(b:GA K mg M D σ1 E1 H1 a1 σ2 E2 c a2):GA K mg M D σ E H a0 σ2 E2 c a2:=⟨b.len,b.fr,a.st.trans b.st,a.pk.trans b.pk⟩
def zDA{α:Type}(k:Ak α)(K:qH)(e:Str->Lx Lv)(ma:MC α)(g:TAc):Prop:=∀(M:Ld) (D:Lz) (σ:St) (E:zU) (H:Hp) (c a:α) (E':zU) (Nx:St->Hp->Prop),E.length=σ.length->FR K e M H ((some (.ref D),k.s c)::σ.zip E)->ma E c=.ok (a,E')->(∀σ' H',GA K e M D σ E H (k.s c) σ' E' H' (k.s a)->Nx σ' H')->g D σ H Nx
def AkOk{α:Type}(k:Ak α):Prop:=∀{K:qH} {a:Str->Lx Lv} {M:Ld} {H:Hp} {Z:Fz} {D:Lz},FR K a M H Z->H D=none->FR K a M (upd H D (k.o D)) ((some (.ref D),k.s k.z)::Z)/\Step M H Z (upd H D (k.o D)) ((some (.ref D),k.s k.z)::Z)
def zEY:AkOk akL:=λf h=>⟨f.newOwn (ds:=[]) (xs:=[]) h Reps.nil,Step.newOwn (ds:=[]) (xs:=[]) f h⟩
def yld_ga{J:It}{ds:Ls D}{o:Hp->Prop}{σ0 σ':St}{E0 E':zU}{H1 l c:Hp}{j:Lz}{e a:Slot}{i:Nat}{x:V}(it:ItOk K mg J ds o)(n:i<ds.length)(k:GA K mg M j σ0 E0 H1 e σ' E' l a)(g:o (Hm (Mo M ((some (.ref j),a)::σ'.zip E')) l))(y:J.yld i l x c) :
  ∃d,ds[i]?=some d/\GA K mg M j σ0 E0 H1 e σ' E' c a/\o (Hm (Mo M ((some (.ref j),a)::σ'.zip E')) c)/\Rep K mg (Hm (Mo M ((some (.ref j),a)::σ'.zip E')) c) d x:=by
 obtain⟨d,hd,h⟩:=it.yld i _ _ x _ zF g n y;rcases h with⟨rfl,z⟩|⟨q,C,G,r,rfl,rfl,rfl,w⟩
 ·exact⟨d,hd,k,g,z⟩
 ·have t:=k.fr.newTup r w
  have p:Step M l ((some (.ref j),a)::σ'.zip E') (upd l q (.t C)) ((some (.ref q),.v (.t G))::((some (.ref j),a)::σ'.zip E')):=Step.newVal r;obtain⟨v,ev,E⟩:=t.val _ _ qE;cases ev;have u:=p.same;exact⟨_,hd,⟨k.len,t.tail,k.st.trans ⟨u,p.keep⟩,k.pk⟩,it.mono _ _ u g,E⟩
def zEZ:zDA akL K mg (ma1 el) (ta1 (tN K mg el)):=λM D σ E H c o E' Nx hl fr e hN=>by
 unfold ma1 at e;cases j:el E with
 |z=>rw[j]at e;cases e|y _ _=>rw[j]at e;cases e
 |ok p =>
  obtain⟨r,Ec⟩:=p;rw[j]at e;dsimp at e;by_cases g:c.length<cap
  ·rw[if_pos g]at e
   cases e;refine zEW (T0:=[(some (.ref D),.w c)]) hl fr j λt H4 k=>?_
   have q:FR K mg M H4 ((some t,.v r.d)::((some (.ref D),Slot.w c)::σ.zip E')):=FR.frz (r:=r) k.fr;obtain⟨w,x,l⟩:=q.val _ _ qE;cases x;rw[Yz]at l;have n:=q.tail;obtain⟨a,G,u,I,_,h⟩:=n.ownL _ _ c qE rfl;cases u;refine⟨G,I,by rw[h.length];exact lt_of_lt_of_le g (Z7 (le_refl _)),hN σ _ ?_⟩;obtain⟨C,v⟩:=FR.mut (i:=0) (s:=.w c) n rfl rfl (h.append (Reps.cons l Reps.nil));have sz:Step M H ((some (.ref D),Slot.w c)::σ.zip E) H4 ((some (.ref D),Slot.w c)::σ.zip E'):=k.st.weak (zD (sublist_cons_self _ _));exact⟨k.len,C,sz.trans v,k.pk⟩
  ·rw[if_neg g]at e;cases e
def turns{α:Type}{k:Ak α}{ma:MC α}(V:GOk X g tg)(ha:zDA k X.K X.mg ma ta){G:Hp->Prop}(it:ItOk X.K X.mg J ds G){e h:α}{O:St->Hp->Prop}(R:E.length=σ.length)(fr:FR X.K X.mg M H ((some (.ref Da),k.s e)::σ.zip E))(Y:G (Hm (Mo M ((some (.ref Da),k.s e)::σ.zip E)) H))(S:J4 tg tt ma ds E e=.ok (h,EF))
  (Z:∀σ' H',GA X.K X.mg M Da σ E H (k.s e) σ' EF H' (k.s h)->O σ' H'):Trn J g (tNT X.K X.mg tt) ta Da O σ H:=by
 refine⟨λi m σ' H'=>m=ds.length-i/\i<=ds.length/\∃E' a,GA X.K X.mg M Da σ E H (k.s e) σ' E' H' (k.s a)/\G (Hm (Mo M ((some (.ref Da),k.s a)::σ'.zip E')) H')/\J4 tg tt ma (ds.drop i) E' a=.ok (h,EF),
  ⟨ds.length,by simp,zero_le _,E,e,⟨R,fr,Step.refl,PKp.refl⟩,Y,S⟩,?_⟩
 rintro i m σ' H' ⟨rfl,hi,E',a,o,j,c⟩
 by_cases l:i<ds.length
 ·refine .inr ⟨it.go i _ H' zF j l,λσ'' H''=>(i+1<=ds.length/\∃E' a,GA X.K X.mg M Da σ E H (k.s e) σ'' E' H'' (k.s a)/\G (Hm (Mo M ((some (.ref Da),k.s a)::σ''.zip E')) H'')/\J4 tg tt ma (ds.drop (i+1)) E' a=.ok (h,EF)),
   λσ'' H'' q=>⟨ds.length-(i+1),by omega,rfl,q⟩,λx H'' y=>?_⟩
  obtain⟨d,hd,o,j,W⟩:=yld_ga it l o j y;have ed:ds.drop i=d::ds.drop (i+1):=by
   obtain⟨L,rfl⟩:=qG.mp hd;exact List.drop_eq_getElem_cons L
  rw[ed]at c;dsimp[J4]at c;cases w:tg d E' with
  |z=>rw[w]at c;cases c|y _ _=>rw[w]at c;cases c
  |ok Ea =>
   rw[w]at c;dsimp at c;refine V _ σ' E' _ [(some (.ref Da),k.s a)] x d Ea _ o.len (o.fr.add W) w λσ2 u=>?_
   have g2:=o.trans (GA.of u);cases C:tt Ea with
   |z=>rw[C]at c;cases c|y _ _=>rw[C]at c;cases c
   |ok p =>
    obtain⟨b,Eb2⟩:=p;rw[C]at c;refine tNT_run u.len u.fr C λH3 t=>?_
    have I:GA X.K X.mg M Da σ2 Ea H'' (k.s a) σ2 Eb2 H3 (k.s a):=⟨t.len,t.fr,t.st,t.pk⟩;have v:=g2.trans I;have r:=it.mono _ _ (u.st.same.trans t.st.same) j;cases b with
    |false=>exact zGV ⟨l,Eb2,a,v,r,c⟩
    |true =>
     refine zGW ?_;dsimp at c;cases D:ma Eb2 a with
     |z=>rw[D]at c;cases c|y _ _=>rw[D]at c;cases c
     |ok p =>
      obtain⟨n,Ec⟩:=p;rw[D]at c;exact ha M Da σ2 Eb2 H3 a n Ec _ v.len v.fr D λσ4 H4 Q=>⟨l,Ec,n,v.trans Q,it.mono _ _ Q.st.same r,c⟩
 ·have K:i=ds.length:=by omega
  subst K;rw[drop_length]at c;cases c;exact .inl ⟨it.stop _ _ H' zF j (le_refl _),Z σ' H' o⟩
def zBz{α:Type}{k:Ak α}(hk:AkOk k){nl:Nat}{caps:Ls Nat}{O:MI}{tg:MG}{tt:MT}{ma:MC α}{ta:TAc}{g:TG}{Q:VK}(ho:GOk X g tg)(ha:zDA k X.K X.mg ma ta)(h:tM X (Y4 k nl caps O tg tt ma) σ H Q):zGx k.o nl caps (tMI X O) g (tNT X.K X.mg tt) ta σ H Q:=by
 obtain⟨M,E,hl,fr,a⟩:=h;unfold Y4 at a;refine⟨M,E,hl,fr,?_⟩;exists ei,O E,a,ds,E1;intro J Iv H1 it iv w D hD;dsimp at a;cases I:JP E1 caps with
 |z=>rw[I]at a;exact a.elim|y _ _=>rw[I]at a;exact a.elim
 |ok o =>
  rw[I]at a;dsimp at a;cases n:zR o E1 with
  |z=>rw[n]at a;exact a.elim|y _ _=>rw[n]at a;exact a.elim
  |ok p =>
   obtain⟨ss,E2⟩:=p;rw[n]at a;dsimp at a;cases v:J4 tg tt ma ds (replicate nl .e++ss) k.z with
   |z=>rw[v]at a;exact a.elim|y _ _=>rw[v]at a;exact a.elim
   |ok p =>
    obtain⟨q,Eb⟩:=p;rw[v]at a;dsimp at a;cases t:zO o ((yC (replicate nl .e++ss) Eb).drop nl) E1 E2 with
    |z=>rw[t]at a;exact a.elim|y _ _=>rw[t]at a;exact a.elim
    |ok E3 =>
     rw[t]at a;obtain⟨i,av,aa,f1,o1⟩:=zEU (T:=[]) caps w.len I w.fr;obtain⟨f2,o2,l2,l3⟩:=vE (T:=[]) o w.len av n f1;have hv:=av.length;have u:FR X.K X.mg M H1 (σ.zip E2++(i.map some).zip ss):=FR.perm (T:=σ.zip E2++(i.map some).zip ss) (Z:=(i.map some).zip ss++σ.zip E2) f2 perm_append_comm;have l:∀b,b∈yP (σ.zip E2++(i.map some).zip ss)->b∈yP (σ.zip E1):=λb c =>
      o1 b ((o2 b).mpr (zE (T:=σ.zip E2++(i.map some).zip ss) (Z:=(i.map some).zip ss++σ.zip E2) perm_append_comm b c))
     have Y:Step M H (σ.zip E) H1 (σ.zip E2++(i.map some).zip ss):=w.st.weak l;have eσ:yy nl caps σ=replicate nl none++i.map some:=by unfold L2.yy;rw[aa]
     rw[eσ];have ez:(replicate nl (none:Lx V)++i.map some).zip (replicate nl Slot.e++ss)=replicate nl (none,.e)++(i.map some).zip ss:=by
      rw[zip_append (by simp),zAu]
     have W:FR X.K X.mg (Mo M (σ.zip E2)) H1 ((replicate nl (none:Lx V)++i.map some).zip (replicate nl Slot.e++ss)):=by
      rw[ez];exact(FR.inner u).emps0 nl
     have K:yP ((replicate nl (none:Lx V)++i.map some).zip (replicate nl Slot.e++ss))=yP ((i.map some).zip ss):=by rw[ez,zEV]
     generalize hσ0:replicate nl (none:Lx V)++i.map some=σ0 at W K ⊢;generalize ab:replicate nl Slot.e++ss=E0 at W K v t ⊢;have x:E0.length=σ0.length:=by rw[<- hσ0,<- ab];simp[l2,hv]
     obtain⟨f5,s5⟩:=hk W hD;have L:Iv (Hm (Mo (Mo M (σ.zip E2)) ((some (.ref D),k.s k.z)::σ0.zip E0)) (upd H1 D (k.o D))):=by
      refine it.mono _ _ s5.same (it.mono _ _ (jr λb c=>?_) iv);rcases c with c|c
      ·rcases c with c|c
       ·exact .inl c
       ·exact .inr (l b (by rw[za];exact mem_append_left _ c))
      ·rw[K]at c
       exact .inr (l b (by rw[za];exact qK _ c))
     refine turns ho ha it x f5 L v λσ' H' C=>a _ H' ?_
     have G:Got X.K X.mg (Mo M (σ.zip E2)) σ0 E0 H1 [] σ' Eb H' [(some (.ref D),k.s q)]:=⟨C.len,C.fr,s5.trans C.st,C.pk⟩;have S:Mask (σ'.zip Eb) (σ0.zip (yC E0 Eb)):=Wg E0 σ0 σ' Eb G.len (x.symm) λj R e=>(G.pk j R e).2
     have mk:Mask (σ'.zip Eb) ((i.map some).zip ((yC E0 Eb).drop nl)):=by
      have:=Y5 nl S;have e:(σ0.zip (yC E0 Eb)).drop nl=(i.map some).zip ((yC E0 Eb).drop nl):=by
       rw[Qr,<- hσ0];congr 1;rw[List.drop_left' (by simp)]
      rw[e]at this;exact this
     refine zEX (r:=k.r q) n t av u Y l3 w.pk (G.fr.mask (.keep mk)) ?_;refine(G.st.weak λb c=>(Mask.keep mk).sub.subset c).left λb c=>?_
     rw[nil_append,K]at c;exact c
end
section
variable{X:Cx}{ce target iter:Lb}{ifs:Ls Lb}{scope:Scope}{nl:Nat}{caps:Ls Nat}{N':Ls Str}{mk:Sem Lv}{ob:Obj}{act:Lv->Env->Sem PySem.Fin->Sem PySem.Fin}{gs:Ls Comprehension}{p p0:Pos}{α:Type}{k:Ak α}{ma:MC α}{mi:MI}{tg:MG}{tt:MT}{ta:TAc}{g:TG}
def zEa(C:CSc X scope nl caps N')(e:AkOk k)(r:zDA k X.K X.mg ma ta)(N:CNd X.prog X.w ce target iter ifs mk ob k.o act gs p)(h:∀c C a s H,PAc (cxB X N' scope c C a s H) act ta)(i:eval ce X.env=comprehension ce scope X.env p0 mk false (eval iter X.env))
  (hi:IOk X target iter mi) (o:∀c C a s H,PG (cxB X N' scope c C a s H) target g) (l:GOk X g tg) (j:∀c C a s H,zIf (cxB X N' scope c C a s H) ifs tt) (n:∀x,foldedSetIterable iter X.env x=pure x):EOk X ce (Y4 k nl caps mi tg tt ma) :=
 zi (pe_comp C N hi o (λc C a s H=>Gd (j c C a s H) λσ H Q q=>tNT_M (X:=cxB X N' scope c C a s _) q) h n i) λσ H Q=>zBz e l r
def sk_comp(E:X.N.Nodup)(j:X.N[i]?=some y)(w:Loc X.env.scope y)(G:X.fn y=true\/X.env.scope.names.lookup y=some .local)(C:CSc X scope nl caps N')(l:AkOk k)(I:zDA k X.K X.mg ma ta)(N:CNd X.prog X.w ce target iter ifs mk ob k.o act gs p)(n:∀c C a s H,PAc (cxB X N' scope c C a s H) act ta)
  (o:∀u,evalThenUse ce X.env u=(do let _ <- comprehension ce scope X.env p0 mk false (eval iter X.env) (some u)))
  (hi:IOk X target iter mi) (z:∀c C a s H,PG (cxB X N' scope c C a s H) target g) (t:GOk X g tg) (r:∀c C a s H,zIf (cxB X N' scope c C a s H) ifs tt)
  (v:∀x,foldedSetIterable iter X.env x=pure x) (e:swapsWith ce (some (.Name y py)) spos.line X.env=pure true):SOk X (.Assign [.Name y py] ce spos) (sSet i (Y4 k nl caps mi tg tt ma)) :=
 yx (ps_setC E j w G C N hi z (λc C a s H=>Gd (r c C a s H) λσ H Q q=>tNT_M (X:=cxB X N' scope c C a s _) q) n v e o) λD σ H h=>zBz l t I (zEM h)
end
def mem7{P:String->Prop}(a:P "NoneType")(g:P "bool")(e:P "int")(c:P "str")(j:P "tuple")(h:P "list")(i:P "dict"):∀t∈["NoneType","bool","int","str","tuple","list","dict"],P t:=by
 intro t ht;dsimp[mem_cons,mem_nil_iff,or_false]at ht;rcases ht with rfl|rfl|rfl|rfl|rfl|rfl|rfl<;>assumption
abbrev Kit(K:qH)(T:String):Prop:=∀t∈["NoneType","bool","int","str","tuple","list","dict"],kitOne K (.type t) (.type T)=some (Qm t T)
def kit_int(K:qH):Kit K "int":=mem7 rfl rfl rfl rfl rfl rfl rfl
def zGz(K:qH):Kit K "bool":=mem7 rfl rfl rfl rfl rfl rfl rfl
def zEb(K:qH):Kit K "tuple":=mem7 rfl rfl rfl rfl rfl rfl rfl
def zG0(K:qH):Kit K "list":=mem7 rfl rfl rfl rfl rfl rfl rfl
def kit_str(K:qH):Kit K "str":=mem7 rfl rfl rfl rfl rfl rfl rfl
def zG1(K:qH):Kit K "dict":=mem7 rfl rfl rfl rfl rfl rfl rfl
def Ge:bootBuiltins "isinstance"=some (.builtin "isinstance"):=by left
def bt_len:bootBuiltins "len"=some (.builtin "len"):=by left
def bt_max:bootBuiltins "max"=some (.builtin "max"):=by left
def bt_min:bootBuiltins "min"=some (.builtin "min"):=by left
def bt_all:bootBuiltins "all"=some (.builtin "all"):=by left
def zIg:bootBuiltins "int"=some (.type "int"):=by left
def bt_bool:bootBuiltins "bool"=some (.type "bool"):=by left
def zB0:bootBuiltins "tuple"=some (.type "tuple"):=by left
def zEc:bootBuiltins "list"=some (.type "list"):=by left
def bt_str:bootBuiltins "str"=some (.type "str"):=by left
def bt_dict:bootBuiltins "dict"=some (.type "dict"):=by left
section
variable{X:Cx}{K:qH}{mg:Str->Lx Lv}{σ:St}{H:Hp}
def eNeg(a:ME):ME:=λE=>match a E with
 | .ok (.v (.int i),E1)=>.ok (.v (.int (-i)),E1)| .y x E1=>.y x E1|_=>.z
def ok_neg(h:EOk X a m):EOk X (.UnaryOp .USub a pos) (eNeg m):=zi (pe_un un_neg h) λσ H Q ⟨M,E,hl,fr,k⟩=>by
 unfold eNeg at k;refine zc (T0:=[]) hl fr ?_;exists ea,m E,k,r,E1;cases r with
 |w c=>exact k.elim|m _ _=>exact k.elim
 |v d =>
  cases d with
  |int i =>
   intro v H' g;exact⟨i,zJ g.rep,k _ H' (g.flat (d:=.int (-i)) rfl)⟩
  |_=>exact k.elim
def jx(p e:Lj)(a b c:ME):ME:=λE=>match a E with
 | .z=>.z| .y x E1=>.y x E1
 | .ok (.v (.int i),E1)=>match b E1 with
  | .z=>.z| .y x E2=>.y x E2
  | .ok (.v (.int j),E2)=>if p i j=true then match c E2 with
    | .z=>.z| .y x E3=>.y x E3| .ok (.v (.int k),E3)=>.ok (.v (.bl (e j k)),E3)|_=>.z
   else .ok (.v (.bl false),E2)
  |_=>.z
 |_=>.z
def Qs{p C:Lj}(h:tM X (jx p C a b c) σ H Q):zDo (rI0 λi j=>.bl (p i j)) (rI0 λi j=>.bl (C i j)) (tM X a) (tM X b) (tM X c) σ H Q:=by
 obtain⟨M,E,hl,fr,k⟩:=h;unfold jx at k;refine zc (T0:=[]) hl fr ?_;exists ea,a E,k,r,E1;cases r with
 |w I=>exact k.elim|m _ _=>exact k.elim
 |v d =>
  cases d with
  |int i =>
   intro x H1 G;have l:=G.dropAll;refine zc (T0:=[]) l.len l.fr ?_;dsimp at k;cases u:b E1 with
   |z=>rw[u]at k;exact k|y x E2=>rw[u]at k;exact λH' g=>k H' (l.trans' g)
   |ok q =>
    obtain⟨R,E2⟩:=q;rw[u]at k;cases R with
    |w I=>exact k.elim|m _ _=>exact k.elim
    |v L =>
     cases L with
     |int j =>
      intro y H2 t;have e:=(l.trans' t).dropAll;refine⟨i,j,zJ G.rep,zJ t.rep,p i j,rfl,?_⟩;dsimp at k;cases J:p i j with
      |false =>
       rw[J]at k;exact zGV (k _ H2 (e.flat (d:=.bl false) rfl))
      |true =>
       rw[J]at k;dsimp[if_true]at k;refine zGW (zc (T0:=[]) e.len e.fr ?_);cases o:c E2 with
       |z=>rw[o]at k;exact k|y x E3=>rw[o]at k;exact λH' g=>k H' (e.trans' g)
       |ok q =>
        obtain⟨K,E3⟩:=q;rw[o]at k;cases K with
        |w I=>exact k.elim|m _ _=>exact k.elim
        |v O =>
         cases O with
         |int n =>
          intro w H3 D;exact⟨j,n,zJ t.rep,zJ D.rep,k _ H3 ((e.trans' D).flat (d:=.bl (C j n)) rfl)⟩
         |_=>exact k.elim
     |_=>exact k.elim
  |_=>exact k.elim
def zG2{p g:Lj}(k:OpR X (compareOp op) (rI0 λi j=>.bl (p i j)))(e:OpR X (compareOp op') (rI0 λi j=>.bl (g i j)))(n:EOk X a ma)(o:EOk X b mb)(h:EOk X c mc)
  (l:lastMarks [op,op'] [b,c]=false:=by with_unfolding_all rfl):EOk X (.Compare a [op,op'] [b,c] pos) (jx p g ma mb mc):=zi (zGN k e n o h l) λσ H Q=>Qs
def zEd{p g:Lj}(k:OpR X (compareOp op) (rI0 λi j=>.bl (p i j)))(e:OpR X (compareOp op') (rI0 λi j=>.bl (g i j)))(n:EOk X a ma)(o:EOk X b mb)(h:EOk X c mc)
  (l:lastMarks [op,op'] [b,c]=false:=by with_unfolding_all rfl):TOk X (.Compare a [op,op'] [b,c] pos) (tT (jx p g ma mb mc)):=Qf (zGO k e n o h l) λσ H Q q=>Qs (zBs q)
abbrev ltB:Lj:=λi j=>decide (i<j)
abbrev leB:Lj:=λi j=>decide (i<=j)
abbrev gtB:Lj:=λi j=>decide (j<i)
abbrev geB:Lj:=λi j=>decide (j<=i)
def zG3(X:Cx)(a:Scope):Ls Nat->Ls Str->Prop
 | [],[]=>True|j::js,x::xs=>X.N[j]?=some x/\a.names.lookup x=some .free/\zG3 X a js xs|_,_=>False
theorem zIh{g:Scope}{loc:Ls Str}:∀{c:Ls Nat} {a:Ls Str},zG3 X g c a->a.length=c.length/\∀(i j:Nat),c[i]?=some j->∃x,a[i]?=some x/\X.N[j]?=some x/\g.names.lookup x=some .free
 | [],[],h=>⟨rfl,λi j e=>by simp at e⟩| [],_::_,h=>h.elim|_::_,[],h=>h.elim
 |j::r,x::t,h=>by
  obtain⟨n,h2,o⟩:=h;obtain⟨l,p⟩:=zIh (loc:=loc) o;refine⟨by simp[l],λi k e=>?_⟩;cases i with
  |zero=>simp at e;subst e;exact⟨x,rfl,n,h2⟩|succ i=>simp at e;obtain⟨y,q⟩:=p i k e;exact⟨y,by exists q⟩
def csc_of{a:Scope}{nl:Nat}{caps:Ls Nat}(loc g:Ls Str)(n:loc.length=nl)(t:∀e s,¬X.xe e s)(q:X.calm=true)(h:a.kind=.function)(c:∀y∈a.names,y.2=.local->a.names.lookup y.1=some .local)(l:∀y∈a.names,y.2=.cell->a.names.lookup y.1=some .cell)
  (k:(a.names.all λy=>y.2 != .free||X.env.kindOf y.1==some .cell)=true) (o:zG3 X a caps g):CSc X a nl caps (loc++g):=by
 obtain⟨w,p⟩:=zIh (loc:=loc) o;refine⟨t,q,h,c,l,k,by simp[n,w],λi j e=>?_⟩;obtain⟨x,v,r,u⟩:=p i j e;refine⟨x,?_,r,u⟩;rw[getElem?_append_right (by omega),n,Nat.add_sub_cancel_left];exact v
section
variable{elt target iter:Lb}{ifs:Ls Lb}{scope:Scope}{pos:Pos}{mi:MI}{tg:MG}{tt:MT}{el:ME}{g:TG}{nl:Nat}{caps:Ls Nat}{N':Ls Str}
def zEe(C:CSc X scope nl caps N')(e:∀a C c s H,EOk (cxB X N' scope a C c s H) elt el)(a Ca c s H):PAc (cxB X N' scope a Ca c s H) (act1 elt) (ta1 (tN X.K X.mg el)):=pa_elt C.hx (zi (e a _ c s H) λσ H Q q=>tN_M q)
def ok_lc(C:CSc X scope nl caps N')(hi:IOk X target iter mi)(k:∀c C a s H,PG (cxB X N' scope c C a s H) target g)(i:GOk X g tg)(h:∀c C a s H,zIf (cxB X N' scope c C a s H) ifs tt)(e:∀c C a s H,EOk (cxB X N' scope c C a s H) elt el)
  (j:∀x,foldedSetIterable iter X.env x=pure x):EOk X (.ListComp elt [⟨target,iter,ifs,0⟩] scope pos) (zAw nl caps mi tg tt el) :=
 zEa C zEY zEZ zET (zEe C e) rfl hi k i h j
def sk_lc(q:X.N.Nodup)(h:X.N[i]?=some y)(o:Loc X.env.scope y)(r:X.fn y=true\/X.env.scope.names.lookup y=some .local)(C:CSc X scope nl caps N')(hi:IOk X target iter mi)(p:∀c C a s H,PG (cxB X N' scope c C a s H) target g)(l:GOk X g tg)(k:∀c C a s H,zIf (cxB X N' scope c C a s H) ifs tt)
  (j:∀c C a s H,EOk (cxB X N' scope c C a s H) elt el) (n:∀x,foldedSetIterable iter X.env x=pure x) (e:swapsWith (.ListComp elt [⟨target,iter,ifs,0⟩] scope pos) (some (.Name y py)) spos.line X.env=pure true) :
  SOk X (.Assign [.Name y py] (.ListComp elt [⟨target,iter,ifs,0⟩] scope pos) spos) (sSet i (zAw nl caps mi tg tt el)) :=
 sk_comp q h o r C zEY zEZ zET (zEe C j) (λ_=>rfl) hi p l k n e
end
end
section
variable(P:Lc)(w:Le)(K:qH)(mg:Str->Lx Lv)(base:Heap)
def ja(x:Str)(st:Lf)(e:Ls Str):Prop:=∃(a:Lz) (c:FuncData),mg x=some (.ref a)/\Fun K x x st a c/\ZS K c e []
def FOk(c:Bool)(x:Str)(k:Nat)(e:Ls Str)(F:MF):Prop:=∃(a:Lz) (g:FuncData),mg x=some (.ref a)/\keepIn K (.ref a)=true/\ZS K g e []/\FnOkN c P w K mg base k a g e (spM K mg e.length F)
end
mutual
def deq:D->D->Bool
 | .t a,d=>match d with
  | .t b=>deqs a b|_=>false
 | .l a,d=>match d with
  | .l b=>deqs a b|_=>false
 |a,d=>match d with
  | .t _=>false| .l _=>false|b=>eqV (flV a) (flV b)
def deqs:Ls D->Ls D->Bool
 | [],[]=>true|a::as,b::bs=>deq a b&&deqs as bs| [],_::_=>false|_::_,[]=>false
end
def eqb:Nat->D->Bool
 |_,.non=>true|_,.bl _=>true|_,.int _=>true|_,.str x=>PyData.canLay0 (.str x)|n+1,.t ds=>ds.all (eqb n)|n+1,.l ds=>ds.all (eqb n)|_,_=>false
section
variable{X:Cx}{K:qH}{mg:Str->Lx Lv}
def rEqD(K:qH)(a:Str->Lx Lv)(neg:Bool):R2:=λx y H Q=>∃d e,eqb 20 d=true/\eqb 20 e=true/\Rep K a H d x/\Rep K a H e y/\Q (.bl (if neg then !deq d e else deq d e)) H
def eqDD(neg:Bool)(d e:D):Lx R:=if eqb 20 d=true/\eqb 20 e=true then some (.v (.bl (if neg then !deq d e else deq d e)))else none
def zIi:ROk K mg (rEqD K mg neg) (eqDD neg):=by
 intro M H Z x y j g c Q f h i e k;unfold eqDD at e;split at e
 ·rename_i a
  cases e;exact⟨j,g,a.1,a.2,h.mono zF,i.mono zF,k.flat f rfl⟩
 ·cases e
end
end DV
namespace L2
open PySem PySem.Spec PyProof.Rows
section
variable{X:Cx}
def zB1{c:Ls Int}{a:Ls Lv}(l:yA (c.map V.int) a)(i:Nat)(v:Lv)(n:a.toArray[i]?=some v):∃t,v=.int (c.getD i 0) t:=by
 have g:a[i]?=some v:=by exists n
 have o:i<a.length:=(qG.mp g).1;have hl:=l.length;have h:i<(c.map V.int).length:=by rw[hl];exact o
 obtain⟨p,j,k⟩:=l.get (i:=i) (x:=(c.map V.int)[i]) (by simp[h]);rw[g]at j;cases j;rw[length_map]at h;rw[getElem_map]at k;obtain⟨t,e⟩:=(show ∃t,v=.int (c[i]) t from k);exact⟨t,by rw[e];simp[h]⟩
def maxAt(a:Ls Int):Int:=a.getD (argBest (λi j=>decide (a.getD i 0 > a.getD j 0)) (a.length-1)) 0
theorem vI(a:Ls Int):∀k,k<=a.length->preSum (λi=>a.getD i 0) k=(a.take k).sum
 |0,_=>by simp[preSum]
 |k+1,h=>by
  have c:k<a.length:=by omega
  rw[preSum,vI a k (by omega),take_add_one,getElem?_eq_getElem c,List.sum_append];simp[c]
def zEf(L:X.calm=true):j6 X (.builtin "sum") (λw H Q=>∃(p:Lz) (a:Ls Int),w=[.ref p]/\SqL X.K H p (a.map V.int)/\Q (.int a.sum) H):=by
 intro C s σ H w us Q I r h;obtain⟨p,a,rfl,K,q⟩:=h;obtain⟨u,rfl,G⟩:=GJ r;cases G;obtain⟨g,y,l,hz⟩:=I.list K;have j:g.length=a.length:=by rw[<- y.length,length_map]
 have z:p<s.heap.objs.size:=by obtain⟨o,n,e,_⟩:=l;exact lt_size e
 have x:∀b o,s.heap.get? b=some o->(s.heap.push {cls:=.type "list_iterator",data:=.fields #[.ref p,.int 0 0]}).get? b=some o:=λb o e=>qA _ e
 refine call_sum_walkAnyS (wpAny_pyIter_list l.isList ?_);refine⟨s.heap.objs.size,[s.heap.objs.size,p],[s.heap.objs.size],_,g.toArray.size,_,_,λi=>a.getD i 0,rfl,
  (Walks.list (by show X.A.handled=none;exact I.ok.hd L) _ p (ne_of_lt z) g.toArray).toS,⟨⟨_,get?_push_size _ rfl,rfl,rfl⟩,?_⟩,?_,zB1 y,?_⟩
 ·obtain⟨o,e,c⟩:=l.isList
  exact⟨o,x _ _ e,c⟩
 ·intro b t
  rw[size_push];rcases mem_cons.mp t with rfl|t
  ·exact lt_succ_self _
  ·have:b=p:=by exists t
   subst this;exact lt_succ_of_lt z
 ·intro S t' k
  rw[size_toArray,j,vI a _ (le_refl _),List.take_length];obtain⟨W,R,D,tk,M⟩:=S;have E:R=s.gens:=k.gens;have J:D=s.drawn:=k.drawn;have O:M=s.os:=k.os;subst E J O;exact⟨.int a.sum,H,I.kept (t':=tk) λb o v=>k.heap b o (λm=>by
   have:b=s.heap.objs.size:=by exists m
   subst this;exact absurd (lt_size v) (lt_irrefl _)) (x b o v),⟨_,rfl⟩,q⟩
def zEg(K:X.calm=true):j6 X (.builtin "sum") (λv H Q=>∃(p:Lz) (g:Ls Int),v=[.ref p]/\SqT X.K H p (g.map V.int)/\Q (.int g.sum) H):=by
 intro z s σ H v us Q I r h;obtain⟨p,g,rfl,J,q⟩:=h;obtain⟨u,rfl,E⟩:=GJ r;cases E;obtain⟨a,x,l,hz⟩:=I.tuple J;have j:a.length=g.length:=by rw[<- x.length,length_map]
 have y:p<s.heap.objs.size:=by obtain⟨o,e,_⟩:=l;exact lt_size e
 have w:∀b o,s.heap.get? b=some o->(s.heap.push {cls:=.type "tuple_iterator",data:=.fields #[.ref p,.int 0 0]}).get? b=some o:=λb o e=>qA _ e
 refine call_sum_walkAnyS (wpAny_pyIter_tuple (show s.heap.IsTuple p a.toArray from l) ?_);refine⟨s.heap.objs.size,[s.heap.objs.size,p],[s.heap.objs.size],_,a.toArray.size,_,_,λi=>g.getD i 0,rfl,
  (Walks.tuple (by show X.A.handled=none;exact I.ok.hd K) _ p (ne_of_lt y) a.toArray).toS,⟨⟨_,get?_push_size _ rfl,rfl,rfl⟩,?_⟩,?_,zB1 x,?_⟩
 ·obtain⟨o,e,c⟩:=l
  exact⟨o,w _ _ e,c⟩
 ·intro b n
  rw[size_push];rcases mem_cons.mp n with rfl|n
  ·exact lt_succ_self _
  ·have:b=p:=by exists n
   subst this;exact lt_succ_of_lt y
 ·intro R t' k
  rw[size_toArray,j,vI g _ (le_refl _),List.take_length];obtain⟨S,O,C,tk,L⟩:=R;have D:O=s.gens:=k.gens;have G:C=s.drawn:=k.drawn;have M:L=s.os:=k.os;subst D G M;exact⟨.int g.sum,H,I.kept (t':=tk) λb o t=>k.heap b o (λm=>by
   have:b=s.heap.objs.size:=by exists m
   subst this;exact absurd (lt_size t) (lt_irrefl _)) (w b o t),⟨_,rfl⟩,q⟩
def zDB(a:Int)(t:Tok)(l:Lz)(c:Lh)(n:Nat)(i:Lx Lz)(g:Lm) :
  Meets (Builtin.«int.__rmul__» ⟨[.int a t,.ref l],[]⟩) (λ_ R s=>s.heap.get? l=some {cls:=.type "list",dict:=i,data:=.seq c n,slots:=g}/\R (.ok (.ret Value.notImplemented)) s) :=
 .of_wp λe w A R s h=>by
  obtain⟨hl,h⟩:=h
  wp_walk
  exact⟨_,rfl,h⟩
def zEh(l:Lz)(c:Lh)(n:Nat)(i:Lx Lz)(g:Lm)(k:Int)(u:Tok)(p:¬(!Builtin.List.listFitsIndex k)=true)(o:¬c.size*k.toNat > (2^63-1)/8)(j:¬Builtin.List.listTooLong (c.size*k.toNat)=true) :
  Meets (Builtin.«list.__mul__» ⟨[.ref l,.int k u],[]⟩) (λ_ R s=>s.heap.get? l=some {cls:=.type "list",dict:=i,data:=.seq c n,slots:=g} /\
   R (.ok (.ret (Value.ref s.heap.objs.size))) {s with heap:=s.heap.push {cls:=Value.type "list",data:=Data.seq (foldl (λa b=>a++b) #[] (replicate (if c.isEmpty=true then 0 else k.toNat) c))},toks:=s.toks}) :=
 .of_wp λe w A R s h=>by
  obtain⟨hl,h⟩:=h;have fits:=AutoListH.joined_fits j
  wp_walk
  refine wpAny_ite_false (decide_eq_false (not_lt.mpr fits)) ?_
  wp_walk
  exact⟨_,rfl,h⟩
def rRepL(K:qH):R2:=λx y H Q=>∃l k a,x=.ref l/\y=.int k/\SqL K H l a/\-(2^63)<=k/\k<2^63/\a.length*k.toNat<=sizeLine /\
 ∀p,H p=none->Q (.ref p) (upd H p (.l (replicate k.toNat a).flatten))
def op_repL:OpR X (binaryOp .Mult) (rRepL X.K):=by
 intro p s σ H x y v u Q I rx ry h;obtain⟨l,k,S,rfl,rfl,w,M,h2,hz,q⟩:=h;cases rx;obtain⟨t,rfl⟩:=ry;obtain⟨c,r,z,_⟩:=I.list w;have hl:=r.length;obtain⟨⟨J,o,i,j⟩,n,ho,E,G,hd⟩:=z;subst E hd;have g:c.toArray.size*k.toNat<=sizeLine:=by rw[size_toArray,<- hl];exact hz
 have C:¬c.toArray.size*k.toNat > (2^63-1)/8:=by
  have:(sizeLine:Nat)<=(2^63-1)/8:=by decide
  omega
 have K:¬(!Builtin.List.listFitsIndex k)=true:=by rw[fitsIndex_both M h2];exact qF
 have L:¬Builtin.List.listTooLong (c.toArray.size*k.toNat)=true:=by rw[zGT g];exact qF
 have e:foldl (λa b=>a++b) #[] (replicate (if c.toArray.isEmpty=true then 0 else k.toNat) c.toArray)=(replicate k.toNat c).flatten.toArray:=by
  have D:∀m:Nat,foldl (λa b=>a++b) #[] (replicate m c.toArray)=(replicate m c).flatten.toArray:=λm=>by
   have:=W2 c m [];exact this
  rw[D];cases c with
  |nil=>simp|cons a R=>rw[if_neg (by simp)]
 refine wpAny_binaryOp_repeat_ref (T:="list") (U:="int") (by decide) ⟨_,ho,rfl⟩ (λO=>typeIs_int O k t) noFill_list_mul F.fills_int_mul F.slot_int_rmul repeat_list F.slot_int_index.lookup
  (call_meets F.slot_int_rmul (typeIs_int s k t) F.entry_int_rmul (F.args_int_rmul_2 _ _) (zDB k t l c.toArray n o j) ⟨ho,rfl,⟨_,ho,rfl⟩,?_⟩)
 refine call_meets F.slot_list_mul ⟨_,ho,rfl⟩ F.entry_list_mul (F.args_list_mul_2 _ _) (zEh l c.toArray n o j k t K C L) ⟨ho,?_⟩;rw[e];exact⟨.ref _,_,I.lnew (t':=s.toks) (r.rep k.toNat) (by rw[zAj,mul_comm];exact hz),rfl,q _ I.fresh⟩
def isV:V->V->Lx Bool
 | .non,.non=>some true| .non,.bl _=>some false| .bl _,.non=>some false| .bl a,.bl b=>some (a==b)| .non,.int _=>some false| .int _,.non=>some false| .non,.str _=>some false| .str _,.non=>some false| .ref _,.non=>some false| .non,.ref _=>some false| .ref _,.bl _=>some false| .bl _,.ref _=>some false| .int _,.bl _=>some false| .bl _,.int _=>some false| .str _,.bl _=>some false| .bl _,.str _=>some false|_,_=>none
def zAy(h:isV x y=some b)(c:yb x u)(e:yb y v):isSame u v=pure b:=by
 cases x<;>cases y<;>simp[isV]at h<;>subst h<;>first
  | (cases c;cases e;rfl)
  | (rename_i a b;cases c;cases e;cases a<;>cases b<;>rfl)
  | (cases c;obtain⟨t,rfl⟩:=e;rfl)
  | (obtain⟨t,rfl⟩:=c;cases e;rfl)
def op_is:OpR X (compareOp .Is) (λx y H Q=>∃b,isV x y=some b/\Q (.bl b) H):=by
 intro a s σ H x y v u Q I rx ry h;obtain⟨b,e,q⟩:=h;show wpAny _ _ (isSame v u >>= λc=>pure (Value.bool c)) _ _ _;rw[zAy e rx ry];exact qC ⟨.bl b,H,I,rfl,q⟩
end
def evens{α:Type}:Ls α->Ls α
 | []=>[]| [a]=>[a]|a::_::r=>a::evens r
def Qt{α:Type}(k:Bool)(xs:Ls α):Ls α:=if k then evens xs else xs.reverse
theorem yA.evens:∀{e:Ls V} {c:Ls Lv},yA e c->yA (evens e) (L2.evens c)
 | [],_,h=>by cases h;exact .nil
 | [_],_,h=>by cases h with|cons a t=>cases t;exact .cons a .nil
 |_::_::_,_,h=>by cases h with|cons a t=>cases t with|cons _ r=>exact .cons a (yA.evens r)
def yA.rev(r:yA xs us):yA xs.reverse us.reverse:=by
 induction r with
 |nil=>exact .nil|cons a r c=>rw[reverse_cons,reverse_cons];exact c.append (.cons a .nil)
def yA.step(k:Bool)(r:yA xs us):yA (Qt k xs) (Qt k us):=by
 cases k
 ·dsimp[Qt,Bool.false_eq_true,if_false];exact r.rev
 ·dsimp[Qt,if_true];exact r.evens
end L2
namespace DV
open PySem PySem.W PyProof.Rows
variable{κ:Nat->Int}
def ev(κ:Nat->Int){α:Type}:KasT α->α
 | .ret a=>a| .ask i j k=>ev κ (k (decide (κ i<κ j)))
def Kp(κ:Nat->Int)(p:Array Nat)(t:Nat):Int:=κ (p.getD t 0)
def getD_q(p:Array Nat)(t:Nat):p.getD t 0=(p[t]?).getD 0:=by simp
def Srt(κ:Nat->Int)(p:Array Nat)(m:Nat):Prop:=∀i,0<i->i<m->Kp κ p (i-1)<=Kp κ p i
def Dsc(κ:Nat->Int)(p:Array Nat)(m:Nat):Prop:=∀i,0<i->i<m->Kp κ p i<=Kp κ p (i-1)
theorem Srt.le(h:Srt κ p m):∀(d i:Nat),i+d<m->Kp κ p i<=Kp κ p (i+d)
 |0,i,_=>Int.le_refl _
 |d+1,i,a=>by
  have c:=Srt.le h d i (by omega);have h2:=h (i+(d+1)) (by omega) a;rw[show i+(d+1)-1=i+d by omega]at h2;omega
def Srt.same(h:Srt κ p m)(e:∀t,Kp κ q t=Kp κ p t):Srt κ q m:=λi c a=>by rw[e,e];exact h i c a
def Dsc.same(h:Dsc κ p m)(e:∀t,Kp κ q t=Kp κ p t):Dsc κ q m:=λi c a=>by rw[e,e];exact h i c a
def zG4(p:Array Nat)(i j:Nat):(kas_rev p i j).Perm p:=mirror_perm _ _ _ _
def Bd(n:Nat)(p:Array Nat):Prop:=0<n/\∀x∈p,x<n
def Bd.at(h:Bd n p)(t:Nat):p.getD t 0<n:=by
 rw[getD_q];cases e:p[t]? with
 |none=>exact h.1|some x=>exact h.2 x (Array.mem_of_getElem? e)
def Bd.perm(h:Bd n p)(e:q.Perm p):Bd n q:=⟨h.1,λx a=>h.2 x (e.mem_iff.mp a)⟩
def Bd.rev(h:Bd n p)(i j:Nat):Bd n (kas_rev p i j):=h.perm (zG4 _ _ _)
end DV
namespace L2
open PySem PySem.Spec PyProof.Rows PySem.W
end L2
namespace DV
open PySem L2 PyProof.Rows PySem.W
def tlt:Ls D->Ls D->Lx Bool
 | [],[]=>some false| [],_::_=>some true|_::_,[]=>some false
 |p::a,q::c=>if deq p q=true then tlt a c else match p,q with
  | .int i,.int j=>some (decide (i<j))|_,_=>none
def zEi:D->Ls D
 | .t a=>a|_=>[]
def ltAtD(ds:Ls D)(i j:Nat):Lx Bool:=tlt (zEi (ds.getD i .non)) (zEi (ds.getD j .non))
def rkD(ds:Ls D)(i:Nat):Int:=(((List.range ds.length).filter λk=>ltAtD ds k i==some true).length:Nat)
structure SortOk(ds:List D):Prop where
 few:ds.length<64
 tups:∀d∈ds,∃es,d=.t es/\(∀e∈es,eqb 18 e=true)/\(2<=ds.length->∃i r,es=.int i::r)
 lt:∀i j,i<ds.length->j<ds.length->ltAtD ds i j=some (decide (rkD ds i<rkD ds j))
 one:∀i j,i<ds.length->j<ds.length->rkD ds i=rkD ds j->ds.getD i .non=ds.getD j .non
end DV
namespace L2
open PySem PySem.Spec PyProof.Rows
end L2
namespace DV
open PySem L2
section
variable{X:Cx}{K:qH}{mg:Str->Lx Lv}
def call_or{r e:Ls V->Hp->VK->Prop}(h:j6 X f r)(h':j6 X f e):j6 X f (λc H Q=>r c H Q\/e c H Q):=by
 intro a s σ H c us Q I rv q;rcases q with q|q
 ·exact h a s σ H c us Q I rv q
 ·exact h' a s σ H c us Q I rv q
def eqG(d e:D):Lx R:=match eqF d e with
 |some r=>some r|none=>eqDD false d e
def neG(d e:D):Lx R:=match neF d e with
 |some r=>some r|none=>eqDD true d e
def zIj:ROk K mg (λx y H Q=>rEq x y H Q\/rEqD K mg false x y H Q) eqG:=by
 intro M H Z x y g c a Q f i j e k;unfold eqG at e;cases h:eqF g c with
 |some r=>rw[h]at e;cases e;exact .inl (ro_eq M H Z x y g c a Q f i j h k)|none=>rw[h]at e;exact .inr (zIi M H Z x y g c a Q f i j e k)
def zIk:ROk K mg (λx y H Q=>rNe x y H Q\/rEqD K mg true x y H Q) neG:=by
 intro M H Z x y g c a Q f i j e k;unfold neG at e;cases h:neF g c with
 |some r=>rw[h]at e;cases e;exact .inl (ro_ne M H Z x y g c a Q f i j h k)|none=>rw[h]at e;exact .inr (zIi M H Z x y g c a Q f i j e k)
def isD:D->D->Lx Bool
 | .non,.non=>some true| .bl a,.bl b=>some (a==b)| .non,.bl _=>some false| .bl _,.non=>some false| .non,.int _=>some false| .int _,.non=>some false| .non,.str _=>some false| .str _,.non=>some false| .int _,.bl _=>some false| .bl _,.int _=>some false| .str _,.bl _=>some false| .bl _,.str _=>some false| .t _,.non=>some false| .l _,.non=>some false| .t _,.bl _=>some false| .l _,.bl _=>some false|_,_=>none
def isG(neg:Bool)(d e:D):Lx R:=(isD d e).map λb=>.v (.bl (if neg then !b else b))
def isV_of(h:isD d e=some b)(c:Rep K mg H d x)(g:Rep K mg H e y):isV x y=some b:=by
 cases d<;>cases e<;>dsimp[isD]at h<;>first
  | (cases h;done)
  | (cases h;rw[jO c,jO g];rfl)
  | (cases h;rw[jJ c,jJ g];rfl)
  | (cases h;rw[jO c,jJ g];rfl)
  | (cases h;rw[jJ c,jO g];rfl)
  | (cases h;rw[jO c,zJ g];rfl)
  | (cases h;rw[zJ c,jO g];rfl)
  | (cases h;rw[jO c,wM g];rfl)
  | (cases h;rw[wM c,jO g];rfl)
  | (cases h;rw[zJ c,jJ g];rfl)
  | (cases h;rw[jJ c,zJ g];rfl)
  | (cases h;rw[wM c,jJ g];rfl)
  | (cases h;rw[jJ c,wM g];rfl)
  | (cases h;obtain⟨a,i,rfl,_⟩:=yT c;rw[jO g];rfl)
  | (cases h;obtain⟨a,i,rfl,_⟩:=yH c;rw[jO g];rfl)
  | (cases h;obtain⟨a,i,rfl,_⟩:=yT c;rw[jJ g];rfl)
  | (cases h;obtain⟨a,i,rfl,_⟩:=yH c;rw[jJ g];rfl)
def ro_is:ROk K mg (λx y H Q=>∃b,isV x y=some b/\Q (.bl b) H) (isG false):=by
 intro M H Z x y j c a Q f g i e k;unfold isG at e;cases h:isD j c with
 |none=>rw[h]at e;cases e|some b=>rw[h]at e;cases e;exact⟨b,isV_of h g i,k.flat f rfl⟩
def uC(d e:D):Lx R:=match uB d e with
 |some r=>some r
 |none=>match d,e with
  | .l a,.int k=>if -(2^63)<=k/\k<2^63/\a.length*k.toNat<=cap then some (.w (replicate k.toNat a).flatten)else none|_,_=>none
def ro_mulG:ROk K mg (λx y H Q=>rMulD K x y H Q\/rRepL K x y H Q) uC:=by
 intro M H Z x y j i c Q f o t e k;unfold uC at e;cases h:uB j i with
 |some r=>rw[h]at e;cases e;exact .inl (ro_mul M H Z x y j i c Q f o t h k)
 |none =>
  rw[h]at e;cases j with
  |l a =>
   cases i with
   |int n =>
    dsimp at e;split at e
    ·rename_i g
     cases e;obtain⟨p,w,rfl,v,h2⟩:=yH o;rw[zJ t];exact .inr ⟨p,n,w,rfl,rfl,zF.seq v,g.1,g.2.1,by rw[h2.length];exact Z7 g.2.2,λq u=>k.own f u (h2.flatten _)⟩
    ·cases e
   |_=>cases e
  |_=>cases e
def JY:Ls D->Lx (Ls Int)
 | []=>some []| .int i::ds=>(JY ds).map (i::·)|_::_=>none
theorem Zb:∀{a:Ls D} {g:Ls V} {c:Ls Int},JY a=some c->Reps K mg H a g->g=c.map V.int
 | [],_,_,e,h=>by cases e;dsimp[Reps]at h;subst h;rfl
 |d::a,_,c,e,h=>by
  dsimp[Reps]at h;obtain⟨v,r,rfl,j,h2⟩:=h;cases d with
  |int i =>
   dsimp[JY]at e;exists eb,JY a,e,cs;cases e;rw[zJ j,Zb eb h2];rfl
  |_=>cases e
def maxG:Ls D->Lx R
 | [.int i,.int j]=>zEI [.int i,.int j]
 | [.l c]=>match JY c with
  |some a=>if 0<a.length then some (.v (.int (maxAt a)))else none|none=>none
 |_=>none
def zIl:Ls D->Lx R
 | [.l a]=>(JY a).map λc=>.v (.int c.sum)| [.t a]=>(JY a).map λc=>.v (.int c.sum)|_=>none
def co_sumG:COk K mg (λi H Q=>(∃(p:Lz) (a:Ls Int),i=[.ref p]/\SqL K H p (a.map V.int)/\Q (.int a.sum) H)\/∃(p:Lz) (a:Ls Int),i=[.ref p]/\SqT K H p (a.map V.int)/\Q (.int a.sum) H) zIl:=by
 intro M H Z i g j Q f r e k
 match g,e with
 | [.l g],e =>
  dsimp[zIl]at e;exists hi,JY g,e,a;cases e;obtain⟨v,rfl,h⟩:=J3 r;obtain⟨p,l,rfl,c,h2⟩:=yH h;rw[Zb hi h2]at c;exact .inl ⟨p,a,rfl,zF.seq c,k.flat f rfl⟩
 | [.t g],e =>
  dsimp[zIl]at e;exists hi,JY g,e,a;cases e;obtain⟨v,rfl,h⟩:=J3 r;obtain⟨p,l,rfl,c,h2⟩:=yT h;rw[Zb hi h2]at c;exact .inr ⟨p,a,rfl,zL zF c,k.flat f rfl⟩
def absG:Ls D->Lx R
 | [.int i]=>some (.v (.int (if i<0 then -i else i)))|_=>none
def co_absG:COk K mg (λa H Q=>∃i,a=[.int i]/\Q (.int (if i<0 then -i else i)) H) absG:=by
 intro M H Z a c g Q f r e k
 match c,e with
 | [.int i],e =>
  cases e;obtain⟨v,rfl,h⟩:=J3 r;exact⟨i,by rw[zJ h],k.flat f rfl⟩
end
section
variable{X:Cx}{σ:St}{H:Hp}
theorem Reps.evens{g:Str->Lx Lv}:∀{c:Ls D} {i:Ls V},Reps K g H c i->Reps K g H (L2.evens c) (L2.evens i)
 | [],_,h=>by dsimp[Reps]at h;subst h;dsimp[L2.evens];exact Reps.nil
 | [d],_,h=>by
  dsimp[Reps]at h;obtain⟨v,r,rfl,a,rfl⟩:=h;dsimp[L2.evens];exact Reps.cons a Reps.nil
 |d::e::c,_,h=>by
  dsimp[Reps]at h;obtain⟨v,r,rfl,a,l,k,rfl,h2,j⟩:=h;dsimp[L2.evens];exact Reps.cons a (Reps.evens j)
theorem Reps.rev{c:Str->Lx Lv}:∀{a:Ls D} {e:Ls V},Reps K c H a e->Reps K c H a.reverse e.reverse
 | [],_,h=>by dsimp[Reps]at h;subst h;exact Reps.nil
 |d::a,_,h=>by
  dsimp[Reps]at h;obtain⟨v,r,rfl,g,h2⟩:=h;rw[reverse_cons,reverse_cons];exact(Reps.rev h2).append (Reps.cons g Reps.nil)
def Reps.step{a:Str->Lx Lv}(k:Bool)(h:Reps K a H ds xs):Reps K a H (Qt k ds) (Qt k xs):=by
 cases k
 ·dsimp[Qt,Bool.false_eq_true,if_false];exact h.rev
 ·dsimp[Qt,if_true];exact h.evens
def sTup(a:Ls Nat)(m:ME):MS:=λE=>match m E with
 | .z=>.z| .y x E1=>.y x E1
 | .ok (r,E1)=>match gT a r.d E1 with
  | .ok E2=>.ok (.nx,E2)|_=>.z
def zG5{a:Ls Nat}{m:ME}{D:Ends}(h:tS X (sTup a m) D σ H):tAsg (tM X m) (gTup X.K a.length (YX a)) D σ H:=by
 obtain⟨M,E,hl,fr,k⟩:=h;unfold sTup at k;refine zc (T0:=[]) hl fr ?_;cases e:m E with
 |z=>rw[e]at k;exact k|y x E1=>rw[e]at k;exact λH' g=>k σ H' g
 |ok p =>
  obtain⟨r,E1⟩:=p;rw[e]at k;intro v H1 g;dsimp at k;cases c:gT a r.d E1 with
  |z=>rw[c]at k;exact k.elim|y _ _=>rw[c]at k;exact k.elim
  |ok E2 =>
   rw[c]at k;have i:=g.dropAll;exact zIc (X:=X) a rfl M σ E1 H1 [] v r.d E2 _ i.len (FR.add i.frame g.rep) c λσ' j=>k σ' H1 (i.trans' j)
def sk_tup(g:PG X (.Tuple es k p) (gTup X.K is.length (YX is)))(a:EOk X e m)(h:swapsWithSole [.Tuple es k p] e pos.line X.env=pure false)(c:swappedStores [.Tuple es k p] e X.env=pure none):SOk X (.Assign [.Tuple es k p] e pos) (sTup is m) :=
 yx (zDd a g h c) λD σ H=>zG5
def sPar(i j:Nat)(m:MA):MS:=λE=>match m E with
 | .z=>.z| .y x E1=>.y x E1
 | .ok ([a,c],E1)=>match gNs [i,j] [a.d,c.d] E1 with
  | .ok E2=>.ok (.nx,E2)|_=>.z
 |_=>.z
def zG6{i j:Nat}{m:MA}{D:Ends}(h:tS X (sPar i j m) D σ H):tPar i j (tMA X m) D σ H:=by
 obtain⟨M,E,hl,fr,k⟩:=h;unfold sPar at k;refine YV (T0:=[]) hl fr ?_;cases e:m E with
 |z=>rw[e]at k;exact k|y x E1=>rw[e]at k;exact λH' g=>k σ H' g
 |ok p =>
  obtain⟨C,E1⟩:=p;rw[e]at k
  match C,k with
  | [n,o],k =>
   intro t H1 hv g;dsimp at k;cases c:gNs [i,j] [n.d,o.d] E1 with
   |z=>rw[c]at k;exact k.elim|y _ _=>rw[c]at k;exact k.elim
   |ok E2 =>
    rw[c]at k
    match t,hv with
    | [v,w],_ =>
     have J:=Got.reps rfl g;have l:=g.dropAll;have q:=vD (X:=X) [i,j] [n.d,o.d] [v,w] (a:=0) (ts:=[]) (Q:=D.nx) (Got.refl (T0:=[]) l.len l.fr) J c λσ' G=>k σ' H1 (l.trans' G)
     obtain⟨O,K,u,R,r,I,L,q⟩:=q;cases u;cases I;exact⟨v,w,rfl,q⟩
  | [],k=>exact k.elim| [_],k=>exact k.elim|_::_::_::_,k=>exact k.elim
def sk_any:SOk X st (λ_=>.z):=yx zGI λD σ H ⟨M,E,hl,fr,k⟩=>k
end
section
variable{X:Cx}{σ:L2.St}{H:Hp}
def eMet(f:D->D->Lx R)(a b:ME):ME:=λE=>match a E with
 | .z=>.z| .y x E1=>.y x E1
 | .ok (c,E1)=>match c.d with
  | .l _=>(match b E1 with
   | .z=>.z| .y x E2=>.y x E2
   | .ok (e,E2)=>match f c.d e.d with
    |some r=>.ok (r,E2)|none=>.z)
  |_=>.z
def met_run{f:D->D->Lx R}{rel:V->Ls V->Hp->VK->Prop}(I:ROk X.K X.mg (λx y H Q=>rel x [y] H Q) f)(h:tM X (eMet f a b) σ H Q):tBM X.K "list" rel (tM X a) (zCw (tM X b) tNil) σ H Q:=by
 obtain⟨M,E,hl,fr,k⟩:=h;unfold eMet at k;refine zc (T0:=[]) hl fr ?_;exists ea,a E,k,r1,E1;intro x H1 e;dsimp at k;cases i:r1.d with
 |l o =>
  rw[i]at k;have c:=e.rep;rw[i]at c;obtain⟨l,t,J,q,_⟩:=yH c;subst J;refine⟨(show tyV X.K "list" (.ref l) H1 from .inl ⟨rfl,t,zF.seq q⟩),?_⟩;refine zc (T0:=[(some (.ref l),r1.slot)]) e.len e.fr ?_;cases j:b E1 with
  |z=>rw[j]at k;exact k|y x E2=>rw[j]at k;exact λH' g=>k H' (e.trans' g).dropAll
  |ok p =>
   obtain⟨n,E2⟩:=p;rw[j]at k;intro y H2 K;have g:=e.trans' K;have L:=Got.reps (vs:=[y,.ref l]) (rs:=[n,r1]) rfl g;obtain⟨W,_,C,w,S,_,G,c,_⟩:=L;cases C;cases G;dsimp at k;exists ef,f (.l o) n.d,k,r;rw[i]at c;exact I M H2 _ (.ref l) y (.l o) n.d r Q g.frame c w ef λv H' u O=>k v H' (g.more (T:=[(some v,r.slot)]) u O)
 |_=>rw[i]at k;exact k.elim
end
end DV
namespace DV
open PySem L2 PyProof.Rows
def xinIn(K:qH)(C f:Lz):Bool:=match K.lookup C with
 |some ⟨.type "type",_,.cls a,c⟩=>(match a.mro,c.toList with
  | .ref C'::e,[_,_,_,_,some (.builtin n),_]=>(C'==C&&n == "ValueError.__new__")&&(!a.hasDel&&PySem.W.tailIn K VB e)&&(PySem.W.nsOkIn K a.ns&&nsIn K a.ns "__init__" == some (some (.ref f)))|_,_=>false)
 |_=>false
def XO(C a:Lz)(c:Lx Lz):HO:=.ext λh=>∃o t,h.get? a=some o/\o.cls=.ref C/\o.dict=c/\o.data=.fields #[.ref t,.none,.none,.none,.bool false,.none]
def spI(c:Str)(C:Lz):Sp:=λg H Q _=>∃(a:Lz) (e:Ls Int),g=.ref a::e.map V.int/\e.length=(zAm c).length/\(∀n∈e,n.natAbs.log2<1920)/\H a=some (XO C a none)/\∀d,H d=none->Q .non (upd (upd H d (XD d (fsV c e))) a (XO C a (some d)))
def RIok(P:Lc)(w:Le)(K:qH)(e:Str->Lx Lv)(base:Heap)(c:Str):Prop:=∃C f a,e c=some (.ref C)/\keepIn K (.ref C)=true/\xinIn K C f=true/\typeIn K (.ref f)=some (.type "function") /\
 ZS K a ("self"::zAm c) []/\FnOkN true P w K e base 2 f a ("self"::zAm c) (spI c C)
end DV
namespace DV
open PySem L2 PyProof.Rows
open PySem.W (Looks)
structure TGet(K:qH)(T:Lz):Prop where
 rd:PySem.W.readsIn K T (.type "type")=true
 sp:specialIn K (.ref T) "__getattribute__"=some (some (.builtin "type.__getattribute__"))
 fc:PySem.W.findCls K (.ref T) (.type "type") "__init__"=some (.val (.builtin "ValueError.__init__"))
structure RiAt(K:qH)(mg:Str->Lo)(c:Str)(st:Lf):Prop where
 ex:∃C T f fd qual,mg c=some (.ref C)/\mg "ThrowError"=some (.ref T)/\keepIn K (.ref C)=true/\xinIn K C f=true/\typeIn K (.ref f)=some (.type "function")/\Fun K "__init__" qual st f fd/\ZS K fd ("self"::zAm c) []/\TGet K T/\XSet K C T/\∀n∈zAm c,findIn K (.ref C) n=some none
def ris_nil{R:Str->Prop}:∀c∈([]:Ls Str),R c:=λ_ h=>by cases h
def RAok(K:qH)(a:Str->Lx Lv)(c:Str):Prop:=∃C T,a c=some (.ref C)/\a "ThrowError"=some (.ref T)/\XSet K C T/\∀n∈zAm c,findIn K (.ref C) n=some none
end DV
namespace DV
open PySem L2
section
variable{X:Cx}{σ:L2.St}{H:Hp}{K:qH}{mg:Str->Lx Lv}{M:Ld}{E E1:zU}{T0:Fz}
def whN(c:MT)(b:MS):Nat->MS
 |0=>λ_=>.z
 |n+1=>λE=>match c E with
  | .z=>.z| .y x E1=>.y x E1| .ok (false,E1)=>.ok (.nx,E1)
  | .ok (true,E1)=>match b E1 with
   | .ok (.nx,E2)=>whN c b n E2| .ok (.ct,E2)=>whN c b n E2| .ok (.bk,E2)=>.ok (.nx,E2)|o=>o
def whN_run{c:MT}{b:MS}{D:Ends}{n:Nat}(h:tS X (whN c b n) D σ H):zIK (tMT X c) (tS X b) D σ H:=by
 refine⟨λm σ H=>tS X (whN c b m) D σ H,⟨n,h⟩,λm σ H h=>?_⟩;cases m with
 |zero=>obtain⟨M,E,hl,fr,k⟩:=h;exact k.elim
 |succ m =>
  obtain⟨M,E,hl,fr,k⟩:=h;unfold whN at k;refine JV (T0:=[]) hl fr ?_;cases l:c E with
  |z=>rw[l]at k;exact k|y x E1=>rw[l]at k;exact λH' g=>k σ H' g
  |ok p =>
   obtain⟨t,E1⟩:=p;rw[l]at k;intro H1 a;cases t with
   |false=>exact zGV (k σ H1 a)
   |true =>
    refine zGW ⟨λσ' H'=>tS X (whN c b m) D σ' H',λσ' H' q=>⟨m,lt_succ_self m,q⟩,?_⟩;refine uf (T0:=[]) a.len a.fr ?_;dsimp at k;cases o:b E1 with
    |z=>rw[o]at k;exact k|y x E2=>rw[o]at k;exact λσ' H' g=>k σ' H' (a.trans' g)
    |ok p =>
     obtain⟨u,E2⟩:=p;rw[o]at k;cases u with
     |ret r=>exact λv σ' H' g=>k v σ' H' (a.trans' g)|bk=>exact λσ' H' g=>k σ' H' (a.trans' g)|nx=>exact λσ' H' g=>go a g k|ct=>exact λσ' H' g=>go a g k
where
 go {c:MT} {b:MS} {D:Ends} {n:Nat} {M:Ld} {σ σ1 σ':L2.St} {E E1 E2:zU} {H H1 H':Hp} (a:Got X.K X.mg M σ E H [] σ1 E1 H1 []) (g:Got X.K X.mg M σ1 E1 H1 [] σ' E2 H' [])
  (k:match whN c b n E2 with
   | .z=>False| .ok (.nx,E')=>∀σ' H',Got X.K X.mg M σ E H [] σ' E' H' []->D.nx σ' H'| .ok (.bk,E')=>∀σ' H',Got X.K X.mg M σ E H [] σ' E' H' []->D.bk σ' H'| .ok (.ct,E')=>∀σ' H',Got X.K X.mg M σ E H [] σ' E' H' []->D.ct σ' H'| .ok (.ret r,E')=>∀v σ' H',Got X.K X.mg M σ E H [] σ' E' H' [(some v,r.slot)]->D.rt v H'
   | .y x E'=>∀σ' H',Got X.K X.mg M σ E H [] σ' E' H' []->XE X σ' H' x):tS X (whN c b n) D σ' H':=by
  have j:=a.trans' g;refine uf (T0:=[]) j.len j.fr ?_;cases e:whN c b n E2 with
  |z=>rw[e]at k;exact k|y x E3=>rw[e]at k;exact λσ3 H3 i=>k σ3 H3 (j.trans' i)
  |ok p =>
   obtain⟨u,E3⟩:=p;rw[e]at k;cases u with
   |nx=>exact λσ3 H3 i=>k σ3 H3 (j.trans' i)|bk=>exact λσ3 H3 i=>k σ3 H3 (j.trans' i)|ct=>exact λσ3 H3 i=>k σ3 H3 (j.trans' i)|ret r=>exact λv σ3 H3 i=>k v σ3 H3 (j.trans' i)
def sWhile(c:MT)(b:MS):MS:=whN c b 1000000
def zG7(g:PassesOwn (model X.prog X.w) X.A X.env X.xe)(a:TOk X c mc)(e:zAe X body mb):SOk X (.While c body [] pos) (sWhile mc mb) :=
 yx (zGK g a e) λD σ H h=>whN_run h
def sAug(i:Nat)(f:Int->Int->Lx Int)(m:ME):MS:=λE=>match E[i]? with
 |some (.v (.int a))=>(match m E with
  | .z=>.z| .y x E1=>.y x E1
  | .ok (r,E1)=>match r.d with
   | .int b=>(match E1[i]?,f a b with
    |some (.v (.int c)),some z=>if c=a then .ok (.nx,E1.set i (.v (.int z)))else .z|_,_=>.z)
   |_=>.z)
 |_=>.z
def zAz{i:Nat}{f:Int->Int->Lx Int}{t:TIp}{m:ME}{D:Ends}(hi:∀a b z H Q,f a b=some z->Q (.int z) H->t (.int a) (.int b) H Q)(h:tS X (sAug i f m) D σ H):tAug i (tM X m) t D σ H:=by
 obtain⟨M,E,hl,fr,k⟩:=h;unfold sAug at k;exists e0,E[i]?,k,s0;cases s0 with
 |v d =>
  cases d with
  |int a =>
   dsimp at k;obtain⟨o,G,h2⟩:=jN hl e0;obtain⟨v,rfl,K⟩:=fr.val o (.int a) h2;have ev:=zJ K;subst ev;refine⟨.int a,G,?_⟩;refine zc (T0:=[]) hl fr ?_;cases e:m E with
   |z=>rw[e]at k;exact k|y x E1=>rw[e]at k;exact λH' g=>k σ H' g
   |ok p =>
    obtain⟨r,E1⟩:=p;rw[e]at k;intro y H1 g;dsimp at k;cases j:r.d with
    |int b =>
     rw[j]at k;dsimp at k;have q:=g.rep;rw[j]at q;have I:=zJ q;subst I;cases c:E1[i]? with
     |none=>rw[c]at k;exact k.elim
     |some n =>
      cases l:f a b with
      |none=>rw[c,l]at k;cases n<;>first|exact k.elim|(rename_i d;cases d<;>exact k.elim)
      |some z =>
       rw[c,l]at k;cases n with
       |v J =>
        cases J with
        |int C =>
         dsimp at k;by_cases u:C=a
         ·rw[if_pos u]at k
          refine hi a b z _ _ l (k _ H1 ?_);have w:=g.dropAll.flat (d:=.int z) rfl;exact GV (r:=.v (.int z)) w (by dsimp[Wc,c];rfl)
         ·rw[if_neg u]at k;exact k.elim
        |_=>exact k.elim
       |_=>exact k.elim
    |_=>rw[j]at k;exact k.elim
  |_=>exact k.elim
 |_=>exact k.elim
def ip_mulB:PIp X .Mult (λx y H Q=>∃i j,x=.int i/\y=.int j/\CMulB i j/\Q (.int (i*j)) H):=by
 intro a s σ H x y v u Q I r1 r2 h;obtain⟨i,j,c,g,e,q⟩:=h;subst c;subst g;obtain⟨t,rfl⟩:=r1;obtain⟨k,rfl⟩:=r2;refine PyProof.Rows.imul_int ⟨.int _,H,I.tok _,⟨_,rfl⟩,q⟩ ?_;rcases e with h|h
 ·exact h.ok
 ·exact zEH h.1 h.2
def Qu:Int->Int->Lx Int:=λa b=>if((-(2^64)<a/\a<2^64)\/(-(2^64)<b/\b<2^64))\/(a.natAbs<Big/\b.natAbs<Big)then some (a*b)else none
def zEj{i:Nat}{x:Str}{e:Lb}{m:ME}{g c:Pos}(l:X.N.Nodup)(hi:X.N[i]?=some x)(k:Loc X.env.scope x)(n:X.fn x=true\/X.env.scope.names.lookup x=some .local)(j:EOk X e m):SOk X (.AugAssign (.Name x c) .Add e g) (sAug i (λa b=>some (a+b)) m) :=
 yx (zDe l hi k j zIJ n) λD σ H h=>zAz (λa b z H Q o q=>by cases o;exact⟨a,b,rfl,rfl,q⟩) h
def zEk{i:Nat}{x:Str}{e:Lb}{m:ME}{g c:Pos}(l:X.N.Nodup)(hi:X.N[i]?=some x)(k:Loc X.env.scope x)(n:X.fn x=true\/X.env.scope.names.lookup x=some .local)(j:EOk X e m):SOk X (.AugAssign (.Name x c) .Sub e g) (sAug i (λa b=>some (a-b)) m) :=
 yx (zDe l hi k j ip_sub n) λD σ H h=>zAz (λa b z H Q o q=>by cases o;exact⟨a,b,rfl,rfl,q⟩) h
def zEl{i:Nat}{x:Str}{e:Lb}{m:ME}{j c:Pos}(o:X.N.Nodup)(hi:X.N[i]?=some x)(n:Loc X.env.scope x)(p:X.fn x=true\/X.env.scope.names.lookup x=some .local)(k:EOk X e m):SOk X (.AugAssign (.Name x c) .Mult e j) (sAug i Qu m) :=
 yx (zDe o hi n k ip_mulB p) λD σ H h=>zAz (λa b z H Q g q=>by
  unfold Qu at g;split at g
  ·rename_i l
   cases g;exact⟨a,b,rfl,rfl,l,q⟩
  ·cases g) h
end
mutual
def pyD:D->Lx PyData
 | .non=>some .none| .bl b=>some (.bool b)| .int i=>some (.int i)| .str x=>some (.str x)| .t a=>(pyDs a).map .tuple| .l a=>(pyDs a).map .list| .dic=>some (.dict [])|_=>none
def pyDs:Ls D->Lx (Ls PyData)
 | []=>some []
 |d::a=>match pyD d,pyDs a with
  |some x,some c=>some (x::c)|_,_=>none
end
section
variable{X:Cx}{σ:L2.St}{pins:Ls (Lz×Obj)}{H:Hp}{s:La}
def zDV(K:qH):Prop:=∃o a n,K.lookup sysModules=some o/\o.data=.dict a n
def sm_ne(I:Inv X pins σ H s)(S:zDV X.K)(g:s.heap.get? a=some o)(c:o.data=.seq vs n):sysModules≠a:=by
 obtain⟨p,j,m,h,i⟩:=S;intro e;have:=I.kIn _ _ h;rw[e,g]at this;cases this;rw[i]at c;cases c
mutual
theorem jS(I:Inv X pins σ H s)(S:zDV X.K):∀{d:D} {v:V} {u:Lv} {x:PyData},Rep X.K X.mg H d v->yb v u->pyD d=some x->∃as,Reads s.heap u x as/\sysModules∉as
 | .non,v,u,x=>λr c e=>by cases e;rw[jO r]at c;cases (show u=Value.none from c);exact⟨_,.none,by simp⟩| .bl b,v,u,x=>λr c e=>by cases e;rw[jJ r]at c;cases (show u=Value.bool b from c);exact⟨_,.bool b,by simp⟩| .int i,v,u,x=>λr c e=>by cases e;rw[zJ r]at c;obtain⟨t,q⟩:=(show ∃t,u=Value.int i t from c);subst q;exact⟨_,.int i t,by simp⟩| .str y,v,u,x=>λr c e=>by cases e;rw[wM r]at c;obtain⟨t,q⟩:=(show ∃t,u=Value.str y t from c);subst q;exact⟨_,.str y t,by simp⟩
 | .t w,v,u,x=>λr c e=>by
  obtain⟨a,R,rfl,j,h2⟩:=yT r;cases (show u=Value.ref a from c);obtain⟨G,C,p,_⟩:=I.tuple j;obtain⟨o,k,E,n,l⟩:=p;dsimp[pyD]at e;exists eq,pyDs w,e,K;cases e;obtain⟨as,q,z⟩:=readss_of I S h2 C eq;exact⟨_,.tuple k E l (by exists q),z⟩
 | .l w,v,u,x=>λr c e=>by
  obtain⟨a,R,rfl,j,h2⟩:=yH r;cases (show u=Value.ref a from c);obtain⟨G,C,p,_⟩:=I.list j;obtain⟨o,n,k,E,_,l⟩:=p;dsimp[pyD]at e;exists eq,pyDs w,e,K;cases e;obtain⟨as,q,z⟩:=readss_of I S h2 C eq;exact⟨_,.list k E l (by exists q),λg=>(mem_cons.mp g).elim (sm_ne I S k l) z⟩
 | .fn y,v,u,x=>λr c e=>by cases e
 | .dic,v,u,x=>λr c e=>by
  cases e;dsimp[Rep]at r;obtain⟨a,rfl,j⟩:=r;cases (show u=Value.ref a from c);obtain⟨_,Z,vs,O,o,M,ep,W,Y,Q,_,J,_⟩:(([]:Ls (Key×V)).length<=sizeLine)/\(a==sysModules)=false/\∃vs,KV [] vs/\s.heap.DictOf (zAh X.prog X.w) a vs:=I.hok a _ j;cases O;have L:M.toList=[]:=by cases h:M.toList with|nil=>rfl|cons y K=>rw[h]at J;cases J
  refine⟨_,.dict W Y.1 Q (kvs:=[]) (by rw[L];exact .nil) (by rw[L];exact .nil),λg=>?_⟩;rcases mem_cons.mp g with g|g
  ·exact beq_eq_false_iff_ne.mp Z g.symm
  ·cases g
 | .exn _ _,_,_,_=>λ_ _ e=>by cases e| .m _ _,_,_,_=>λ_ _ e=>by cases e
theorem readss_of(I:Inv X pins σ H s)(S:zDV X.K):∀{h:Ls D} {a:Ls V} {g:Ls Lv} {i:Ls PyData},Reps X.K X.mg H h a->yA a g->pyDs h=some i->∃as,ReadsAll s.heap g i as/\sysModules∉as
 | [],a,g,i=>λr k e=>by
  cases e;dsimp[Reps]at r;subst r;cases k;exact⟨_,.nil,by simp⟩
 |d::h,a,g,i=>λr k e=>by
  dsimp[Reps]at r;obtain⟨v,n,rfl,w,y⟩:=r;cases k with
  |cons p q =>
   dsimp[pyDs]at e;cases c:pyD d with
   |none=>rw[c]at e;cases e
   |some x =>
    cases j:pyDs h with
    |none=>rw[c,j]at e;cases e
    |some C =>
     rw[c,j]at e;cases e;obtain⟨as,o,z⟩:=jS I S w p c;obtain⟨bs,l,u⟩:=readss_of I S y q j;exact⟨_,.cons o l,λt=>(mem_append.mp t).elim z u⟩
end
end
end DV
namespace L2
open PySem PySem.Spec PyProof.Rows
section
variable{X:Cx}{pins:Ls (Lz×Obj)}{σ:Ls (Lx V)}{H:Hp}{s:La}{h':Heap}
def Inv.turnLay{t':Nat}{fp:Ls Lz}{q:Lz}{xs:Ls V}(I:Inv X pins σ H s)(j:∀b∈fp,zBk X pins H b)(k:∀b o,b∉fp->s.heap.get? b=some o->h'.get? b=some o)(p:s.heap.objs.size<=q)(l:jL X.prog X.w (upd H q (.t xs)) h' q (.t xs)):Inv X pins σ (upd H q (.t xs)) {s with heap:=h',toks:=t'}:=by
 have w:H q=none:=I.hok.fresh p;have h:∀b u,H b=some u->b≠q:=λb u e z=>by rw[z,w]at e;cases e
 have nf:∀b u,H b=some u->b∉fp:=λb u e z=>by rw[(j b z).1]at e;cases e
 refine I.step (g':=s.gens) (d':=s.drawn) (ch:=fp) (λb i=>?_) (λb o _ _ a e _=>k b o a e) (λb o _ _ a e _=>⟨o.slots,k b o a e⟩) (λb o _ e n=>?_) (λb o a e=>⟨o,k b o a e⟩)
  (λb C e=>?_) (λb o u e=>?_) (λb K e=>⟨#[],?_⟩) (λm y=>?_) (λb u e=>?_) I.bare
 ·obtain⟨_,G,_,D,x,t⟩:=j b i
  exact⟨D,G,x,t⟩
 ·have:b≠q:=λz=>by subst z;exact absurd (lt_of_lt_of_le (lt_size e) p) (lt_irrefl _)
  rw[zk this];exact n
 ·rw[zk (h b _ e)];exact e
 ·rw[zk (h b _ e)];exact e
 ·rw[zk (h b _ e),e];simp
 ·obtain⟨o,E,J,ho,r⟩:=y
  exact⟨o,E,J,k _ o (λz=>(j _ z).2.1 rfl) ho,r⟩
 ·by_cases i:b=q
  ·subst i;rw[y3]at e;cases e;exact l
  ·rw[zk i]at e
   refine(I.hok b u e).stay (λc v a g=>k c v ?_ g) (λc g=>?_) λc C g=>?_
   ·rcases a with z|z
    ·rw[z];exact nf b u e
    ·exact nf c _ z
   ·rw[zk (h c _ g)];exact g
   ·rw[zk (h c _ g)];exact g
def Inv.turnL{t':Nat}{fp:Ls Lz}(I:Inv X pins σ H s)(g:∀b∈fp,zBk X pins H b)(k:∀b o,b∉fp->s.heap.get? b=some o->h'.get? b=some o):Inv X pins σ H {s with heap:=h',toks:=t'}:=by
 have nf:∀b u,H b=some u->b∉fp:=λb u e z=>by rw[(g b z).1]at e;cases e
 refine I.step (g':=s.gens) (d':=s.drawn) (ch:=fp) (λb x=>?_) (λb o _ _ a e _=>k b o a e) (λb o _ _ a e _=>⟨o.slots,k b o a e⟩) (λ_ _ _ _ n=>n) (λb o a e=>⟨o,k b o a e⟩)
  (λ_ _ e=>e) (λ_ _ _ e=>e) (λb C e=>⟨#[],by rw[e];simp⟩) (λm j=>?_) (λb u e=>?_) I.bare
 ·obtain⟨_,w,_,p,i,h⟩:=g b x
  exact⟨p,w,i,h⟩
 ·obtain⟨o,t,y,ho,r⟩:=j
  exact⟨o,t,y,k _ o (λz=>(g _ z).2.1 rfl) ho,r⟩
 ·refine(I.hok b u e).stay (λc v a l=>k c v ?_ l) (λ_ q=>q) λ_ _ q=>q
  rcases a with z|z
  ·rw[z];exact nf b u e
  ·exact nf c _ z
end
end L2
namespace DV
open PySem
abbrev IsZ(h:Heap)(z a c:Lz)(e:Lv)(b:Bool):Prop:=h.get? z=some {cls:=.type "zip",dict:=none,data:=.fields #[e,.bool b,.bool false,.ref a,.ref c],slots:=#[]}
def Wt(c:Lv):Prop:=c=.none\/∃a:Nat,c=rawInt a
section
variable{prog:Lc}{w:Le}{A:Lg}{E:Ly}{s:La}
def st_iter{α:Type}{Q:α->La->Prop}(j:A.handled=none)(h:∀c e,(∀b o,s.heap.get? b=some o->c.get? b=some o)->(∃o,c.get? e=some o/\o.cls=.type "StopIteration")->E (.ref e) {s with heap:=c}):wpAny (model prog w) A.in1 (Builtin.SmallTypes.stopIteration:Sem α) Q E s:=by
 refine qB ?_;refine qB (wpAny_newObj_type ?_ (by size_fits));refine qB (m:=firstArgMember _ _) (wpAny_of_eq (a:=Value.none) rfl ?_);refine wpAny_newObj_type ?_ (by size_fits);have g:A.in1.handled=none:=j;refine qB (wpAny_handled ?_);rw[g];refine qB (qC (wpAny_throw ?_));exact h _ _ (λb o i=>qA _ (qA _ i)) ⟨_,get?_push_size _ rfl,rfl⟩
def sp_tup{Q:Lx Lv->La->Prop}(z:A.handled=none)(c:s.heap.IsTupleIter it t i)(l:s.heap.IsTuple t items)
  (j:∀x,items[i]?=some x->∀a,a.IsTupleIter it t (i+1)->Heap.SameBut it s.heap a->Q (some x) {s with heap:=a})
  (v:items[i]?=none->∀a e,Heap.ExtBut it s.heap a->(∃o,a.get? e=some o/\o.cls=.type "StopIteration")->E (.ref e) {s with heap:=a}) :
  wpAny (model prog w) A (callSpecial? (.ref it) (Str.ofString "__next__")) Q E s:=by
 have⟨o,ho,h,hd⟩:=id c;obtain⟨u,hu,_,n,r⟩:=l;refine wpAny_callSpecial?_slot c.typeIs F.slot_tuple_iterator_next (wpAny_call_entry F.slot_tuple_iterator_next c.typeIs F.entry_tuple_iterator_next ?_ (F.args_tuple_iterator_next_1 _));refine qB (m:=field (.ref it) 0) (wpAny_field ho hd (x:=.ref t) rfl ?_);have C:¬(Value.ref t==Value.none)=true:=qF;refine qB (m:=field (.ref it) 1) (wpAny_field ho hd (x:=.int i 0) rfl ?_);refine qB (m:=seqItems? (.ref t)) (wpAny_seqItems hu r ?_);cases g:items[i]? with
 |some x =>
  dsimp[Int.toNat_natCast,g];refine qB (wpAny_setField ho hd (by simp) (qC ⟨x,rfl,j x g _ ?_ (Heap.SameBut.update ..)⟩));exact⟨_,get?_update_self _ ho (Obj.isFreed_of_fields (Obj.data_mapFields hd _)),(Obj.cls_mapFields ..).trans h,by rw[Obj.data_mapFields hd];simp[rawInt]⟩
 |none =>
  dsimp[Int.toNat_natCast,g];refine qB (wpAny_rule (qB (wpAny_setField ho hd (by simp) ?_)));refine st_iter z λa e k q=>v g a e (λb o y p=>k b o ?_) q
  exact(Heap.SameBut.update ..).extBut b o y p
structure Src(prog:Lc)(w:Le)(A:Lg)(it l:Lz)(items:Lh)(st:Ll):Prop where
 keep:∀{i:Nat} {h h':Heap},st i h->(∀b,b=it\/b=l->∀o,h.get? b=some o->h'.get? b=some o)->st i h'
 lt:∀{i:Nat} {h:Heap},st i h->it<h.objs.size
 next:∀{i:Nat} {s:La} {Q:Ly} {E:Ly},st i s.heap->(∀x,items[i]?=some x->∀h',st (i+1) h'->Heap.SameBut it s.heap h'->Q x {s with heap:=h'}) ->
  (items[i]?=none->∀h' e,Heap.ExtBut it s.heap h'->(∃o,h'.get? e=some o/\o.cls=.type "StopIteration")->E (.ref e) {s with heap:=h'})->wpAny (model prog w) A (Builtin.SmallTypes.nextOf (.ref it)) Q E s
def src_tup(n:A.handled=none)(l:t≠it)(items:Lh):Src prog w A it t items (λi h=>h.IsTupleIter it t i/\h.IsTuple t items) where
 keep:=λst k=>⟨st.1.at λo e=>k it (.inl rfl) o e,st.2.at λo e=>k t (.inr rfl) o e⟩
 lt:=λst=>by obtain⟨⟨o,e,_⟩,_⟩:=st;exact lt_size e
 next:=λ{i s Q E} st c h2=>by
  exact qB (sp_tup n st.1 st.2 (λx j g a b=>qC (c x j g ⟨a,st.2.extBut b.extBut l⟩ b)) h2)
def zG8(n:A.handled=none)(l:t≠it)(items:Lh):Src prog w A it t items (λi h=>h.IsListIter it t i/\h.IsList t items) where
 keep:=λst k=>⟨st.1.at λo e=>k it (.inl rfl) o e,st.2.at λo e=>k t (.inr rfl) o e⟩
 lt:=λst=>by obtain⟨⟨o,e,_⟩,_⟩:=st;exact lt_size e
 next:=λ{i s Q E} st g h2=>by
  cases c:items[i]? with
  |some x=>exact wpAny_nextOf_list_item st.1 st.2 c λj a b=>g x c j ⟨a,st.2.extBut b.extBut l⟩ b|none=>exact wpAny_nextOf_list_end n st.1 st.2 c (h2 c)
def zG9{Q:Bool->La->Prop}(i:IsZ s.heap z TI TO f0 b)(n:Wt f0)(k:Q true s)(hn:∀g j,IsZ g z TI TO f0 j->(∀c o,c≠z->s.heap.get? c=some o->g.get? c=some o)->g.objs.size=s.heap.objs.size->Q false {s with heap:=g}) :
  wpAny (model prog w) A (Builtin.SmallTypes.ownedTupleIsFree (.ref z)) Q E s:=by
 rcases n with rfl|⟨a,rfl⟩
 ·exact qB (wpAny_field i rfl (x:=.none) rfl (qC k))
 ·refine qB (wpAny_field i rfl (x:=rawInt a) rfl ?_)
  refine qB ?_;have al:∀(Q':Lx Obj->La->Prop),Q' (s.heap.get? (a:Int).toNat) s->wpAny (model prog w) A (loadIfAlive (a:Int).toNat) Q' E s:=λQ' h=>λ_ _ _=>h
  refine al _ ?_;cases s.heap.get? (a:Int).toNat with
  |none=>exact qC k
  |some o =>
   refine qB (wpAny_field i rfl (x:=.bool b) rfl ?_);cases b with
   |true=>exact qC (hn s.heap true i (λ_ _ _ e=>e) rfl)|false=>exact qB (wpAny_setField_rec i (by simp) λg l j=>qC (hn g true l (λc o p e=>j.extBut _ _ p e) j.1))
def zq_next{j r:Ll}{Q:Ly}(G:Src prog w A i1 l1 xs j)(J:Src prog w A i2 l2 ys r)(D:ZipApart z TI TO i1 i2 l1 l2)
  (S:IsZ s.heap z TI TO f0 bb) (hf:Wt f0) (Z:IsPair s.heap TI (.ref i1) (.ref i2)) (R:IsPair s.heap TO a b) (h1:j k s.heap) (h2:r k s.heap)
  (hQ:∀x y,xs[k]?=some x->ys[k]?=some y->∀C f1 b1,Wt f1->IsZ C z TI TO f1 b1->(∃u v,IsPair C TO u v)->j (k+1) C->r (k+1) C->IsPair C s.heap.objs.size x y ->
   (∀c o,c≠z->c≠TO->c≠i1->c≠i2->s.heap.get? c=some o->C.get? c=some o)->Q (.ref s.heap.objs.size) {s with heap:=C})
  (V:xs[k]?=none\/ys[k]?=none->∀C e,(∀c o,c≠z->c≠TO->c≠i1->c≠i2->s.heap.get? c=some o->C.get? c=some o)->(∃o,C.get? e=some o/\o.cls=.type "StopIteration")->E (.ref e) {s with heap:=C}) :
  wpAny (model prog w) A (Builtin.«zip.__next__» ⟨[.ref z],[]⟩) (λfin s'=>∃v,fin=.done (.ret v)/\Q v s') E s:=by
 refine qB (m:=field (.ref z) 2) (wpAny_field S rfl (x:=.bool false) rfl ?_);refine qB (m:=field (.ref z) 3) (wpAny_field S rfl (x:=.ref TI) rfl ?_);refine qB (wpAny_seqItems Z rfl ?_);refine qB (m:=Builtin.SmallTypes.ownedTupleIsFree (.ref z)) (zG9 S hf ?_ λg1 b1 W k1 e1=>?_)
 ·dsimp[if_true]
  refine qB (wpAny_rule (qB (wpAny_field S rfl (x:=.ref TO) rfl (qB (wpAny_setField_rec S (by simp) λg1 W b1=>?_)))));refine qB ?_;have s1:j k g1:=G.keep h1 λc g o e=>b1.extBut c o (by rcases g with rfl|rfl;exact D.i1z;exact D.l1z) e
  refine qB (qB (wpAny_onRaise (qB (m:=Builtin.SmallTypes.nextOf (.ref i1)) (G.next s1 (λx M g2 s2 p=>qC ?_) λM g2 e p K=>?_))))
  ·have t2:IsPair g2 TO a b:=p.extBut _ _ D.TOi1 (b1.extBut _ _ D.TOz R)
   refine qB (wpAny_seqItems t2 rfl (qB (wpAny_updateSeq_pair t2 λg3 t3 l=>qB (wpAny_letGo (qC ?_)))));have O:∀c o,c≠z->c≠TO->c≠i1->s.heap.get? c=some o->g3.get? c=some o:=λc o h t i e=>l.extBut _ _ t (p.extBut _ _ i (b1.extBut _ _ h e))
   have s3:j (k+1) g3:=G.keep s2 λc g o e=>l.extBut c o (by rcases g with rfl|rfl;exact D.TOi1.symm;exact D.l1TO) e
   have r3:r k g3:=J.keep h2 λc g o e=>O c o (by rcases g with rfl|rfl;exact D.i2z;exact D.l2z) (by rcases g with rfl|rfl;exact D.TOi2.symm;exact D.l2TO) (by rcases g with rfl|rfl;exact D.i12.symm;exact D.l2i1) e
   have Y:IsZ g3 z TI TO .ellipsis bb:=l.extBut _ _ D.TOz.symm (p.extBut _ _ D.i1z.symm W);refine qB (qB (wpAny_onRaise (qB (m:=Builtin.SmallTypes.nextOf (.ref i2)) (J.next r3 (λy L g4 r4 I=>qC ?_) λL g4 e I K=>?_))))
   ·have t4:IsPair g4 TO x b:=I.extBut _ _ D.TOi2 t3
    refine qB (wpAny_seqItems t4 rfl (qB (wpAny_updateSeq_pair t4 λg5 X H=>qB (wpAny_letGo (qC (qC ?_))))));have X:IsPair g5 TO x y:=X;have k5:∀c o,c≠z->c≠TO->c≠i1->c≠i2->s.heap.get? c=some o->g5.get? c=some o:=λc o h t i n e=>H.extBut _ _ t (I.extBut _ _ n (O c o h t i e))
    have s5:j (k+1) g5:=G.keep s3 λc g o e=>H.extBut c o (by rcases g with rfl|rfl;exact D.TOi1.symm;exact D.l1TO) (I.extBut c o (by rcases g with rfl|rfl;exact D.i12;exact D.l1i2) e)
    have r5:r (k+1) g5:=J.keep r4 λc g o e=>H.extBut c o (by rcases g with rfl|rfl;exact D.TOi2.symm;exact D.l2TO) e
    have z5:IsZ g5 z TI TO .ellipsis bb:=H.extBut _ _ D.TOz.symm (I.extBut _ _ D.i2z.symm Y);have sz:g5.objs.size=s.heap.objs.size:=by rw[H.1,I.1,l.1,p.1,b1.1]
    refine qB (wpAny_seqItems X rfl (qB (wpAny_newTuple ?_)));refine qB (m:=Builtin.SmallTypes.ownedTupleHandOut (.ref z) (.ref g5.objs.size)) ?_;have z6:IsZ (g5.push {cls:=.type "tuple",data:=.seq #[x,y]}) z TI TO .ellipsis bb:=qA _ z5;refine qB (wpAny_setField_rec z6 (by simp) λg7 z7 b7=>?_);refine wpAny_setField_rec z7 (by simp) λg8 z8 b8=>?_
    have up:∀c o,c≠z->g5.get? c=some o->g8.get? c=some o:=λc o h e=>b8.extBut _ _ h (b7.extBut _ _ h (qA _ e))
    have zl:z<g5.objs.size:=lt_size z5;have p8:IsPair g8 g5.objs.size x y:=b8.extBut _ _ (ne_of_gt zl) (b7.extBut _ _ (ne_of_gt zl) (get?_push_size _ rfl));rw[sz]at p8;refine qC ⟨_,rfl,?_⟩;have fin:=hQ x y M L g8 _ _ (.inr ⟨_,rfl⟩) z8 ⟨_,_,up _ _ D.TOz X⟩ (G.keep s5 λc g o e=>up c o (by rcases g with rfl|rfl;exact D.i1z;exact D.l1z) e) (J.keep r5 λc g o e=>up c o (by rcases g with rfl|rfl;exact D.i2z;exact D.l2z) e) p8 λc o h t i n e=>up c o h (k5 c o h t i n e)
    rw[sz];exact fin
   ·have z4:IsZ g4 z TI TO .ellipsis bb:=I _ _ D.i2z.symm Y
    obtain⟨oe,ho,g⟩:=K;have ez:e≠z:=λq=>by subst q;rw[z4]at ho;cases ho;simp at g
    exact wpAny_setField_rec z4 (by simp) λg5 _ H=>V (.inr L) g5 e (λc o h t i n x=>H.extBut _ _ h (I _ _ n (O c o h t i x))) ⟨oe,H.extBut _ _ ez ho,g⟩
  ·have z2:IsZ g2 z TI TO .ellipsis bb:=p _ _ D.i1z.symm W
   obtain⟨oe,ho,g⟩:=K;have ez:e≠z:=λq=>by subst q;rw[z2]at ho;cases ho;simp at g
   exact wpAny_setField_rec z2 (by simp) λg3 _ l=>V (.inl M) g3 e (λc o h t i n x=>l.extBut _ _ h (p _ _ i (b1.extBut _ _ h x))) ⟨oe,l.extBut _ _ ez ho,g⟩
 ·dsimp[Bool.false_eq_true,if_false]
  refine qB ?_;rw[<- Array.forIn_toList];have s1:j k g1:=G.keep h1 λc g o e=>k1 c o (by rcases g with rfl|rfl;exact D.i1z;exact D.l1z) e
  refine qB (qB (wpAny_holding (qB (m:=Builtin.SmallTypes.nextOf (.ref i1)) (G.next s1 (λx M g2 s2 p=>qC ?_) λM g2 e p K=>?_))))
  ·refine qC ?_
   have k2:∀c o,c≠z->c≠i1->s.heap.get? c=some o->g2.get? c=some o:=λc o h i e=>p.extBut _ _ i (k1 _ _ h e)
   have r2:r k g2:=J.keep h2 λc g o e=>k2 c o (by rcases g with rfl|rfl;exact D.i2z;exact D.l2z) (by rcases g with rfl|rfl;exact D.i12.symm;exact D.l2i1) e
   refine qB (qB (wpAny_holding (qB (m:=Builtin.SmallTypes.nextOf (.ref i2)) (J.next r2 (λy L g3 r3 l=>qC ?_) λL g3 e l K=>?_))))
   ·refine qC ?_
    refine qC ?_;refine qB (wpAny_newTuple (hsz:=by simp[sizeLine_eq]) (qC ⟨_,rfl,?_⟩));have sz:g3.objs.size=s.heap.objs.size:=by rw[l.1,p.1,e1]
    have O:∀c o,c≠z->c≠i1->c≠i2->s.heap.get? c=some o->g3.get? c=some o:=λc o h i n e=>l.extBut _ _ n (k2 c o h i e)
    have s3:j (k+1) g3:=G.keep s2 λc g o e=>l.extBut c o (by rcases g with rfl|rfl;exact D.i12;exact D.l1i2) e
    have Y:IsZ g3 z TI TO f0 b1:=l.extBut _ _ D.i2z.symm (p.extBut _ _ D.i1z.symm W);have fin:=hQ x y M L (g3.push {cls:=.type "tuple",data:=.seq #[x,y]}) _ _ hf (qA _ Y) ⟨_,_,qA _ (O _ _ D.TOz D.TOi1 D.TOi2 R)⟩ (G.keep s3 λc g o e=>qA _ e) (J.keep r3 λc g o e=>qA _ e) (sz▸get?_push_size _ rfl) λc o h t i n e=>qA _ (O c o h i n e)
    rw[sz];exact fin
   ·exact V (.inr L) g3 e (λc o h t i n x=>l _ _ n (k2 c o h i x)) K
  ·exact V (.inl M) g2 e (λc o h t i n x=>p _ _ i (k1 _ _ h x)) K
def Qv{h i:Ll}{Q:Lx Lv->La->Prop}(C:Src prog w A.in1 i1 l1 xs h)(G:Src prog w A.in1 i2 l2 ys i)(D:ZipApart z TI TO i1 i2 l1 l2)
  (r:IsZ s.heap z TI TO f0 bb) (K:Wt f0) (n:IsPair s.heap TI (.ref i1) (.ref i2)) (p:IsPair s.heap TO a b) (h1:h k s.heap) (Z:i k s.heap)
  (I:∀x y,xs[k]?=some x->ys[k]?=some y->∀g l q,Wt l->IsZ g z TI TO l q->(∃u v,IsPair g TO u v)->h (k+1) g->i (k+1) g->IsPair g s.heap.objs.size x y ->
   (∀c o,c≠z->c≠TO->c≠i1->c≠i2->s.heap.get? c=some o->g.get? c=some o)->Q (some (.ref s.heap.objs.size)) {s with heap:=g})
  (O:xs[k]?=none\/ys[k]?=none->∀g,(∀c o,c≠z->c≠TO->c≠i1->c≠i2->s.heap.get? c=some o->g.get? c=some o)->Q none {s with heap:=g}):wpAny (model prog w) A (pyNext (.ref z)) Q E s:=by
 have hT:s.TypeIs (.ref z) "zip":=⟨_,r,rfl⟩;refine qB (wpAny_attempt (wpAny_callSpecial?_slot hT F.slot_zip_next (wpAny_call_entry F.slot_zip_next hT F.entry_zip_next (zq_next C G D r K n p h1 Z (λx y W X g l q a0 H Y J V t R=>?_) λj g e L M=>?_) (F.args_zip_next_1 _))))
 ·exact qC (I x y W X g l q a0 H Y J V t R)
 ·obtain⟨o,ho,S⟩:=M
  exact qB (wpAny_isInstance (T:="StopIteration") (b:=true) ⟨o,ho,S⟩ isSubtype_stop (qC (O j g L)))
def it_zipN{Q:Ly}(a:IsZ s.heap z TI TO f0 b)(h:Q (.ref z) s):wpAny (model prog w) A (pyIter (.ref z)) Q E s:=by
 have hT:s.TypeIs (.ref z) "zip":=⟨_,a,rfl⟩;refine wpAny_pyIter_slot hT F.slot_zip_iter (wpAny_call_entry F.slot_zip_iter hT F.entry_zip_iter ?_ (F.args_zip_iter_1 _));exact qC ⟨_,rfl,"zip",_,hT,F.slot_zip_next.lookup,h⟩
def TgZ(tg:Lb):Prop:=(∃a x p,tg=.Tuple a x p)\/∃y p,tg=.Name y p
def lo_zip{Q:Unit->La->Prop}(n:TgZ tg)(k:Wt f0)(g:IsZ s.heap z TI TO f0 b)(i:∀a l,Wt l->IsZ a z TI TO l b->(∀c o,c≠z->s.heap.get? c=some o->a.get? c=some o)->Q () {s with heap:=a}):wpAny (model prog w) A (letOwnedTupleGo tg (.ref z) (.ref T)) Q E s:=by
 rcases n with⟨r,x,p,rfl⟩|⟨y,p,rfl⟩
 ·unfold letOwnedTupleGo
  refine qB (wpAny_load g ?_);refine wpAny_ite_split (λ_=>qB (wpAny_rule ?_)) (λ_=>qC (i s.heap f0 k g λ_ _ _ e=>e));exact wpAny_setField_rec g (by simp) λa j h=>i a .none (.inl rfl) j λc o q e=>h.extBut _ _ q e
 ·exact qC (i s.heap f0 k g λ_ _ _ e=>e)
end
abbrev itO(c:String)(l:Lz):Obj:={cls:=.type c,data:=.fields #[.ref l,.int 0 0]}
abbrev zpA(h:Heap)(a c:String)(l1 l2:Lz):Heap:=(h.push (itO a l1)).push (itO c l2)
abbrev zpB(h:Heap)(a c:String)(l1 l2:Lz):Heap:=(zpA h a c l1 l2).push {cls:=.type "tuple",data:=.seq #[.ref h.objs.size,.ref (h.push (itO a l1)).objs.size]}
abbrev zpC(h:Heap)(a c:String)(l1 l2:Lz):Heap:=(zpB h a c l1 l2).push {cls:=.type "tuple",data:=.seq #[.none,.none]}
abbrev zpD(h:Heap)(a c:String)(l1 l2:Lz):Heap:=(zpC h a c l1 l2).push {cls:=.type "zip",data:=.fields #[.none,.bool false,.bool false,.ref (zpA h a c l1 l2).objs.size,.ref (zpB h a c l1 l2).objs.size]}
def zHA(l1 l2:Lz)(xs ys:Lh):Meets (Builtin.«zip.__new__» ⟨[.type "zip",.ref l1,.ref l2],[]⟩) (λ_ R s=>s.heap.IsTuple l1 xs/\s.heap.IsTuple l2 ys/\R (.ok (.ret (.ref (zpC s.heap "tuple_iterator" "tuple_iterator" l1 l2).objs.size))) {s with heap:=zpD s.heap "tuple_iterator" "tuple_iterator" l1 l2}) :=
 .of_wp λc w A R s h=>by
  obtain⟨i,g,d,tk,a⟩:=s;obtain⟨j,h2,h⟩:=h;have n:=sub_zip;have k:Heap.IsTuple (Shared.heap ⟨i,g,d,tk,a⟩) l1 xs:=j;have l:Heap.IsTuple (Shared.heap ⟨i.push (itO "tuple_iterator" l1),g,d,tk,a⟩) l2 ys:=h2.at λo e=>qA _ e
  wp_walk using wpAny_pyIter_tuple k,wpAny_pyIter_tuple l
  exact⟨_,rfl,h⟩
def zHB(l1 l2:Lz)(xs ys:Lh):Meets (Builtin.«zip.__new__» ⟨[.type "zip",.ref l1,.ref l2],[]⟩) (λ_ R s=>s.heap.IsTuple l1 xs/\s.heap.IsList l2 ys/\R (.ok (.ret (.ref (zpC s.heap "tuple_iterator" "list_iterator" l1 l2).objs.size))) {s with heap:=zpD s.heap "tuple_iterator" "list_iterator" l1 l2}) :=
 .of_wp λc w A R s h=>by
  obtain⟨i,g,d,tk,a⟩:=s;obtain⟨j,h2,h⟩:=h;have n:=sub_zip;have k:Heap.IsTuple (Shared.heap ⟨i,g,d,tk,a⟩) l1 xs:=j;have l:Heap.IsList (Shared.heap ⟨i.push (itO "tuple_iterator" l1),g,d,tk,a⟩) l2 ys:=h2.at λo e=>qA _ e
  wp_walk using wpAny_pyIter_tuple k,wpAny_pyIter_list l
  exact⟨_,rfl,h⟩
def zHC(l1 l2:Lz)(xs ys:Lh):Meets (Builtin.«zip.__new__» ⟨[.type "zip",.ref l1,.ref l2],[]⟩) (λ_ R s=>s.heap.IsList l1 xs/\s.heap.IsTuple l2 ys/\R (.ok (.ret (.ref (zpC s.heap "list_iterator" "tuple_iterator" l1 l2).objs.size))) {s with heap:=zpD s.heap "list_iterator" "tuple_iterator" l1 l2}) :=
 .of_wp λc w A R s h=>by
  obtain⟨i,g,d,tk,a⟩:=s;obtain⟨j,h2,h⟩:=h;have n:=sub_zip;have k:Heap.IsList (Shared.heap ⟨i,g,d,tk,a⟩) l1 xs:=j;have l:Heap.IsTuple (Shared.heap ⟨i.push (itO "list_iterator" l1),g,d,tk,a⟩) l2 ys:=h2.at λo e=>qA _ e
  wp_walk using wpAny_pyIter_list k,wpAny_pyIter_tuple l
  exact⟨_,rfl,h⟩
def zHD(l1 l2:Lz)(xs ys:Lh):Meets (Builtin.«zip.__new__» ⟨[.type "zip",.ref l1,.ref l2],[]⟩) (λ_ R s=>s.heap.IsList l1 xs/\s.heap.IsList l2 ys/\R (.ok (.ret (.ref (zpC s.heap "list_iterator" "list_iterator" l1 l2).objs.size))) {s with heap:=zpD s.heap "list_iterator" "list_iterator" l1 l2}):=meets_zip_new l1 l2 xs ys
structure Zp(h h':Heap)(c1 c2:String)(l1 l2:Lz):Prop where
 z:IsZip h' (h.objs.size+4) (h.objs.size+2) (h.objs.size+3) .none
 a:IsPair h' (h.objs.size+2) (.ref h.objs.size) (.ref (h.objs.size+1))
 b:IsPair h' (h.objs.size+3) .none .none
 i1:h'.get? h.objs.size=some (itO c1 l1)
 i2:h'.get? (h.objs.size+1)=some (itO c2 l2)
 kp:∀c o,h.get? c=some o->h'.get? c=some o
def zp_of(h:Heap)(a g:String)(l1 l2:Lz):Zp h (zpD h a g l1 l2) a g l1 l2/\(zpC h a g l1 l2).objs.size=h.objs.size+4:=by
 have j:(h.push (itO a l1)).objs.size=h.objs.size+1:=size_push ..;have k:(zpA h a g l1 l2).objs.size=h.objs.size+2:=by rw[size_push,j]
 have i:(zpB h a g l1 l2).objs.size=h.objs.size+3:=by rw[size_push,k]
 have r:(zpC h a g l1 l2).objs.size=h.objs.size+4:=by rw[size_push,i]
 have u:=λ(h:Heap) (o:Obj) {b:Lz} {q:Obj} (e:h.get? b=some q)=>qA (h:=h) o e
 have t:(zpD h a g l1 l2).get? (zpC h a g l1 l2).objs.size=some _:=get?_push_size _ rfl;have p:(zpD h a g l1 l2).get? (zpB h a g l1 l2).objs.size=some _:=qA _ (get?_push_size _ rfl);have n:(zpD h a g l1 l2).get? (zpA h a g l1 l2).objs.size=some _:=qA _ (qA _ (get?_push_size _ rfl));have l:(zpD h a g l1 l2).get? (h.push (itO a l1)).objs.size=some (itO g l2):=qA _ (qA _ (qA _ (get?_push_size _ rfl)));have v:(zpD h a g l1 l2).get? h.objs.size=some (itO a l1):=qA _ (qA _ (qA _ (qA _ (get?_push_size _ rfl))));rw[k,i,r]at t;rw[j,k]at n;rw[i]at p;rw[j]at l;exact⟨⟨t,n,p,v,l,λc o e=>qA _ (qA _ (qA _ (qA _ (qA _ e))))⟩,r⟩
section
variable{prog:Lc}{w:Le}{A:Lg}{E:Ly}{s:La}
def SqO(h:Heap)(t:Bool)(l:Lz)(xs:Lh):Prop:=if t then h.IsTuple l xs else h.IsList l xs
def itC(t:Bool):String:=if t then "tuple_iterator" else "list_iterator"
def zp_call{Q:Ly}(a:SqO s.heap t1 l1 xs)(c:SqO s.heap t2 l2 ys)(h:∀g,Zp s.heap g (itC t1) (itC t2) l1 l2->Q (.ref (s.heap.objs.size+4)) {s with heap:=g}):wpAny (model prog w) A (call (.type "zip") [.ref l1,.ref l2]) Q E s:=by
 obtain⟨z,n⟩:=zp_of s.heap (itC t1) (itC t2) l1 l2;have hz:=h _ z;have fin:∀{P:Heap->Prop},P s.heap->Meets (Builtin.«zip.__new__» ⟨[.type "zip",.ref l1,.ref l2],[]⟩) (λ_ R s=>P s.heap/\R (.ok (.ret (.ref (zpC s.heap (itC t1) (itC t2) l1 l2).objs.size))) {s with heap:=zpD s.heap (itC t1) (itC t2) l1 l2})->wpAny (model prog w) A (call (.type "zip") [.ref l1,.ref l2]) Q E s:=λ{P} i m=>by
  refine callType_new F.called_zip (by decide) (F.typeCall_zip_2 _ _) (F.newCall_zip_2 _ _) (λe=>F.args_object_init_3 e _ _) F.entry_zip_new m ⟨i,?_⟩;show _/\_;rw[n];exact⟨⟨_,z.z,rfl⟩,hz⟩
 cases t1<;>cases t2
 ·exact fin (P:=λh=>h.IsList l1 xs/\h.IsList l2 ys) ⟨a,c⟩ (Meets.of_imp (zHD l1 l2 xs ys) λA R s q=>⟨q.1.1,q.1.2,q.2⟩)
 ·exact fin (P:=λh=>h.IsList l1 xs/\h.IsTuple l2 ys) ⟨a,c⟩ (Meets.of_imp (zHC l1 l2 xs ys) λA R s q=>⟨q.1.1,q.1.2,q.2⟩)
 ·exact fin (P:=λh=>h.IsTuple l1 xs/\h.IsList l2 ys) ⟨a,c⟩ (Meets.of_imp (zHB l1 l2 xs ys) λA R s q=>⟨q.1.1,q.1.2,q.2⟩)
 ·exact fin (P:=λh=>h.IsTuple l1 xs/\h.IsTuple l2 ys) ⟨a,c⟩ (Meets.of_imp (zHA l1 l2 xs ys) λA R s q=>⟨q.1.1,q.1.2,q.2⟩)
end
end DV
namespace DV
open PySem L2 PySem.Spec PyProof.Rows
def SqH(K:qH)(H:Hp)(t:Bool)(a:Lz)(xs:Ls V):Prop:=if t then SqT K H a xs else SqL K H a xs
section
variable{X:Cx}{pins:Ls (Lz×Obj)}{σ:L2.St}{H:Hp}{s:La}{a b:Lz}{xs ys:Ls V}
def wq(I:Inv X pins σ H s)(h:SqH X.K H t a xs):∃c:Ls Lv,yA xs c/\SqO s.heap t a c.toArray:=by
 cases t with
 |true =>
  obtain⟨c,r,p,_⟩:=I.tuple h;exact⟨c,r,p⟩
 |false =>
  obtain⟨c,r,p,_⟩:=I.list h;exact⟨c,r,p.isList⟩
def zA0(I:Inv X pins σ H s)(h:SqH X.K H t a xs)(h':SqH X.K H t a ys):xs=ys:=by
 cases t with
 |true=>exact I.tuple_inj h h'|false=>exact I.list_inj h h'
def uj(I:Inv X pins σ H s)(h:SqH X.K H t a xs)(f:zBk X pins H b):a≠b:=by
 intro z;subst z;have i:∀o,X.K.lookup a=some o->False:=λo g=>by
  have k:=I.ok.mod.kin a o g;have e:=I.ok.bs a o k;rcases f.2.2.2.1 with q|q
  ·exact I.ok.noex a o k q
  ·exact absurd (lt_of_lt_of_le (lt_size e.1) q) (lt_irrefl _)
 have c:∀u,Rd H a u->False:=λu r=>by
  rcases r with r|⟨o,r⟩<;>rw[f.1]at r<;>cases r
 cases t with
 |true =>
  rcases h with h|⟨o,j,n,g,_⟩
  ·exact c _ h
  ·exact i o g
 |false =>
  rcases h with h|⟨o,j,n,g,_⟩
  ·exact c _ h
  ·exact i o g
end
def Itz(K:qH)(t1 t2:Bool)(a b:Lz):It :=
 ⟨λi H=>∃c e,SqH K H t1 a c/\SqH K H t2 b e/\i<c.length/\i<e.length,
  λi H x H'=>∃q u v,(∀c,SqH K H t1 a c->c[i]?=some u)/\(∀e,SqH K H t2 b e->e[i]?=some v)/\H q=none/\H'=upd H q (.t [u,v])/\x=.ref q,
  λi H=>∃c e,SqH K H t1 a c/\SqH K H t2 b e/\(c.length<=i\/e.length<=i)⟩
def ItA(t:Bool)(h:Heap)(it l:Lz)(i:Nat):Prop:=if t then h.IsTupleIter it l i else h.IsListIter it l i
def uk(x:ItA t h it l i)(k:∀o,h.get? it=some o->h'.get? it=some o):ItA t h' it l i:=by
 cases t with
 |true=>exact Heap.IsTupleIter.at x k|false=>exact Heap.IsListIter.at x k
def Zc(x:ItA t h it l i):∃o,h.get? it=some o/\∀v,o.data≠.cell v:=by
 cases t with
 |true=>obtain⟨o,e,c,d⟩:=x;exact⟨o,e,λv z=>by rw[d]at z;cases z⟩|false=>obtain⟨o,e,c,d⟩:=x;exact⟨o,e,λv z=>by rw[d]at z;cases z⟩
def srcA(c:A.handled=none)(t:Bool)(a:l≠it)(items:Lh):Src prog w A it l items (λi h=>ItA t h it l i/\SqO h t l items):=by
 cases t with
 |true=>exact src_tup c a items|false=>exact zG8 c a items
structure Five(z TI TO i1 i2:Lz):Prop where
 a1:TI≠z
 a2:TO≠z
 a3:i1≠z
 a4:i2≠z
 a5:TI≠TO
 a6:TI≠i1
 a7:TI≠i2
 a8:TO≠i1
 a9:TO≠i2
 a10:i1≠i2
def ZSn(z e g k j:Lz)(t1 t2:Bool)(a b:Lz)(i:Nat)(h:Heap):Prop:=(∃c b,Wt c/\IsZ h z e g c b)/\IsPair h e (.ref k) (.ref j)/\(∃u v,IsPair h g u v)/\ItA t1 h k a i/\ItA t2 h j b i
def zHE{P:Lc}{w:Le}{K:qH}{tg:Lb}{z r p l j:Lz}(ht:TgZ tg)(F:Five z r p l j)(t1 t2:Bool)(a b:Lz):Turn P w K tg (Itz K t1 t2 a b) [z,r,p,l,j] z (ZSn z r p l j t1 t2 a b) where
 mem:=by simp
 obj:=λi h st c g=>by
  obtain⟨⟨Y,W,n,hz⟩,G,⟨u,v,J⟩,L,h2⟩:=st;dsimp[mem_cons,mem_nil_iff,or_false]at g;rcases g with rfl|rfl|rfl|rfl|rfl
  ·exact⟨_,hz,λv z=>by cases z⟩
  ·exact⟨_,G,λv z=>by cases z⟩
  ·exact⟨_,J,λv z=>by cases z⟩
  ·exact Zc L
  ·exact Zc h2
 keep:=λi h h' st k=>by
  obtain⟨⟨Y,W,n,hz⟩,G,⟨u,v,J⟩,L,h2⟩:=st;exact⟨⟨Y,W,n,k z (by simp) _ hz⟩,k r (by simp) _ G,⟨u,v,k p (by simp) _ J⟩,uk L λo e=>k l (by simp) o e,uk h2 λo e=>k j (by simp) o e⟩
 item:=by
  intro X hP hw hK g i ab s σ H E I hf st hg;subst hP hw hK;obtain⟨⟨Y,W,n,hz⟩,G,⟨u0,v0,J⟩,L,h2⟩:=st;obtain⟨xs,ys,R,Q,l1,l2⟩:=hg;obtain⟨us,r1,p1⟩:=wq I R;obtain⟨vs,r2,p2⟩:=wq I Q;have C:∀c∈[z,r,p,l,j],a≠c:=λc g=>uj I R (hf c g)
  have t:∀c∈[z,r,p,l,j],b≠c:=λc g=>uj I Q (hf c g)
  have D:ZipApart z r p l j a b:=⟨F.a1,F.a2,F.a3,F.a4,F.a5,F.a6,F.a7,F.a8,F.a9,F.a10,C z (by simp),C p (by simp),C l (by simp),C j (by simp),t z (by simp),t p (by simp),t l (by simp),t j (by simp)⟩;have V:X.A.in1.handled=none:=I.ok.hd g;obtain⟨u,eu⟩:∃u,xs[i]?=some u:=⟨_,getElem?_eq_getElem l1⟩;obtain⟨v,ev⟩:∃v,ys[i]?=some v:=⟨_,getElem?_eq_getElem l2⟩;obtain⟨u',aa,ru⟩:=r1.get eu;obtain⟨v',S,rv⟩:=r2.get ev;refine Qv (srcA V t1 (C l (by simp)) us.toArray) (srcA V t2 (t j (by simp)) vs.toArray) D hz n G J ⟨L,p1⟩ ⟨h2,p2⟩ (λx y Z hy h' f1 b1 w1 z1 o1 s1 s2 pq kk=>?_) (λM=>?_)
  ·have ex:x=u':=by simp[aa]at Z;exact Z.symm
   have ey:y=v':=by simp[S]at hy;exact hy.symm
   subst ex ey;refine⟨_,rfl,lo_zip (s:={s with heap:=h'}) ht w1 z1 λh2 f2 w2 z2 O=>?_⟩
   have lt:∀{c o},s.heap.get? c=some o->s.heap.objs.size≠c:=λe=>ne_of_gt (lt_size e)
   have ac:IsPair h2 s.heap.objs.size x y:=O _ _ (lt hz) pq;have k2:∀c o,c∉[z,r,p,l,j]->s.heap.get? c=some o->h2.get? c=some o:=λc o g e=>O _ _ (λq=>g (by simp[q])) (kk c o (λq=>g (by simp[q])) (λq=>g (by simp[q])) (λq=>g (by simp[q])) (λq=>g (by simp[q])) e)
   obtain⟨ou,ov,o1⟩:=o1;have ad:jL X.prog X.w (upd H s.heap.objs.size (.t [u,v])) h2 s.heap.objs.size (.t [u,v]):=⟨by simp[sizeLine_eq],[x,y],.cons ru (.cons rv .nil),⟨_,ac,rfl,_,rfl⟩⟩;have I2:=I.turnLay (t':=s.toks) hf k2 (le_refl _) ad;have fresh:H s.heap.objs.size=none:=I.hok.fresh (le_refl _);refine⟨.ref s.heap.objs.size,_,I2,rfl,⟨_,u,v,λzs hz=>by rw[zA0 I hz R];exact eu,λzs hz=>by rw[zA0 I hz Q];exact ev,fresh,rfl,rfl⟩,⟨⟨f2,b1,w2,z2⟩,O _ _ F.a1 (kk r _ F.a1 F.a5 F.a6 F.a7 G),⟨_,_,O _ _ F.a2 o1⟩,uk s1.1 λo e=>O _ _ F.a3 e,uk s2.1 λo e=>O _ _ F.a4 e⟩,λc g=>?_⟩;have:c≠s.heap.objs.size:=λq=>by
    obtain⟨o,e⟩:∃o,s.heap.get? c=some o:=by
     dsimp[mem_cons,mem_nil_iff,or_false]at g;rcases g with rfl|rfl|rfl|rfl|rfl
     ·exact⟨_,hz⟩
     ·exact⟨_,G⟩
     ·exact⟨_,J⟩
     ·obtain⟨o,e,_⟩:=Zc L;exact⟨o,e⟩
     ·obtain⟨o,e,_⟩:=Zc h2;exact⟨o,e⟩
    exact lt e q.symm
   rw[zk this];exact(hf c g).1
  ·exfalso
   rcases M with M|M
   ·simp[aa]at M
   ·simp[S]at M
 done:=by
  intro X hP hw hK g i ab s σ H E I hf st hg;subst hP hw hK;obtain⟨⟨Y,W,n,hz⟩,G,⟨u0,v0,J⟩,L,h2⟩:=st;obtain⟨xs,ys,R,Q,ae⟩:=hg;obtain⟨us,r1,p1⟩:=wq I R;obtain⟨vs,r2,p2⟩:=wq I Q;have C:∀c∈[z,r,p,l,j],a≠c:=λc g=>uj I R (hf c g)
  have t:∀c∈[z,r,p,l,j],b≠c:=λc g=>uj I Q (hf c g)
  have D:ZipApart z r p l j a b:=⟨F.a1,F.a2,F.a3,F.a4,F.a5,F.a6,F.a7,F.a8,F.a9,F.a10,C z (by simp),C p (by simp),C l (by simp),C j (by simp),t z (by simp),t p (by simp),t l (by simp),t j (by simp)⟩;have V:X.A.in1.handled=none:=I.ok.hd g;have e1:=r1.length;have e2:=r2.length;refine Qv (srcA V t1 (C l (by simp)) us.toArray) (srcA V t2 (t j (by simp)) vs.toArray) D hz n G J ⟨L,p1⟩ ⟨h2,p2⟩ (λx y Z hy=>?_) (λM h' kk=>⟨rfl,?_⟩)
  ·exfalso
   simp at Z hy
   have a1:=(qG.mp Z).1;have a2:=(qG.mp hy).1;omega
  ·exact I.turnL (t':=s.toks) hf λc o g e=>kk c o (λq=>g (by simp[q])) (λq=>g (by simp[q])) (λq=>g (by simp[q])) (λq=>g (by simp[q])) e
 self:=λ_ _ _ _ _ st h=>by
  obtain⟨⟨Y,W,n,hz⟩,_⟩:=st;exact it_zipN hz h
section
variable{X:Cx}{K:qH}{mg:Str->Lx Lv}{σ:L2.St}{H:Hp}
def iZip(K:qH)(t1 t2:Bool)(c:TA):TI:=λσ H R=>c σ H λe H1=>∃a b g h,e=[.ref a,.ref b]/\SqH K H1 t1 a g/\SqH K H1 t2 b h/\R (Itz K t1 t2 a b) H1
def bt_zip:bootBuiltins "zip"=some (.type "zip"):=by left
def zEm(e:h.get? it=some (itO (itC t) l)):ItA t h it l 0:=by
 cases t with
 |true=>exact⟨_,e,rfl,rfl⟩|false=>exact⟨_,e,rfl,rfl⟩
def five(n:Lz):Five (n+4) (n+2) (n+3) n (n+1) :=
 have e:∀i j:Nat,i≠j->n+i≠n+j:=λi j h q=>h (Nat.add_left_cancel q)
 ⟨e 2 4 (by decide),e 3 4 (by decide),e 0 4 (by decide),e 1 4 (by decide),e 2 3 (by decide),e 2 0 (by decide),e 2 1 (by decide),e 3 0 (by decide),e 3 1 (by decide),e 0 1 (by decide)⟩
def pi_zip(K:TgZ tg)(w:Gl X "zip")(D:X.mg "zip"=none)(x:PA X [e,f] ta)(u:starEach [e,f] X.env=[(false,eval e X.env),(false,eval f X.env)]:=by rfl)(k:starEach [f] X.env=[(false,eval f X.env)]:=by rfl) :
  PI X tg (.Call (.Name "zip" p) [e,f] [] pos) (iZip X.K t1 t2 ta):=by
 intro i s σ H R I h;refine Call_ (Z3 I w D bt_zip (PyProof.Rows.callWith_type1 (thn (x pos i s σ H _ I h) λW g ⟨Q,H1,I1,v,L⟩=>?_) (by rw[u,k]) (by rw[k];rfl)));obtain⟨a,b,O,S,ev,G,J,q⟩:=L;subst ev;cases v with
 |cons r o =>
  cases o with
  |cons t o =>
   cases o;cases r;cases t;obtain⟨M,Y,C⟩:=wq I1 G;obtain⟨V,Z,y⟩:=wq I1 J;refine zp_call C y λE z=>?_
   refine wpAny_pyIter_zip (s:={g with heap:=E}) z.z ?_
   have n:∀j,g.heap.objs.size<=g.heap.objs.size+j:=λj=>Nat.le_add_right _ _
   have fr:∀c,g.heap.objs.size<=c->zBk X i H1 c:=λc l=>I1.fpOk l (I1.hok.fresh l)
   refine⟨_,[g.heap.objs.size+4,g.heap.objs.size+2,g.heap.objs.size+3,g.heap.objs.size,g.heap.objs.size+1],_,_,H1,rfl,I1.kept (t':=g.toks) z.kp,zHE K (five _) t1 t2 a b,⟨⟨.none,false,.inl rfl,z.z⟩,z.a,⟨_,_,z.b⟩,zEm z.i1,zEm z.i2⟩,λc l=>?_,q⟩;dsimp[mem_cons,mem_nil_iff,or_false]at l;rcases l with rfl|rfl|rfl|rfl|rfl
   ·exact fr _ (n 4)
   ·exact fr _ (n 2)
   ·exact fr _ (n 3)
   ·exact fr _ (n 0)
   ·exact fr _ (n 1)
def wU(d e:D):D:=.t [d,e]
def yU(e:YU H H')(h:SqH K H t a xs):SqH K H' t a xs:=by
 cases t with
 |true=>exact zL e h|false=>exact e.seq h
def it_zip:ItOk K mg (Itz K t1 t2 a b) (zipWith wU ds es) (λH=>SqH K H t1 a xs/\Reps K mg H ds xs/\SqH K H t2 b ys/\Reps K mg H es ys) where
 mono:=λH H' s h=>⟨yU s h.1,h.2.1.mono s,yU s h.2.2.1,h.2.2.2.mono s⟩
 go:=λi Hh H s h c=>by
  rw[length_zipWith]at c;exact⟨xs,ys,yU s h.1,yU s h.2.2.1,by rw[h.2.1.length];omega,by rw[h.2.2.2.length];omega⟩
 yld:=λi Hh H x H' s h c y=>by
  obtain⟨q,u,v,k,h2,g,rfl,rfl⟩:=y;have j:=k xs (yU s h.1);have r:=h2 ys (yU s h.2.2.1);obtain⟨d,n,o⟩:=h.2.1.get j;obtain⟨e,l,p⟩:=h.2.2.2.get r;refine⟨wU d e,by rw[List.getElem?_zipWith,n,l],.inr ⟨q,[u,v],[d,e],g,rfl,rfl,rfl,Reps.cons o (Reps.cons p Reps.nil)⟩⟩
 stop:=λi Hh H s h c=>by
  rw[length_zipWith]at c;refine⟨xs,ys,yU s h.1,yU s h.2.2.1,?_⟩;rw[h.2.1.length,h.2.2.2.length];omega
end
end DV
namespace DV
open PySem L2
section
variable{X:Cx}
def zDC:Bool->D->Lx (Ls D)
 |true,.t a=>some a|false,.l a=>some a|_,_=>none
def iZ(t1 t2:Bool)(m:MA):MI:=λE=>match m E with
 | .z=>.z| .y x E1=>.y x E1
 | .ok ([r,a],E1)=>match zDC t1 r.d,zDC t2 a.d with
  |some c,some e=>.ok (zipWith wU c e,E1)|_,_=>.z
 |_=>.z
def zA1{c:Str->Lx Lv}(e:zDC t d=some ds)(r:Rep K c H d v):∃a xs,v=.ref a/\SqH K H t a xs/\Reps K c H ds xs:=by
 cases t with
 |true =>
  cases d with
  |t g=>cases e;exact yT r|_=>cases e
 |false =>
  cases d with
  |l g=>cases e;exact yH r|_=>cases e
def zB2(I:TgZ tg)(j:Gl X "zip")(C:X.mg "zip"=none)(z:AOk X [a,b] m)(i:zd a=false:=by rfl)(e:zd b=false:=by rfl) :
  IOk X tg (.Call (.Name "zip" p) [a,b] [] cpos) (iZ t1 t2 m):=ui (pi_zip I j C z (star2 i e) (zD8 e)) λσ H R ⟨M,E,hl,fr,k⟩=>by
 unfold iZ at k;refine YV (T0:=[]) hl fr ?_;exists ea,m E,k,rs,E1
 match rs,k with
 | [r,t],k =>
  intro K H1 hv o;have q:=Got.reps hv o;dsimp at k;cases h:zDC t1 r.d with
  |none=>rw[h]at k;exact k.elim
  |some J =>
   cases g:zDC t2 t.d with
   |none=>rw[h,g]at k;exact k.elim
   |some L =>
    rw[h,g]at k;dsimp[List.map]at q;obtain⟨v,w,rfl,G,h2⟩:=reps2 q;obtain⟨c,u,rfl,n,D⟩:=zA1 h G;obtain⟨d,y,rfl,l,x⟩:=zA1 g h2;exact⟨c,d,u,y,rfl,yU zF n,yU zF l,k _ _ H1 it_zip ⟨n,D,l,x⟩ o.dropAll⟩
 | [],k=>exact k.elim| [_],k=>exact k.elim|_::_::_::_,k=>exact k.elim
end
section
variable{X:Cx}{K:qH}{mg:Str->Lx Lv}{σ:L2.St}{M:Ld}{E:zU}{H:Hp}
def zHF{J:It}{ds:Ls D}{l:Hp->Prop}{σ0 σ':L2.St}{E0 E':zU}{H1 c a:Hp}{i:Nat}{x:V}(it:ItOk K mg J ds l)(j:i<ds.length)(g:Got K mg M σ0 E0 H1 [] σ' E' c [])(e:l (Hm (Mo M (σ'.zip E')) c))(y:J.yld i c x a) :
  ∃d,ds[i]?=some d/\Got K mg M σ0 E0 H1 [] σ' E' a []/\l (Hm (Mo M (σ'.zip E')) a)/\Rep K mg (Hm (Mo M (σ'.zip E')) a) d x:=by
 obtain⟨d,hd,h⟩:=it.yld i _ _ x _ zF e j y;rcases h with⟨rfl,w⟩|⟨q,p,C,o,rfl,rfl,rfl,u⟩
 ·exact⟨d,hd,g,e,w⟩
 ·have f:FR K mg M c (σ'.zip E'):=g.fr
  have t:=f.newTup o u;have n:Step M c (σ'.zip E') (upd c q (.t p)) ((some (.ref q),.v (.t C))::σ'.zip E'):=Step.newVal o;obtain⟨v,ev,r⟩:=t.val _ _ qE;cases ev;have k:=n.same;rw[Yz]at r k;have z:Step M c (σ'.zip E') (upd c q (.t p)) (σ'.zip E'):=⟨k,n.keep⟩;exact⟨_,hd,⟨g.len,t.tail,g.st.trans z,g.pk⟩,it.mono _ _ k e,r⟩
def sForI(a:MI)(tg:MG)(body:MS):MS:=λE=>match a E with
 | .z=>.z| .y x E1=>.y x E1| .ok (ds,E1)=>Yn tg body ds E1
def zHG{t:MI}{tg:MG}{g:TG}{body:MS}{D:Ends}(I:GOk X g tg)(h:tS X (sForI t tg body) D σ H):tFor (tMI X t) g (tS X body) D σ H:=by
 obtain⟨M,E,hl,fr,k⟩:=zBy h;unfold sForI at k;refine⟨M,E,hl,fr,?_⟩;cases o:t E with
 |z=>rw[o]at k;exact k|y x E1=>rw[o]at k;exact λH' g=>k σ H' g
 |ok p =>
  obtain⟨a,E1⟩:=p;rw[o]at k;intro J Iv H1 n K C;refine⟨λi m σ1 H2=>m=a.length-i/\i<=a.length/\∃E2,Got X.K X.mg M σ E H [] σ1 E2 H2 []/\Iv (Hm (Mo M (σ1.zip E2)) H2)/\Fin X M σ E H D (Yn tg body (a.drop i) E2),⟨a.length,by simp,zero_le _,E1,C,K,k⟩,?_⟩
  rintro i m σ1 H2 ⟨rfl,Q,E2,v,j,fin⟩
  by_cases c:i<a.length
  ·refine .inr ⟨n.go i _ H2 zF j c,λσ3 H3=>i+1<=a.length/\∃E3,Got X.K X.mg M σ E H [] σ3 E3 H3 []/\Iv (Hm (Mo M (σ3.zip E3)) H3)/\Fin X M σ E H D (Yn tg body (a.drop (i+1)) E3),λσ3 H3 q=>⟨a.length-(i+1),by omega,rfl,q⟩,λx H3 y=>?_⟩
   obtain⟨d,hd,w,u,G⟩:=zHF n c v j y;have L:a.drop i=d::a.drop (i+1):=by
    obtain⟨r,rfl⟩:=qG.mp hd;exact List.drop_eq_getElem_cons r
   rw[L]at fin;exact Wd I w G fin λσ4 E4 H4 O st l=>⟨c,E4,O,n.mono _ _ st.same u,l⟩
  ·have e:i=a.length:=by omega
   subst e;rw[drop_length]at fin;exact .inl ⟨n.stop _ _ H2 zF j (le_refl _),fin σ1 H2 v⟩
def sk_forI(h:PassesOwn (model X.prog X.w) X.A X.env X.xe)(a:X.calm=true)(hi:IOk X tgt iter mi)(i:PG X tgt g)(c:GOk X g tg)(j:zAe X body mb)
  (e:∀x,foldedSetIterable iter X.env x=pure x:=by intro _;rfl):SOk X (.For tgt iter body [] pos) (sForI mi tg mb):=yx (zBl h a hi i j e) λD σ H=>zHG c
end
end DV
namespace DV
open PySem L2 PySem.Spec PyProof.Rows
section
variable{prog:Lc}{w:Le}{A:Lg}{E:Ly}{s:La}
def en_next{e it l:Lz}{k:Nat}{items:Lh}{st:Ll}{old:Lv}{Q:Ly}(S:Src prog w A it l items st)(L:e≠it)(nl:l≠e)(u:IsEnum s.heap e it k old)(Z:st k s.heap)
  (O:∀x,items[k]?=some x->∀c,IsEnumOut c e it ((k:Int)+1) x s.heap.objs.size->st (k+1) c->IsPair c s.heap.objs.size (.int k s.toks) x->(∀b o,b≠e->b≠it->s.heap.get? b=some o->c.get? b=some o)->Q (.ref s.heap.objs.size) {s with heap:=c,toks:=s.toks+1})
  (V:items[k]?=none->∀c x,Heap.ExtBut it s.heap c->(∃o,c.get? x=some o/\o.cls=.type "StopIteration")->E (.ref x) {s with heap:=c}) :
  wpAny (model prog w) A (Builtin.«enumerate.__next__» ⟨[.ref e],[]⟩) (λfin s'=>∃v,fin=.done (.ret v)/\Q v s') E s:=by
 obtain⟨h,g,d,tk,os⟩:=s;refine qB (m:=field (.ref e) 2) (wpAny_field u rfl (x:=.ref it) rfl (qB (S.next Z (λx Y g1 W i=>?_) V)));have i:Heap.SameBut it h g1:=i;have y:IsEnum g1 e it k old:=(i.2 e L).trans u;refine qB (m:=field (.ref e) 3) (wpAny_field y rfl (x:=rawInt k) rfl ?_);refine qB (m:=field (.ref e) 4) (wpAny_field y rfl (x:=.none) rfl ?_);refine qB (m:=mkInt k) (wpAny_mkInt ?_);refine qB (m:=setField (.ref e) 3 (rawInt ((k:Int)+1))) (wpAny_setField_rec y (by simp) λg2 C p=>?_);have p:Heap.SameBut e g1 g2:=p;have C:IsEnum g2 e it ((k:Int)+1) old:=C;refine qB (m:=setField (.ref e) 4 .none) (wpAny_setField_rec C (by simp) λg3 I j=>?_);have j:Heap.SameBut e g2 g3:=j;have I:IsEnum g3 e it ((k:Int)+1) old:=I;refine qB (m:=newTuple [.int k tk,x]) (wpAny_newTuple ?_);have sz:g3.objs.size=h.objs.size:=by rw[j.1,p.1,i.1]
 have M:e<h.objs.size:=lt_size u;have n:IsEnum (g3.push {cls:=.type "tuple",data:=.seq #[.int k tk,x]}) e it ((k:Int)+1) old:=qA _ I;have K:IsPair (g3.push {cls:=.type "tuple",data:=.seq #[.int k tk,x]}) h.objs.size (.int k tk) x:=by rw[<- sz];exact get?_push_size _ rfl
 have D:∀b o,b≠e->g1.get? b=some o->(g3.push {cls:=.type "tuple",data:=.seq #[.int k tk,x]}).get? b=some o:=λb o a q=>qA _ (j.extBut b o a (p.extBut b o a q))
 generalize g3.push {cls:=.type "tuple",data:=.seq #[.int k tk,x]}=g4 at n K D;refine qB (m:=Builtin.SmallTypes.ownedTupleIsFree (.ref e)) ?_;rw[sz];unfold Builtin.SmallTypes.ownedTupleIsFree;refine qB (wpAny_field n rfl (x:=.none) rfl (qC ?_));dsimp[if_true];refine qB (wpAny_rule (qB (wpAny_field n rfl (x:=old) rfl (qB (wpAny_setField_rec n (by simp) λg5 H z=>?_)))));have z:Heap.SameBut e g4 g5:=z;have H:IsEnum g5 e it ((k:Int)+1) x:=H;refine qB (m:=Builtin.SmallTypes.ownedTupleHandOut (.ref e) (.ref h.objs.size)) ?_;unfold Builtin.SmallTypes.ownedTupleHandOut;refine qB (wpAny_setField_rec H (by simp) λg6 r t=>?_);have t:Heap.SameBut e g5 g6:=t;have r:IsEnumOut g6 e it ((k:Int)+1) x h.objs.size:=r;refine wpAny_setField_rec r (by simp) λg7 J G=>?_
 have G:Heap.SameBut e g6 g7:=G;have J:IsEnumOut g7 e it ((k:Int)+1) x h.objs.size:=J;have up:∀b o,b≠e->g4.get? b=some o->g7.get? b=some o:=λb o a q=>G.extBut b o a (t.extBut b o a (z.extBut b o a q))
 refine qB (wpAny_letGo (qC ⟨_,rfl,O x Y g7 J (S.keep W λb R o q=>?_) (up _ _ (ne_of_gt M) K) λb o a X q=>up b o a (D b o a (i.extBut b o X q))⟩));have a:b≠e:=by rcases R with rfl|rfl;exact L.symm;exact nl
 exact up b o a (D b o a q)
def Qw{e it l:Lz}{k:Nat}{items:Lh}{st:Ll}{c:Lv}{Q:Lx Lv->La->Prop}(S:Src prog w A.in1 it l items st)(C:e≠it)(nl:l≠e)(h:IsEnum s.heap e it k c)(p:st k s.heap)
  (v:∀x,items[k]?=some x->∀a,IsEnumOut a e it ((k:Int)+1) x s.heap.objs.size->st (k+1) a->IsPair a s.heap.objs.size (.int k s.toks) x->(∀b o,b≠e->b≠it->s.heap.get? b=some o->a.get? b=some o)->Q (some (.ref s.heap.objs.size)) {s with heap:=a,toks:=s.toks+1})
  (t:items[k]?=none->∀a,(∀b o,b≠it->s.heap.get? b=some o->a.get? b=some o)->Q none {s with heap:=a}):wpAny (model prog w) A (pyNext (.ref e)) Q E s:=by
 have hT:s.TypeIs (.ref e) "enumerate":=⟨_,h,rfl⟩;unfold pyNext;refine qB (wpAny_attempt (wpAny_callSpecial?_slot hT F.slot_enumerate_next (wpAny_call_entry F.slot_enumerate_next hT F.entry_enumerate_next (en_next S C nl h p (λx g a r D z u=>?_) λg a y i q=>?_) (F.args_enumerate_next_1 _))))
 ·exact qC (v x g a r D z u)
 ·obtain⟨o,ho,n⟩:=q
  exact qB (wpAny_isInstance (T:="StopIteration") (b:=true) ⟨o,ho,n⟩ isSubtype_stop (qC (t g a λb o j e=>i b o j e)))
end
def Ite(K:qH)(t:Bool)(a:Lz):It :=
 ⟨λi H=>∃c,SqH K H t a c/\i<c.length,
  λi H x H'=>∃q u,(∀c,SqH K H t a c->c[i]?=some u)/\H q=none/\H'=upd H q (.t [.int i,u])/\x=.ref q,
  λi H=>∃c,SqH K H t a c/\c.length<=i⟩
def ESt(e it:Lz)(t:Bool)(a:Lz)(i:Nat)(h:Heap):Prop:=(∃c,IsEnum h e it i c)/\ItA t h it a i
def zEn{P:Lc}{w:Le}{K:qH}{C:Ls Lb}{x1}{O:Pos}{e it:Lz}(Y:e≠it)(t:Bool)(a:Lz):Turn P w K (.Tuple C x1 O) (Ite K t a) [e,it] e (ESt e it t a) where
 mem:=by simp
 obj:=λi h st c g=>by
  obtain⟨⟨j,l⟩,p⟩:=st;dsimp[mem_cons,mem_nil_iff,or_false]at g;rcases g with rfl|rfl
  ·exact⟨_,l,λv z=>by cases z⟩
  ·exact Zc p
 keep:=λi h h' st k=>by
  obtain⟨⟨j,l⟩,p⟩:=st;exact⟨⟨j,k e (by simp) _ l⟩,uk p λo q=>k it (by simp) o q⟩
 item:=by
  intro X R V Q g i G s σ H E I hf st hg;subst R V Q;obtain⟨⟨j,l⟩,p⟩:=st;obtain⟨xs,r,l1⟩:=hg;obtain⟨us,J,S⟩:=wq I r;have y:∀c∈[e,it],a≠c:=λc g=>uj I r (hf c g)
  have L:X.A.in1.handled=none:=I.ok.hd g;obtain⟨u,eu⟩:∃u,xs[i]?=some u:=⟨_,getElem?_eq_getElem l1⟩;obtain⟨u',D,ru⟩:=J.get eu;refine Qw (srcA L t (y it (by simp)) us.toArray) Y (y e (by simp)) l ⟨p,S⟩ (λx n h' o1 s1 pq kk=>?_) (λn=>?_)
  ·have ex:x=u':=by simp[D]at n;exact n.symm
   subst ex;refine⟨_,rfl,wpAny_letOwnedTupleGo_enum o1 λh2 z2 W=>?_⟩;have lt:∀{c o},s.heap.get? c=some o->s.heap.objs.size≠c:=λq=>ne_of_gt (lt_size q)
   have M:IsPair h2 s.heap.objs.size (.int i s.toks) x:=W.extBut _ _ (lt l) pq;have k2:∀c o,c∉[e,it]->s.heap.get? c=some o->h2.get? c=some o:=λc o g q=>W.extBut _ _ (λz=>g (by simp[z])) (kk c o (λz=>g (by simp[z])) (λz=>g (by simp[z])) q)
   have Z:jL X.prog X.w (upd H s.heap.objs.size (.t [.int i,u])) h2 s.heap.objs.size (.t [.int i,u]):=⟨by simp[sizeLine_eq],[.int i s.toks,x],.cons ⟨_,rfl⟩ (.cons ru .nil),⟨_,M,rfl,_,rfl⟩⟩;have I2:=I.turnLay (t':=s.toks+1) hf k2 (le_refl _) Z;have fresh:H s.heap.objs.size=none:=I.hok.fresh (le_refl _);refine⟨.ref s.heap.objs.size,_,I2,rfl,⟨_,u,λzs hz=>by rw[zA0 I hz r];exact eu,fresh,rfl,rfl⟩,⟨⟨_,by have:=z2;exists this⟩,uk s1.1 λo q=>W.extBut _ _ Y.symm q⟩,λc g=>?_⟩;have:c≠s.heap.objs.size:=λq=>by
    obtain⟨o,e⟩:∃o,s.heap.get? c=some o:=by
     dsimp[mem_cons,mem_nil_iff,or_false]at g;rcases g with rfl|rfl
     ·exact⟨_,l⟩
     ·obtain⟨o,e,_⟩:=Zc p;exact⟨o,e⟩
    exact lt e q.symm
   rw[zk this];exact(hf c g).1
  ·exfalso
   simp[D]at n
 done:=by
  intro X R V Q g i G s σ H E I hf st hg;subst R V Q;obtain⟨⟨j,l⟩,p⟩:=st;obtain⟨xs,r,l1⟩:=hg;obtain⟨us,J,S⟩:=wq I r;have y:∀c∈[e,it],a≠c:=λc g=>uj I r (hf c g)
  have L:X.A.in1.handled=none:=I.ok.hd g;have e1:=J.length;refine Qw (srcA L t (y it (by simp)) us.toArray) Y (y e (by simp)) l ⟨p,S⟩ (λx n=>?_) (λn h' kk=>⟨rfl,?_⟩)
  ·exfalso
   simp at n
   have a1:=(qG.mp n).1;omega
  ·exact I.turnL (t':=s.toks) hf λc o g q=>kk c o (λz=>g (by simp[z])) q
 self:=λ_ _ _ _ _ st h=>by
  obtain⟨⟨j,l⟩,_⟩:=st;exact wpAny_pyIter_enum l h
end DV
namespace DV
open PySem L2 PySem.Spec PyProof.Rows
open AutoSeq1 (wpAny_loadPart')
abbrev enH(h:Heap)(c:String)(l:Lz):Heap:=(h.push (itO c l)).push {cls:=.type "enumerate",data:=.fields #[.none,.bool false,.ref h.objs.size,rawInt 0,.none,.none]}
def en_newT(l:Lz)(items:Lh)(n:Nat)(o:Lx Lz)(j:Lm) :
  Meets (Builtin.«enumerate.__new__» ⟨[.type "enumerate",.ref l],[]⟩) (λ_ R s=>s.heap.get? l=some {cls:=.type "tuple",dict:=o,data:=.seq items n,slots:=j}/\R (.ok (.ret (.ref (s.heap.push (itO "tuple_iterator" l)).objs.size))) {s with heap:=enH s.heap "tuple_iterator" l}) :=
 .of_wp λa w A R s h=>by
  obtain⟨k,g,d,tk,i⟩:=s;obtain⟨hl,h⟩:=h;have p:=sub_enumerate;have e:Heap.IsTuple (Shared.heap ⟨k,g,d,tk,i⟩) l items:=⟨_,hl,rfl,n,rfl⟩
  wp_walk using wpAny_loadPart' hl
  refine wpAny_stack_any λst=>qC ?_
  split
  ·rename_i c _ _ _ _ _
   cases (c==Value.type "enumerate")<;>(wp_walk using wpAny_loadPart' hl,wpAny_pyIter_tuple e;exact⟨_,rfl,h⟩)
  ·wp_walk using wpAny_loadPart' hl,wpAny_pyIter_tuple e;exact⟨_,rfl,h⟩
section
variable{prog:Lc}{w:Le}{A:Lg}{E:Ly}{s:La}
structure En(h h':Heap)(c:String)(l:Lz):Prop where
 e:IsEnum h' (h.objs.size+1) h.objs.size 0 .none
 i:h'.get? h.objs.size=some (itO c l)
 kp:∀b o,h.get? b=some o->h'.get? b=some o
def en_call{Q:Ly}(p:SqO s.heap t l xs)(h:∀g,(IsEnum g (s.heap.objs.size+1) s.heap.objs.size 0 .none)->ItA t g s.heap.objs.size l 0->(∀b o,s.heap.get? b=some o->g.get? b=some o)->Q (.ref (s.heap.objs.size+1)) {s with heap:=g}):wpAny (model prog w) A (call (.type "enumerate") [.ref l]) Q E s:=by
 cases t with
 |false =>
  exact call_enumerate_list p λg a b c k=>h g a b k
 |true =>
  obtain⟨⟨u,r,v,q⟩,e,c,n,d⟩:=(p:s.heap.IsTuple l xs);simp only at c d;subst c d;refine callType_new F.called_enumerate (by decide) (F.typeCall_enumerate_1 _) (F.newCall_enumerate_1 _) (λj=>F.args_object_init_2 j _) F.entry_enumerate_new (en_newT l xs n r q) ⟨e,?_⟩;have hz:(s.heap.push (itO "tuple_iterator" l)).objs.size=s.heap.objs.size+1:=size_push ..;have i:(enH s.heap "tuple_iterator" l).get? (s.heap.push (itO "tuple_iterator" l)).objs.size=some _:=get?_push_size _ rfl;rw[hz]at i;show _/\_;rw[hz];exact⟨⟨_,i,rfl⟩,h _ i ⟨_,qA _ (get?_push_size _ rfl),rfl,rfl⟩ λb o x=>qA _ (qA _ x)⟩
end
section
variable{X:Cx}{K:qH}{mg:Str->Lx Lv}{σ:L2.St}{H:Hp}
def iEnum(K:qH)(t:Bool)(c:TA):TI:=λσ H R=>c σ H λe H1=>∃a g,e=[.ref a]/\SqH K H1 t a g/\R (Ite K t a) H1
def bt_enum:bootBuiltins "enumerate"=some (.type "enumerate"):=by left
def pi_enum{x1}(o:Gl X "enumerate")(C:X.mg "enumerate"=none)(w:PA X [e] ta)(l:starEach [e] X.env=[(false,eval e X.env)]:=by rfl) :
  PI X (.Tuple elts x1 tp) (.Call (.Name "enumerate" p) [e] [] pos) (iEnum X.K t ta):=by
 intro i s σ H R I h;refine Call_ (Z3 I o C bt_enum (PyProof.Rows.callWith_type1 (thn (w pos i s σ H _ I h) λM g ⟨L,H1,I1,u,G⟩=>?_) l rfl));obtain⟨a,K,ev,E,q⟩:=G;subst ev;cases u with
 |cons r v =>
  cases v;cases r;obtain⟨J,O,y⟩:=wq I1 E;refine en_call y λD k x kp=>?_
  refine wpAny_pyIter_enum (s:={g with heap:=D}) k ?_
  have fr:∀c,g.heap.objs.size<=c->zBk X i H1 c:=λc j=>I1.fpOk j (I1.hok.fresh j)
  have n:g.heap.objs.size+1≠g.heap.objs.size:=λz=>by have:=Nat.succ_ne_self g.heap.objs.size;exact this z
  refine⟨_,[g.heap.objs.size+1,g.heap.objs.size],_,_,H1,rfl,I1.kept (t':=g.toks) kp,zEn n t a,⟨⟨_,k⟩,x⟩,λc j=>?_,q⟩;dsimp[mem_cons,mem_nil_iff,or_false]at j;rcases j with rfl|rfl
  ·exact fr _ (le_succ _)
  ·exact fr _ (le_refl _)
def zB3:Nat->Ls D->Ls D
 |_,[]=>[]|n,d::ds=>.t [.int (n:Int),d]::zB3 (n+1) ds
theorem Wh:∀(a:Ls D) (n:Nat),(zB3 n a).length=a.length
 | [],_=>rfl|d::a,n=>by simp[zB3,Wh a]
theorem zB4:∀(a:Ls D) (n i:Nat) (d:D),a[i]?=some d->(zB3 n a)[i]?=some (.t [.int ((n+i:Nat):Int),d])
 | [],_,_,_,h=>by simp at h|e::a,n,0,d,h=>by simp at h;subst h;simp[zB3]
 |e::a,n,i+1,d,h=>by
  dsimp[List.getElem?_cons_succ]at h;have:=zB4 a (n+1) i d h;dsimp[zB3,List.getElem?_cons_succ];rw[this,show n+1+i=n+(i+1)by omega]
def it_enum:ItOk K mg (Ite K t a) (zB3 0 ds) (λH=>SqH K H t a xs/\Reps K mg H ds xs) where
 mono:=λH H' s h=>⟨yU s h.1,h.2.mono s⟩
 go:=λi Hh H s h c=>by
  rw[Wh]at c;exact⟨xs,yU s h.1,by rw[h.2.length];omega⟩
 yld:=λi Hh H x H' s h c y=>by
  obtain⟨q,u,j,e,rfl,rfl⟩:=y;have g:=j xs (yU s h.1);obtain⟨d,k,l⟩:=h.2.get g;refine⟨_,zB4 ds 0 i d k,.inr ⟨q,[.int (i:Int),u],[.int ((0+i:Nat):Int),d],e,rfl,rfl,rfl,Reps.cons (by rw[zero_add];dsimp[Rep]) (Reps.cons l Reps.nil)⟩⟩
 stop:=λi Hh H s h c=>by
  rw[Wh]at c;exact⟨xs,yU s h.1,by rw[h.2.length];omega⟩
def iE(t:Bool)(m:MA):MI:=λE=>match m E with
 | .z=>.z| .y x E1=>.y x E1
 | .ok ([r],E1)=>match zDC t r.d with
  |some a=>.ok (zB3 0 a,E1)|none=>.z
 |_=>.z
def io_enum{x1}(g:Gl X "enumerate")(o:X.mg "enumerate"=none)(u:AOk X [a] m)(e:zd a=false:=by rfl) :
  IOk X (.Tuple elts x1 tp) (.Call (.Name "enumerate" p) [a] [] cpos) (iE t m):=ui (pi_enum g o u (zD8 e)) λσ H R ⟨M,E,hl,fr,k⟩=>by
 unfold iE at k;refine YV (T0:=[]) hl fr ?_;exists ea,m E,k,rs,E1
 match rs,k with
 | [r],k =>
  intro w H1 hv h;have j:=Got.reps hv h;dsimp at k;exists ed,zDC t r.d,k,ds;dsimp[List.map]at j;obtain⟨v,rfl,n⟩:=J3 j;obtain⟨c,q,rfl,i,l⟩:=zA1 ed n;exact⟨c,q,rfl,yU zF i,k _ _ H1 it_enum ⟨i,l⟩ h.dropAll⟩
 | [],k=>exact k.elim|_::_::_,k=>exact k.elim
end
end DV
namespace PySem
open Sem (wp)
open AutoSeq1 (wpAny_loadPart')
end PySem
namespace L2
open PySem PySem.Spec PyProof.Rows
end L2
namespace DV
open PySem L2
section
variable{X:Cx}{K:qH}{mg:Str->Lx Lv}{P P':Ld}{H:Hp}{a:Lz}{xs:Ls V}
def eFrz(m:ME):ME:=λE=>match m E with
 | .ok (r,E1)=>.ok (.v r.d,E1)| .y x E1=>.y x E1| .z=>.z
def ok_frz(h:EOk X e m):EOk X e (eFrz m):=zi h λσ H Q ⟨M,E,hl,f,k⟩=>by
 refine⟨M,E,hl,f,?_⟩;unfold eFrz at k;cases a:m E with
 |z=>rw[a]at k;exact k.elim|y x E1=>rw[a]at k;exact k
 |ok p =>
  rw[a]at k;intro v H' g;exact k v H' ⟨g.len,FR.frz g.fr,Step.frz g.st,g.pk⟩
def zEo(a:MI)(tg:MG)(body:MS):MS:=λE=>match a E with
 | .y x E1=>.y x E1
 |_=>(match sForI a tg body E with
  | .y _ _=>.z|o=>o)
def ps_forX(hi:PI X tg iter wi)(j:∀x,foldedSetIterable iter X.env x=pure x):PS X (.For tg iter body [] pos) (λD σ H=>wi σ H λ_ _=>False):=by
 intro a s σ H D I h;refine wpAny_For (thn (hi a s σ H _ I h) λv k g=>thn g λc n h2=>?_) j;obtain⟨l,p,o,J,H2,e,I2,T,i,q,f⟩:=h2;exact f.elim
end
def tupI:D->Lx (Ls Int)
 | .t a=>JY a|_=>none
def Qx:Ls D->Lx (Ls (Ls Int))
 | []=>some []
 |d::c=>match tupI d,Qx c with
  |some a,some as=>some (a::as)|_,_=>none
def pyI(a:Ls Int):PyData:=.tuple (a.map PyData.int)
theorem Qy:∀{c:Ls D} {a:Ls Int},JY c=some a->pyDs c=some (a.map PyData.int)
 | [],a,e=>by cases e;rfl
 |d::c,a,e=>by
  cases d with
  |int i =>
   dsimp[JY]at e;cases h:JY c with
   |none=>rw[h]at e;cases e|some b=>rw[h]at e;cases e;dsimp[pyDs,pyD,Qy h];rfl
  |_=>cases e
def Gf(e:tupI d=some a):pyD d=some (pyI a):=by
 cases d with
 |t c=>dsimp[pyD,Qy (show JY c=some a from e)];rfl|_=>cases e
theorem Zd:∀{c:Ls D} {as:Ls (Ls Int)},Qx c=some as->pyDs c=some (as.map pyI)
 | [],as,e=>by cases e;rfl
 |d::c,as,e=>by
  dsimp[Qx]at e;cases h:tupI d with
  |none=>rw[h]at e;cases e
  |some a =>
   cases h2:Qx c with
   |none=>rw[h,h2]at e;cases e|some bs=>rw[h,h2]at e;cases e;dsimp[pyDs,Gf h,Zd h2];rfl
theorem Wi:∀a:Ls Int,PyData.canLayAll0 (a.map PyData.int)=true
 | []=>rfl|i::a=>by dsimp[map_cons,PyData.canLayAll0,PyData.canLay0,Wi a];rfl
theorem Gg:∀as:Ls (Ls Int),PyData.canLayAll0 (as.map pyI)=true
 | []=>rfl|a::as=>by dsimp[map_cons,PyData.canLayAll0,Gg as,pyI,PyData.canLay0,Wi a];rfl
theorem zB5:∀a:Ls Int,PyData.depthAll (a.map PyData.int)<=1
 | []=>by simp[PyData.depthAll]|i::a=>by have:=zB5 a;dsimp[map_cons,PyData.depthAll,PyData.depth];omega
def zEp(a:Ls Int):(pyI a).depth<=2:=by
 have:=zB5 a;dsimp[pyI,PyData.depth];omega
theorem zB6:∀a b:Ls Int,PyData.eqvAll (a.map PyData.int) (b.map PyData.int)=decide (a=b)
 | [],[]=>rfl| [],_::_=>rfl|_::_,[]=>rfl
 |i::a,j::b=>by
  dsimp[map_cons,PyData.eqvAll,PyData.eqv,zB6 a b,List.cons.injEq,Bool.decide_and];rfl
def eqv_pyI(a b:Ls Int):PyData.eqv (pyI a) (pyI b)=decide (a=b):=by
 dsimp[pyI,PyData.eqv,zB6]
theorem zA2(a:Ls Int):∀as:Ls (Ls Int),(as.map pyI).any (λy=>PyData.eqv y (pyI a))=as.contains a
 | []=>rfl
 |b::as=>by
  rw[map_cons,any_cons,zA2 a as,eqv_pyI,List.contains_cons];congr 1;by_cases h:b=a
  ·subst h;simp
  ·have:¬a=b:=λe=>h e.symm
   simp[h,this]
def inT(neg:Bool)(d:D):D->Lx R
 | .l c=>match tupI d,Qx c with
  |some a,some as=>some (.v (.bl (if neg then !as.contains a else as.contains a)))|_,_=>none
 |_=>none
def inG(neg:Bool)(d e:D):Lx R:=match inF neg d e with
 |some r=>some r|none=>inT neg d e
def rInT(K:qH)(c:Str->Lx Lv)(neg:Bool):R2:=λx y H Q=>∃d e a as,Rep K c H d x/\Rep K c H (.l e) y/\tupI d=some a/\Qx e=some as/\Q (.bl (if neg then !as.contains a else as.contains a)) H
section
variable{X:Cx}{σ:L2.St}{pins:Ls (Lz×Obj)}{H:Hp}{s:La}{K:qH}{mg:Str->Lx Lv}
def zIm(S:zDV X.K)(n:X.A.units+20<cLine):OpR X (compareOp .In) (rInT X.K X.mg false):=by
 intro c s σ H x y v u Q I rx ry h;obtain⟨d,o,a,as,i,j,e,k,q⟩:=h;obtain⟨bs,rd,_⟩:=jS I S i rx (Gf e);obtain⟨l,g,_⟩:=jS I S j ry (x:=.list (as.map pyI)) (by dsimp[pyD,Zd k];rfl);refine SeqAt.in_list_reads g rd (Gg as) (by dsimp[pyI,PyData.canLay0,Wi]) (by have:=zEp a;have:=Nat.min_le_right (PyData.depthAll (as.map pyI)) (pyI a).depth;omega) ⟨.bl _,H,I,rfl,?_⟩;rw[zA2];exact q
def zEq(S:zDV X.K)(n:X.A.units+20<cLine):OpR X (compareOp .NotIn) (rInT X.K X.mg true):=by
 intro c s σ H x y v u Q I rx ry h;obtain⟨d,o,a,as,i,j,e,k,q⟩:=h;obtain⟨bs,rd,_⟩:=jS I S i rx (Gf e);obtain⟨l,g,_⟩:=jS I S j ry (x:=.list (as.map pyI)) (by dsimp[pyD,Zd k];rfl);refine SeqAt.notIn_list_reads g rd (Gg as) (by dsimp[pyI,PyData.canLay0,Wi]) (by have:=zEp a;have:=Nat.min_le_right (PyData.depthAll (as.map pyI)) (pyI a).depth;omega) ⟨.bl _,H,I,rfl,?_⟩;rw[zA2];exact q
def zB7:ROk K mg (λx y H Q=>rIn K neg x y H Q\/rInT K mg neg x y H Q) (inG neg):=by
 intro M H Z x y c i res Q f o p e k;unfold inG at e;cases h:inF neg c i with
 |some r=>rw[h]at e;cases e;exact .inl (ro_in M H Z x y c i res Q f o p h k)
 |none =>
  rw[h]at e;cases i with
  |l n =>
   replace e:(match tupI c,Qx n with
    |some a,some as=>some (R.v (.bl (if neg then !as.contains a else as.contains a)))|_,_=>none)=some res:=e
   cases g:tupI c with
   |none=>rw[g]at e;cases e
   |some a =>
    cases j:Qx n with
    |none=>rw[g,j]at e;cases e
    |some as =>
     rw[g,j]at e;cases e;exact .inr ⟨c,n,a,as,o.mono zF,p.mono zF,g,j,k.flat f rfl⟩
  |_=>cases e
def MtM.or{id:String}{r e:V->Ls V->Hp->VK->Prop}(h:MtM X id r)(h':MtM X id e):MtM X id (λx c H Q=>r x c H Q\/e x c H Q):=by
 intro a s σ H x c v us Q I rx rv q;rcases q with q|q
 ·exact h a s σ H x c v us Q I rx rv q
 ·exact h' a s σ H x c v us Q I rx rv q
end
end DV
namespace DV
open PySem L2 PyProof.Rows PySem.Calls
end DV
namespace DV
open PySem L2
section
variable{X:Cx}{σ:L2.St}{pins:Ls (Lz×Obj)}{H:Hp}{s:La}
def zHH:PGet X (λx y H Q=>∃(p:Lz) (a:Ls V) (i:Nat) (v:V),x=.ref p/\y=.int (i:Nat)/\SqL X.K H p a/\a[i]?=some v/\Q v H):=by
 intro g s σ H x y v u Q I rx ry h;obtain⟨p,a,i,z,rfl,rfl,j,e,q⟩:=h;cases rx;obtain⟨t,rfl⟩:=ry;obtain⟨l,r,n,hz⟩:=I.list j;obtain⟨w,k,c⟩:=r.get e;have C:i<a.length:=(qG.mp e).1;have o:=QU;exact wpAny_getItem_list (x:=w) n.isList (by omega) (by omega) (by exists k) ⟨z,H,I,c,q⟩
def sAugIx(i:Nat)(l n:ME):MS:=λE=>if jw E[i]?=true then .z else match l E with
 | .ok (.v (.int k),E1)=>(match E1[i]? with
  |some h=>(match h.list? with
   |some e=>if k<0 then .z else(match e[k.toNat]? with
    |some (.int a)=>(match n E1 with
     | .ok (.v (.int b),E2)=>(match E2[i]? with
      |some g=>(match g.list? with
       |some c=>(match ixN c.length k with
        |some j=>.ok (.nx,E2.set i (g.put (c.set j (.int (a+b)))))|none=>.z)
       |none=>.z)
      |none=>.z)
     |_=>.z)
    |_=>.z)
   |none=>.z)
  |none=>.z)
 |_=>.z
abbrev qI(n:Nat):DV.Slot:=.v (.int n)
def zEr{i:Nat}{I L:ME}{D:Ends}(h:tS X (sAugIx i I L) D σ H):tAugS (Wz i) (tM X I) (tM X L) (λx y H Q=>∃(p:Lz) (r:Ls V) (i:Nat) (v:V),x=.ref p/\y=.int (i:Nat)/\SqL X.K H p r/\r[i]?=some v/\Q v H) (ipI λi j=>i+j) rSetL D σ H:=by
 obtain⟨M,E,hl,fr,k⟩:=h;unfold sAugIx at k;cases O:jw E[i]? with
 |true=>rw[O]at k;exact k.elim
 |false =>
  rw[O]at k;obtain⟨s,K,S⟩:=ZZ O;obtain⟨v,hv⟩:=ug hl fr K S;refine⟨v,hv,?_⟩;refine zc (T0:=[]) hl fr ?_;dsimp[Bool.false_eq_true,if_false]at k;cases ea:I E with
  |z=>rw[ea]at k;exact k.elim|y x E1=>rw[ea]at k;exact k.elim
  |ok p =>
   obtain⟨r1,E1⟩:=p;rw[ea]at k;cases r1 with
   |w ds=>exact k.elim|m _ _=>exact k.elim
   |v d =>
    cases d with
    |int n =>
     intro y H1 l;dsimp at k;have ey:=zJ l.rep;subst ey;exists e1,E1[i]?,k,s1;dsimp at k;exists e2,s1.list?,k,ds1;dsimp at k;by_cases G:n<0
     ·rw[if_pos G]at k;exact k.elim
     ·rw[if_neg G]at k
      obtain⟨m,rfl⟩:=Int.eq_ofNat_of_zero_le (Int.not_lt.mp G);rw[Int.toNat_natCast]at k;exists e3,ds1[m]?,k,d1;cases d1 with
      |int a =>
       dsimp at k;obtain⟨o,h1,h2⟩:=jN l.len e1;obtain⟨ad,r,ev,w1,_,w3⟩:=l.frame.ownL _ s1 ds1 h2 e2;subst ev;have ev:v=.ref ad:=by rw[hv]at h1;exact qJ (qJ h1)
       subst ev;obtain⟨u,eu,ru⟩:=w3.get' e3;have Y:=zJ ru;subst Y;refine⟨ad,r,m,.int a,rfl,rfl,SqL.of w1,eu,?_⟩;refine zc (T0:=[(some (.int (m:Nat)),(R.v (.int (m:Nat))).slot)]) l.len l.fr ?_;cases J:L E1 with
       |z=>rw[J]at k;exact k.elim|y x E2=>rw[J]at k;exact k.elim
       |ok p =>
        obtain⟨r2,E2⟩:=p;rw[J]at k;cases r2 with
        |w ds=>exact k.elim|m _ _=>exact k.elim
        |v d =>
         cases d with
         |int b =>
          intro z H2 g2;have g:=l.trans' g2;dsimp at k;exists e4,E2[i]?,k,s2;dsimp at k;exists e5,s2.list?,k,ds2;dsimp at k;cases t:ixN ds2.length (m:Int)with
          |none=>rw[t]at k;exact k.elim
          |some j =>
           rw[t]at k;have rp:=Got.reps (vs:=[z,.int (m:Nat)]) (rs:=[.v (.int b),.v (.int (m:Nat))]) rfl g;dsimp[List.map,Reps]at rp;obtain⟨z',_,q1,rz,_,_,q2,_,_⟩:=rp;cases q1;have ez:=zJ rz;obtain⟨o',e,W⟩:=jN g.len e4;obtain⟨a',Z,c,C,_,q⟩:=g.frame.ownL _ s2 ds2 W e5;subst c;have c:V.ref ad=.ref a':=by rw[hv]at e;exact qJ (qJ e)
           cases c;obtain⟨p,hp,g'⟩:=g.mut e4 e5 (q.set j (d:=.int (a+b)) (v:=.int (a+b)) (by dsimp[Rep]));have ep:p=ad:=by rw[e]at hp;cases hp;rfl
           subst ep;exact⟨a,b,rfl,ez,p,Z,(m:Int),j,rfl,rfl,C,by rw[q.length];exact t,k σ _ g'⟩
         |_=>exact k.elim
      |_=>exact k.elim
    |_=>exact k.elim
def zHI(i:Nat)(j:PE X (.Name x p) (Wz i))(l:EOk X b mi)(h:EOk X e mv)(k:∀c g a,augStore b c g a=(do holding [a,c,g] (setItem c g a);release [a,c,g] [];pure .next)) :
  SOk X (.AugAssign (.Subscript (.Name x p) b p1) .Add e pos) (sAugIx i mi mv) :=
 yx (ps_augS j l zHH h zIJ zBn k) λD σ H=>zEr
end
end DV
namespace DV
open PySem PyProof.Rows
end DV
namespace DV
open PySem L2
end DV
namespace DV
open PySem PySem.SetTable
def zA3(l:Ls Nat):Prop:=l.Pairwise (·<·)
theorem Gh(xs:Array Nat)(j:Nat)(p:zA3 xs.toList):∀(c g hi:Nat),hi-g<=c->g<=hi->hi<=xs.size->(∀k (h:k<xs.size),k<g->xs[k]<j)->(∀k (h:k<xs.size),hi<=k->j<=xs[k]) ->
  below.go xs j c g hi<=xs.size/\(∀k (h:k<xs.size),k<below.go xs j c g hi->xs[k]<j)/\∀k (h:k<xs.size),below.go xs j c g hi<=k->j<=xs[k]
 |0,g,hi,z,h2,i,h4,h5=>by
  have e:g=hi:=by omega
  subst e;exact⟨i,h4,h5⟩
 |c+1,g,hi,z,h2,i,h4,h5=>by
  unfold below.go;have t:∀a b (u:a<xs.size) (v:b<xs.size),a<=b->xs[a]<=xs[b]:=λa b u v o=>by
   rcases Nat.lt_or_eq_of_le o with hl|w
   ·have:=List.pairwise_iff_getElem.mp p a b (by exists u) (by exists v) hl
    simp at this;omega
   ·subst w;exact le_refl _
  by_cases hl:g<hi
  ·rw[if_pos hl]
   have q:(g+hi)/2<xs.size:=by omega
   have x:xs.getD ((g+hi)/2) j=xs[(g+hi)/2]:=by simp[Array.getD,q]
   dsimp;rw[x];by_cases l:xs[(g+hi)/2]<j
   ·rw[if_pos l]
    exact Gh xs j p c _ _ (by omega) (by omega) i (λk n y=>lt_of_le_of_lt (t k _ n q (by omega)) l) h5
   ·rw[if_neg l]
    exact Gh xs j p c _ _ (by omega) (by omega) (by omega) h4 (λk n r=>le_trans (not_lt.mp l) (t _ k q n r))
  ·rw[if_neg hl]
   have e:g=hi:=by omega
   subst e;exact⟨i,h4,h5⟩
def zHJ(xs:Array Nat)(j:Nat)(a:zA3 xs.toList):below xs j<=xs.size/\(∀k (h:k<xs.size),k<below xs j->xs[k]<j)/\∀k (h:k<xs.size),below xs j<=k->j<=xs[k] :=
 Gh xs j a xs.size 0 xs.size (by omega) (by omega) (le_refl _) (λk _ h=>by omega) (λk h c=>by omega)
def Y6{α:Type}(xs:Array α)(p:Nat)(x:α):(insertAt xs p x).toList=xs.toList.take p++x::xs.toList.drop p:=by
 unfold insertAt;simp[Array.toList_append,Array.toList_extract,List.extract_eq_drop_take,take_of_length_le]
def zB8(xs:Array Nat)(j:Nat)(l:zA3 xs.toList)(r:j∉xs.toList):zA3 (insertAt xs (below xs j) j).toList:=by
 obtain⟨t,h2,p⟩:=zHJ xs j l;rw[Y6];unfold zA3 at *;have k:∀a∈xs.toList.take (below xs j),a<j:=λa c=>by
  obtain⟨i,o,e⟩:=getElem_of_mem c;simp at o e;rw[<- e];exact h2 i (by omega) (by omega)
 have g:∀a∈xs.toList.drop (below xs j),j<a:=λa c=>by
  have q:a∈xs.toList:=List.mem_of_mem_drop c;obtain⟨i,o,e⟩:=getElem_of_mem c;simp at o e;have:=p (below xs j+i) (by omega) (by omega);rw[e]at this;rcases Nat.lt_or_eq_of_le this with h|h
  ·exact h
  ·exact absurd (h▸q) r
 rw[List.pairwise_append];refine⟨l.sublist (List.take_sublist _ _),?_,?_⟩
 ·rw[List.pairwise_cons]
  exact⟨g,l.sublist (List.drop_sublist _ _)⟩
 ·intro a c b n
  rcases mem_cons.mp n with rfl|n
  ·exact k a c
  ·exact lt_trans (k a c) (g b n)
def mem_ins{α:Type}(xs:Array α)(p:Nat)(x y:α):y∈(insertAt xs p x).toList↔y=x\/y∈xs.toList:=by
 rw[Y6]
 conv=>rhs;rw[<- take_append_drop p xs.toList]
 dsimp[mem_append,mem_cons];constructor
 ·rintro (h|h|h)
  ·exact .inr (.inl h)
  ·exact .inl h
  ·exact .inr (.inr h)
 ·rintro (h|h|h)
  ·exact .inr (.inl h)
  ·exact .inl h
  ·exact .inr (.inr h)
def zDD{t:SetTable}{j:Nat}(c:j∉t.place.toList)(hd:t.dummies=#[]):t.slot j=.empty:=by
 have a:(t.place[below t.place j]?==some j)=false:=by
  rw[Bool.eq_false_iff];intro h;exact c (by exists Array.mem_of_getElem? (eq_of_beq h))
 unfold slot;dsimp;rw[a,hd];rfl
def chk7(led:Bool)(c:Ls Bool)(h:Nat):Bool :=
 let a:=(List.range 8).filter λi=>c.getD i false
 decide (4<a.length)||match(⟨7,a.toArray,#[],0,led,0,true⟩:SetTable).freeSlot (h:Int)with
  |some (j,false)=>decide (j<=7)&&!a.contains j|_=>false
def all7:∀l k i j c a e g n:Bool,((List.range 16).all λh=>chk7 l [k,i,j,c,a,e,g,n] h)=true:=by left
def YY(l:Ls Nat)(c:zA3 l)(n:Nat)(g:∀j∈l,j<n):l=(List.range n).filter λi=>l.contains i:=by
 refine List.Perm.eq_of_pairwise (le:=(·<·)) (λa b _ _ e h2=>absurd (lt_trans e h2) (lt_irrefl _)) c (List.pairwise_lt_range.filter _) ?_;rw[List.perm_ext_iff_of_nodup (c.imp λh=>ne_of_lt h) (List.nodup_range.filter _)];intro a;dsimp[mem_filter,mem_range,contains_iff_mem];exact⟨λh=>⟨g a h,h⟩,λh=>h.2⟩
def free7{led:Bool}{a:Array Nat}(c:zA3 a.toList)(k:∀j∈a.toList,j<8)(n:a.size<=4){h:Nat}(l:h<16) :
  ∃j,(⟨7,a,#[],0,led,0,true⟩:SetTable).freeSlot (h:Int)=some (j,false)/\j<8/\j∉a.toList:=by
 have e:=YY a.toList c 8 k;have g:((List.range 8).filter λi=>[a.toList.contains 0,a.toList.contains 1,a.toList.contains 2,a.toList.contains 3,a.toList.contains 4,a.toList.contains 5,a.toList.contains 6,a.toList.contains 7].getD i false)=a.toList:=by
  conv=>rhs;rw[e]
  rfl
 have:=all7 led (a.toList.contains 0) (a.toList.contains 1) (a.toList.contains 2) (a.toList.contains 3) (a.toList.contains 4) (a.toList.contains 5) (a.toList.contains 6) (a.toList.contains 7);have:=all_eq_true.mp this h (by exists l);unfold chk7 at this;rw[g]at this;dsimp[Array.toArray_toList,Bool.or_eq_true,decide_eq_true_eq]at this;rcases this with h|h
 ·simp at h;omega
 ·split at h
  ·rename_i j hf
   simp at h
   exact⟨j,hf,by omega,by exists h.2⟩
  ·cases h
def own(a:Ls Nat)(j:Nat):Lx Nat:=if j∈a then some (a.idxOf j)else none
def zB9{n:Nat}(h:n<32):bits (n:Int)=n:=by
 unfold bits;omega
def free31(a:Nat)(p:Nat)(hn:owner[n]?=some none):layClean.free 31 owner (a+1) n p=some n:=by
 have c:(List.range (runEnd 31 n+1-n)).find? (λk=>(owner.getD (n+k) (some 0)).isNone)=some 0:=by
  have e:∃m,runEnd 31 n+1-n=m+1:=⟨runEnd 31 n-n,by unfold runEnd;split<;>omega⟩;obtain⟨m,e⟩:=e;rw[e,range_succ_eq_map,find?_cons];have:(owner.getD (n+0) (some 0)).isNone=true:=by
   rw[Nat.add_zero,Array.getD_eq_getD_getElem?,hn];rfl
  rw[this]
 unfold layClean.free;rw[c];rfl
def zHK(g:Ls Nat):∀(done:Ls Nat) (a:Array (Lx Nat)),(done++g).Nodup->(∀n∈done++g,n<32)->a.size=32->(∀j,j<32->a[j]?=some (own done j)) ->
  ∃o,(g.map λn:Nat=>(n:Int)).foldl (init:=some (a,done.length)) (λr h=>do
   let (a,k) <- r
   let j <- layClean.free 31 a (SetTable.turns 31) (bits h%(31+1)) (bits h)
   pure (a.setIfInBounds j (some k),k+1))=some (o,(done++g).length)/\o.size=32/\∀j,j<32->o[j]?=some (own (done++g) j):=by
 induction g with
 |nil=>intro done a _ _ p h2;exact⟨a,by simp,p,by exists h2⟩
 |cons n g x =>
  intro done a u w p h2;have v:n<32:=w n (by simp);have l:n∉done:=λh=>(nodup_append.mp u).2.2 n h n (by simp) rfl
  have i:layClean.free 31 a (SetTable.turns 31) (bits (n:Int)%(31+1)) (bits (n:Int))=some n:=by
   rw[zB9 v,Nat.mod_eq_of_lt (by omega)];exact free31 45 n (by rw[h2 n v];unfold own;rw[if_neg l])
  have q:=x (done++[n]) (a.setIfInBounds n (some done.length)) (by exists u) (by exists w) (by exists p) (λj c=>by
   rw[Array.getElem?_setIfInBounds];by_cases e:n=j
   ·subst e
    rw[if_pos rfl,if_pos (by omega)];unfold own;rw[if_pos (by simp),List.idxOf_append,if_neg l];simp
   ·rw[if_neg e,h2 j c]
    unfold own;by_cases c:j∈done
    ·rw[if_pos c,if_pos (by simp[c]),List.idxOf_append,if_pos c]
    ·rw[if_neg c,if_neg (by simp[c];exact λh=>e h.symm)])
  obtain⟨o,t,y,z⟩:=q;refine⟨o,?_,y,?_⟩
  ·rw[map_cons,foldl_cons]
   show foldl _ (do let j <- layClean.free 31 a (SetTable.turns 31) (bits (n:Int)%(31+1)) (bits (n:Int));pure (a.setIfInBounds j (some done.length),done.length+1)) _=_
   rw[i];have e:(done++[n]).length=done.length+1:=by simp
   rw[e]at t;have C:(done++[n]++g).length=(done++n::g).length:=by simp
   rw[C]at t;exact t
  ·intro j c;have:=z j c;rw[append_assoc]at this;exact this
def fm_eq(p:Nat->Bool)(g:Lk)(f:Nat->Lx Nat)(l:Ls Nat):(∀j∈l,f j=if p j=true then some (g j)else none)->l.filterMap (λj=>(f j).map (j,·))=(l.filter p).map λj=>(j,g j):=by
 induction l with
 |nil=>exact λ_=>rfl
 |cons a l e =>
  intro h;have i:=e λj k=>h j (qD _ k)
  have c:=h a qE;rw[filterMap_cons,filter_cons,c];cases n:p a
  ·exists i
  ·dsimp[if_true,Option.map_some,map_cons];rw[i]
def laid31(a:Ls Nat)(g:a.Nodup)(l:∀n∈a,n<32)(f m:Nat)(led pn:Bool) :
  laid 31 f m led pn (a.map λn:Nat=>(n:Int)).toArray=some (⟨31,((List.range 32).filter λj=>a.contains j).toArray,#[],f,led,m,pn⟩,(((List.range 32).filter λj=>a.contains j).map λj=>a.idxOf j).toArray):=by
 obtain⟨o,p,q,i⟩:=zHK a [] (Array.replicate 32 none) (by exists g) (by exists l) (by simp) (λj e=>by simp[own,e]);have h:layClean 31 (a.map λn:Nat=>(n:Int)).toArray=some o:=by
  unfold layClean;rw[List.foldl_toArray];have:(31:Nat)+1=32:=rfl;have c:=p;dsimp[length_nil]at c;rw[c];rfl
 have k:((List.range (31+1)).filterMap λj=>(o.getD j none).map (j,·))=((List.range 32).filter λj=>a.contains j).map λj=>(j,a.idxOf j):=by
  refine fm_eq _ _ _ _ λj e=>?_
  rw[Array.getD_eq_getD_getElem?,i j (by exists e)];dsimp[nil_append,own,Option.getD_some,contains_iff_mem]
 unfold laid;rw[h];show some _=_;rw[k,map_map,map_map];congr 1;simp[Function.comp_def]
structure SetG(led:Bool)(es:Li)(t:SetTable):Prop where
 ent:∀e∈es.toList,∃(n:Nat) (k:Tok),n<16/\e=((n:Int),.int (n:Int) k)
 nd:(es.toList.map (·.1)).Nodup
 sz:t.place.size=es.size
 rise:zA3 t.place.toList
 tab:(t=⟨7,t.place,#[],0,led,0,true⟩/\es.size<=4/\∀j∈t.place.toList,j<8)\/(t=⟨31,t.place,#[],t.finger,led,t.moves,true⟩/\t.place.toList=es.toList.map λe=>e.1.toNat)
def zCA(l:Ls Nat):∀(a b:Nat),zA3 l->(∀j∈l,a<=j/\j<b)->l.length<=b-a:=by
 induction l with
 |nil=>intro a b _ _;exact zero_le _
 |cons x l h =>
  intro a b c g;have i:=g x qE;have:=h (x+1) b c.tail λj e=>⟨(List.pairwise_cons.mp c).1 j e,(g j (qD _ e)).2⟩
  dsimp[length_cons];omega
def SetG.few{led:Bool}{es:Li}{t:SetTable}(g:SetG led es t):es.size<=16:=by
 rcases g.tab with h|h
 ·omega
 ·have:t.place.toList.length<=16-0:=zCA _ _ _ g.rise λj a=>by
   rw[h.2]at a;obtain⟨e,c,rfl⟩:=mem_map.mp a;obtain⟨n,k,i,rfl⟩:=g.ent e c;simp;omega
  rw[Array.length_toList,g.sz]at this;omega
theorem SetG.fits{led:Bool}{es:Li}{t:SetTable}(g:SetG led es t):t.fits es.size=true:=by
 have c:=g.few;have e:=g.sz;have a:t.fill<=t.mask:=by
  rcases g.tab with h|h
  ·rw[h.1];show t.place.size+0<=7;omega
  ·rw[h.1];show t.place.size+0<=31;omega
 simp[SetTable.fits,e,a]
def jh{α:Type}(xs:Array α)(p:Nat)(x:α):(insertAt xs p x).size=xs.size+1:=by
 rw[<- Array.length_toList,Y6];have:=congrArg length (take_append_drop p xs.toList);dsimp[length_append,length_cons,Array.length_toList]at this ⊢;omega
def zEs(a:Ls Nat)(c:a.Nodup):a.map (λj=>a.idxOf j)=List.range a.length:=by
 apply List.ext_getElem
 ·simp
 ·intro i e h2
  dsimp[getElem_map,List.getElem_range];exact c.idxOf_getElem i (by exists e)
def zHL(es:Li)(c:Lk)(l:Ls Nat):(∀j∈l,∃e,es[c j]?=some e/\e.1.toNat=j)->((l.map c).filterMap (es[·]?)).map (λe=>e.1.toNat)=l:=by
 induction l with
 |nil=>exact λ_=>rfl
 |cons a l n =>
  intro h;obtain⟨e,g,k⟩:=h a qE;rw[map_cons,filterMap_cons,g];dsimp[map_cons];rw[n λj i=>h j (qD _ i),k]
def SetG.of_perm_ent{es a:Li}(p:a.toList.Perm es.toList)(h:∀e∈es.toList,∃(n:Nat) (k:Tok),n<16/\e=((n:Int),.int (n:Int) k)):∀e∈a.toList,∃(n:Nat) (k:Tok),n<16/\e=((n:Int),.int (n:Int) k):=λe c=>h e (p.mem_iff.mp c)
def relay7{led:Bool}{es:Li}{z:Array Nat}(M:es.size=5)(g:∀e∈es.toList,∃(n:Nat) (k:Tok),n<16/\e=((n:Int),.int (n:Int) k))(o:(es.toList.map (·.1)).Nodup) :
  ∃q K,relayAll ⟨7,z,#[],0,led,0,true⟩ es (grown es.size)=(q,K,false)/\SetG led q K/\q.toList.Perm es.toList:=by
 have C:=relayAll_perm ⟨7,z,#[],0,led,0,true⟩ es (grown es.size);generalize i:es.toList.map (λe=>e.1.toNat)=hs;have hl:hs.length=es.size:=by rw[<- i];simp
 have c:es.map (·.1)=(hs.map λn:Nat=>(n:Int)).toArray:=by
  apply Array.toList_inj.mp;rw[Array.toList_map,<- i,map_map];refine map_congr_left λe D=>?_
  obtain⟨n,k,v,rfl⟩:=g e D;simp
 have H:hs.Nodup:=by
  have:(es.toList.map (·.1))=hs.map λn:Nat=>(n:Int):=by rw[<- Array.toList_map,c]
  rw[this]at o;exact List.Pairwise.imp (λh=>λe=>h (by rw[e])) (List.pairwise_map.mp o)
 have J:∀n∈hs,n<16:=λn v=>by
  rw[<- i]at v;obtain⟨e,D,rfl⟩:=mem_map.mp v;obtain⟨m,k,Q,rfl⟩:=g e D;exists Q
 generalize G:((List.range 32).filter λj=>hs.contains j)=p;have t:p.Perm hs:=by
  rw[<- G,List.perm_ext_iff_of_nodup (List.nodup_range.filter _) H];intro a;dsimp[mem_filter,mem_range,contains_iff_mem];exact⟨λh=>h.2,λh=>⟨by have:=J a h;omega,h⟩⟩
 have O:zA3 p:=by rw[<- G];exact List.pairwise_lt_range.filter _
 have l:((p.map λj=>hs.idxOf j).filterMap (es[·]?)).map (λe=>e.1.toNat)=p:=zHL es _ p λj R=>by
  have I:j∈hs:=t.mem_iff.mp R;have x:hs.idxOf j<hs.length:=idxOf_lt_length_iff.mpr I;refine⟨es[hs.idxOf j]'(by omega),by rw[Array.getElem?_eq_getElem (by omega)],?_⟩;have L:hs[hs.idxOf j]=j:=List.getElem_idxOf x;have E:hs[hs.idxOf j]'x=(es.toList.map (λe=>e.1.toNat))[hs.idxOf j]'(by exists(by omega:hs.idxOf j<es.size)):=by dsimp[i]
  rw[L]at E;rw[getElem_map,Array.getElem_toList]at E;exact E.symm
 have r:(⟨7,z,#[],0,led,0,true⟩:SetTable).relaid (es.map (·.1)) (grown es.size)=some (⟨31,p.toArray,#[],0,led,1,true⟩,(p.map λj=>hs.idxOf j).toArray):=by
  unfold relaid;rw[M,c];have:=laid31 hs H (λn v=>by have:=J n v;omega) 0 1 led true;rw[G]at this;exact this
 have u:coversAll (p.map λj=>hs.idxOf j).toArray es.size=true:=by
  unfold coversAll;rw[List.isPerm_iff];have:=t.map λj=>hs.idxOf j
  rw[zEs hs H,hl]at this;exact this
 have y:((p.map λj=>hs.idxOf j).toArray.filterMap (es[·]?)).size=p.length:=by
  rw[<- Array.length_toList,Array.toList_filterMap];have:=congrArg length l;exists this
 have w:(⟨31,p.toArray,#[],0,led,1,true⟩:SetTable).fits ((p.map λj=>hs.idxOf j).toArray.filterMap (es[·]?)).size=true:=by
  rw[y];have:p.length=5:=by rw[t.length_eq];omega
  simp[SetTable.fits,SetTable.fill,this]
 have e:relayAll ⟨7,z,#[],0,led,0,true⟩ es (grown es.size)=((p.map λj=>hs.idxOf j).toArray.filterMap (es[·]?),⟨31,p.toArray,#[],0,led,1,true⟩,false):=by
  unfold relayAll;rw[r];dsimp;rw[if_pos (by rw[u,w];rfl)]
 rw[e]at C;refine⟨_,_,e,⟨SetG.of_perm_ent C g,((C.map _).nodup_iff).mpr o,y.symm▸by simp,O,.inr ⟨rfl,?_⟩⟩,C⟩;rw[Array.toList_filterMap];exact l.symm
def SetG.add{led:Bool}{es:Li}{t:SetTable}(g:SetG led es t){n:Nat}(hn:n<16)(k:Tok)(v:∀e∈es.toList,e.1≠(n:Int)) :
  ∃l C,layNew t es (n:Int) (.int (n:Int) k)=(l,C,false,false)/\C.plain=true/\C.fits l.size=true/\l.toList.Perm (es.toList++[((n:Int),.int (n:Int) k)]) /\
   ((C.tooFull=false/\SetG led l C)\/(C.tooFull=true/\∃y W,relayAll C l (grown l.size)=(y,W,false)/\SetG led y W/\y.toList.Perm l.toList)):=by
 have c:=layNew_perm t es (n:Int) (.int (n:Int) k);rw[Array.toList_push]at c;have w:∀e∈es.toList++[((n:Int),Value.int (n:Int) k)],∃(n:Nat) (k:Tok),n<16/\e=((n:Int),.int (n:Int) k):=λe q=>by
  rcases mem_append.mp q with q|q
  ·exact g.ent e q
  ·rw[mem_singleton]at q;exact⟨n,k,hn,q⟩
 have D:((es.toList++[((n:Int),Value.int (n:Int) k)]).map (·.1)).Nodup:=by
  rw[map_append,nodup_append];refine⟨g.nd,by simp,λa Z b J=>?_⟩;simp at J;subst J;obtain⟨e,q,rfl⟩:=mem_map.mp Z;exact v e q
 have o:∀j,t.freeSlot (n:Int)=some (j,false)->t.dummies=#[]->t.fill<t.mask->layNew t es (n:Int) (.int (n:Int) k)=(insertAt es (below t.place j) ((n:Int),.int (n:Int) k),{t with place:=insertAt t.place (below t.place j) j},false,false)/\({t with place:=insertAt t.place (below t.place j) j}:SetTable).fits (insertAt es (below t.place j) ((n:Int),Value.int (n:Int) k)).size=true:=by
  intro j hf hd R;have I:t.put j=({t with place:=insertAt t.place (below t.place j) j},below t.place j):=by
   unfold put;have:has t.dummies j=false:=by rw[hd];rfl
   rw[this];rfl
  have r:({t with place:=insertAt t.place (below t.place j) j}:SetTable).fits (insertAt es (below t.place j) ((n:Int),Value.int (n:Int) k)).size=true:=by
   dsimp[SetTable.fits,Bool.and_eq_true,beq_iff_eq,decide_eq_true_eq];rw[jh,jh];refine⟨by rw[g.sz],?_⟩;show(insertAt t.place (below t.place j) j).size+t.dummies.size<=t.mask;rw[jh];unfold fill at R;omega
  refine⟨?_,r⟩;unfold layNew;rw[hf];dsimp;rw[I];dsimp;unfold SetTable.orStandIn;rw[if_pos r,r];rfl
 rcases g.tab with⟨ht,h4,V⟩|⟨ht,H⟩
 ·obtain⟨j,hf,M,L⟩:=free7 (led:=led) g.rise V (by rw[g.sz];exact h4) hn
  rw[<- ht]at hf;have z:=g.sz;obtain⟨x,O⟩:=o j hf (by rw[ht]) (by rw[ht];show t.place.size+0<7;omega);rw[x]at c;have S:({t with place:=insertAt t.place (below t.place j) j}:SetTable)=⟨7,insertAt t.place (below t.place j) j,#[],0,led,0,true⟩:=by rw[ht]
  have p:=SetG.of_perm_ent (es:=(es.toList++[((n:Int),Value.int (n:Int) k)]).toArray) (by exists c) (by exists w);have u:=((c.map (·.1)).nodup_iff).mpr D;refine⟨_,_,x,by rw[S],O,c,?_⟩;rw[S];have X:(insertAt es (below t.place j) ((n:Int),Value.int (n:Int) k)).size=es.size+1:=jh ..;have G:(insertAt t.place (below t.place j) j).size=es.size+1:=by rw[jh,z]
  by_cases h3:es.size=4
  ·refine .inr ⟨?_,relay7 (by omega) p u⟩
   simp[tooFull,fill,G,h3]
  ·refine .inl ⟨?_,p,u,by show(insertAt t.place (below t.place j) j).size=_;omega,zB8 _ _ g.rise L,.inl ⟨rfl,by omega,λi Q=>?_⟩⟩
   ·simp[tooFull,fill,G];omega
   ·rcases(mem_ins _ _ _ _).mp Q with rfl|Q
    ·exact M
    ·exact V i Q
 ·have L:n∉t.place.toList:=λh=>by
   rw[H]at h;obtain⟨e,q,x⟩:=mem_map.mp h;obtain⟨m,k',K,rfl⟩:=g.ent e q;refine v _ q ?_;simp at x;simp[x]
  have J:bits (n:Int)=n:=zB9 (by omega);have K:t.mask=31:=by rw[ht]
  have hd:t.dummies=#[]:=by rw[ht]
  have hf:t.freeSlot (n:Int)=some (n,false):=by
   unfold freeSlot probe;have h1:(t.probeStart (n:Int)).j=n:=by unfold probeStart;rw[J,K];show n%32=n;omega
   have h2:(t.probeStart (n:Int)).dummy=none:=rfl;have e:10*SetTable.turns t.mask=459+1:=by rw[K];rfl
   rw[e];unfold probe.go;rw[h1,zDD L hd,h2];rfl
  have z:=g.sz;have Y:=g.few;obtain⟨x,O⟩:=o n hf hd (by rw[ht];show t.place.size+0<31;omega);rw[x]at c;have p:=SetG.of_perm_ent (es:=(es.toList++[((n:Int),Value.int (n:Int) k)]).toArray) (by exists c) (by exists w);have u:=((c.map (·.1)).nodup_iff).mpr D;have G1:SetG led (insertAt es (below t.place n) ((n:Int),Value.int (n:Int) k)) {t with place:=insertAt t.place (below t.place n) n}:=by
   refine⟨p,u,by show(insertAt t.place (below t.place n) n).size=_;rw[jh,jh,z],zB8 _ _ g.rise L,.inr ⟨by rw[ht],?_⟩⟩;show(insertAt t.place (below t.place n) n).toList=_;rw[Y6,Y6,H,map_append,map_cons,List.map_take,List.map_drop];simp
  refine⟨_,_,x,by rw[ht],O,c,.inl ⟨?_,G1⟩⟩;have E:=G1.few;rw[jh]at E;dsimp[tooFull,fill,K,hd];rw[jh];simp;omega
end DV
namespace PySem
open Sem (wp)
open DV
def j7(w:Le):Bool:=w.params.followText "set-order"
def Ze(es:Li)(a:Nat)(t:SetTable):Obj:={cls:=.type "set",dict:=none,data:=.set es a t,slots:=#[]}
section
variable{prog:Lc}{w:Le}{A:Lg}{E:Ly}{s:La}
def Y7:∀n:Nat,n<16->hashInt (n:Int)=(n:Int):=by left
def SetG.elems(g:SetG led es t):ElemsOf (intKind prog w) es.toList:=λe c=>by
 obtain⟨n,k,a,rfl⟩:=g.ent e c;exact⟨⟨(n:Int),intKind_is _ _ _ _,(Y7 n a).symm⟩,rfl⟩
def zEt{a:Lz}{es:Li}{u:Nat}{t:SetTable}{led:Bool}{n:Nat}{k:Tok}{Q:Bool->La->Prop}(I:s.heap.get? a=some (Ze es u t))(g:SetG led es t)(hn:n<16)
  (h:∀(b:Bool) S z R Z,Heap.SameBut a s.heap S->S.get? a=some (Ze z R Z)->SetG led z Z->(∀m:Int,(∃e∈z.toList,e.1=m)↔(∃e∈es.toList,e.1=m)\/m=n)->Q b {s with heap:=S}) :
  wpAny (model prog w) A (setAddHashed a (.int (n:Int) k) (hashInt (n:Int))) Q E s:=by
 have hd:(Ze es u t).data=.set es u t:=rfl;have hf:=g.fits;have ac:=g.few;have hb:es.size<scanBound:=by unfold scanBound;omega
 have H:ElemsOf (intKind prog w) es.toList:=SetG.elems g;unfold setAddHashed setAddHashedIn;refine wpAny_holding (qB (wpAny_setState_of I hd hf ?_));dsimp;rw[byScan_of (knd:=intKind prog w) rfl hb H];dsimp[↓reduceIte];unfold setAddByScan;refine qB ?_;refine qB (wpAny_rule ?_);refine qB (wpAny_setScan_of (knd:=intKind prog w) (k:=(n:Int)) (intKind_is _ _ _ _) I hd hf H ?_);cases X:List.findIdx? (λe:Int×Lv=>(intKind prog w).is (n:Int) e.2) es.toList with
 |some j =>
  dsimp;obtain⟨Y,J,_⟩:=List.findIdx?_eq_some_iff_getElem.mp X;refine qC (qC ?_);have e:s={s with heap:=s.heap}:=by cases s;rfl
  have:=h false s.heap es u t (Heap.SameBut.refl a s.heap) I g λm=>⟨.inl,λx=>x.elim id λe=>by
   obtain⟨n',k',L,e'⟩:=g.ent _ (getElem_mem Y);refine⟨es.toList[j],getElem_mem Y,?_⟩;rw[e']at J ⊢;have:(n':Int)=(n:Int):=by simpa[intKind,Value.isInt]using J
   rw[e,this]⟩
  rw[e];exact this
 |none =>
  dsimp;have G:∀e∈es.toList,e.1≠(n:Int):=λe p W=>by
   have:=List.findIdx?_eq_none_iff.mp X e p;obtain⟨n',k',L,rfl⟩:=g.ent e p;simp only at W;rw[W,intKind_is]at this;cases this
  obtain⟨c,v,e1,M,ab,i,cs⟩:=g.add hn k G;rw[Y7 n hn,e1];dsimp;have V:c.size=es.size+1:=by rw[<- Array.length_toList,i.length_eq,length_append,Array.length_toList];rfl
  have o:∀m:Int,(∃e∈c.toList,e.1=m)↔(∃e∈es.toList,e.1=m)\/m=n:=λm=>by
   constructor
   ·rintro ⟨e,p,rfl⟩
    rcases mem_append.mp (i.mem_iff.mp p)with h|h
    ·exact .inl ⟨e,h,rfl⟩
    ·rw[mem_singleton]at h;subst h;exact .inr rfl
   ·rintro (⟨e,p,rfl⟩|rfl)
    ·exact⟨e,i.mem_iff.mpr (mem_append_left _ p),rfl⟩
    ·exact⟨_,i.mem_iff.mpr (qK _ (mem_singleton.mpr rfl)),rfl⟩
  refine qB (qC ?_);rw[M];dsimp[if_true];refine qB (m:=hashByValue 8 (.int (n:Int) k)) ?_;rw[hashByValue_scannable 8 rfl];refine qC ?_;dsimp[plainKind,if_true];refine qB (wpAny_storeSet_of I hd ?_ (by rw[sizeLine_eq];omega));have C:(s.heap.update a (Obj.putSet c v)).get? a=some (Ze c (u+1) v):=by
   have:=get?_update_self (Obj.putSet c v) I (by rw[putSet_of c v hd];rfl);rw[putSet_of c v hd]at this;exact this
  have r:=Heap.SameBut.update s.heap a (Obj.putSet c v);rcases cs with⟨y,G1⟩|⟨y,l,D,e2,G2,O⟩
  ·rw[y]
   dsimp[Bool.and_false,Bool.false_eq_true,if_false];exact qC (qC (h true _ c (u+1) v r C G1 o))
  ·rw[y]
   dsimp[Bool.not_false,Bool.and_self,if_true];rw[e2];dsimp;have aa:l.size=c.size:=by rw[<- Array.length_toList,O.length_eq,Array.length_toList]
   refine qB (qC (qB (wpAny_storeSet_of C rfl ?_ (by rw[sizeLine_eq];omega))));have K:((s.heap.update a (Obj.putSet c v)).update a (Obj.putSet l D)).get? a=some (Ze l (u+1+1) D):=by
    have:=get?_update_self (Obj.putSet l D) C (by rw[putSet_of l D rfl];rfl);rw[putSet_of l D rfl]at this;exact this
   refine qC (qC (h true _ l (u+1+1) D (r.trans (Heap.SameBut.update _ a _)) K G2 λm=>?_));rw[<- o m];exact⟨λ⟨e,p,q⟩=>⟨e,O.mem_iff.mp p,q⟩,λ⟨e,p,q⟩=>⟨e,O.mem_iff.mpr p,q⟩⟩
def zCB(led:Bool):SetG led #[] (.fresh 0 0 led):=⟨λe h=>by simp at h,by simp,rfl,.nil,.inl ⟨rfl,by simp,λj h=>by simp[SetTable.fresh]at h⟩⟩
end
end PySem
namespace PySem
open Sem (wp)
open DV PyProof.Rows
section
variable{prog:Lc}{w:Le}{A:Lg}{R:Result->La->Prop}{I:Lz}{fp wr:Ls Lz}{G:Array GenState->Array GenState->Prop}{n:Nat}{P:Nat->Lv->Prop}{St:Nat->La->Prop}
def YF(W:WalksS prog w A.in1 I fp wr G n P St)(S:Lz)(M:S∉fp)(led:Bool)
  (val:Lk) (H:∀i v,P i v->i<n->val i<16/\∃t,v=.int (val i:Int) t) :
  ∀(k i:Nat) (s:La) (x:Li) (Q:Nat) (t:SetTable),n-i=k->i<=n->St i s ->
   s.heap.get? S=some (Ze x Q t)->SetG led x t->(∀m:Int,(∃e∈x.toList,e.1=m)↔∃j,j<i/\m=val j) ->
   (∀l c r V,Moved (S::wr) G s l->l.heap.get? S=some (Ze c r V)->SetG led c V->(∀m:Int,(∃e∈c.toList,e.1=m)↔∃j,j<n/\m=val j)->R (.ok (.ret .none)) l) ->
   codeAny (model prog w) A (.builtin "set.update.loop" ⟨[.ref S,.ref I],[]⟩) R s:=by
 have y:S∉wr:=λh=>M (W.sub _ h)
 have p:∀b∈wr,b∈S::wr:=λb E=>qD _ E
 intro k
 induction k with
 |zero =>
  intro i s x Q t hk hi q hS g hm hR;have Y:i=n:=by omega
  subst Y;refine codeAny_builtin PyProof.Rows.F.entry_set_update_loop ?_;rw[Around.under_plainId PyProof.Rows.F.plain_set_update_loop _];show wpAny _ A.in1 (pyNext (.ref I) >>= _) _ _ s;refine qB (W.done s _ _ q λl a=>?_);show wpAny _ A.in1 (ret Value.none) _ _ l;exact qC (hR l x Q t (a.mono p) (a.heap S _ y hS) g hm)
 |succ k ih =>
  intro i s x Q tb hk hi q hS g hm hR;have u:i<n:=by omega
  refine codeAny_builtin PyProof.Rows.F.entry_set_update_loop ?_;rw[Around.under_plainId PyProof.Rows.F.plain_set_update_loop _];show wpAny _ A.in1 (pyNext (.ref I) >>= _) _ _ s;refine qB (W.item i s _ _ u q λv l hP z a=>?_);obtain⟨ab,t,rfl⟩:=H i v hP u;have ae:=a.heap S _ y hS;show wpAny _ A.in1 (holding [Value.int (val i:Int) t] (setAdd S (.int (val i:Int) t)) >>= _) _ _ l;refine qB (wpAny_holding ?_);unfold setAdd;refine wpAny_holding ?_;refine qB ((intKind prog w).pyHash (k:=(val i:Int)) (intKind_is _ _ _ _) ?_);refine zEt (s:={l with toks:=l.toks+1}) ae g ab λb h' c r V J af g2 ac=>?_
  refine qC ⟨plainId_quiet PyProof.Rows.F.plain_set_update_loop _,ih (i+1) _ c r V (by omega) u (W.frame _ l _ _ z (le_succ _) λb E o e=>?_) af g2 (λm=>?_) λZ C K aa O L ad D=>?_⟩
  ·rw[J.2 b (λh:b=S=>M (by rw[<- h];exact E))];exact e
  ·rw[ac m,hm m]
   constructor
   ·rintro (⟨j,hj,e⟩|e)
    ·exact⟨j,by omega,e⟩
    ·exact⟨i,by omega,e⟩
   ·rintro ⟨j,hj,e⟩
    by_cases X:j=i
    ·subst X;exact .inr e
    ·exact .inl ⟨j,by omega,e⟩
  ·refine hR Z C K aa (Moved.trans W.gtrans ((a.mono p).then_heap (le_succ _) λb o E e=>?_) O) L ad D
   rw[J.2 b (λh:b=S=>E (by rw[h];exact qE))];exact e
end
section
variable{prog:Lc}{w:Le}{A:Lg}{E:Ly}{s:La}
def zDE(a:Lv){Q₁:Ly}
  (h:Q₁ (.ref s.heap.objs.size) {s with heap:=s.heap.push (Ze #[] 0 (.fresh 0 0 (!j7 w)))}) :
  codeAny (model prog w) A (.call (.builtin "set.__new__") ⟨[.type "set",a],[]⟩) (wants Q₁ E) s:=by
 refine codeAny_of_tree ?_;show wpAny _ A.in1 (do checkBuiltinCall "set.__new__" ⟨[.type "set",a],[]⟩;again (.builtin "set.__new__" ⟨[.type "set",a],[]⟩)) _ _ s;refine qB (wpAny_of_eq (F.newCall_set_1 a) (qC ⟨plainId_quiet F.plain_set_new _,codeAny_builtin F.entry_set_new ?_⟩));rw[Around.under_plainId F.plain_set_new _];unfold Builtin.«set.__new__» Builtin.Frozenset.newClass;have c:=sub_set_self;obtain⟨i,g,d,tk,e⟩:=s;dsimp
 wp_walk
 refine wpAny_askSetting (qC ?_);dsimp;dsimp[newObj];refine qB (wpAny_alloc (qC ?_));exact qC h
def zA4{val:Lk}{Q:Ly} 
  (hh:A.handled=none) (hT:T="list"\/T="tuple") (X:s.heap.get? l=some {cls:=.type T,dict:=od,data:=.seq items nl,slots:=osl})
  (H:∀i v,items[i]?=some v->val i<16/\∃t,v=.int (val i:Int) t)
  (h:∀(u:Heap) (tk:Nat) x S t,u.get? s.heap.objs.size=some (Ze x S t)->SetG (!j7 w) x t->(∀m:Int,(∃e∈x.toList,e.1=m)↔∃j,j<items.size/\m=val j) ->
   (∀b o,b<s.heap.objs.size->s.heap.get? b=some o->u.get? b=some o)->Q (.ref s.heap.objs.size) {s with heap:=u,toks:=tk}) :
  wpAny (model prog w) A (call (.type "set") [.ref l]) Q E s:=by
 obtain⟨c,tl,am⟩:=F.called_set.mro;have ag:=F.called_set.made;have ap:=F.called_set.sub;refine wpAny_call (codeAny_of_tree ?_);show wpAny _ _ (callAny (.type "set") _) _ _ _;refine qC ⟨Code.quiet_builtin _ (by left),codeAny_builtin F.entry_type_call ?_⟩;rw[Around.under_plain (weight_type_call_type "set" [.ref l] []) rfl];have h1:=F.called_set.notType;have h2:=F.called_set.canCreate;have ar:=F.typeCall_set_1 (.ref l)
 repeat (any_goals (first|assumption|wp_step))
 refine codeAny_mono (zDE (.ref l) (E:=E) (Q₁:=λY I=>Y=.ref s.heap.objs.size/\I={s with heap:=s.heap.push (Ze #[] 0 (.fresh 0 0 (!j7 w)))}) ⟨rfl,rfl⟩) λr I hr=>?_
 cases r with
 |error e=>exact hr
 |ok fl =>
  cases fl with
  |ret Y =>
   obtain⟨rfl,rfl⟩:=hr;have hS:(s.heap.push (Ze #[] 0 (.fresh 0 0 (!j7 w)))).get? s.heap.objs.size=some (Ze #[] 0 (.fresh 0 0 (!j7 w))):=get?_push_size _ rfl;have ab:Shared.TypeIs {s with heap:=s.heap.push (Ze #[] 0 (.fresh 0 0 (!j7 w)))} (.ref s.heap.objs.size) "set":=⟨_,hS,rfl⟩
   have au:=F.called_set.init.lookup;have av:=F.called_set.init.bind (.ref s.heap.objs.size)
   repeat (any_goals (first|assumption|wp_step))
   refine codeAny_mono (codeAny_call_builtin (R:=wants (λr M=>r=.none/\∃u tk x S t,M={s with heap:=u,toks:=tk} /\
     u.get? s.heap.objs.size=some (Ze x S t)/\SetG (!j7 w) x t/\(∀m:Int,(∃e∈x.toList,e.1=m)↔∃j,j<items.size/\m=val j) /\
     (∀b o,b<s.heap.objs.size->s.heap.get? b=some o->u.get? b=some o)) E) F.called_set.init.plain F.entry_set_init (check_set_init_1 ab ?_)) λW M q=>?_
   ·have z:(s.heap.push (Ze #[] 0 (.fresh 0 0 (!j7 w)))).get? l=some {cls:=.type T,dict:=od,data:=.seq items nl,slots:=osl}:=qA _ X
    have ao:isSubtype (.type T) (.type "set")=pure false:=by rcases hT with rfl|rfl;exact F.sub_list_set;exact F.sub_tuple_set
    have an:isSubtype (.type T) (.type "frozenset")=pure false:=by rcases hT with rfl|rfl;exact F.sub_list_frozenset;exact F.sub_tuple_frozenset
    have aq:(Value.type T==Value.type "dict")=false:=by rcases hT with rfl|rfl<;>decide
    have ac:(s.heap.push {cls:=.type "set",dict:=none,data:=.set #[] 0 (.fresh 0 0 (!j7 w)),slots:=#[]}).get? s.heap.objs.size=some {cls:=.type "set",dict:=none,data:=.set #[] 0 (.fresh 0 0 (!j7 w)),slots:=#[]}:=hS;unfold Ze at z ab ⊢;unfold Builtin.«set.__init__» noKeywords Builtin.Frozenset.updateFrom;generalize aj:pyIter=PI
    wp_walk
    subst aj;have V:l<s.heap.objs.size:=lt_size X;have Z:A.in1.in1.in1.handled=none:=by simp[hh]
    have J:l≠(s.heap.push (Ze #[] 0 (.fresh 0 0 (!j7 w)))).objs.size:=by
     rw[size_push];exact ne_of_lt (lt_succ_of_lt V)
    have aa:s.heap.objs.size∉[(s.heap.push (Ze #[] 0 (.fresh 0 0 (!j7 w)))).objs.size,l]:=by
     rw[size_push];dsimp[mem_cons,mem_singleton,List.not_mem_nil,or_false,not_or];exact⟨ne_of_lt (lt_succ_self _),ne_of_gt V⟩
    have fin:∀(G:La) g p L (ci:Obj),Moved (s.heap.objs.size::[(s.heap.push (Ze #[] 0 (.fresh 0 0 (!j7 w)))).objs.size]) (λa b=>b=a) {s with heap:=(s.heap.push (Ze #[] 0 (.fresh 0 0 (!j7 w)))).push ci} G->G.heap.get? s.heap.objs.size=some (Ze g p L)->SetG (!j7 w) g L->(∀m:Int,(∃e∈g.toList,e.1=m)↔∃j,j<items.size/\m=val j) ->
      ∃u tk x S t,G={s with heap:=u,toks:=tk}/\u.get? s.heap.objs.size=some (Ze x S t)/\SetG (!j7 w) x t/\(∀m:Int,(∃e∈x.toList,e.1=m)↔∃j,j<items.size/\m=val j)/\(∀b o,b<s.heap.objs.size->s.heap.get? b=some o->u.get? b=some o):=by
     intro G g p L ci K n D k;obtain⟨u,g',d',af,ae⟩:=G;have eg:g'=s.gens:=K.gens;have ed:d'=s.drawn:=K.drawn;have eo:ae=s.os:=K.os;subst eg;subst ed;subst eo;refine⟨u,af,g,p,L,rfl,n,D,k,λb o hb e=>?_⟩;have ai:b≠s.heap.objs.size:=ne_of_lt hb;have ak:b≠(s.heap.push (Ze #[] 0 (.fresh 0 0 (!j7 w)))).objs.size:=by
      rw[size_push];exact ne_of_lt (lt_succ_of_lt hb)
     exact K.heap b o (by dsimp[mem_cons,mem_singleton,List.not_mem_nil,or_false,not_or];exact⟨ai,ak⟩) (qA _ (qA _ e))
    have C:∀m:Int,(∃e∈(#[]:Li).toList,e.1=m)↔∃j,j<0/\m=val j:=λm=>⟨λ⟨e,he,_⟩=>by simp at he,λ⟨j,hj,_⟩=>by omega⟩
    rcases hT with rfl|rfl
    ·have y:(s.heap.push (Ze #[] 0 (.fresh 0 0 (!j7 w)))).IsList l items:=⟨_,z,rfl,nl,rfl⟩
     refine wpAny_pyIter_list y ?_;refine qB (wpAny_runValue ?_);refine YF ((Walks.list Z _ l J items).toS) s.heap.objs.size aa (!j7 w) val (λi v hv _=>H i v hv) (items.size-0) 0 _ #[] 0 _ (by omega) (zero_le _)
      ⟨⟨_,get?_push_size _ rfl,rfl,rfl⟩,(y.push _)⟩ (qA _ hS) (zCB _) C λG g p L K n D k=>?_
     show wpAny _ _ _ _ _ _
     refine qC ?_;show wpAny _ _ (ret Value.none) _ _ _;exact qC ⟨rfl,fin G g p L _ K n D k⟩
    ·have y:(s.heap.push (Ze #[] 0 (.fresh 0 0 (!j7 w)))).IsTuple l items:=⟨_,z,rfl,nl,rfl⟩
     refine wpAny_pyIter_tuple y ?_;refine qB (wpAny_runValue ?_);refine YF ((Walks.tuple Z _ l J items).toS) s.heap.objs.size aa (!j7 w) val (λi v hv _=>H i v hv) (items.size-0) 0 _ #[] 0 _ (by omega) (zero_le _)
      ⟨⟨_,get?_push_size _ rfl,rfl,rfl⟩,(y.push _)⟩ (qA _ hS) (zCB _) C λG g p L K n D k=>?_
     show wpAny _ _ _ _ _ _
     refine qC ?_;show wpAny _ _ (ret Value.none) _ _ _;exact qC ⟨rfl,fin G g p L _ K n D k⟩
   ·cases W with
    |error e=>exact q
    |ok O =>
     cases O with
     |ret r =>
      obtain⟨rfl,u,tk,x,S,t,rfl,ac,g',ah,ad⟩:=q
      repeat (any_goals (first|assumption|wp_step))
      exact h _ _ x S t ac g' ah ad
     |_=>exact q.elim
  |_=>exact hr.elim
end
end PySem
namespace PySem
namespace F
end F
open Sem (wp)
open DV PyProof.Rows
end PySem
namespace PySem
open Sem (wp)
open DV PyProof.Rows
end PySem
namespace L2
open PySem PySem.Spec PyProof.Rows DV
def zHM(a:Ls Nat):Ls V:=((List.range 16).filter λi=>a.contains i).map λn:Nat=>V.int (n:Int)
abbrev RSet:=Ls Nat->Hp->VK->Prop
def zIn(K:qH)(r:RSet):Ls V->Hp->VK->Prop:=λc H Q=>∃(p:Lz) (a:Ls Nat),c=[.ref p]/\(SqL K H p (a.map λn:Nat=>V.int (n:Int))\/SqT K H p (a.map λn:Nat=>V.int (n:Int)))/\(∀n∈a,n<16)/\r a H Q
def rLen:RSet:=λa H Q=>Q (.int ((zHM a).length:Nat)) H
def zIo(X:Cx)(id:String)(r:RSet):Prop:=∀(a:Ls (Lz×Obj)) (s:La) (σ:St) (H:Hp) (Q:VK) (S:Lz) (c:Li) (h:Nat) (t:SetTable) (g:Ls Nat),Inv X a σ H s->s.heap.get? S=some (Ze c h t)->SetG (!j7 X.w) c t->(∀m:Int,(∃e∈c.toList,e.1=m)↔∃n,n∈g/\m=(n:Int))->r g H Q ->
 wpAny (model X.prog X.w) X.A (call (.builtin id) [.ref S]) (EP X a σ Q) X.xe s
def vJ{c:Ls Nat}{a:Ls Lv}(h:yA (c.map λn:Nat=>V.int (n:Int)) a)(o:∀n∈c,n<16):c.length=a.length/\∀(i:Nat) (v:Lv),a.toArray[i]?=some v->c.getD i 0<16/\∃t,v=.int ((c.getD i 0:Nat):Int) t:=by
 have hl:=h.length;dsimp[length_map]at hl;refine⟨hl,λi v e=>?_⟩;have j:a[i]?=some v:=by exists e
 have g:i<c.length:=by
  obtain⟨p,_⟩:=qG.mp j;omega
 obtain⟨u,k,l⟩:=h.get (i:=i) (x:=V.int (c[i]:Int)) (by simp[g]);rw[j]at k;cases k;obtain⟨t,rfl⟩:=l;rw[getD_eq_getElem?_getD,getElem?_eq_getElem g];exact⟨o _ (getElem_mem g),t,rfl⟩
section
variable{X:Cx}
def zHN{f:Str}{id:String}{r:RSet}{a:Lb}{ta:TA}{p p0 D G:Pos}(hR:zIo X id r)(hc:X.calm=true)(V:Gl X f)(L:X.mg f=none)(R:bootBuiltins f=some (.builtin id))(O:f≠Str.ofString "__name__")(S:(f==Str.ofString "__debug__")=false)(hg:Gl X "set")(hm:X.mg "set"=none)(M:bootBuiltins "set"=some (.type "set"))(ha:PA X [a] ta)(hs:starEach [a] X.env=[(false,eval a X.env)]:=by rfl) :
  PE X (.Call (.Name f p0) [.Call (.Name "set" p) [a] [] D] [] G) (tCB (zIn X.K r) ta):=by
 intro l s σ H Q I h;refine wpAny_Call_Name_kw (Z3 (hn:=O) (hd:=S) I V L R (PyProof.Rows.callWith_builtin1 (Calls.spliced_cons ?_) rfl rfl));refine Call_ (Z3 I hg hm M (PyProof.Rows.callWith_type1 (thn (ha D l s σ H _ I h) λus s1 ⟨vs,H1,I1,r1,q1⟩=>?_) hs rfl));obtain⟨p,u,e,K,hb,q⟩:=q1;subst e;cases r1 with
 |cons r rr =>
  cases rr;cases r;have hh:X.A.handled=none:=I1.ok.hd hc;obtain⟨T,c,nl,x,J,hT,y,aa,z⟩:∃(T:String) (c:Ls Lv) (nl:Nat) (x:Lx Lz) (J:Lm),(T="list"\/T="tuple")/\s1.heap.get? p=some {cls:=.type T,dict:=x,data:=.seq c.toArray nl,slots:=J}/\u.length=c.length/\∀(i:Nat) (v:Lv),c.toArray[i]?=some v->u.getD i 0<16/\∃t,v=.int ((u.getD i 0:Nat):Int) t:=by
   rcases K with K|K
   ·obtain⟨c,Y,pl,_⟩:=I1.list K
    obtain⟨⟨cl,x,dt,Z⟩,ho,k,n,hd⟩:=pl.isList;simp only at k hd;subst k;subst hd;exact⟨"list",c,n,x,Z,.inl rfl,ho,vJ Y hb⟩
   ·obtain⟨c,Y,⟨⟨cl,x,dt,Z⟩,ho,k,n,hd⟩,_⟩:=I1.tuple K
    simp only at k hd;subst k;subst hd;exact⟨"tuple",c,n,x,Z,.inr rfl,ho,vJ Y hb⟩
  refine zA4 hh hT y z λh' tk es ep t ho g C ext=>Calls.spliced_nil ?_
  have w:∀m:Int,(∃e∈es.toList,e.1=m)↔∃n,n∈u/\m=(n:Int):=λm=>by
   rw[C m];constructor
   ·rintro ⟨j,W,e⟩
    have E:j<u.length:=by simp at W;omega
    refine⟨u[j],getElem_mem E,?_⟩;rw[e,getD_eq_getElem?_getD,getElem?_eq_getElem E];rfl
   ·rintro ⟨n,hn,e⟩
    obtain⟨j,W,rfl⟩:=getElem_of_mem hn;refine⟨j,by simp;omega,?_⟩;rw[e,getD_eq_getElem?_getD,getElem?_eq_getElem W];rfl
  exact hR l {s1 with heap:=h',toks:=tk} σ H1 Q _ es ep t u (I1.kept (t':=tk) λb o eb=>ext b o (lt_size eb) eb) ho g w q
def zEu{led:Bool}{es:Li}{t:SetTable}{l:Ls Nat}(g:SetG led es t)(r:∀m:Int,(∃e∈es.toList,e.1=m)↔∃n,n∈l/\m=(n:Int)):es.size=(zHM l).length:=by
 have p:es.size=(es.toList.map (·.1)).length:=by simp
 rw[p];unfold zHM;rw[<- length_map (f:=λv:V=>match v with | .int i=>i|_=>(0:Int)),map_map]
 refine(List.Perm.length_eq ?_);rw[List.perm_ext_iff_of_nodup g.nd]
 ·intro m
  have h:=r m;dsimp[mem_map,mem_filter,mem_range,contains_iff_mem,Function.comp];constructor
  ·rintro ⟨e,j,q⟩
   obtain⟨n,c,rfl⟩:=h.mp ⟨e,j,q⟩;obtain⟨w,k,u,o⟩:=g.ent e j;rw[o]at q;have:w=n:=Int.ofNat.inj q;exact⟨n,⟨by omega,c⟩,rfl⟩
  ·rintro ⟨n,⟨_,c⟩,rfl⟩
   exact h.mpr ⟨n,c,rfl⟩
 ·refine List.Pairwise.map _ (λa b h=>?_) ((List.nodup_range (n:=16)).filter _)
  dsimp[Function.comp];omega
def rs_len:zIo X "len" rLen:=λa s σ H Q S i j t c I ho g e q=>by
 have h:=g.few;refine call_len_set (o:=Ze i j t) ho ⟨rfl,rfl,rfl⟩ rfl g.fits (by omega) ?_;have I2:Inv X a σ H {s with toks:=s.toks+1+1}:=I.tok _
 exact⟨.int ((zHM c).length:Nat),H,I2,⟨_,by rw[zEu g e]⟩,q⟩
end
end L2
namespace DV
open PySem L2
def jc:Ls D->Lx (Ls Nat)
 | []=>some []| .int j::ds=>if 0<=j/\j<16 then(jc ds).map (j.toNat::·)else none|_=>none
theorem vK{K:qH}{i:Str->Lx Lv}{H:Hp}:∀(c:Ls D) (a:Ls Nat) (e:Ls V),jc c=some a->Reps K i H c e->e=(a.map λn:Nat=>V.int (n:Int))/\∀n∈a,n<16
 | [],a,e,h,r=>by
  cases h;dsimp[Reps]at r;exact⟨r,λn h=>by cases h⟩
 |d::c,a,e,h,r=>by
  cases d with
  |int j =>
   dsimp[jc]at h;split at h
   ·rename_i q
    exists hs,jc c,h,ms;cases h;dsimp[Reps]at r;obtain⟨x,l,rfl,k,o⟩:=r;obtain⟨rfl,p⟩:=vK c ms l hs o;rw[zJ k];refine⟨?_,λn g=>?_⟩
    ·rw[map_cons];congr 2;omega
    ·rcases mem_cons.mp g with rfl|g
     ·omega
     ·exact p n g
   ·cases h
  |_=>cases h
section
variable{X:Cx}
def bt_set:bootBuiltins "set"=some (.type "set"):=by left
def zEv:Ls D->Lx R
 | [.l a]=>(jc a).map λc=>.v (.int ((zHM c).length:Nat))| [.t a]=>(jc a).map λc=>.v (.int ((zHM c).length:Nat))|_=>none
def zHO{K:qH}{l:Str->Lx Lv}{F:Ls D->Lx R}{r:RSet}{fr:Ls Nat->R}(x:∀j a,F j=some a->∃g c,(j=[.l g]\/j=[.t g])/\jc g=some c/\a=fr c)
  (q:∀(c:Ls Nat) (M:Ld) (H:Hp) (Z:Fz) (Q:VK),FR K l M H Z->Kt K l M H Z (fr c) Q->r c H Q):COk K l (zIn K r) F:=λM H Z u j a Q f o e k=>by
 obtain⟨g,c,hd,t,rfl⟩:=x j a e;have n:∃p ys,u=[.ref p]/\(SqL K H p ys\/SqT K H p ys)/\Reps K l (Hm (Mo M Z) H) g ys:=by
  rcases hd with rfl|rfl
  ·obtain⟨v,rfl,h⟩:=J3 o
   obtain⟨p,ys,rfl,i,h2⟩:=yH h;exact⟨p,ys,rfl,.inl (zF.seq i),h2⟩
  ·obtain⟨v,rfl,h⟩:=J3 o
   obtain⟨p,ys,rfl,i,h2⟩:=yT h;exact⟨p,ys,rfl,.inr (zL zF i),h2⟩
 obtain⟨p,ys,rfl,i,h2⟩:=n;obtain⟨rfl,w⟩:=vK g c ys t h2;exact⟨p,c,rfl,i,w,q c M H Z Q f k⟩
def of_inv{fr:Ls Nat->R}{F:Ls D->Lx R}(h:∀a,F [.l a]=(jc a).map fr)(j:∀a,F [.t a]=(jc a).map fr)(i:∀c res,F c=some res->∃a,c=[.l a]\/c=[.t a])(c:Ls D)(res:R)(e:F c=some res):∃a ns,(c=[.l a]\/c=[.t a])/\jc a=some ns/\res=fr ns:=by
 obtain⟨a,hd⟩:=i c res e;have:(jc a).map fr=some res:=by
  rcases hd with rfl|rfl
  ·rw[<- h];exact e
  ·rw[<- j];exact e
 cases g:jc a with
 |none=>rw[g]at this;cases this|some ns=>rw[g]at this;cases this;exact⟨a,ns,hd,g,rfl⟩
def ok_lset{a:Lb}{m:MA}{p u h c:Pos}(r:X.calm=true)(l:Gl X "len")(g:X.mg "len"=none)(v:Gl X "set")(t:X.mg "set"=none)(x:AOk X [a] m)(i:zd a=false:=by rfl) :
  EOk X (.Call (.Name "len" u) [.Call (.Name "set" p) [a] [] h] [] c) (eCB zEv m) :=
 zi (zHN rs_len r l g (by left) (by decide) (by decide) v t bt_set x (zD8 i)) λσ H Q q=>Ql (zHO (fr:=λn=>.v (.int ((zHM n).length:Nat))) (of_inv (λ_=>rfl) (λ_=>rfl) λw o e=>by
  match w,e with
  | [.l j],_=>exact⟨j,.inl rfl⟩| [.t j],_=>exact⟨j,.inr rfl⟩) λn M H Z Q f k=>k.flat f rfl) q
end
section
variable{X:Cx}
def iZA(t2:Bool)(m:MA):MI:=λE=>match m E with
 | .z=>.z| .y x E1=>.y x E1
 | .ok ([r,_],_)=>match r.d with
  | .l _=>iZ false t2 m E| .t _=>iZ true t2 m E|_=>.z
 |_=>.z
def io_zipA{x1}(i:Gl X "zip")(j:X.mg "zip"=none)(n:AOk X [a,b] m)(h:zd a=false:=by rfl)(e:zd b=false:=by rfl) :
  IOk X (.Tuple elts x1 tp) (.Call (.Name "zip" p) [a,b] [] cpos) (iZA t2 m):=λc s σ H R I ⟨M,E,hl,fr,k⟩=>by
 unfold iZA at k;cases g:m E with
 |z=>rw[g]at k;exact k.elim|y x E1=>exact zB2 (t1:=true) (t2:=t2) (.inl ⟨_,_,_,rfl⟩) i j n h e c s σ H R I ⟨M,E,hl,fr,by unfold iZ;rw[g]at k ⊢;exact k⟩
 |ok q =>
  obtain⟨u,E1⟩:=q;rw[g]at k
  match u,g,k with
  | [r,w],g,k =>
   dsimp at k;cases o:r.d with
   |l v=>rw[o]at k;exact zB2 (t1:=false) (t2:=t2) (.inl ⟨_,_,_,rfl⟩) i j n h e c s σ H R I ⟨M,E,hl,fr,k⟩|t v=>rw[o]at k;exact zB2 (t1:=true) (t2:=t2) (.inl ⟨_,_,_,rfl⟩) i j n h e c s σ H R I ⟨M,E,hl,fr,k⟩|_=>rw[o]at k;exact k.elim
  | [],g,k=>exact k.elim| [_],g,k=>exact k.elim|_::_::_::_,g,k=>exact k.elim
end
end DV
namespace DV
open PySem PyProof.Rows
end DV
namespace DV
open PySem L2
def zEw(K:qH)(H:Hp)(a:Lz)(es:Ls DE):Prop:=zC1 H a es/\∀e∈es,SqT K H e.2.1 (e.1.map oV)
section
variable{X:Cx}{pins:Ls (Lz×Obj)}{σ:L2.St}{H:Hp}{s:La}{a:Lz}{es:Ls DE}
def rDIx(K:qH):R2:=λx y H Q=>∃a g e c v,x=.ref a/\zEw K H a g/\y=.ref e/\SqT K H e (c.map oV)/\atE g c=some v/\Q v H
def zIp(o:X.A.units+1<cLine):IxR X (rDIx X.K):=by
 intro c g l s σ H x y v u Q I rx ry h hs;obtain⟨a,E,G,C,w,rfl,⟨⟨_,e⟩,n⟩,rfl,z,i,q⟩:=h;cases rx;cases ry;obtain⟨D,r,k,hd,_⟩:=Qe I e n;obtain⟨p,t,j⟩:=wL.at r i
 exact PyProof.Rows.tail_any k.typeIs slot_dict_getitem.lookup (wpAny_getItem_heap (tupleKind_room_in1 o) (uY I z) k t ⟨w,H,I.tok _,j,q⟩) hs
def rDIn(K:qH)(neg:Bool):R2:=λx y H Q=>∃a e g c,y=.ref a/\zEw K H a e/\x=.ref g/\SqT K H g (c.map oV)/\Q (.bl (if neg then !(atE e c).isSome else(atE e c).isSome)) H
def at_some(r:wL es xs)(ks:Ls KN):(atKey xs ks).isSome=(atE es ks).isSome:=by
 cases h:atE es ks with
 |none=>rw[wL.none r h];rfl|some v=>obtain⟨p,e,_⟩:=wL.at r h;rw[e];rfl
def zEx(i:X.A.units+1<cLine):OpR X (compareOp .NotIn) (rDIn X.K true):=by
 intro c s σ H x y v u Q I rx ry h;obtain⟨a,o,p,l,rfl,⟨⟨_,e⟩,g⟩,rfl,k,q⟩:=h;cases rx;cases ry;obtain⟨n,r,j,hd,_⟩:=Qe I e g;refine PyProof.Rows.wpAny_notIn_heap (tupleKind_room_in1 i) (uY I k) hd j ⟨.bl _,H,I.tok _,rfl,?_⟩;rw[at_some r];exact q
def zA5(j:h.DictOfH (tupleKind (zC0 X.prog X.w)) a xs)(hd:(a==sysModules)=false)(e:es.length<=sizeLine)(r:wL es xs):zIQ a es h:=by
 obtain⟨o,c,k,g,h2,i,h4,_,h5⟩:=j;exact⟨hd,e,by rw[<- wL.keys r];exact h5,o,c,k,xs,g,h2,i,r,h4⟩
def rSetD(K:qH):V->V->V->Hp->(Hp->Prop)->Prop:=λo i v H Q=>∃a c e g,o=.ref a/\zEw K H a c/\i=.ref e/\SqT K H e (g.map oV)/\c.length<1000000/\∀h,Q (upd H a (WZ a (zAk c g e v) h))
def set_dic(L:X.A.units+1<cLine):PSet X (rSetD X.K):=by
 intro z s σ H o i v ov iv u Q I ro ri rv h;obtain⟨a,y,t,n,rfl,⟨⟨_,e⟩,K⟩,rfl,J,hl,q⟩:=h;cases ro;cases ri;obtain⟨G,r,O,hd,hz,D⟩:=Qe I e K;have C:(1000000:Nat)<=sizeLine:=by left
 have l:G.length=y.length:=by have:=congrArg length (wL.keys r);exists this
 refine wpAny_setItem_heap (tupleKind_room_in1 L) (uY I J) O (λh' g E=>?_) (by omega);have j:zIQ a (zAk y n t v) h':=zA5 g hd (by have:=(W4 (k:=n) (ka:=t) (v:=v) D).2;omega) (r.put rv);obtain⟨_,_,_,R,_,_,_,p,_⟩:=id j;refine⟨_,I.write (x:=a) (e:=a) (by rw[e];trivial) (.inl rfl) (λb w c M=>(E.2 b c).trans M) ⟨R,p⟩ (zBp j p),q _⟩
end
def Qz:Ls D->Lx (Ls KN)
 | []=>some []| .int i::ds=>(Qz ds).map (some i::·)| .non::ds=>(Qz ds).map (none::·)|_::_=>none
def Q0:D->Lx (Ls KN)
 | .t a=>Qz a|_=>none
def JZ:Ls (Ls KN)->Ls D->Ls KN->Lx D
 |k::a,v::c,q=>if k=q then some v else JZ a c q|_,_,_=>none
def setV:Ls (Ls KN)->Ls D->Ls KN->D->Ls D
 |k::c,v::a,q,d=>(if k=q then d else v)::setV c a q d|_,a,_,_=>a
def zGB(ks:Ls (Ls KN))(vs:Ls D)(q:Ls KN)(d:D):Ls (Ls KN)×Ls D:=match JZ ks vs q with
 |some _=>(ks,setV ks vs q d)|none=>(ks++[q],vs++[d])
section
variable{K:qH}{mg:Str->Lx Lv}{X:Cx}{σ:L2.St}{H:Hp}{M:Ld}
theorem zA6:∀{a:Ls D} {c:Ls KN} {g:Ls V},Qz a=some c->Reps K mg H a g->g=c.map oV
 | [],_,_,e,r=>by cases e;dsimp[Reps]at r;subst r;rfl
 |d::a,c,g,e,r=>by
  obtain⟨v,t,rfl,j,k⟩:=r;cases d with
  |int i =>
   dsimp[Qz]at e;cases h:Qz a with
   |none=>rw[h]at e;cases e|some q=>rw[h]at e;cases e;rw[zJ j,zA6 h k];rfl
  |non =>
   dsimp[Qz]at e;cases h:Qz a with
   |none=>rw[h]at e;cases e|some q=>rw[h]at e;cases e;rw[jO j,zA6 h k];rfl
  |_=>cases e
def vL(e:Q0 d=some ks)(r:Rep K mg H d v):∃g,v=.ref g/\SqT K H g (ks.map oV):=by
 cases d with
 |t h =>
  obtain⟨a,i,rfl,c,h2⟩:=yT r;rw[zA6 e h2]at c;exact⟨a,rfl,c⟩
 |_=>cases e
theorem Y8:∀{c:Ls DE} {a:Ls D} {q:Ls KN} {d:D},Reps K mg H a (c.map (·.2.2))->JZ (c.map (·.1)) a q=some d->∃v,atE c q=some v/\Rep K mg H d v
 | [],_,_,_,_,e=>by simp[JZ]at e
 |x::c,a,q,d,r,e=>by
  cases a with
  |nil=>simp[JZ]at e
  |cons y a =>
   obtain⟨v,t,g,i,j⟩:=r;cases g;dsimp[map_cons,JZ]at e;unfold atE;rw[find?_cons];by_cases h:x.1=q
   ·rw[if_pos h]at e;cases e
    rw[decide_eq_true h];exact⟨_,rfl,i⟩
   ·rw[if_neg h]at e
    rw[decide_eq_false h];exact Y8 j e
theorem Q1:∀{c:Ls DE} {a:Ls D} {q:Ls KN},Reps K mg H a (c.map (·.2.2))->JZ (c.map (·.1)) a q=none->atE c q=none
 | [],_,_,_,_=>rfl
 |x::c,a,q,r,e=>by
  cases a with
  |nil=>dsimp[map_cons,Reps]at r;cases r
  |cons y a =>
   obtain⟨v,t,g,j,i⟩:=r;cases g;dsimp[map_cons,JZ]at e;unfold atE;rw[find?_cons];by_cases h:x.1=q
   ·rw[if_pos h]at e;cases e
   ·rw[if_neg h]at e
    rw[decide_eq_false h];exact Q1 i e
def vM(r:Reps K mg H vs (es.map (·.2.2))):(atE es q).isSome=(JZ (es.map (·.1)) vs q).isSome:=by
 cases h:JZ (es.map (·.1)) vs q with
 |none=>rw[Q1 r h];rfl|some d=>obtain⟨v,e,_⟩:=Y8 r h;rw[e];rfl
theorem zCC:∀{c:Ls DE} {a:Ls D} {q:Ls KN} {d:D} {v:V},Reps K mg H a (c.map (·.2.2))->Rep K mg H d v->Reps K mg H (setV (c.map (·.1)) a q d) ((c.map λe=>if e.1=q then(e.1,e.2.1,v)else e).map (·.2.2))
 | [],a,_,_,_,r,_=>by
  cases a with
  |nil=>exact r|cons _ _=>dsimp[map_nil,Reps]at r;obtain⟨_,_,z,_⟩:=r;cases z
 |x::c,a,q,d,v,r,rd=>by
  cases a with
  |nil=>dsimp[map_cons,Reps]at r;cases r
  |cons y a =>
   obtain⟨w,t,g,i,j⟩:=r;cases g;dsimp[map_cons,setV];refine Reps.cons ?_ (zCC j rd);by_cases h:x.1=q
   ·rw[if_pos h,if_pos h];exact rd
   ·rw[if_neg h,if_neg h];exact i
def zEy(r:Reps K mg H vs (es.map (·.2.2)))(a:Rep K mg H d v) :
  (zAk es q kb v).map (·.1)=(zGB (es.map (·.1)) vs q d).1/\Reps K mg H (zGB (es.map (·.1)) vs q d).2 ((zAk es q kb v).map (·.2.2)):=by
 unfold zAk zGB;rw[vM r];cases h:JZ (es.map (·.1)) vs q with
 |none =>
  dsimp[Option.isSome_none,Bool.false_eq_true,if_false,map_append,map_cons,map_nil];exact⟨trivial,r.append (Reps.cons a Reps.nil)⟩
 |some y =>
  dsimp[Option.isSome_some,if_true];refine⟨?_,zCC r a⟩;rw[map_map];refine map_congr_left λe _=>?_
  dsimp[Function.comp];split<;>rfl
def zCD(h:∀e∈es,SqT K H e.2.1 (e.1.map oV))(g:SqT K H kb (q.map oV)):∀e∈zAk es q kb v,SqT K H e.2.1 (e.1.map oV):=λe a=>by
 unfold zAk at a;split at a
 ·obtain⟨x,c,rfl⟩:=mem_map.mp a
  have:=h x c;split
  ·exact this
  ·exact this
 ·rcases mem_append.mp a with a|a
  ·exact h e a
  ·rw[mem_singleton.mp a];exact g
def dgD:D->D->Lx R
 | .m a c,k=>(Q0 k).bind λq=>(JZ a c q).map .v|_,_=>none
def ro_dg:ROk K mg (rDIx K) dgD:=by
 intro M H Z x y u l i Q f p r e k;cases u with
 |m C h =>
  obtain⟨a,g,rfl,j,rfl,n,h4⟩:=p;dsimp[dgD]at e;exists eq,Q0 l,e,q;dsimp[Option.bind_some]at e;cases c:JZ (g.map (·.1)) h q with
  |none=>rw[c]at e;cases e
  |some d =>
   rw[c]at e;cases e;obtain⟨z,rfl,w⟩:=vL eq r;obtain⟨v,hv,t⟩:=Y8 h4 c;exact⟨a,g,z,q,v,rfl,⟨j.mono zF,λx o=>zL zF (n x o)⟩,rfl,zL zF w,hv,k.rep f t⟩
 |_=>cases e
def ctD:Slot->Lx (Ls (Ls KN)×Ls D)
 | .m a c=>some (a,c)| .v (.m a c)=>some (a,c)|_=>none
def zEz{E:zU}{i:Nat}{s:Slot}{ks:Ls (Ls KN)}{vs:Ls D}(u:E.length=σ.length)(f:FR K mg M H (σ.zip E))(h:E[i]?=some s)(g:ctD s=some (ks,vs)):∃a c,σ[i]?=some (some (.ref a))/\zC1 H a c/\ks=c.map (·.1)/\(∀e∈c,SqT K (Hm (Mo M (σ.zip E)) H) e.2.1 (e.1.map oV))/\Reps K mg (Hm (Mo M (σ.zip E)) H) vs (c.map (·.2.2)):=by
 obtain⟨o,t,h2⟩:=jN u h;cases s with
 |m l k =>
  cases g;obtain⟨a,ho,rfl,q,_,c,⟨w,rfl⟩,n,p,j⟩:=f.own o _ _ h2 rfl;exact⟨a,c,t,⟨w,q⟩,n,p,j⟩
 |v d =>
  cases d with
  |m l k =>
   cases g;obtain⟨v,rfl,r⟩:=f.val o _ h2;obtain⟨a,c,rfl,q,n,p,j⟩:=r;exact⟨a,c,t,q.mono zF,n,p,j⟩
  |_=>cases g
 |_=>cases g
def eDgO(i:Nat)(m:ME):ME:=λE=>if jw E[i]?=true then .z else match m E with
 | .z=>.z| .y x E1=>.y x E1
 | .ok (r,E1)=>match E1[i]? with
  |some s=>match ctD s with
   |some (a,c)=>match Q0 r.d with
    |some q=>match JZ a c q with
     |some d=>.ok (.v d,E1)|none=>.z
    |none=>.z
   |none=>.z
  |none=>.z
def dgO_run{i:Nat}{m:ME}{Q:VK}(h:tM X (eDgO i m) σ H Q):tOp (rDIx X.K) (Wz i) (tM X m) σ H Q:=by
 obtain⟨M,E,hl,fr,k⟩:=h;unfold eDgO at k;cases e:jw E[i]? with
 |true=>rw[e]at k;exact k.elim
 |false =>
  rw[e]at k;obtain⟨s,j,c⟩:=ZZ e;obtain⟨v,hv⟩:=ug hl fr j c;refine⟨v,hv,?_⟩;refine zc (T0:=[]) hl fr ?_;exists ea,m E,k,r,E1;intro y H1 g;dsimp at k;exists e1,E1[i]?,k,s1;dsimp at k;cases l:ctD s1 with
  |none=>rw[l]at k;exact k.elim
  |some u =>
   obtain⟨z,p⟩:=u;rw[l]at k;exists e3,Q0 r.d,k,q;dsimp at k;exists e4,JZ z p q,k,d;obtain⟨a,D,o,h2,rfl,h4,h5⟩:=zEz g.len g.frame e1 l;have ev:v=.ref a:=by rw[hv]at o;exact qJ (qJ o)
   subst ev;obtain⟨I,rfl,G⟩:=vL e3 g.rep;obtain⟨w,t,n⟩:=Y8 h5 e4;exact⟨a,D,I,q,w,rfl,⟨h2,λx C=>zL zF (h4 x C)⟩,rfl,zL zF G,t,k w H1 (g.more (T:=[(some w,.v d)]) (g.frame.add n) Step.refl.add)⟩
def eInO(neg:Bool)(i:Nat)(m:ME):ME:=λE=>match m E with
 | .z=>.z| .y x E1=>.y x E1
 | .ok (r,E1)=>match E1[i]? with
  |some s=>match ctD s with
   |some (a,c)=>match Q0 r.d with
    |some q=>.ok (.v (.bl (if neg then !(JZ a c q).isSome else(JZ a c q).isSome)),E1)|none=>.z
   |none=>.z
  |none=>.z
def zE0{neg:Bool}{i:Nat}{m:ME}{Q:VK}(h:tM X (eInO neg i m) σ H Q):tOp (rDIn X.K neg) (tM X m) (Wz i) σ H Q:=by
 obtain⟨M,E,hl,fr,k⟩:=h;unfold eInO at k;refine zc (T0:=[]) hl fr ?_;exists ea,m E,k,r,E1;intro y H1 g;dsimp at k;exists e1,E1[i]?,k,s1;dsimp at k;cases c:ctD s1 with
 |none=>rw[c]at k;exact k.elim
 |some l =>
  obtain⟨u,t⟩:=l;rw[c]at k;exists e3,Q0 r.d,k,q;obtain⟨a,n,e,h2,rfl,h4,h5⟩:=zEz g.len g.frame e1 c;obtain⟨p,rfl,o⟩:=vL e3 g.rep;refine⟨.ref a,e,a,n,p,q,rfl,⟨h2,λx j=>zL zF (h4 x j)⟩,rfl,zL zF o,?_⟩;rw[vM h5];refine k (.bl _) H1 ?_;exact g.flat (d:=.bl _) rfl
def ok_dgO(i:Nat)(c:X.A.units+1<cLine)(g:PE X (.Name x p) (Wz i))(e:ZT b)(a:EOk X b m):EOk X (.Subscript (.Name x p) b pos) (eDgO i m) :=
 zi (pe_ix (zIp c) g a e) λσ H Q h=>dgO_run h
def ok_dg(g:X.A.units+1<cLine)(h:ZT b)(c:EOk X a ma)(e:EOk X b mb):EOk X (.Subscript a b pos) (Y1 dgD ma mb):=ok_ix (zIp g) ro_dg h c e
def ok_ninO(i:Nat)(e:X.A.units+1<cLine)(g:PE X (.Name x p) (Wz i))(c:EOk X a m):EOk X (.Compare a [.NotIn] [.Name x p] pos) (eInO true i m) :=
 zi (zDm (zEx e) c g rfl) λσ H Q h=>zE0 h
def zHP(i:Nat)(e:X.A.units+1<cLine)(g:PE X (.Name x p) (Wz i))(c:EOk X a m):TOk X (.Compare a [.NotIn] [.Name x p] pos) (tT (eInO true i m)) :=
 Qf (zDn (zEx e) c g rfl) λσ H Q h=>zE0 (zBs h)
def FR.mutD(h:FR K mg M H Z)(hi:Z[i]?=some (some (.ref p),.m ks vs))(G:∀e∈es,SqT K (Hm (Mo M Z) H) e.2.1 (e.1.map oV))(r:Reps K mg (Hm (Mo M Z) H) vs' (es.map (·.2.2))) :
  FR K mg M (upd H p (WZ p es ob)) (Z.set i (some (.ref p),.m (es.map (·.1)) vs'))/\Step M H Z (upd H p (WZ p es ob)) (Z.set i (some (.ref p),.m (es.map (·.1)) vs')):=by
 have C:yP (Z.set i (some (.ref p),.m (es.map (·.1)) vs'))=yP Z:=y4 (show GO (some (.ref p),Slot.m (es.map (·.1)) vs')=GO (some (.ref p),Slot.m ks vs)from rfl) hi;have t:Mo M (Z.set i (some (.ref p),.m (es.map (·.1)) vs'))=Mo M Z:=by unfold Mo;rw[C]
 have D:p∈yP Z:=jM (c:=.d ks vs) (mem_of_getElem? hi) rfl rfl;obtain⟨W,S,x,_⟩:=h.ownAt D;have g:Hm (Mo M Z) (upd H p (WZ p es ob))=Hm (Mo M Z) H:=by
  funext b
  unfold Hm;by_cases l:Mo M Z b
  ·simp[l]
  ·have:b≠p:=λe=>l (by subst e;exact .inr D)
   simp[l,zk this]
 have j:i<Z.length:=(qG.mp hi).1;have u:p∉yP (Z.eraseIdx i):=by
  have O:Z.Perm ((some (.ref p),.m ks vs)::Z.eraseIdx i):=by
   have:=zX (some (V.ref p),Slot.m ks vs) Z i j;rw[we hi]at this;exact this
  have L:=(O.filterMap GO).nodup_iff.mp h.nd;have e:List.filterMap GO ((some (V.ref p),Slot.m ks vs)::Z.eraseIdx i)=p::yP (Z.eraseIdx i):=rfl;exact(nodup_cons.mp L).1
 have n:(Z.set i (some (.ref p),.m (es.map (·.1)) vs')).Perm ((some (.ref p),.m (es.map (·.1)) vs')::Z.eraseIdx i):=zX _ _ _ j;refine⟨⟨λo d q=>?_,λo E c q e=>?_,by rw[C];exact h.nd,λb q=>?_⟩,⟨by rw[t,g];exact YU.refl _,λb o m e=>?_⟩⟩
 ·rw[t,g]
  rcases(List.mem_or_eq_of_mem_set q).symm with q|q
  ·cases q
  ·exact h.val o d q
 ·rw[t,g]
  rcases mem_cons.mp (n.mem_iff.mp q)with k|k
  ·cases k;cases e
   exact⟨p,_,rfl,y3,x,es,⟨_,rfl⟩,rfl,G,r⟩
  ·have w:(o,E)∈Z:=(eraseIdx_sublist Z i).subset k
   obtain⟨a,ho,y,J,Q,I⟩:=h.own o E c w e;have v:a≠p:=λz=>by subst z;exact u (jM k e y)
   exact⟨a,ho,y,by rw[zk v];exact J,Q,I⟩
 ·obtain⟨o,e,R⟩:=h.mal b q
  by_cases z:b=p
  ·subst z;exact⟨_,y3,.inr ⟨_,rfl⟩⟩
  ·exact⟨o,by rw[zk z];exact e,R⟩
 ·have v:b≠p:=λz=>x (by subst z;exact m)
  rw[zk v];exact e
def sDput(i:Nat)(mk e:ME):MS:=λE=>if jw E[i]?=true then .z else match e E with
 | .z=>.z| .y x E1=>.y x E1
 | .ok (r,E1)=>match mk E1 with
  | .z=>.z| .y x E2=>.y x E2
  | .ok (g,E2)=>match E2[i]? with
   |some (.m a c)=>match Q0 g.d with
    |some q=>if a.length<1000000 then .ok (.nx,E2.set i (.m (zGB a c q r.d).1 (zGB a c q r.d).2))else .z|none=>.z
   |_=>.z
def zHQ{i:Nat}{mk w:ME}{D:Ends}(h:tS X (sDput i mk w) D σ H):tAsg (tM X w) (gSub (Wz i) (tM X mk) (rSetD X.K)) D σ H:=by
 obtain⟨M,E,hl,fr,k⟩:=h;unfold sDput at k;cases C:jw E[i]? with
 |true=>rw[C]at k;exact k.elim
 |false =>
  rw[C]at k;obtain⟨s,t,G⟩:=ZZ C;obtain⟨v,hv⟩:=ug hl fr t G;refine zc (T0:=[]) hl fr ?_;cases K:w E with
  |z=>rw[K]at k;exact k|y x E1=>rw[K]at k;exact λH' g=>k σ H' g
  |ok p =>
   obtain⟨r,E1⟩:=p;rw[K]at k;intro y H1 j;refine⟨v,hv,?_⟩;refine zc (T0:=[(some y,r.slot)]) j.len j.fr ?_;dsimp at k;cases n:mk E1 with
   |z=>rw[n]at k;exact k|y x E2=>rw[n]at k;exact λH' g=>k σ H' (j.trans' g).dropAll
   |ok p =>
    obtain⟨Q,E2⟩:=p;rw[n]at k;intro z H2 Z;have g:=j.trans' Z;dsimp at k;exists e1,E2[i]?,k,s1;cases s1 with
    |m W vs =>
     exists e3,Q0 Q.d,k,q;dsimp at k;by_cases J:W.length<1000000
     ·rw[if_pos J]at k
      have rp:=Got.reps (vs:=[z,y]) (rs:=[Q,r]) rfl g;obtain⟨z',_,q1,Y,y',_,q2,V,_⟩:=rp;cases q1;cases q2;obtain⟨a,O,l,h2,rfl,h4,h5⟩:=zEz g.len g.frame e1 rfl;have ev:v=.ref a:=by rw[hv]at l;exact qJ (qJ l)
      subst ev;obtain⟨kb,rfl,R⟩:=vL e3 Y;obtain⟨o,c,I⟩:=wf g.len e1;have eo:o=some (.ref a):=by rw[l]at c;exact(qJ c).symm
      subst eo;obtain⟨L,u⟩:=zEy (q:=q) (kb:=kb) h5 V;refine⟨a,O,kb,q,rfl,⟨h2,λx hx=>zL zF (h4 x hx)⟩,rfl,zL zF R,by simpa using J,λob=>k σ _ ?_⟩;obtain⟨f,st⟩:=FR.mutD (ob:=ob) g.frame I (zCD h4 R) u;rw[L]at f st;have e:=zg (E:=E2) (.m (zGB (O.map (·.1)) vs q r.d).1 (zGB (O.map (·.1)) vs q r.d).2) l;rw[<- e]at f st;exact⟨by simp[g.len],f,(g.st.weak (zD (sublist_append_right _ _))).trans st,g.pk.trans (Qh (ds0:=[]) e1 (λS q=>by cases q) _)⟩
     ·rw[if_neg J]at k;exact k.elim
    |_=>exact k.elim
def sk_dput(i:Nat)(g:X.A.units+1<cLine)(c:PE X (.Name x p) (Wz i))(k:EOk X b mk)(a:EOk X e mv)
  (j:∀v,assign (.Subscript (.Name x p) b p1) X.env v=(do
   let ov <- holding [v] (eval (.Name x p) X.env)
   let iv <- holding [v,ov] (eval b X.env)
   standAt p1
   holding [v,ov,iv] (setItem ov iv v)
   release [v,ov,iv] []):=by intro _;rfl) (h:swapsWithSole [.Subscript (.Name x p) b p1] e pos.line X.env=pure false:=by rfl):SOk X (.Assign [.Subscript (.Name x p) b p1] e pos) (sDput i mk mv) :=
 yx (zDd a (zII c k (set_dic g) j) h) λD σ H=>zHQ
end
abbrev zIq:Obj:={cls:=.type "dict",data:=.dict #[]}
def zE1(h:Heap)(H:Hp)(a:sysModules<h.objs.size):jL P w H (h.push zIq) h.objs.size (WZ h.objs.size [] zIq) :=
 zBp ⟨beq_eq_false_iff_ne.mpr (Ne.symm (ne_of_lt a)),zero_le _,List.nodup_nil,_,#[],0,[],get?_push_size _ rfl,⟨rfl,rfl,rfl⟩,rfl,.nil,rfl⟩ (get?_push_size _ rfl)
def actD(i e:Lb):Lv->Env->Sem PySem.Fin->Sem PySem.Fin:=λg a k=>do
 (do
  let c <- eval i a
  let h <- holding [c] (eval e a)
  match g with
  | .ref d=>do
   standAt {i.pos with endLine:=e.pos.endLine,endCol:=e.pos.endCol}
   holding [c,h] (dictSet d c h)
  |_=>unsupported "internal:dictcomp")
 k
section
variable{prog:Lc}{w:Le}{A:Lg}{R:Result->La->Prop}{s:La}{ke ve t0 i0 t1 i1:Lb}{f0 f1:Ls Lb}{scope:Scope}{pos:Pos}{it acc:Lv}{env:Env}
def zDF(i:codeAny (model prog w) A (.compLoop (.DictComp ke ve [⟨target,iter,ifs,0⟩] scope pos) 0 it acc env) R s)
  (h:wpAny (model prog w) A (pyIter it) (λa c=>codeAny (model prog w) A (.compLoop (.DictComp ke ve [⟨target,iter,ifs,0⟩] scope pos) 0 a acc env) R c) (notedBy (model prog w) A env λx c=>R (.error x) c) s) :
  codeAny (model prog w) A (.compStart (.DictComp ke ve [⟨target,iter,ifs,0⟩] scope pos) 0 it acc env) R s:=by
 refine codeAny_of_tree (wpAny_notedAt ?_);refine qB (wpAny_askSetting (wpAny_ite ?_));split
 ·exact qB (qC (qC ⟨rfl,i⟩))
 ·exact qB (wpAny_rule (qB (wpAny_standAt (qB (wpAny_mono h (λa c g=>qC ⟨rfl,g⟩) λx j e=>e)))))
def cn_dict:CNd prog w (.DictComp ke ve [⟨t0,i0,f0,0⟩] scope pos) t0 i0 f0 newDict zIq (λD=>WZ D [] zIq) (actD ke ve) [] i0.pos :=
 ⟨rfl,λ_ _ _ _=>⟨rfl,λ_=>rfl,rfl⟩,λh=>wpAny_newObj_type h (by first|trivial|decide|simp[sizeOk]),zE1,λa h=>zDF a h,λ_ _ _=>rfl⟩
end
def taD(K:qH)(h g:TE):TAc:=λD σ H Nx=>h σ H λy H1=>g σ H1 λz H2=>∃a c e,y=.ref c/\zEw K H2 D a/\SqT K H2 c (e.map oV)/\a.length<1000000/\∀i,Nx σ (upd H2 D (WZ D (zAk a e c z) i))
def pa_dct(V:Y.A.units<cLine)(q:∀e s,¬Y.xe e s)(S:PE Y ke tk)(hv:PE Y ve tv):PAc Y (actD ke ve) (taD Y.K tk tv):=λD a s σ H Nx k Q E I h G=>by
 unfold actD;refine qB (qB (wpAny_mono (S a s σ H _ I h) (λkv Z h1=>?_) λ_ _ z=>absurd z (q _ _)));obtain⟨y,H1,I1,L,q1⟩:=h1;refine qB (wpAny_holding (wpAny_mono (hv a Z σ H1 _ I1 q1) (λvv s2 h2=>?_) λ_ _ z=>absurd z (q _ _)));obtain⟨z,H2,I2,O,u,t,o,rfl,⟨⟨_,e⟩,j⟩,R,hl,K⟩:=h2;cases L;dsimp;refine qB (wpAny_standAt (wpAny_holding ?_));obtain⟨M,r,hm,hd,hz,c⟩:=Qe I2 e j;have C:(1000000:Nat)<=sizeLine:=by left
 have n:M.length=u.length:=by have:=congrArg length (wL.keys r);exists this
 refine wpAny_dictSet_heap (knd:=tupleKind (zC0 Y.prog Y.w)) V (uY I2 R) hm (λh' i J=>?_) (by omega);have l:zIQ D (zAk u o t z) h':=zA5 (X:=Y) i hd (by have:=(W4 (k:=o) (ka:=t) (v:=z) c).2;omega) (r.put O);obtain⟨_,_,_,o',_,_,_,p,_⟩:=id l;exact G σ _ _ (I2.write (x:=D) (e:=D) (by rw[e];trivial) (.inl rfl) (λb w g W=>(J.2 b g).trans W) ⟨o',p⟩ (zBp l p)) (K _)
abbrev Acc:=Ls (Ls KN)×Ls D
abbrev akD:Ak Acc:=⟨λp=>.m p.1 p.2,([],[]),λD=>WZ D [] zIq⟩
section
variable{X:Cx}{K:qH}{mg:Str->Lx Lv}{σ:St}{M:Ld}{E:zU}{H:Hp}{T0 Z T:Fz}
def ak_dct:AkOk akD:=λf h=>⟨f.newDct (es:=[]) (vs:=[]) h (λe a=>by cases a) Reps.nil,Step.newDct (ks:=[]) (vs:=[]) f h⟩
def maD(mk e:ME):MC Acc:=λE a=>match mk E with
 | .ok (c,E1)=>match e E1 with
  | .ok (g,E2)=>match Q0 c.d with
   |some q=>if a.1.length<1000000 then .ok (zGB a.1 a.2 q g.d,E2)else .z|none=>.z
  |_=>.z
 |_=>.z
def zE2:zDA akD K mg (maD mk mv) (taD K (tN K mg mk) (tN K mg mv)):=λM D σ E H c Q E' Nx hl fr e hN=>by
 unfold maD at e;cases j:mk E with
 |z=>rw[j]at e;cases e|y _ _=>rw[j]at e;cases e
 |ok p =>
  obtain⟨h,Ea⟩:=p;rw[j]at e;dsimp at e;cases k:mv Ea with
  |z=>rw[k]at e;cases e|y _ _=>rw[k]at e;cases e
  |ok p =>
   obtain⟨w,Eb⟩:=p;rw[k]at e;dsimp at e;exists e3,Q0 h.d,e,q;dsimp at e;by_cases l:c.1.length<1000000
   ·rw[if_pos l]at e
    cases e;refine zEW (T0:=[(some (.ref D),.m c.1 c.2)]) hl fr j λy H1 r=>?_
    refine zEW (T0:=[(some y,h.slot)]++[(some (.ref D),.m c.1 c.2)]) r.len r.fr k λz H2 g2=>?_
    have g:=r.trans g2
    -- the key and the value are given up
    have V:FR K mg M H2 ((some z,w.slot)::(some y,h.slot)::((some (.ref D),Slot.m c.1 c.2)::σ.zip E')):=g.fr;have Z:=V.frz;have R:FR K mg M H2 ((some y,h.slot)::(some z,.v w.d)::((some (.ref D),Slot.m c.1 c.2)::σ.zip E')):=Z.perm (List.Perm.swap _ _ _);have n:=R.frz;obtain⟨y',W,G⟩:=n.val _ _ qE;cases W;obtain⟨z',X,I⟩:=n.val _ _ (qD _ qE);cases X;rw[Yz,Yz]at G I;have v:=n.tail.tail;obtain⟨a,ho,ea,Y,_,es,⟨S,rfl⟩,J,O,k3⟩:=v.own _ _ _ qE rfl;cases ea;obtain⟨kb,rfl,C⟩:=vL e3 G;rw[J]at l;obtain⟨t,o⟩:=zEy (q:=q) (kb:=kb) k3 I;refine⟨es,kb,q,rfl,⟨⟨_,Y⟩,λx hx=>zL zF (O x hx)⟩,zL zF C,by simpa using l,λob=>hN σ _ ?_⟩;obtain⟨L,u⟩:=FR.mutD (ob:=ob) (i:=0) v rfl (zCD O C) o;rw[t,<- J]at L u;have sz:Step M H ((some (.ref D),Slot.m c.1 c.2)::σ.zip E) H2 ((some (.ref D),Slot.m c.1 c.2)::σ.zip E'):=g.st.weak (zD (.cons _ (.cons _ (List.Sublist.refl _))));exact⟨g.len,L,sz.trans u,g.pk⟩
   ·rw[if_neg l]at e;cases e
abbrev MCD:=MC Acc
abbrev zHR(tg:MG)(tt:MT)(ma:MC Acc):=J4 tg tt ma
abbrev zE3(nl:Nat)(caps:Ls Nat)(a:MI)(tg:MG)(tt:MT)(ma:MC Acc):ME:=Y4 akD nl caps a tg tt ma
end
section
variable{X:Cx}{ke ve target iter:Lb}{ifs:Ls Lb}{scope:Scope}{pos:Pos}{mi:MI}{tg:MG}{tt:MT}{mk mv:ME}{g:TG}{nl:Nat}{caps:Ls Nat}{N':Ls Str}
def pa_dct2(C:CSc X scope nl caps N')(h:X.A.units<cLine)(e:∀c C a s H,EOk (cxB X N' scope c C a s H) ke mk)(g:∀c C a s H,EOk (cxB X N' scope c C a s H) ve mv)(c Ca a s H):PAc (cxB X N' scope c Ca a s H) (actD ke ve) (taD X.K (tN X.K X.mg mk) (tN X.K X.mg mv)) :=
 pa_dct (Y:=cxB X N' scope c Ca a s H) h C.hx (zi (e c Ca a s H) λσ H Q q=>tN_M q) (zi (g c Ca a s H) λσ H Q q=>tN_M q)
def ok_dc(C:CSc X scope nl caps N')(k:X.A.units<cLine)(hi:IOk X target iter mi)(n:∀c C a s H,PG (cxB X N' scope c C a s H) target g)(j:GOk X g tg)(i:∀c C a s H,zIf (cxB X N' scope c C a s H) ifs tt)
  (e:∀c C a s H,EOk (cxB X N' scope c C a s H) ke mk) (h:∀c C a s H,EOk (cxB X N' scope c C a s H) ve mv) (l:∀x,foldedSetIterable iter X.env x=pure x):EOk X (.DictComp ke ve [⟨target,iter,ifs,0⟩] scope pos) (zE3 nl caps mi tg tt (maD mk mv)) :=
 zEa C ak_dct zE2 cn_dict (pa_dct2 C k e h) rfl hi n j i l
end
def tDisp1(K:qH)(c a:TE):TE:=λσ H Q=>∀D,H D=none->taD K c a D σ (upd H D (WZ D [] zIq)) λσ' H'=>σ'=σ->Q (.ref D) H'
def zHS(R:X.A.units<cLine)(O:PE X ke tk)(Z:PE X ve tv):PE X (.Dict [some ke] [ve] pos) (tDisp1 X.K tk tv):=λa s σ H Q I h=>by
 have D:=I.hok.fresh (le_refl s.heap.objs.size);have I1:=I.laid (h':=s.heap.push {cls:=.type "dict",dict:=none,data:=.dict #[]}) (t':=s.toks) (λ_ _ q=>qA _ q) (le_refl _) (zE1 s.heap _ (Inv.big I));refine wpAny_Dict_any rfl rfl (by simp) (by simp) (pairTrees_cons_walk (thn (O a _ σ _ _ I1 (h _ D)) λkv V h1=>?_));obtain⟨y,H1,I1',J,q1⟩:=h1;refine thn (Z a V σ H1 _ I1' q1) λvv s2 h2=>pairTrees_nil_walk ?_
 obtain⟨z,H2,I2,L,u,t,o,rfl,⟨⟨_,e⟩,j⟩,M,hl,G⟩:=h2;cases J;unfold storeAll;rw[List.forIn_cons];refine qB (qB ?_);obtain⟨K,r,W,hd,hz,c⟩:=Qe I2 e j;have C:(1000000:Nat)<=sizeLine:=by left
 have n:K.length=u.length:=by have:=congrArg length (wL.keys r);exists this
 refine wpAny_dictSet_heap (knd:=tupleKind (zC0 X.prog X.w)) R (uY I2 M) W (λh' i E=>?_) (by omega);have l:zIQ s.heap.objs.size (zAk u o t z) h':=zA5 (X:=X) i hd (by have:=(W4 (k:=o) (ka:=t) (v:=z) c).2;omega) (r.put L);obtain⟨_,_,_,Y,_,_,_,p,_⟩:=id l;refine qC ?_;dsimp;rw[List.forIn_nil];exact qC ⟨.ref _,_,I2.write (x:=s.heap.objs.size) (e:=s.heap.objs.size) (by rw[e];trivial) (.inl rfl) (λb w g S=>(E.2 b g).trans S) ⟨Y,p⟩ (zBp l p),rfl,G _ rfl⟩
def zE4(mk c:ME):ME:=λE=>match maD mk c E ([],[])with
 | .ok (a,E')=>.ok (.m a.1 a.2,E')|_=>.z
section
variable{X:Cx}{ke ve:Lb}{pos:Pos}{mk mv:ME}
def ok_disp(r:X.A.units<cLine)(i:EOk X ke mk)(n:EOk X ve mv):EOk X (.Dict [some ke] [ve] pos) (zE4 mk mv) :=
 zi (zHS r (zi i λσ H Q q=>tN_M q) (zi n λσ H Q q=>tN_M q)) λσ H Q ⟨M,E,hl,fr,k⟩=>by
  unfold zE4 at k;intro D h;cases c:maD mk mv E ([],[])with
  |z=>rw[c]at k;exact k.elim|y _ _=>rw[c]at k;exact k.elim
  |ok p =>
   obtain⟨g,E'⟩:=p;rw[c]at k;have l:=fr.newDct (ob:=zIq) (es:=[]) (vs:=[]) h (λe j=>by cases j) Reps.nil;have t:=Step.newDct (ks:=[]) (vs:=[]) (o:=WZ D [] zIq) fr h;refine zE2 M D σ E _ ([],[]) g E' _ hl l c λσ' H' a es=>?_
   subst es;exact k _ H' ⟨a.len,a.fr,t.trans a.st,a.pk⟩
end
end DV
namespace DV
open PySem PySem.W L2
def EA(h:Heap)(d:Lz)(es:Array DictEntry)(a:Nat):Prop:=∃o,h.get? d=some o/\o.ExactDict/\o.data=.dict es a
section
variable{prog:Lc}{w:Le}{A:Lg}{E:Ly}{s:La}{d it:Lz}{es:Array DictEntry}{ep i:Nat}
def EA.ty(m:EA s.heap d es ep):s.TypeIs (.ref d) "dict":=let ⟨o,h,c,_⟩:=m;⟨o,h,c.1⟩
def EA.lt(m:EA h d es ep):d<h.objs.size:=let ⟨_,h,_⟩:=m;lt_size h
def EA.kp(m:EA h d es ep)(k:∀o,h.get? d=some o->h'.get? d=some o):EA h' d es ep:=let ⟨o,h,r⟩:=m;⟨o,k o h,r⟩
def zIr{Q:Ly}(hd:(d==sysModules)=false)(m:EA s.heap d es ep)(c:Q (.ref s.heap.objs.size) {s with heap:=s.heap.push {cls:=.type "dict_keyiterator",data:=.fields #[.ref d,.int 0 0,.int es.size 0,.int ep 0]}}):wpAny (model prog w) A (pyIter (.ref d)) Q E s:=by
 obtain⟨o,ho,e,a⟩:=id m;refine wpAny_pyIter_slot m.ty PySem.F.slot_dict_iter (wpAny_call_entry PySem.F.slot_dict_iter m.ty PySem.F.entry_dict_iter ?_ (PySem.F.args_dict_iter_1 _));unfold Builtin.«dict.__iter__» Builtin.Dict.dictSlotNone Builtin.Dict.showsAll;refine qB (qB (wpAny_notOrdered_dict m.ty (qC ?_)));refine qB (qC ?_);rw[if_neg (by rw[hd];exact qF)];refine qB (qC (qB (wpAny_dictEntries ho a (qB (wpAny_dictEpoch ho a ?_)))));exact qB (wpAny_newObj_type (qC ⟨_,rfl,"dict_keyiterator",_,⟨_,get?_push_size _ rfl,rfl⟩,PySem.F.slot_dict_keyiterator_next.lookup,by simpa[rawInt]using c⟩))
def zCE{Q:Lx Lv->La->Prop}(r:A.handled=none)(c:s.heap.IsKeyIter it d i es.size ep)(m:EA s.heap d es ep)
  (n:∀e h,es[i]?=some e->h.IsKeyIter it d (i+1) es.size ep->Heap.SameBut it s.heap h->Q (some e.key) {s with heap:=h})
  (q:∀h,es[i]?=none->Heap.ExtBut it s.heap h->Q none {s with heap:=h}):wpAny (model prog w) A (pyNext (.ref it)) Q E s:=by
 obtain⟨o,ho,p,hd⟩:=id c;obtain⟨t,j,_,k⟩:=id m;refine qB (wpAny_attempt (wpAny_callSpecial?_slot (name:=Str.ofString "__next__") c.typeIs PySem.F.slot_dict_keyiterator_next (wpAny_call_entry PySem.F.slot_dict_keyiterator_next c.typeIs PySem.F.entry_dict_keyiterator_next (qB (qC (qB (qB (qB (wpAny_typeNameOfWhole_keyiter c.typeIs (qC (qB (wpAny_fieldsOf ho hd ?_)))))))))  (PySem.F.args_dict_keyiterator_next_1 _))));dsimp[show Builtin.Dict_items.ownsTuple "dict_keyiterator"=false by decide,Bool.false_eq_true,if_false];show wpAny _ _ (if(Value.ref d==Value.none)=true then _ else _) _ _ s;rw[if_neg (show ¬((Value.ref d==Value.none)=true)from qF)];refine qB (qC (qB (wpAny_dictEntries j k ?_)));rw[if_neg (by simp)];refine qB (qC (qB (wpAny_dictEpoch j k ?_)));rw[if_neg (by simp)];refine qC ?_;dsimp[show ¬((i:Int)<0)from by omega,if_false,Int.toNat_natCast];cases l:es[i]? with
 |some e =>
  refine qB (qB (wpAny_typeNameOfWhole_keyiter c.typeIs (qC (qB (wpAny_isOneOf_keyiter c.typeIs ?_)))));show wpAny _ _ (setField (.ref it) 1 (rawInt ((i:Int)+1)) >>= _) _ _ s;refine qB (wpAny_setField ho hd (by simp) ?_);have g:(s.heap.update it (Obj.mapFields (·.setIfInBounds 1 (rawInt ((i:Int)+1))))).IsKeyIter it d (i+1) es.size ep :=
   ⟨_,get?_update_self _ ho (Obj.isFreed_of_fields (Obj.data_mapFields hd _)),(Obj.cls_mapFields ..).trans p,by rw[Obj.data_mapFields hd];simp[rawInt]⟩
  refine qB (wpAny_holding (qB (wpAny_isOneOf_keyiter (s:={s with heap:=_}) g.typeIs ?_)))
  show wpAny _ _ (pure e.key) _ _ _
  exact qC (qC ⟨_,rfl,qC (n e _ l g (Heap.SameBut.update ..))⟩)
 |none =>
  refine qB (qB (wpAny_typeNameOfWhole_keyiter c.typeIs (qC ?_)));show wpAny _ _ (setField (.ref it) 0 .none >>= _) _ _ s;refine qB (wpAny_setField ho hd (by simp) ?_);show wpAny _ _ (newExc (.type "StopIteration") [] >>= _) _ _ _;dsimp[newExc,newTuple];refine qB (qB (wpAny_newObj_type (qB (m:=firstArgMember _ _) (wpAny_of_eq (a:=Value.none) (by first|rfl|(dsimp[firstArgMember];rfl)) (wpAny_newObj_type ?_ (by size_fits)))) (by size_fits)));dsimp[raiseNew];refine qB (wpAny_handled ?_);rw[show A.in1.handled=none from r];refine qB (qC (wpAny_throw ?_));refine qB (wpAny_isInstance (T:="StopIteration") (b:=true) ⟨_,get?_push_size _ rfl,rfl⟩ isSubtype_stop ?_);exact qC (q _ l (((Heap.SameBut.update ..).extBut.push _).push _))
def zE5(t:A.handled=none)(I:Lz)(n:d≠I):Walks prog w A I [I,d] [I] es.size (λi v=>∃e,es[i]?=some e/\v=e.key) (λi h=>h.IsKeyIter I d i es.size ep/\EA h d es ep) where
 sub:=λb c=>by simp at c;simp[c]
 frame:=λ_ _ _ st r=>⟨st.1.at λo e=>r I (by simp) o e,st.2.kp λo e=>r d (by simp) o e⟩
 item:=λi s Q E u st k=>zCE t st.1 st.2 (λe g a l j=>k e.key g s.toks ⟨e,a,rfl⟩ ⟨l,st.2.kp λo q=>j.extBut d o n q⟩ λb o c q=>j.extBut b o (λh=>c (by simp[h])) q) λg a _=>by
  rw[Array.getElem?_eq_getElem u]at a;cases a
 done:=λs Q E st k=>zCE t st.1 st.2 (λe g a _ _=>by rw[Array.getElem?_eq_none (le_refl _)]at a;cases a) λg _ p=>k g s.toks λb o c e=>p b o (λh=>c (by simp[h])) e
 self:=λ_ _ _ _ st k=>wpAny_pyIter_keyiter st.1 k
def src_dct(lo:(d==sysModules)=false):KdlSrc prog w "dict" d d es.size (λi v=>∃e,es[i]?=some e/\v=e.key) (λh=>EA h d es ep) where
 type:=λ_ m=>m.ty
 there:=λ_ m=>⟨m.lt,m.lt⟩
 keep:=λ_ _ m c=>m.kp λo e=>c d (.inl rfl) o e
 notList:=by decide
 notTuple:=by decide
 hint:=λ_ _ _ _ m a=>kdl_hint_dict m.ty a
 iter:=λ_ _ g m=>⟨_,_,(λ_ _ a=>zIr lo m a),zE5 g _ (ne_of_lt m.lt),⟨⟨_,get?_push_size _ rfl,rfl,rfl⟩,m.kp λo e=>qA _ e⟩⟩
end
section
variable{X:Cx}{K:qH}{mg:Str->Lx Lv}
def rDLs(K:qH):Ls V->Hp->VK->Prop:=λg H Q=>∃a c,g=[.ref a]/\zEw K H a c/\∀l,H l=none->Q (.ref l) (upd H l (.l (c.map λe=>.ref e.2.1)))
theorem Q2:∀{g:Ls DE} {c:Ls DX} {a:Ls Lv},wL g c->a.length=c.length->(∀(j:Nat) v,a[j]?=some v->∃x,c[j]?=some x/\v=(.ref x.2.1:Lv))->yA (g.map λe=>.ref e.2.1) a
 |_,_,a,.nil,hl,h=>by
  cases a with
  |nil=>exact .nil|cons _ _=>cases hl
 |_,_,a,.cons (b:=x) r t,hl,h=>by
  cases a with
  |nil=>cases hl
  |cons v a =>
   obtain⟨o,i,l⟩:=h 0 v rfl;cases qJ i;subst l;refine .cons (by show Value.ref _=_;rw[r.2.1]) (Q2 t (by exists hl) λj v hv=>?_);obtain⟨y,k,n⟩:=h (j+1) v (by exists hv);exact⟨y,by simpa using k,n⟩
def zDG(p:X.calm=true):j6 X (.type "list") (rDLs X.K):=by
 intro z s σ H l us Q I r h;obtain⟨a,n,rfl,⟨⟨C,e⟩,M⟩,q⟩:=h;obtain⟨u,rfl,hu⟩:=GJ r;cases hu;obtain⟨⟨⟨D,w,L,o,t,O,l,K,h2,G,h4,h5⟩,_⟩,_⟩:=(show jL X.prog X.w H s.heap a (WZ a n C)from I.hok a _ e);have hl:n.length=l.length:=by have:=congrArg length (wL.keys h4);exists this.symm
 have hz:t.size=l.length:=by rw[<- Array.length_toList,h5,length_map]
 refine kdl_call (src_dct D) (I.ok.hd p) ⟨o,K,h2,G⟩ (by rw[hz,<- hl];exact w) λJ tk i c kp E g=>?_
 have hv:yA (n.map λe=>V.ref e.2.1) i.toList:=Q2 h4 (by rw[Array.length_toList,g.1,hz]) λj v hv=>by
  obtain⟨R,k,rfl⟩:=g.2 j v (by exists hv);rw[<- Array.getElem?_toList,h5,getElem?_map]at k;cases y:l[j]? with
  |none=>rw[y]at k;cases k|some x=>rw[y]at k;cases k;exact⟨x,rfl,rfl⟩
 refine⟨.ref s.heap.objs.size,_,I.laid (t':=tk) kp (le_refl _) (show jL X.prog X.w _ J _ (.l (n.map λe=>V.ref e.2.1))from⟨by simpa using w,i.toList,c,hv,by exists E⟩),rfl,q _ (I.hok.fresh (le_refl _))⟩
def listK:Ls D->Lx R
 | [.m a _]=>some (.w (a.map kD))|_=>none
theorem zA7:∀a:Ls KN,Reps K mg H (a.map oD) (a.map oV)
 | []=>Reps.nil|none::a=>Reps.cons (by dsimp[oD,oV,Rep]) (zA7 a)|some _::a=>Reps.cons (by dsimp[oD,oV,Rep]) (zA7 a)
def zIs(h:SqT K H a (ks.map oV)):Rep K mg H (kD ks) (.ref a):=by
 dsimp[kD,Rep];exact⟨a,_,rfl,h,zA7 ks⟩
theorem Q3:∀{a:Ls DE},(∀e∈a,SqT K H e.2.1 (e.1.map oV))->Reps K mg H ((a.map (·.1)).map kD) (a.map λe=>.ref e.2.1)
 | [],_=>Reps.nil|e::a,h=>Reps.cons (zIs (h e qE)) (Q3 λx c=>h x (qD _ c))
def zHT:COk K mg (rDLs K) listK:=by
 intro M H Z t j c Q f r e k
 match j,e with
 | [.m q o],e =>
  cases e;obtain⟨v,rfl,h⟩:=J3 r;obtain⟨a,n,rfl,g,rfl,h2,p⟩:=h;exact⟨a,n,rfl,⟨g.mono zF,λx i=>zL zF (h2 x i)⟩,λl hl=>k.own f hl (Q3 h2)⟩
end
end DV
namespace DV
open PySem L2
def Itk(a:Lz)(es:Ls DE)(ob:Obj):It :=
 ⟨λi H=>H a=some (WZ a es ob)/\i<es.length,λi H x H'=>H'=H/\∃e,es[i]?=some e/\x=.ref e.2.1,λi H=>H a=some (WZ a es ob)/\es.length<=i⟩
def zE6{X:Cx}{k:Ls (Lz×Obj)}{σ:St}{H:Hp}{s:La}{a:Lz}{c:Ls DE}{ob:Obj}{g:Array DictEntry}{p:Nat}(I:Inv X k σ H s)(e:H a=some (WZ a c ob))(hd:ob.data=.dict g p) :
  (a==sysModules)=false/\EA s.heap a g p/\g.size=c.length/\∀(i:Nat) (x:DictEntry),g[i]?=some x->∃y,c[i]?=some y/\x.key=Value.ref y.2.1:=by
 obtain⟨⟨⟨D,G,J,o,K,v,j,n,h2,u,h4,h5⟩,ho⟩,_⟩:=(show jL X.prog X.w H s.heap a (WZ a c ob)from I.hok a _ e);rw[n]at ho;cases ho;rw[hd]at u;cases u;have hl:c.length=j.length:=by have:=congrArg length (wL.keys h4);exists this.symm
 refine⟨D,⟨ob,n,h2,hd⟩,by rw[<- Array.length_toList,h5,length_map,hl],λi x q=>?_⟩;rw[<- Array.getElem?_toList,h5,getElem?_map]at q;exists hx,j[i]?,q,z;cases q;have L:i<c.length:=by rw[hl];exact(qG.mp hx).1
 have l:∀{c:Ls DE} {j:Ls DX} {i:Nat} {z:DX},wL c j->j[i]?=some z->∃y,c[i]?=some y/\z.2.1=y.2.1:=by
  intro c j i z r
  induction r generalizing i with
  |nil=>intro h;simp at h
  |cons r t E =>
   intro h;cases i with
   |zero=>simp at h;subst h;exact⟨_,rfl,r.2.1⟩|succ i=>exact E (by exists h)
 obtain⟨y,C,w⟩:=l h4 hx;exact⟨y,C,by show Value.ref z.2.1=_;rw[w]⟩
def zHU{P:Lc}{w:Le}{K:qH}{tg:Lb}(a it:Lz)(es:Ls DE)(ob:Obj)(q:Array DictEntry)(O:Nat)(hd:ob.data=.dict q O):Turn P w K tg (Itk a es ob) [it] it (λi h=>h.IsKeyIter it a i q.size O) where
 mem:=by simp
 obj:=λi h st b j=>by
  have e:b=it:=by exists j
  subst e;obtain⟨o,e,c,d⟩:=st;exact⟨o,e,λv z=>by rw[d]at z;cases z⟩
 keep:=λi h n st k=>st.at λo e=>k it (by simp) o e
 item:=by
  intro X u C t G i g s σ H E I hf st hg;subst u C t;obtain⟨x,W⟩:=hg;obtain⟨_,m,hz,Q⟩:=zE6 I x hd;obtain⟨D,M,Z,L,r,J⟩:=hf it (by simp);refine zCE (I.ok.hd G) st m (λe n l p R=>?_) λn l _=>by
   rw[Array.getElem?_eq_getElem (by omega)]at l;cases l
  obtain⟨y,q1,Y⟩:=Q i e l;have I1:Inv X g σ H {s with heap:=n}:=I.turned (t':=s.toks) (λb o j e=>(R.2 b j).trans e) D M L r J
  obtain⟨o,V,c,d⟩:=id p;exact⟨e.key,rfl,WT (s:={s with heap:=n}) V c d (by decide) ⟨.ref y.2.1,H,I1,by rw[Y];rfl,⟨rfl,y,q1,rfl⟩,p,λb j=>(hf b j).1⟩⟩
 done:=by
  intro X u C t G i g s σ H E I hf st hg;subst u C t;obtain⟨x,W⟩:=hg;obtain⟨_,m,hz,Q⟩:=zE6 I x hd;obtain⟨D,M,Z,L,r,J⟩:=hf it (by simp);refine zCE (I.ok.hd G) st m (λe n l _ _=>by
   rw[Array.getElem?_eq_none (by omega)]at l;cases l) λn _ S=>⟨rfl,I.turned (t':=s.toks) (λb o j e=>S b o j e) D M L r J⟩
 self:=λ_ _ _ _ _ st h=>wpAny_pyIter_keyiter st h
def iDic(g:TE):TI:=λσ H R=>g σ H λx H1=>∃a e c,x=.ref a/\H1 a=some (WZ a e c)/\R (Itk a e c) H1
def pi_dic{X:Cx}{tg l:Lb}{i:TE}(r:PE X l i):PI X tg l (iDic i):=by
 intro g s σ H R I h;refine thn (r g s σ H _ I h) λv c ⟨x,H1,I1,w,z⟩=>?_
 obtain⟨a,p,n,e,j,q⟩:=z;subst e;cases w;obtain⟨⟨⟨_,_,_,o,D,u,E,t,h2,k,_⟩,ho⟩,_⟩:=(show jL X.prog X.w H1 c.heap a (WZ a p n)from I1.hok a _ j);rw[t]at ho;cases ho;obtain⟨y,m,hz,_⟩:=zE6 I1 j k;refine zIr y m ?_;refine⟨c.heap.objs.size,[c.heap.objs.size],_,_,H1,rfl,I1.kept (t':=c.toks) λb o e=>qA _ e,zHU a _ p n D u k,⟨_,get?_push_size _ rfl,rfl,rfl⟩,λb C=>?_,q⟩;have e:b=c.heap.objs.size:=by exists C
 subst e;exact I1.fpOk (le_refl _) (I1.hok.fresh (le_refl _))
section
variable{X:Cx}{K:qH}{mg:Str->Lx Lv}
def it_dic{a:Lz}{es:Ls DE}{ob:Obj}:ItOk K mg (Itk a es ob) ((es.map (·.1)).map kD) (λH=>H a=some (WZ a es ob)/\∀e∈es,SqT K H e.2.1 (e.1.map oV)) where
 mono:=λH H' s h=>⟨s _ _ h.1,λx j=>zL s (h.2 x j)⟩
 go:=λi Hh H s h c=>⟨s _ _ h.1,by exists c⟩
 yld:=λi Hh H x H' s h c y=>by
  obtain⟨e,z,g,rfl⟩:=y;exact⟨kD z.1,by simp[g],.inl ⟨e,zIs (h.2 z (mem_of_getElem? g))⟩⟩
 stop:=λi Hh H s h c=>⟨s _ _ h.1,by exists c⟩
def iD(m:ME):MI:=λE=>match m E with
 | .z=>.z| .y x E1=>.y x E1
 | .ok (r,E1)=>match r.d with
  | .m a _=>.ok (a.map kD,E1)|_=>.z
def io_dic{tg e:Lb}{m:ME}(h:EOk X e m):IOk X tg e (iD m):=ui (pi_dic h) λσ H R ⟨M,E,hl,fr,k⟩=>by
 unfold iD at k;refine zc (T0:=[]) hl fr ?_;exists ea,m E,k,r,E1;intro v H1 g;dsimp at k;cases c:r.d with
 |m t p =>
  rw[c]at k;have i:=g.rep;rw[c]at i;obtain⟨a,o,rfl,⟨l,j⟩,rfl,n,q⟩:=i;exact⟨a,o,l,rfl,zF _ _ j,k _ _ H1 it_dic ⟨j,n⟩ g.dropAll⟩
 |_=>rw[c]at k;exact k.elim
end
theorem Gi(e:∀d,eqb n d=true->∃x,pyD d=some x/\x.canLay0=true/\x.depth<=n+1):∀c:Ls D,c.all (eqb n)=true->∃a,pyDs c=some a/\PyData.canLayAll0 a=true/\PyData.depthAll a<=n+1
 | [],_=>⟨[],rfl,rfl,by simp[PyData.depthAll]⟩
 |d::c,h=>by
  rw[all_cons,Bool.and_eq_true]at h;obtain⟨x,i,k,o⟩:=e d h.1;obtain⟨a,j,g,l⟩:=Gi e c h.2;refine⟨x::a,by dsimp[pyDs,i,j],?_,by dsimp[PyData.depthAll];omega⟩;dsimp[PyData.canLayAll0,k,g];rfl
def um:∀(n:Nat) (d:D),eqb n d=true->∃x,pyD d=some x/\x.canLay0=true/\x.depth<=n+1:=by
 intro n
 induction n with
 |zero =>
  intro d h;cases d with
  |non=>exact⟨_,rfl,rfl,by simp[PyData.depth]⟩|bl b=>exact⟨_,rfl,rfl,by simp[PyData.depth]⟩|int i=>exact⟨_,rfl,rfl,by simp[PyData.depth]⟩|str i=>exact⟨_,rfl,h,by simp[PyData.depth]⟩|_=>cases h
 |succ n j =>
  intro d h;cases d with
  |non=>exact⟨_,rfl,rfl,by simp[PyData.depth]⟩|bl b=>exact⟨_,rfl,rfl,by simp[PyData.depth]⟩|int i=>exact⟨_,rfl,rfl,by simp[PyData.depth]⟩|str i=>exact⟨_,rfl,h,by simp[PyData.depth]⟩
  |t a =>
   obtain⟨g,e,c,p⟩:=Gi j a h;exact⟨.tuple g,by dsimp[pyD,e];rfl,by dsimp[PyData.canLay0];exact c,by dsimp[PyData.depth];omega⟩
  |l a =>
   obtain⟨g,e,c,p⟩:=Gi j a h;exact⟨.list g,by dsimp[pyD,e];rfl,by dsimp[PyData.canLay0];exact c,by dsimp[PyData.depth];omega⟩
  |_=>cases h
def Y9(h:pyDs (d::ds)=some xs):∃y ys,xs=y::ys/\pyD d=some y/\pyDs ds=some ys:=by
 dsimp[pyDs]at h;cases a:pyD d with
 |none=>rw[a]at h;cases h
 |some y =>
  cases h2:pyDs ds with
  |none=>rw[a,h2]at h;cases h|some ys=>rw[a,h2]at h;cases h;exact⟨y,ys,rfl,rfl,rfl⟩
def zCF(h:pyDs (d::ds)=some xs):∃y ys,xs=y::ys:=by
 obtain⟨y,ys,e,_⟩:=Y9 h;exact⟨y,ys,e⟩
mutual
theorem Gj:∀{d e:D} {x y:PyData},pyD d=some x->pyD e=some y->x.canLay0=true->y.canLay0=true->PyData.eqv x y=deq d e
 | .t j,e,x,y,a,h2,i,c=>by
  dsimp[pyD,Option.map_eq_some_iff]at a;obtain⟨k,a,rfl⟩:=a;cases e with
  |t h =>
   dsimp[pyD,Option.map_eq_some_iff]at h2;obtain⟨g,h2,rfl⟩:=h2;dsimp[PyData.eqv,deq];exact eqvs_deq a h2 (by simpa[PyData.canLay0]using i) (by simpa[PyData.canLay0]using c)
  |l h=>dsimp[pyD,Option.map_eq_some_iff]at h2;obtain⟨g,_,rfl⟩:=h2;rfl|non=>cases h2;rfl|bl _=>cases h2;rfl|int _=>cases h2;rfl|str _=>cases h2;rfl|dic=>cases h2;cases c|_=>cases h2
 | .l j,e,x,y,a,h2,i,c=>by
  dsimp[pyD,Option.map_eq_some_iff]at a;obtain⟨k,a,rfl⟩:=a;cases e with
  |l h =>
   dsimp[pyD,Option.map_eq_some_iff]at h2;obtain⟨g,h2,rfl⟩:=h2;dsimp[PyData.eqv,deq];exact eqvs_deq a h2 (by simpa[PyData.canLay0]using i) (by simpa[PyData.canLay0]using c)
  |t h=>dsimp[pyD,Option.map_eq_some_iff]at h2;obtain⟨g,_,rfl⟩:=h2;rfl|non=>cases h2;rfl|bl _=>cases h2;rfl|int _=>cases h2;rfl|str _=>cases h2;rfl|dic=>cases h2;cases c|_=>cases h2
 | .non,e,x,y,a,h2,i,c=>by
  cases a;cases e with
  |t h=>dsimp[pyD,Option.map_eq_some_iff]at h2;obtain⟨g,_,rfl⟩:=h2;rfl|l h=>dsimp[pyD,Option.map_eq_some_iff]at h2;obtain⟨g,_,rfl⟩:=h2;rfl|dic=>cases h2;cases c
  |_=>first|(cases h2;rfl)|(cases h2)
 | .bl _,e,x,y,a,h2,i,c=>by
  cases a;cases e with
  |t h=>dsimp[pyD,Option.map_eq_some_iff]at h2;obtain⟨g,_,rfl⟩:=h2;rfl|l h=>dsimp[pyD,Option.map_eq_some_iff]at h2;obtain⟨g,_,rfl⟩:=h2;rfl|dic=>cases h2;cases c
  |_=>first|(cases h2;rfl)|(cases h2)
 | .int _,e,x,y,a,h2,i,c=>by
  cases a;cases e with
  |t h=>dsimp[pyD,Option.map_eq_some_iff]at h2;obtain⟨g,_,rfl⟩:=h2;rfl|l h=>dsimp[pyD,Option.map_eq_some_iff]at h2;obtain⟨g,_,rfl⟩:=h2;rfl|dic=>cases h2;cases c
  |_=>first|(cases h2;rfl)|(cases h2)
 | .str _,e,x,y,a,h2,i,c=>by
  cases a;cases e with
  |t h=>dsimp[pyD,Option.map_eq_some_iff]at h2;obtain⟨g,_,rfl⟩:=h2;rfl|l h=>dsimp[pyD,Option.map_eq_some_iff]at h2;obtain⟨g,_,rfl⟩:=h2;rfl|dic=>cases h2;cases c
  |_=>first|(cases h2;rfl)|(cases h2)
 | .dic,_,_,_,a,_,i,_=>by cases a;cases i| .fn _,_,_,_,a,_,_,_=>by cases a| .exn _ _,_,_,_,a,_,_,_=>by cases a| .m _ _,_,_,_,a,_,_,_=>by cases a
theorem eqvs_deq:∀{h i:Ls D} {c a:Ls PyData},pyDs h=some c->pyDs i=some a->PyData.canLayAll0 c=true->PyData.canLayAll0 a=true->PyData.eqvAll c a=deqs h i
 | [],[],c,a,g,h2,_,_=>by cases g;cases h2;rfl
 | [],e::i,c,a,g,h2,_,_=>by
  cases g;obtain⟨y,a,rfl⟩:=zCF h2;rfl
 |d::h,[],c,a,g,h2,_,_=>by
  cases h2;obtain⟨y,a,rfl⟩:=zCF g;rfl
 |d::h,e::i,c,a,g,h2,k,j=>by
  obtain⟨x,c,rfl,p,o⟩:=Y9 g;obtain⟨y,a,rfl,l,n⟩:=Y9 h2;dsimp[PyData.canLayAll0,Bool.and_eq_true]at k j;dsimp[PyData.eqvAll,deqs];rw[Gj p l k.1 j.1,eqvs_deq o n k.2 j.2]
end
section
variable{X:Cx}
def zIt(S:zDV X.K)(w:X.A.units+21<cLine):OpR X (compareOp .Eq) (rEqD X.K X.mg false):=by
 intro g s σ H x y v u Q I rx ry h;obtain⟨d,e,n,h2,p,r,q⟩:=h;obtain⟨a,i,j,z⟩:=um 20 d n;obtain⟨b,l,c,C⟩:=um 20 e h2;obtain⟨_,o,_⟩:=jS I S p rx i;obtain⟨_,t,_⟩:=jS I S r ry l;have k:=SeqAt.rcAt_reads (A:=X.A) o t j c (by omega);rw[Gj i l j c]at k;exact k X.prog X.w _ _ ⟨.bl (deq d e),H,I,rfl,q⟩
def zIu(S:zDV X.K)(w:X.A.units+21<cLine):OpR X (compareOp .NotEq) (rEqD X.K X.mg true):=by
 intro g s σ H x y v u Q I rx ry h;obtain⟨d,e,n,h2,p,r,q⟩:=h;obtain⟨a,i,j,z⟩:=um 20 d n;obtain⟨b,l,c,C⟩:=um 20 e h2;obtain⟨_,o,_⟩:=jS I S p rx i;obtain⟨_,t,_⟩:=jS I S r ry l;have k:=SeqAt.rcNeAt_reads (A:=X.A) o t j c (by omega);rw[Gj i l j c]at k;exact k X.prog X.w _ _ ⟨.bl (!deq d e),H,I,rfl,q⟩
end
theorem zIv:∀{c:Ls D} {a:Ls PyData},pyDs c=some a->c.length=a.length/\∀(j:Nat) (h:j<c.length) (e:j<a.length),pyD c[j]=some a[j]
 | [],a,h=>by cases h;exact⟨rfl,λj h=>by simp at h⟩
 |d::c,a,h=>by
  obtain⟨y,k,rfl,g,h2⟩:=Y9 h;obtain⟨i,h4⟩:=zIv h2;refine⟨by simp[i],λj h e=>?_⟩;cases j with
  |zero=>exact g|succ j=>exact h4 j (by exists h) (by exists e)
theorem zE7:∀{c:Ls PyData},PyData.canLayAll0 c=true->∀x∈c,x.canLay0=true
 |y::c,h,x,a=>by
  dsimp[PyData.canLayAll0,Bool.and_eq_true]at h;rcases mem_cons.mp a with rfl|a
  ·exact h.1
  ·exact zE7 h.2 x a
def idxK:D->D->Lx R
 | .l a,d=>if eqb 18 d=true/\a.all (eqb 18)=true then(match a.findIdx? (deq · d)with
   |some j=>if j<1000000 then some (.v (.int (j:Nat)))else none|none=>none)else none
 |_,_=>none
section
variable{X:Cx}{σ:L2.St}{pins:Ls (Lz×Obj)}{H:Hp}{s:La}{K:qH}{mg:Str->Lx Lv}
def rIdxK(K:qH)(c:Str->Lx Lv)(x:V)(vs:Ls V)(H:Hp)(Q:VK):Prop:=∃y d a j,vs=[y]/\Rep K c H d y/\Rep K c H (.l a) x/\eqb 18 d=true/\a.all (eqb 18)=true/\a.findIdx? (deq · d)=some j/\j<1000000/\Q (.int (j:Nat)) H
def zE8(S:zDV X.K)(hu:X.A.units+20<cLine):MtM X "list.index" (rIdxK X.K X.mg):=by
 intro O s σ H x vs v us Q I rx rv h;obtain⟨y,d,o,j,rfl,W,Y,Z,e2,hj,aa,q⟩:=h;obtain⟨u,rfl,ru⟩:=rv.one;obtain⟨a,E,C,l1⟩:=um 18 d Z;obtain⟨as,D,z,l2⟩:=Gi (um 18) o e2;obtain⟨hl,pa⟩:=zIv D;obtain⟨bs,rd,_⟩:=jS I S W ru E;obtain⟨l,xs,rfl,V,rs⟩:=yH Y;cases rx;obtain⟨c,r,p,_⟩:=I.list V;obtain⟨⟨c0,dd,dt,sl⟩,n,e,G,R,M⟩:=p;dsimp at G R M;subst G R M;obtain⟨cs,K,_⟩:=readss_of I S rs r D;have L:=SeqAt.readsAll_map _ _ _ z K;have g:c.length=as.length:=by have:=congrArg length L;exists this
 have i:∀m (h:m<c.length) (J:m<o.length),PyData.eqv (SeqAt.readOf s.heap c[m]) a=deq o[m] d:=λm h J=>by
  have k:(c.map (SeqAt.readOf s.heap))[m]'(by exists h)=as[m]'(by omega):=by dsimp[L]
  rw[getElem_map]at k;rw[k];exact Gj (pa m J (by omega)) E (zE7 z _ (getElem_mem _)) C
 obtain⟨k,h2,h3⟩:=List.findIdx?_eq_some_iff_getElem.mp hj;refine call_meets PySem.F.slot_list_index ⟨_,e,rfl⟩ PySem.F.entry_list_index (PySem.F.args_list_index_2 _ _) (SeqAt.list_indexAt l _ n none sl u (λy=>PyData.eqv (SeqAt.readOf s.heap y) a) j (by simp[g];omega) (by omega) ?_ ?_) ⟨e,SeqAt.items_eqAt (by exists K) rd z C (by have:=Nat.min_le_right (PyData.depthAll as) a.depth;omega),⟨.int _,H,I.tok _,⟨_,rfl⟩,q⟩⟩
 ·exact(i j (by omega) k).trans h2
 ·intro m w t
  exact(i m (by exists w) (by omega)).trans (by have:=h3 m t;exists this)
def ro_idxK:ROk K mg (λx y H Q=>rIdxK K mg x [y] H Q) idxK:=by
 intro M H Z x y p g c Q f n o e k;cases p with
 |l i =>
  dsimp[idxK]at e;split at e
  ·rename_i a
   split at e
   ·rename_i j h
    split at e
    ·rename_i hl
     cases e;exact⟨y,g,i,j,rfl,o.mono zF,n.mono zF,a.1,a.2,h,hl,k.flat f rfl⟩
    ·cases e
   ·cases e
  ·cases e
 |_=>cases e
def ok_idxK(S:zDV X.K)(n:X.A.units+20<cLine)(l:EOk X o a)(k:EOk X e b)(g:attributeBase o "index" X.env (eval o X.env)=eval o X.env)(j:zd e=false)(c:(apos.endLine==cpos.line)=true)
  (i:((backTo cpos (starEach (e::[]) X.env)).all (λx=>!x.1)&&(backToKw cpos (keywordEach [] X.env)).all (λx=>x.1.isSome)&&decide ((e::([]:Ls Lb)).length+([]:Ls Keyword).length+(if([]:Ls Keyword).isEmpty then 0 else 1)<30))=true) :
  EOk X (.Call (.Attribute o "index" apos) [e] [] cpos) (eMet idxK a b) :=
 zi (pe_bm PySem.F.plainAttrs_list PySem.F.slot_list_index PySem.F.type_list_index (zE8 S n) l (JU k uW (zf j)) g i c (zf j) rfl) λσ H Q h=>met_run ro_idxK h
end
inductive Op2 where
 |add|sub|mul|fdiv|mod|pow
def Op2.op:Op2->Operator
 | .add=>.Add | .sub=>.Sub | .mul=>.Mult | .fdiv=>.FloorDiv | .mod=>.Mod | .pow=>.Pow
def Op2.f:Op2->D->D->Lx R
 | .add=>Wa | .sub=>subD | .mul=>uC | .fdiv=>zC7 | .mod=>zIZ | .pow=>powD
inductive Cp where
 |lt|le|gt|ge|eq|ne|inn|nin|is
def Cp.op:Cp->CmpOp
 | .lt=>.Lt | .le=>.LtE | .gt=>.Gt | .ge=>.GtE | .eq=>.Eq | .ne=>.NotEq | .inn=>.In | .nin=>.NotIn | .is=>.Is
def Cp.f:Cp->D->D->Lx R
 | .lt=>ltD | .le=>leD | .gt=>gtD | .ge=>geD | .eq=>eqG | .ne=>neG | .inn=>inG false | .nin=>inG true | .is=>isG false
def Cp.isI:Cp->Bool
 | .lt | .le | .gt | .ge=>true
 |_=>false
def Cp.b:Cp->Lj
 | .lt=>ltB | .le=>leB | .gt=>gtB|_=>geB
def minI:Ls D->Lx R
 | [.int i,.int j]=>some (.v (.int (if j<i then j else i)))|_=>none
def co_minI{K:qH}{h:Str->Lx Lv}:COk K h (λa H Q=>∃i j,a=[.int i,.int j]/\Q (.int (if j<i then j else i)) H) minI:=by
 intro M H Z a l c Q f r e k
 match l,e with
 | [.int i,.int j],e =>
  cases e;obtain⟨v,n,rfl,g,h2⟩:=reps2 r;exact⟨i,j,by rw[zJ g,zJ h2],k.flat f rfl⟩
inductive Bi where
 |len|max|all|int|tuple|min|sum|abs|lisK
def Bi.nm:Bi->Str
 | .len=>"len" | .max=>"max" | .all=>"all" | .int=>"int" | .tuple=>"tuple" | .min=>"min" | .sum=>"sum" | .abs=>"abs" | .lisK=>"list"
def Bi.f:Bi->Ls D->Lx R
 | .len=>zAq | .max=>zEI | .all=>allD | .int=>intF | .tuple=>zIa | .min=>minI | .sum=>zIl | .abs=>absG | .lisK=>DV.listK
inductive Ty where
 |int|bool|tuple|list|str|dict
def Ty.s:Ty->String
 | .int=>"int" | .bool=>"bool" | .tuple=>"tuple" | .list=>"list" | .str=>"str" | .dict=>"dict"
def Ty.nm:Ty->Str
 | .int=>"int" | .bool=>"bool" | .tuple=>"tuple" | .list=>"list" | .str=>"str" | .dict=>"dict"
inductive Tg where
 |n (i:Nat)
 |t (is:List Nat)
def Tg.m:Tg->MG
 | .n i=>gN i| .t a=>gT a
mutual
inductive Ex where
 |c (d:D)|gl (d:D)|x (i:Nat)|mov (i:Nat)
 |bin (o:Op2) (a b:Ex)|cmp (o:Cp) (a b:Ex)|chain (o o':Cp) (a b c:Ex)
 |neg (a:Ex)|not (a:Ex)|and (a b:Ex)|or (a b:Ex)
 |ifx (t:Tx) (a b:Ex)|t (as:Ax)|l (as:Ax)
 |ix (a b:Ex)|ixO (i:Nat) (b:Ex)|lenO (i:Nat)|sl (a:Ex) (l h:Ox)
 |comp (nl:Nat) (loc capn:Ln) (caps:List Nat) (it:Ix) (tg:Tg) (tt:Tx) (el:Ex)
 |is (T:Ty) (a:Ex)|cB (b:Bi) (as:Ax)|call (k:Nat) (as:Gx)
 |lset (as:Ax)
 |frz (a:Ex)|idxK (a b:Ex)
 |dgO (i:Nat) (b:Ex)|dg (a b:Ex)|ninO (i:Nat) (a:Ex)|disp (a b:Ex)
 |dcomp (nl:Nat) (loc capn:Ln) (caps:List Nat) (it:Ix) (tg:Tg) (tt:Tx) (ka va:Ex)
inductive Tx where
 |tAnd (a b:Tx)|tOr (a b:Tx)|tNot (a:Tx)|tE (a:Ex)|tTr
inductive Ax where
 |nil|cons (a:Ex) (as:Ax)
inductive Gx where
 |nil|ev (a:Ex) (as:Gx)|lend (i:Nat) (as:Gx)
inductive Ox where
 |oN|oS (a:Ex)
inductive Ix where
 |iL (a:Ex)|iT (a:Ex)|iR1 (as:Ax)|iZ (t1 t2:Bool) (as:Ax)|iZA (t2:Bool) (as:Ax)|iE (t1:Bool) (as:Ax)|iD (a:Ex)
end
mutual
inductive Sx where
 |sIf (t:Tx) (a b:Bx)|sSet (i:Nat) (a:Ex)|sRet (a:Ex)|sDrop (a:Ex)|sIx (i:Nat) (b a:Ex)|sAugIx (i:Nat) (b a:Ex)|sApp (i:Nat) (a:Ex)
 |sForL (a:Ex) (tg:Tg) (b:Bx)|sForT (a:Ex) (tg:Tg) (b:Bx)|sForR1 (as:Ax) (tg:Tg) (b:Bx)|sForI (it:Ix) (tg:Tg) (b:Bx)
 |sDput (i:Nat) (b a:Ex)
 |sAny|sTup (is:List Nat) (a:Ex)|sPar (i j:Nat) (as:Ax)
 |sWhile (t:Tx) (b:Bx)|sAug (i:Nat) (o:Op2) (a:Ex)
inductive Bx where
 |bNil|o (s:Sx)|s (s:Sx) (b:Bx)
end
structure FI where
 x:Str
 n:Nat
 lv:Nat
 wild:Bool
 F:MF
def fiF(fs:Ls FI)(k:Nat):MF:=match fs[k]? with
 |some i=>i.F|none=>λ_=>.z
def fiX(fs:Ls FI)(k:Nat):Str:=match fs[k]? with
 |some i=>i.x|none=>""
def Op2.aug:Op2->Int->Int->Lx Int
 | .add=>λa b=>some (a+b)| .sub=>λa b=>some (a-b)| .mul=>Qu|_=>λ_ _=>none
def Op2.isAug:Op2->Bool
 | .add | .sub | .mul=>true
 |_=>false
def zAf(m:ME):ME:=λE=>match m E with
 | .y _ _=>.z|o=>o
def v5(m:MS):MS:=λE=>match m E with
 | .y _ _=>.z|o=>o
def zA8{m:ME}{E:zU}{p:R×zU}(h:m E=.ok p):zAf m E=.ok p:=by dsimp[zAf,h]
def vN{m:MS}{E:zU}{p:Fl×zU}(h:m E=.ok p):v5 m E=.ok p:=by dsimp[v5,h]
def no_E{X:Cx}{e:Lb}{m:ME}(h:EOk X.nox e m):EOk X e (zAf m):=zi h.nox λσ H Q ⟨M,E,hl,fr,k⟩=>by
 unfold zAf at k;refine⟨M,E,hl,fr,?_⟩;cases e:m E with
 |z=>rw[e]at k;exact k|y x E1=>rw[e]at k;exact k.elim|ok p=>rw[e]at k;exact k
def no_S{X:Cx}{st:Lf}{m:MS}(h:SOk X.nox st m):SOk X st (v5 m):=λa s σ H D I ⟨M,E,hl,fr,k⟩=>by
 refine wpAny_mono (h a s σ H D (I.wish _) ⟨M,E,hl,fr,?_⟩) (λ_ _ q=>q.unwish) λ_ _ z=>False.elim z
 unfold v5 at k;cases e:m E with
 |z=>rw[e]at k;exact k|y x E1=>rw[e]at k;exact k.elim
 |ok p =>
  rw[e]at k;obtain⟨c,E1⟩:=p;cases c<;>exact k
def sk_forN{X:Cx}{st:Lf}{c:MI}{tg:MG}{body:MS}(i:PS X st (λD σ H=>tMI X c σ H λ_ _=>False))(h:SOk X st (v5 (sForI c tg body))):SOk X st (zEo c tg body):=λa s σ H D I ⟨M,E,hl,fr,k⟩=>by
 unfold zEo at k;cases e:c E with
 |y x E1=>rw[e]at k;exact i a s σ H D I ⟨M,E,hl,fr,by rw[e];exact λH' g=>k σ H' g⟩|z=>rw[e]at k;exact h a s σ H D I ⟨M,E,hl,fr,k⟩|ok p=>rw[e]at k;exact h a s σ H D I ⟨M,E,hl,fr,k⟩
def no_set{i:Nat}{m:ME}:v5 (sSet i m)=sSet i (zAf m):=by
 funext E
 dsimp[v5,sSet,zAf];cases m E with
 |z=>rfl|y x E1=>rfl
 |ok p =>
  obtain⟨r,E1⟩:=p;dsimp;cases Wc i r E1<;>rfl
mutual
def dE(fs:Ls FI):Ex->ME
 | .c d=>eC d| .gl d=>eC d| .x i=>zC5 i| .mov i=>zC8 i| .bin o a b=>Y1 o.f (dE fs a) (dE fs b)| .cmp o a b=>Y1 o.f (dE fs a) (dE fs b)| .chain o v a b c=>jx o.b v.b (dE fs a) (dE fs b) (dE fs c)| .neg a=>eNeg (dE fs a)| .not a=>zD9 (dE fs a)| .and a b=>zBu (dE fs a) (dE fs b)| .or a b=>eOr (dE fs a) (dE fs b)| .ifx t a b=>eIf (dT fs t) (dE fs a) (dE fs b)| .t as=>zEB (dA fs as)| .l as=>zEC (dA fs as)| .ix a b=>Y1 ixD (dE fs a) (dE fs b)| .ixO i b=>zGm i (dE fs b)| .lenO i=>zC9 i| .sl a l h=>eSl slD (dE fs a) (dO fs l) (dO fs h)| .comp n _ _ e j g p u=>zAf (zAw n e (dI fs j) g.m (dT fs p) (dE fs u))| .is T a=>eIs T.s (dE fs a)| .cB b as=>eCB b.f (dA fs as)| .call k as=>wm (fiF fs k) (dG fs as)| .lset as=>eCB zEv (dA fs as)| .frz a=>eFrz (dE fs a)| .idxK a b=>eMet idxK (dE fs a) (dE fs b)| .dgO i b=>eDgO i (dE fs b)| .dg a b=>Y1 dgD (dE fs a) (dE fs b)| .ninO i a=>eInO true i (dE fs a)| .disp a b=>zE4 (dE fs a) (dE fs b)| .dcomp n _ _ e j g p r q=>zAf (zE3 n e (dI fs j) g.m (dT fs p) (maD (dE fs r) (dE fs q)))
def dT(fs:Ls FI):Tx->MT
 | .tAnd a b=>Y3 (dT fs a) (dT fs b)| .tOr a b=>zBt (dT fs a) (dT fs b)| .tNot a=>ZX (dT fs a)| .tE a=>tT (dE fs a)| .tTr=>Gc
def dA(fs:Ls FI):Ax->MA
 | .nil=>zEA| .cons a as=>ZY (dE fs a) (dA fs as)
def dG(fs:Ls FI):Gx->Ls Arg
 | .ev a as=>.ev (dE fs a)::dG fs as| .lend i as=>.lend i::dG fs as| .nil=>[]
def dO(fs:Ls FI):Ox->MO
 | .oN=>zGj| .oS a=>zEK (dE fs a)
def dI(fs:Ls FI):Ix->MI
 | .iL a=>iL (dE fs a)| .iT a=>iT (dE fs a)| .iD a=>iD (dE fs a)| .iR1 as=>iR1 (dA fs as)| .iZ c e as=>iZ c e (dA fs as)| .iZA e as=>iZA e (dA fs as)| .iE c as=>iE c (dA fs as)
end
mutual
def dS(fs:Ls FI):Sx->MS
 | .sIf t a b=>sIf (dT fs t) (dB fs a) (dB fs b)| .sSet i a=>sSet i (dE fs a)| .sRet a=>sRet (dE fs a)| .sDrop a=>sDrop (dE fs a)| .sIx i b a=>vC i (dE fs b) (dE fs a)| .sDput i b a=>DV.sDput i (dE fs b) (dE fs a)| .sAugIx i b a=>DV.sAugIx i (dE fs b) (dE fs a)| .sApp i a=>sApp i (dE fs a)| .sTup g a=>sTup g (dE fs a)| .sPar i j as=>sPar i j (dA fs as)| .sForL a c b=>v5 (sForL (dE fs a) c.m (dB fs b))| .sForI e c b=>zEo (dI fs e) c.m (dB fs b)| .sForT a c b=>v5 (sForT (dE fs a) c.m (dB fs b))| .sForR1 a c b=>v5 (sForR1 (dA fs a) c.m (dB fs b))| .sAny=>λ_=>.z| .sWhile t b=>v5 (DV.sWhile (dT fs t) (dB fs b))| .sAug i o a=>DV.sAug i o.aug (dE fs a)
def dB(fs:Ls FI):Bx->MS
 | .bNil=>zEL| .o s=>dS fs s| .s s b=>zBx (dS fs s) (dB fs b)
end
def rE_c{fs d}:dE fs (.c d)=eC d:=rfl
def rE_gl{fs d}:dE fs (.gl d)=eC d:=rfl
def ZA{fs i}:dE fs (.x i)=zC5 i:=rfl
def zIw{fs i}:dE fs (.mov i)=zC8 i:=rfl
def Q4{fs o a b}:dE fs (.bin o a b)=Y1 o.f (dE fs a) (dE fs b):=rfl
def Q5{fs o a b}:dE fs (.cmp o a b)=Y1 o.f (dE fs a) (dE fs b):=rfl
def Wj{fs o o' a b c}:dE fs (.chain o o' a b c)=jx o.b o'.b (dE fs a) (dE fs b) (dE fs c):=rfl
def rE_neg{fs a}:dE fs (.neg a)=eNeg (dE fs a):=rfl
def zCG{fs a b}:dE fs (.and a b)=zBu (dE fs a) (dE fs b):=rfl
def rE_or{fs a b}:dE fs (.or a b)=eOr (dE fs a) (dE fs b):=rfl
def zIx{fs t a b}:dE fs (.ifx t a b)=eIf (dT fs t) (dE fs a) (dE fs b):=rfl
def rE_tup{fs as}:dE fs (.t as)=zEB (dA fs as):=rfl
def Q6{fs as}:dE fs (.l as)=zEC (dA fs as):=rfl
def rE_ix{fs a b}:dE fs (.ix a b)=Y1 ixD (dE fs a) (dE fs b):=rfl
def zCH{fs i b}:dE fs (.ixO i b)=zGm i (dE fs b):=rfl
def rE_lenO{fs i}:dE fs (.lenO i)=zC9 i:=rfl
def rE_sl{fs a l h}:dE fs (.sl a l h)=eSl slD (dE fs a) (dO fs l) (dO fs h):=rfl
def rE_comp{fs nl u1 u2 caps it tg tt el}:dE fs (.comp nl u1 u2 caps it tg tt el)=zAf (zAw nl caps (dI fs it) tg.m (dT fs tt) (dE fs el)):=rfl
def rE_is{fs T a}:dE fs (.is T a)=eIs T.s (dE fs a):=rfl
def rE_cB{fs b as}:dE fs (.cB b as)=eCB b.f (dA fs as):=rfl
def wN{fs k as}:dE fs (.call k as)=wm (fiF fs k) (dG fs as):=rfl
def rE_lset{fs as}:dE fs (.lset as)=eCB zEv (dA fs as):=rfl
def zIy{fs a}:dE fs (.frz a)=eFrz (dE fs a):=rfl
def rE_idxK{fs a b}:dE fs (.idxK a b)=eMet idxK (dE fs a) (dE fs b):=rfl
def rE_dgO{fs i b}:dE fs (.dgO i b)=eDgO i (dE fs b):=rfl
def rE_dg{fs a b}:dE fs (.dg a b)=Y1 dgD (dE fs a) (dE fs b):=rfl
def rE_ninO{fs i a}:dE fs (.ninO i a)=eInO true i (dE fs a):=rfl
def rE_disp{fs a b}:dE fs (.disp a b)=zE4 (dE fs a) (dE fs b):=rfl
def zA9{fs a b}:dT fs (.tAnd a b)=Y3 (dT fs a) (dT fs b):=rfl
def zE9{fs a b}:dT fs (.tOr a b)=zBt (dT fs a) (dT fs b):=rfl
def zBA{fs a}:dT fs (.tNot a)=ZX (dT fs a):=rfl
def Q7{fs a}:dT fs (.tE a)=tT (dE fs a):=rfl
def uo{fs}:dT fs (.tTr)=Gc:=rfl
def vO{fs}:dA fs (.nil)=zEA:=rfl
def zBB{fs a as}:dA fs (.cons a as)=ZY (dE fs a) (dA fs as):=rfl
def uD{fs a as}:dG fs (.ev a as)=.ev (dE fs a)::dG fs as:=rfl
def zFA{fs i as}:dG fs (.lend i as)=.lend i::dG fs as:=rfl
def JI{fs}:dG fs (.nil)=[]:=rfl
def rO_oN{fs}:dO fs (.oN)=zGj:=rfl
def rO_oS{fs a}:dO fs (.oS a)=zEK (dE fs a):=rfl
def rI_iL{fs a}:dI fs (.iL a)=iL (dE fs a):=rfl
def rI_iT{fs a}:dI fs (.iT a)=iT (dE fs a):=rfl
def rI_iD{fs a}:dI fs (.iD a)=iD (dE fs a):=rfl
def rI_iR1{fs as}:dI fs (.iR1 as)=iR1 (dA fs as):=rfl
def rI_iZ{fs t1 t2 as}:dI fs (.iZ t1 t2 as)=iZ t1 t2 (dA fs as):=rfl
def zIz{fs t2 as}:dI fs (.iZA t2 as)=iZA t2 (dA fs as):=rfl
def rI_iE{fs t1 as}:dI fs (.iE t1 as)=iE t1 (dA fs as):=rfl
def Q8{fs t a b}:dS fs (.sIf t a b)=sIf (dT fs t) (dB fs a) (dB fs b):=rfl
def vP{fs i a}:dS fs (.sSet i a)=sSet i (dE fs a):=rfl
def Ja{fs a}:dS fs (.sRet a)=sRet (dE fs a):=rfl
def zHV{fs a}:dS fs (.sDrop a)=sDrop (dE fs a):=rfl
def zI0{fs i b a}:dS fs (.sIx i b a)=vC i (dE fs b) (dE fs a):=rfl
def zHW{fs i b a}:dS fs (.sDput i b a)=DV.sDput i (dE fs b) (dE fs a):=rfl
def zFB{fs i b a}:dS fs (.sAugIx i b a)=DV.sAugIx i (dE fs b) (dE fs a):=rfl
def rS_sApp{fs i a}:dS fs (.sApp i a)=sApp i (dE fs a):=rfl
def rS_sTup{fs is a}:dS fs (.sTup is a)=sTup is (dE fs a):=rfl
def rS_sPar{fs i j as}:dS fs (.sPar i j as)=sPar i j (dA fs as):=rfl
def zHX{fs a tg b}:dS fs (.sForL a tg b)=v5 (sForL (dE fs a) tg.m (dB fs b)):=rfl
def zHY{fs it tg b}:dS fs (.sForI it tg b)=zEo (dI fs it) tg.m (dB fs b):=rfl
def zHZ{fs a tg b}:dS fs (.sForT a tg b)=v5 (sForT (dE fs a) tg.m (dB fs b)):=rfl
def zFC{fs a tg b}:dS fs (.sForR1 a tg b)=v5 (sForR1 (dA fs a) tg.m (dB fs b)):=rfl
def Q9{fs t b}:dS fs (.sWhile t b)=v5 (DV.sWhile (dT fs t) (dB fs b)):=rfl
def rS_sAug{fs i o a}:dS fs (.sAug i o a)=DV.sAug i o.aug (dE fs a):=rfl
def Gm{fs}:dB fs (.bNil)=zEL:=rfl
def Jb{fs s}:dB fs (.o s)=dS fs s:=rfl
def YZ{fs s b}:dB fs (.s s b)=zBx (dS fs s) (dB fs b):=rfl
structure Sg where
 N:Ln
 sc:Scope
 top:Bool
 cs:List (Str×D)
 fs:List FI
 bs:Ln
 lv:Nat
 calm:Bool
 cl:Ln
 rs:Ln
 oc:Ln
 ri:Ln
def kIs(sg:Sg)(x:Str)(k:NameKind):Bool:=sg.sc.names.lookup x==some k
def vis(sg:Sg)(i:Nat)(x:Str):Bool:=sg.N[i]?==some x&&(kIs sg x .local||(kIs sg x .cell||kIs sg x .free))&&(!(x==("__debug__":Str))&&!(x==("__classdict__":Str)))
def glb(sg:Sg)(x:Str):Bool:=kIs sg x .globalImplicit&&!(x==("__debug__":Str))
def locd(sg:Sg)(i:Nat)(x:Str):Bool:=sg.N[i]?==some x&&(kIs sg x .local||(kIs sg x .cell&&(sg.top||sg.oc.contains x)))
def cIs:D->Const->Bool
 | .non,.none=>true| .bl b,.bool c=>b==c| .int i,.int j=>i==j| .str x,.str y=>x==y|_,_=>false
def feq:D->D->Bool
 | .non,.non=>true| .bl b,.bl c=>b==c| .int i,.int j=>i==j| .str x,.str y=>x==y|_,_=>false
abbrev geq(d e:D):Bool:=feq d e
def gIs(sg:Sg)(x:Str)(d:D):Bool:=match sg.cs.lookup x with
 |some a=>geq d a|none=>false
def fIs(sg:Sg)(k:Nat)(x:Str):Bool:=match sg.fs[k]? with
 |some i=>i.x==x|none=>false
def fArg(sg:Sg)(n:Nat)(k:Nat):Bool:=match sg.fs[k]? with
 |some i=>i.n==n&&decide (i.lv<=sg.lv)&&(sg.calm||i.wild)
 |none=>false
def bIn(sg:Sg)(x:Str):Bool:=sg.bs.contains x
def gLen:Gx->Nat
 | .ev _ as=>gLen as+1| .lend _ as=>gLen as+1| .nil=>0
def zDH:Tg->Sg->Lb->Bool
 | .n i,a,e=>match e with
  | .Name x _=>locd a i x|_=>false
 | .t c,a,e=>match e with
  | .Tuple g _ _=>all2 a c g|_=>false
where all2 (a:Sg):Ls Nat->Ls Lb->Bool
 | [],[]=>true
 |i::c,e::g=>(match e with | .Name x _=>locd a i x|_=>false)&&all2 a c g
 |_,_=>false
def relab(a:Scope)(sc:Scope):Scope:={a with names:=a.names.map λ(n,k)=>if(k==NameKind.free&&sc.kind==.function&&sc.names.lookup n==some .cell)then(n,NameKind.cell)else(n,k)}
def capB(sg:Sg)(a:Scope):Ls Nat->Ls Str->Bool
 | [],[]=>true|j::js,x::xs=>sg.N[j]?==some x&&a.names.lookup x==some .free&&capB sg a js xs|_,_=>false
def QN(sg:Sg)(N:Ls Str)(a:Scope):Sg:={sg with N:=N,sc:=relab a sg.sc,top:=false,oc:=(a.names.filter λy=>y.2==.cell).map Prod.fst}
def zFD(sg:Sg)(nl:Nat)(loc c:Ls Str)(caps:Ls Nat)(a:Scope):Bool :=
 loc.length==nl&&a.kind==.function&&decide (loc++c).Nodup&&a.names.all (λy=>y.2 != .local||a.names.lookup y.1==some .local)&&a.names.all (λy=>y.2 != .cell||a.names.lookup y.1==some .cell)
  && a.names.all (λy=>y.2 != .free||sg.sc.names.lookup y.1==some .cell)&&capB sg a caps c
def swOk(sg:Sg)(es:Ls Lb)(v:Lb):Bool:=match v with
 | .Tuple a _ _=>es.any (λe=>match e with | .Name x _=>!(kIs sg x .local)|_=>true)||a.all (foldedForSure 8)
 |_=>true
def swB(sg:Sg)(x:Str)(c:Pos)(a:Scope)(e:Pos):Bool:=kIs sg x .local&&c.line==e.line&&!(a.names.any λy=>y.1==x&&(y.2==.local||y.2==.cell))
def isCo:Ex->Bool
 | .comp _ _ _ _ _ _ _ _=>true|_=>false
def setOk(sg:Sg)(x:Str)(g:Pos)(a:Ex)(v:Lb):Bool:=match v with
 | .ListComp _ _ c e=>sg.sc.kind==.function&&(!swB sg x g c e||isCo a)
 | .DictComp _ _ _ c e=>sg.sc.kind==.function&&!swB sg x g c e|v=>ZW v
def zHa(sg:Sg)(i j:Nat)(x y:Str)(c e:Pos)(a b:Lb):Bool :=
 sg.sc.kind==.function&&sg.N[i]?==some x&&sg.N[j]?==some y&&i != j&&kIs sg x .local&&kIs sg y .local&&e.line==c.line&&!(x==y)&&!zd a&&!zd b&&!([a,b].all (foldedForSure 8))&&!([a,b].all (constantsAlone 8))
def isTr:Tx->Bool
 | .tTr=>true|_=>false
def chkZ:Ix->Lb->Bool
 | .iZ _ _ _,e=>match e with
  | .Tuple _ _ _=>true|_=>false
 | .iZA _ _,e=>match e with
  | .Tuple _ _ _=>true|_=>false
 | .iE _ _,e=>match e with
  | .Tuple _ _ _=>true|_=>false
 |_,_=>true
structure SgOk(X:Cx)(sg:Sg):Prop where
 N:X.N=sg.N
 sc:X.env.scope=sg.sc
 fn:sg.top=true->∀x,X.fn x=true
 oc:∀x∈sg.oc,X.env.scope.names.lookup x=some .cell->X.fn x=true
 calm:sg.calm=true->X.calm=true
 hd:sg.calm=true->X.A.handled=none
 stk:sg.top=true->X.stack=X.env::X.outer/\X.env.frame=some X.env.locals
 nd:X.N.Nodup
 cs:∀x d,sg.cs.lookup x=some d->∃u v,X.mg x=some u/\yb v u/\∀H,Rep X.K X.mg H d v
 fs:∀i∈sg.fs,∃f fd ps,X.mg i.x=some (.ref f)/\keepIn X.K (.ref f)=true/\ZS X.K fd ps []/\ps.length=i.n/\FnOkN (!i.wild) X.prog X.w X.K X.mg X.base i.lv f fd ps (spM X.K X.mg i.n i.F)
 bs:∀x∈sg.bs,X.mg x=none
 room:RoomN sg.lv X.A
 cl:sg.cl≠[]->∃T,X.mg "ThrowError"=some (.ref T)/\TCls X.K T/\∀c∈sg.cl,∃C,X.mg c=some (.ref C)/\XCls X.K c C T/\C≠T
 rs:∀c∈sg.rs,∃C,X.mg c=some (.ref C)/\PySem.W.excIn X.K C VB "ValueError.__new__"=true
 sm:zDV X.K
 ri:∀c∈sg.ri,RIok X.prog X.w X.K X.mg X.base c/\RAok X.K X.mg c
section
variable{X:Cx}{sg:Sg}
def JJ(G:SgOk X sg){x:Str}{k:NameKind}(h:kIs sg x k=true):X.env.scope.names.lookup x=some k:=by
 rw[G.sc];simpa[kIs]using h
def wB(G:SgOk X sg){x:Str}(h:glb sg x=true):Gl X x/\(x==("__debug__":Str))=false:=by
 dsimp[glb,Bool.and_eq_true,Bool.not_eq_true']at h;exact⟨JJ G h.1,h.2⟩
def JK(G:SgOk X sg){x:Str}{i:Nat}{a:Pos}(h:vis sg i x=true):PE X (.Name x a) (Wz i):=by
 dsimp[vis,Bool.and_eq_true,Bool.or_eq_true,Bool.not_eq_true']at h;refine pe_var (by rw[G.N];exists h.1.1) ?_ h.2.1 h.2.2;rcases h.1.2 with q|q|q
 ·exact .inl (JJ G q)
 ·exact .inr (.inl (JJ G q))
 ·exact .inr (.inr (JJ G q))
def Gn(G:SgOk X sg){x:Str}{i:Nat}(h:locd sg i x=true):X.N[i]?=some x/\Loc X.env.scope x/\(X.fn x=true\/X.env.scope.names.lookup x=some .local):=by
 dsimp[locd,Bool.and_eq_true,Bool.or_eq_true]at h;refine⟨by rw[G.N];simpa using h.1,?_⟩;rcases h.2 with q|q
 ·exact⟨.inl (JJ G q),.inr (JJ G q)⟩
 ·refine⟨.inr (JJ G q.1),.inl ?_⟩
  rcases q.2 with a|a
  ·exact G.fn a x
  ·exact G.oc x (by exists a) (JJ G q.1)
def Jc(G:SgOk X sg){x:Str}(h:bIn sg x=true):X.mg x=none:=G.bs x (by simpa[bIn]using h)
def feq_of{d d':D}(h:feq d d'=true):d=d':=by
 cases d<;>cases d'<;>simp[feq]at h<;>first|rfl|(subst h;rfl)
def geq_of{d d':D}(h:geq d d'=true):d=d':=feq_of h
def ok_glR{x:Str}{d:D}{u:Lv}{v:V}{a:Pos}(e:Gl X x)(g:X.mg x=some u)(r:yb v u)(c:∀H,Rep X.K X.mg H d v)(hd:(x==("__debug__":Str))=false):EOk X (.Name x a) (eC d) :=
 zi (pe_glob e g r hd) λσ H Q ⟨M,E,hl,fr,k⟩=>k _ H ((Got.refl (T0:=[]) hl fr).more (T:=[(some v,.v d)]) (FR.add fr (c _)) Step.refl.add)
def fIs_of{k:Nat}{x:Str}(h:fIs sg k x=true):∃i,sg.fs[k]?=some i/\i.x=x:=by
 unfold fIs at h;split at h
 ·rename_i i e;exact⟨i,e,by exists h⟩
 ·cases h
def fArg_of{k n:Nat}(h:fArg sg n k=true):∃i,sg.fs[k]?=some i/\i.n=n/\i.lv<=sg.lv/\(sg.calm||i.wild)=true:=by
 unfold fArg at h;split at h
 ·rename_i i e
  dsimp[Bool.and_eq_true,decide_eq_true_eq,beq_iff_eq]at h;exact⟨i,e,h.1.1,h.1.2,by exists h.2⟩
 ·cases h
def hd_of(G:SgOk X sg){b:Bool}(h:(sg.calm||b)=true):(!b)=true->X.A.handled=none:=λa=>G.hd (by
 cases b with
 |true=>cases a|false=>exists h)
def fiF_of{fs:Ls FI}{k:Nat}{i:FI}(h:fs[k]?=some i):fiF fs k=i.F/\fiX fs k=i.x:=by
 unfold fiF fiX;rw[h];exact⟨rfl,rfl⟩
def Jy{b:Lb}(h:v8 b=true):ZT b:=by
 intro o i;cases b<;>first|rfl|(cases h)
def Z9(c:Ls Lb)(a:Ls Nat)(G:SgOk X sg)(h:zDH.all2 sg a c=true):PGs X c (YX a)/\(assignEach c X.env).length=a.length/\(assignEach c X.env).findIdx? (·.1)=none:=by
 induction c generalizing a with
 |nil =>
  cases a with
  |nil=>exact⟨pgs_nil,rfl,rfl⟩|cons i a=>cases h
 |cons e c q =>
  cases a with
  |nil=>cases h
  |cons i a =>
   dsimp[zDH.all2,Bool.and_eq_true]at h;obtain⟨g,h2⟩:=h;cases e with
   |Name x p =>
    obtain⟨l,o,k⟩:=Gn G g;obtain⟨j,n,r⟩:=q a h2;refine⟨zGJ (zDc G.nd l o k) j rfl,?_,?_⟩
    ·show(assignEach c X.env).length+1=_
     rw[n];rfl
    ·show List.findIdx? _ ((false,_)::assignEach c X.env)=none
     dsimp[List.findIdx?_cons,r];rfl
   |_=>cases g
def gOf(K:qH):Tg->TG
 | .n i=>zAi i| .t a=>gTup K a.length (YX a)
def WT(tg:Tg):GOk X (gOf X.K tg) tg.m:=by
 cases tg with
 |n i=>exact go_name i|t a=>exact zIc a rfl
def zBC{tg:Tg}{t:Lb}(c:sg.calm=true)(G:SgOk X sg)(h:zDH tg sg t=true):PG X t (gOf X.K tg):=by
 cases tg with
 |n i =>
  dsimp[zDH]at h;cases t with
  |Name x j =>
   obtain⟨g,a,e⟩:=Gn G h;exact zDc G.nd g a e
  |_=>cases h
 |t o =>
  dsimp[zDH]at h;cases t with
  |Tuple l k j =>
   obtain⟨g,a,e⟩:=Z9 l o G h;exact zIH (G.calm c) g a e
  |_=>cases h
def zHb(G:SgOk X sg){N:Ls Str}{a:Scope}(hn:N.Nodup)(c:∀y∈a.names,y.2=.cell->a.names.lookup y.1=some .cell){cl C ex s H}:SgOk (cxB X N a cl C ex s H) (QN sg N a) where
 N:=rfl
 sc:=by
  show relabel a X.env=relab a sg.sc
  rw[<- G.sc];rfl
 fn:=λh=>by cases h
 oc:=λx h _=>by
  obtain⟨y,e,rfl⟩:=mem_map.mp (show x∈(a.names.filter λy=>y.2==.cell).map Prod.fst from h);obtain⟨g,i⟩:=mem_filter.mp e;show(a.names.lookup y.1==some NameKind.cell)=true;rw[c y g (by exists i)];rfl
 calm:=G.calm
 hd:=G.hd
 stk:=λh=>by cases h
 nd:=hn
 cs:=G.cs
 fs:=G.fs
 bs:=G.bs
 room:=G.room
 cl:=G.cl
 rs:=G.rs
 sm:=G.sm
 ri:=G.ri
def yj(G:SgOk X sg):SgOk X.nox sg:=⟨G.N,G.sc,G.fn,G.oc,G.calm,G.hd,G.stk,G.nd,G.cs,G.fs,G.bs,G.room,G.cl,G.rs,G.sm,G.ri⟩
end
section
open Bool
def kit_of(K:qH)(T:Ty):Kit K T.s:=by
 cases T
 ·exact kit_int K
 ·exact zGz K
 ·exact zEb K
 ·exact zG0 K
 ·exact kit_str K
 ·exact zG1 K
def bt_of(T:Ty):bootBuiltins T.nm=some (.type T.s):=by
 cases T
 ·exact zIg
 ·exact bt_bool
 ·exact zB0
 ·exact zEc
 ·exact bt_str
 ·exact bt_dict
def nm_of(T:Ty):T.nm≠"__name__":=by cases T<;>left
def bin_of{X:Cx}{o:Op2}{a b:Lb}{ma h:ME}{g:Pos}(c:EOk X a ma)(e:EOk X b h):EOk X (.BinOp a o.op b g) (Y1 o.f ma h):=by
 cases o
 ·exact zC6 op_addD ro_add c e
 ·exact zC6 op_sub ro_sub c e
 ·exact zC6 (op_mulD.or op_repL) ro_mulG c e
 ·exact zC6 zGh ro_fdiv c e
 ·exact zC6 op_mod ro_mod c e
 ·exact zC6 op_pow ro_pow c e
def zCI{X:Cx}{sg:Sg}(G:SgOk X sg):X.A.units+21<cLine:=by have:=G.room.un;omega
def JL{X:Cx}{sg:Sg}(G:SgOk X sg):X.A.units+20<cLine:=by have:=G.room.un;omega
def bt_sum:bootBuiltins "sum"=some (.builtin "sum"):=by left
def bt_abs:bootBuiltins "abs"=some (.builtin "abs"):=by left
def zt{a:CmpOp}{b:Lb}(h:jv b=true):behindInMarks a b=false:=by
 cases b<;>first|rfl|(cases h)
def cmp_of{X:Cx}{sg:Sg}(G:SgOk X sg){o:Cp}{a b:Lb}{ma h:ME}{g:Pos}(hn:jv b=true)(c:EOk X a ma)(e:EOk X b h):EOk X (.Compare a [o.op] [b] g) (Y1 o.f ma h):=by
 cases o
 ·exact Y2 op_lt ro_lt (zt hn) c e
 ·exact Y2 op_le ro_le (zt hn) c e
 ·exact Y2 op_gt ro_gt (zt hn) c e
 ·exact Y2 op_ge ro_ge (zt hn) c e
 ·exact Y2 (op_eq.or (zIt G.sm (zCI G))) zIj (zt hn) c e
 ·exact Y2 (op_ne.or (zIu G.sm (zCI G))) zIk (zt hn) c e
 ·exact Y2 (Qb.or (zIm G.sm (JL G))) (zB7 (neg:=false)) (zt hn) c e
 ·exact Y2 (Z4.or (zEq G.sm (JL G))) (zB7 (neg:=true)) (zt hn) c e
 ·exact Y2 op_is ro_is (zt hn) c e
def cmpT_of{X:Cx}{sg:Sg}(G:SgOk X sg){o:Cp}{a b:Lb}{ma h:ME}{g:Pos}(hn:jv b=true)(c:EOk X a ma)(e:EOk X b h):TOk X (.Compare a [o.op] [b] g) (tT (Y1 o.f ma h)):=by
 cases o
 ·exact wg op_lt ro_lt (zt hn) c e
 ·exact wg op_le ro_le (zt hn) c e
 ·exact wg op_gt ro_gt (zt hn) c e
 ·exact wg op_ge ro_ge (zt hn) c e
 ·exact wg (op_eq.or (zIt G.sm (zCI G))) zIj (zt hn) c e
 ·exact wg (op_ne.or (zIu G.sm (zCI G))) zIk (zt hn) c e
 ·exact wg (Qb.or (zIm G.sm (JL G))) (zB7 (neg:=false)) (zt hn) c e
 ·exact wg (Z4.or (zEq G.sm (JL G))) (zB7 (neg:=true)) (zt hn) c e
 ·exact wg op_is ro_is (zt hn) c e
def zFE{o a:CmpOp}{b c:Lb}(h:jv c=true):lastMarks [o,a] [b,c]=false:=zt h
def zCJ{X:Cx}{o:Cp}(h:o.isI=true):OpR X (compareOp o.op) (rI0 λi j=>.bl (o.b i j)):=by
 cases o<;>first|exact op_lt|exact op_le|exact op_gt|exact op_ge|(cases h)
def bi_of{X:Cx}{sg:Sg}(a:sg.calm=true)(G:SgOk X sg)(b:Bi){x:Lb}{es:Ls Lb}{m:MA}{p j:Pos}(g:Gl X b.nm)(e:X.mg b.nm=none)(i:ju (x::es)=true)(h:AOk X (x::es) m):EOk X (.Call (.Name b.nm p) (x::es) [] j) (eCB b.f m):=by
 have c:zd x=false:=by dsimp[ju,Bool.and_eq_true,Bool.not_eq_true']at i;exact i.1
 have h2:ju es=true:=by dsimp[ju,Bool.and_eq_true,Bool.not_eq_true']at i;exact i.2
 cases b with
 |len=>exact Jx Z5 co_len g e bt_len h (by left) (by left) c h2|max=>exact Jx (zDp (G.calm a)) co_max g e bt_max h (by left) (by left) c h2|all=>exact Jx (zGd (G.calm a)) co_all g e bt_all h (by left) (by left) c h2|int=>exact W6 zDr co_int g e zIg h (by left) (by left) c h2|tuple=>exact W6 GM zGi g e zB0 h (by left) (by left) c h2|min=>exact Jx (zDq (G.calm a)) co_minI g e bt_min h (by left) (by left) c h2|sum=>exact Jx (call_or (zEf (G.calm a)) (zEg (G.calm a))) co_sumG g e bt_sum h (by left) (by left) c h2|abs=>exact Jx zGP co_absG g e bt_abs h (by left) (by left) c h2|lisK=>exact W6 (zDG (G.calm a)) zHT g e zEc h (by left) (by left) c h2
theorem zFF(fs:Ls FI):∀as:Gx,(dG fs as).length=gLen as
 | .nil=>rfl| .ev a as=>congrArg (·+1) (zFF fs as)| .lend i as=>congrArg (·+1) (zFF fs as)
def call_ok{X:Cx}{sg:Sg}(G:SgOk X sg){k:Nat}{as:Gx}{f:Str}{x:Lb}{es:Ls Lb}{p g:Pos}(z:glb sg f=true)(w:fIs sg k f=true)(v:fArg sg (gLen as) k=true)(h:ju (x::es)=true)(r:zId X (x::es) (dG sg.fs as)):EOk X (.Call (.Name f p) (x::es) [] g) (wm (fiF sg.fs k) (dG sg.fs as)):=by
 obtain⟨o,u⟩:=wB G z;obtain⟨i,e,q⟩:=fIs_of w;obtain⟨I,c,C,n,y⟩:=fArg_of v;rw[e]at c;cases c;obtain⟨a,E,H,t,m2,D,l,j⟩:=G.fs i (mem_of_getElem? e);rw[(fiF_of e).1];subst q;dsimp[ju,Bool.and_eq_true,Bool.not_eq_true']at h;rw[<- l]at j;exact ok_call j (hd_of G y) (G.room.mono n) o t m2 D r (by rw[zFF,l,C]) u h.1 h.2
theorem zI1{X:Cx}{sg:Sg}(G:SgOk X sg){a:Scope}:∀{c:Ls Nat} {e:Ls Str},capB sg a c e=true->zG3 X a c e
 | [],[],_=>trivial| [],_::_,h=>by cases h|_::_,[],h=>by cases h
 |j::g,x::i,h=>by
  dsimp[capB,Bool.and_eq_true]at h;exact⟨by rw[G.N];simpa using h.1.1,by simpa using h.1.2,zI1 G h.2⟩
end
section
def aug_of{b:Lb}(h:v8 b=true):∀e c a,augStore b e c a=(do holding [a,e,c] (setItem e c a);release [a,e,c] [];pure .next):=by
 cases b<;>first|(intros;rfl)|(cases h)
def zI2{x:Str}{p a:Pos}{b:Lb}{env:Env}(h:v8 b=true):∀v,assign (.Subscript (.Name x p) b a) env v=(do
   let ov <- holding [v] (eval (.Name x p) env)
   let iv <- holding [v,ov] (eval b env)
   standAt a
   holding [v,ov,iv] (setItem ov iv v)
   release [v,ov,iv] []):=by
 intro v;cases b<;>first|rfl|(cases h)
def zBD{t e:Lb}{l:Nat}{env:Env}(h:ZW e=true):swapsWithSole [t] e l env=pure false:=by
 show swapsWith e (some t) l env=pure false
 exact GT h
def zHc{a b e:Lb}{p:Pos}{l:Nat}{env:Env}:swapsWithSole [.Subscript a b p] e l env=pure false:=by cases e<;>rfl
def zBE{X:Cx}{sg:Sg}(G:SgOk X sg)(h:(sg.sc.kind==ScopeKind.function)=true):X.env.blockKind=.function:=by
 have:X.env.scope.kind=.function:=by rw[G.sc];exact beq_iff_eq.mp h
 unfold Env.blockKind;rw[this];rfl
def sw_valD{X:Cx}{sg:Sg}(G:SgOk X sg)(g:(sg.sc.kind==ScopeKind.function)=true){i j:Lb}{h:Ls Comprehension}{a:Scope}{e c:Pos}{x:Str}{l:Nat}:swapsWith (.DictComp i j h a e) (some (.Name x c)) l X.env=pure (swB sg x c a e):=by
 show(pure (X.env.blockKind==.function&&X.env.kindOf x==some .local&&c.line==e.line&&!(a.names.any λ(n,k)=>n==x&&(k==.local||k==.cell))):Sem Bool)=_
 rw[zBE G g];unfold swB kIs Env.kindOf;rw[G.sc];simp
def zI3{X:Cx}{sg:Sg}(G:SgOk X sg)(g:(sg.sc.kind==ScopeKind.function)=true){el:Lb}{h:Ls Comprehension}{a:Scope}{e c:Pos}{x:Str}{l:Nat}:swapsWith (.ListComp el h a e) (some (.Name x c)) l X.env=pure (swB sg x c a e):=by
 show(pure (X.env.blockKind==.function&&X.env.kindOf x==some .local&&c.line==e.line&&!(a.names.any λ(n,k)=>n==x&&(k==.local||k==.cell))):Sem Bool)=_
 rw[zBE G g];unfold swB kIs Env.kindOf;rw[G.sc];simp
theorem zI4{α β:Type}(f:α->Lx β):∀l:Ls α,(l.filterMap f).length<=l.length
 | []=>le_refl _
 |a::l=>by
  have:=zI4 f l;rw[filterMap_cons];split
  ·dsimp[length_cons];omega
  ·dsimp[length_cons];omega
theorem fm_lt{α β:Type}(f:α->Lx β):∀l:Ls α,(∃a∈l,f a=none)->(l.filterMap f).length<l.length
 | [],h=>by obtain⟨a,h,_⟩:=h;cases h
 |b::l,h=>by
  obtain⟨a,c,hf⟩:=h;rw[filterMap_cons];rcases mem_cons.mp c with rfl|c
  ·rw[hf]
   have:=zI4 f l;dsimp[length_cons];omega
  ·have:=fm_lt f l ⟨a,c,hf⟩
   split
   ·dsimp[length_cons];omega
   ·dsimp[length_cons];omega
def sw_ok{X:Cx}{sg:Sg}(G:SgOk X sg){es:Ls Lb}{k:Nat}{p:Pos}{v:Lb}(h:swOk sg es v=true):swappedStores [.Tuple es k p] v X.env=pure none:=by
 cases v with
 |Tuple l n o =>
  unfold swappedStores;dsimp;split
  ·rfl
  split
  ·rfl
  split
  ·rfl
  rename_i i;split
  ·rfl
  rename_i hf
  exfalso
  rcases Bool.or_eq_true _ _ |>.mp h with h|h
  ·obtain⟨e,c,a⟩:=List.any_eq_true.mp h
   refine i (Bool.or_eq_true _ _ |>.mpr (.inl ?_));refine bne_iff_ne.mpr (ne_of_lt (fm_lt _ es ⟨e,c,?_⟩));cases e with
   |Name x q =>
    have:X.env.kindOf x≠some .local:=λz=>by
     have g:sg.sc.names.lookup x=some .local:=by rw[<- G.sc];exact z
     simp[kIs,g]at a
    have j:(X.env.kindOf x==some NameKind.local)=false:=by exists this
    simp[j]
   |_=>rfl
  ·exact hf h
 |_=>rfl
def sw_par0{env:Env}{x y:Str}{h i p v:Pos}{a b:Lb}{G H:Nat}(q:env.blockKind=.function)(C:env.kindOf x=some .local)(D:env.kindOf y=some .local)(l:i.line=h.line)(j:(x==y)=false)(u:zd a=false)(o:zd b=false)(n:[a,b].all (foldedForSure 8)=false)(w:[a,b].all (constantsAlone 8)=false) :
  swappedStores [.Tuple [.Name x h,.Name y i] G p] (.Tuple [a,b] H v) env=pure (some [x,y]):=by
 have k:∀e:Lb,(match e with | .Starred _ _=>true|_=>false)=zd e:=λe=>by cases e<;>rfl
 have r:([Expr.Name x h,Expr.Name y i].filterMap fun
  | .Name id g=>if env.kindOf id==some .local&&g.line==h.line then some id else none|_=>none)=[x,y]:=by simp[C,D,l]
 have t:[x,y].eraseDups.length=2:=by
  have:y≠x:=λz=>by subst z;simp at j
  have h2:(y==x)=false:=by exists this
  simp[List.eraseDups,List.eraseDupsBy,List.eraseDupsBy.loop,h2]
 have E:([a,b].any fun | .Starred ..=>true|_=>false)=false:=by
  dsimp[any_cons,List.any_nil,Bool.or_false];rw[k,k,u,o];rfl
 show(if !(2==2||2==3)||2 != 2||env.blockKind != .function then pure none else if([a,b].any fun | .Starred ..=>true|_=>false)then pure none else
  (let c:=([Expr.Name x h,Expr.Name y i].filterMap fun
  | .Name id g=>if env.kindOf id==some .local&&g.line==h.line then some id else none|_=>none)
  if c.length != 2||c.eraseDups.length != c.length then pure none else if [a,b].all (foldedForSure 8)then pure none else if [a,b].all (constantsAlone 8)then(do unsupported "assign.tuple-of-constant-expressions:order-of-the-stores";pure (some c))else pure (some c)):Sem (Lx (Ls Str)))=_
 rw[q,E,r,n,w];simp[t]
def sw_par{X:Cx}{sg:Sg}(G:SgOk X sg){i j:Nat}{x y:Str}{c e p z:Pos}{a b:Lb}{r g:Nat}(h:zHa sg i j x y c e a b=true):swappedStores [.Tuple [.Name x c,.Name y e] r p] (.Tuple [a,b] g z) X.env=pure (some [x,y]):=by
 unfold zHa at h;dsimp[Bool.and_eq_true,Bool.not_eq_true',beq_iff_eq,bne_iff_ne]at h;obtain⟨⟨⟨⟨⟨⟨⟨⟨⟨⟨⟨k,_⟩,_⟩,_⟩,q⟩,t⟩,o⟩,l⟩,u⟩,n⟩,v⟩,w⟩:=h;exact sw_par0 (zBE G (by rw[k];rfl)) (JJ G q) (JJ G t) o l u n v w
def zI5{X:Cx}{a:BoolOp}{vs:Ls Lb}{p:Pos}{m:MT}(h:TOk X (.BoolOp a vs p) m):WOk X (.BoolOp a vs p) m:=λc=>h
def zI6{e:Lb}{env:Env}{a:Pos}(h:zd e=false):((backTo a (starEach (e::[]) env)).all (λx=>!x.1)&&(backToKw a (keywordEach [] env)).all (λx=>x.1.isSome)
   && decide ((e::([]:Ls Lb)).length+([]:Ls Keyword).length+(if([]:Ls Keyword).isEmpty then 0 else 1)<30))=true:=by
 rw[zf h];rfl
def zAg{a b:Bool}(h:(a&&b)=true):a=true/\b=true:=by exists h
def nst{a:Bool}(h:(!a)=true):a=false:=by exists h
def zFG{X:Cx}{sg:Sg}(G:SgOk X sg)(h:sg.calm=true){nl:Nat}{loc c:Ls Str}{caps:Ls Nat}{a:Scope}(g:zFD sg nl loc c caps a=true):CSc X.nox a nl caps (loc++c)/\∀v C o s H,SgOk (cxB X.nox (loc++c) a v C o s H) (QN sg (loc++c) a):=by
 unfold zFD at g;obtain⟨g,l⟩:=zAg g;obtain⟨g,t⟩:=zAg g;obtain⟨g,r⟩:=zAg g;obtain⟨g,u⟩:=zAg g;obtain⟨g,q⟩:=zAg g;obtain⟨w,k⟩:=zAg g;have j:∀y∈a.names,y.2=.cell->a.names.lookup y.1=some .cell:=λy i p=>by
  have:=all_eq_true.mp r y i;rw[p]at this;exists this
 refine⟨csc_of loc c (beq_iff_eq.mp w) (λe s z=>z) (G.calm h) (beq_iff_eq.mp k) (λy i hl=>?_) j (by rw[show X.nox.env.kindOf=λn=>X.env.scope.names.lookup n from rfl,G.sc];exact t) (zI1 (yj G) l),λ_ _ _ _ _=>zHb (yj G) (of_decide_eq_true q) j⟩;have:=all_eq_true.mp u y i;rw[hl]at this;exists this
def zFH{X:Cx}{fs:Ls FI}{tt:Tx}(h:isTr tt=true):zIf X [] (dT fs tt):=by
 cases tt<;>first|(cases h;done)|exact ifk_nil
def gkE{t:Ex}{sg:Sg}{e:Lb}{X:Cx}{c:Ck (∀X,SgOk X sg->EOk X e (dE sg.fs t))}(h:c.yes=true)(G:SgOk X sg):EOk X e (dE sg.fs t):=c.why h X G
def gkT{t:Tx}{sg:Sg}{e:Lb}{X:Cx}{c:Ck (∀X,SgOk X sg->TOk X e (dT sg.fs t))}(h:c.yes=true)(G:SgOk X sg):TOk X e (dT sg.fs t):=c.why h X G
def gkB{t:Bx}{sg:Sg}{e:Ls Lf}{X:Cx}{c:Ck (∀X,SgOk X sg->zAe X e (dB sg.fs t))}(h:c.yes=true)(G:SgOk X sg):zAe X e (dB sg.fs t):=c.why h X G
mutual
noncomputable def cE:(t:Ex)->(sg:Sg)->(e:Lb)->Ck (∀X,SgOk X sg->EOk X e (dE sg.fs t))
 | .c d,sg,e=>qConstant e λk _ _=>bk (cIs d k) λh=>rt λX G=>by
   unfold cIs at h;split at h
   ·exact ok_non
   ·have:=(beq_iff_eq.mp h);subst this;exact ok_bl
   ·have:=(beq_iff_eq.mp h);subst this;exact ok_int
   ·have:=(beq_iff_eq.mp h);subst this;exact ok_str
   ·cases h
 | .gl d,sg,e=>qName e λx _=>bk (glb sg x) λw=>bk (gIs sg x d) λh2=>rt λX G=>by
   obtain⟨g1,g2⟩:=wB G w;unfold gIs at h2;split at h2
   ·rename_i d' e
    have:=geq_of h2;subst this;obtain⟨u,v,q1,q2,q3⟩:=G.cs x d e;exact ok_glR g1 q1 q2 q3 g2
   ·cases h2
 | .x i,sg,e=>qName e λx _=>bk (vis sg i x) λh=>rt λX G=>ok_var i (JK G h)| .mov i,sg,e=>qName e λx _=>bk (vis sg i x) λh=>rt λX G=>ok_move i (JK G h)| .bin o a b,sg,e=>qBinOp e λx op y _=>bq op o.op λw=>(cE a sg x).d λh2=>(cE b sg y).d λL=>rt λX G=>by subst w;exact bin_of (h2 _ G) (L _ G)
 | .cmp o a b,sg,e=>qCompare e λx q D _=>qCons q λop Q=>qNil Q <| qCons D λy K=>qNil K <| bq op o.op λw=>bk (jv y) λh0=>(cE a sg x).d λh2=>(cE b sg y).d λL=>rt λX G=>by subst w;exact cmp_of G h0 (h2 _ G) (L _ G)
 | .chain o o' a b c,sg,e=>qCompare e λx q D _=>qCons q λop R=>qCons R λad w6=>qNil w6 <| qCons D λy K=>qCons K λz Q=>qNil Q <| bq op o.op λW=>bq (ad) (o'.op) λY=>bk (o.isI) λZ=>bk (o'.isI) λk4=>bk (jv z) λk5=>(cE a sg x).d λh2=>(cE b sg y).d λL=>(cE c sg z).d λh4=>rt λX G=>by subst W Y;exact zG2 (zCJ Z) (zCJ k4) (h2 _ G) (L _ G) (h4 _ G) (zFE k5)
 | .neg a,sg,e=>qUnaryOp e λq x _=>qUSub q <| (cE a sg x).d λh=>rt λX G=>ok_neg (h _ G)
 | .not a,sg,e=>qUnaryOp e λq x _=>qNot q <| (cE a sg x).d λh=>rt λX G=>ok_not (h _ G)
 | .and a b,sg,e=>qBoolOp e λq D p=>qAnd q <| qCons D λx K=>qCons K λy r=>(cE a sg x).d λw=>bk (match r with | []=>(cE b sg y).yes|z::r'=>(cE b sg (.BoolOp .And (y::z::r') p)).yes) λh2=>rt λX G=>by
   cases r with
   |nil=>exact zIX (w _ G) (zIY (gkE h2 G))|cons z r'=>exact zIX (w _ G) (gkE h2 G)
 | .or a b,sg,e=>qBoolOp e λq D p=>qOr q <| qCons D λx K=>qCons K λy r=>(cE a sg x).d λw=>bk (match r with | []=>(cE b sg y).yes|z::r'=>(cE b sg (.BoolOp .Or (y::z::r') p)).yes) λh2=>rt λX G=>by
   cases r with
   |nil=>exact ok_or (w _ G) (zIY (gkE h2 G))|cons z r'=>exact ok_or (w _ G) (gkE h2 G)
 | .ifx t a b,sg,e=>qIfExp e λc x y _=>(cT t sg c).d λw=>(cE a sg x).d λh2=>(cE b sg y).d λL=>rt λX G=>ok_if (w _ G) (h2 _ G) (L _ G)| .t as,sg,e=>qTuple e λes _ _=>(cA as sg es).d λh=>rt λX G=>ok_tup (h _ G)| .l as,sg,e=>qList e λes _=>(cA as sg es).d λh=>rt λX G=>ok_lst (h _ G)| .ix a b,sg,e=>qSubscript e λx y _=>bk (v8 y) λw=>(cE a sg x).d λh2=>(cE b sg y).d λL=>rt λX G=>ok_ix ix_both ro_ix (Jy w) (h2 _ G) (L _ G)| .ixO i b,sg,e=>qSubscript e λq y _=>qName q λx _=>bk (vis sg i x) λw=>bk (v8 y) λL=>(cE b sg y).d λh2=>rt λX G=>ok_ixO i (JK G w) (h2 _ G) (Jy L)
 | .lenO i,sg,e=>qCall e λq D K _=>qName q λf _=>qCons D λQ R=>qName Q λx _=>qNil R <| qNil K <| bq f "len" λw=>bk (glb sg "len") λh4=>bk (bIn sg "len") λL=>bk (vis sg i x) λh2=>rt λX G=>by subst w;exact ok_lenO i (JK G h2) (wB G h4).1 (Jc G L)
 | .sl a l hh,sg,e=>qSubscript e λx q _=>qSlice q λlo hi D _=>qNone D <| (cE a sg x).d λw=>(cO l sg lo).d λh2=>(cO hh sg hi).d λL=>rt λX G=>ok_sl (w _ G) (h2 _ G) (L _ G)
 | .comp nl J n ab it tg tt el,sg,e=>qListComp e λac q j _=>qCons q λD K=>qCm D λE O aa=>qNil K <| bk (sg.calm) λM=>bk (zFD sg nl J n ab j) λw=>bk (jv O) λk9=>bk (chkZ it E) λq0=>(cI it sg O).d λq1=>bk (zDH tg (QN sg (J++n) j) E) λq2=>bk (match aa with | []=>isTr tt|c::cs=>cs.isEmpty&&(cT tt (QN sg (J++n) j) c).yes) λq3=>(cE el (QN sg (J++n) j) ac).d λq4=>rt λX G=>by
   have⟨C,I⟩:=zFG G M w;refine no_E (ok_lc C (q1 _ _ (yj G) q0) (g:=gOf X.K tg) (λS C V s H=>zBC (sg:=QN sg (J++n) j) M (I S C V s H) q2) (WT tg) (λS C V s H=>?_) (λS C V s H=>q4 _ (I S C V s H)) (jX k9));cases aa with
   |nil=>exact zFH q3
   |cons c cs =>
    obtain⟨q3,q5⟩:=zAg q3;have:=isEmpty_iff.mp q3;subst this;exact zAx (gkT (sg:=QN sg (J++n) j) q5 (I S C V s H))
 | .dcomp nl J n ab it tg tt ka va,sg,e=>qDictComp e λke ve q j _=>qCons q λD K=>qCm D λE O aa=>qNil K <| bk (sg.calm) λM=>bk (zFD sg nl J n ab j) λw=>bk (jv O) λk9=>bk (chkZ it E) λq0=>(cI it sg O).d λq1=>bk (zDH tg (QN sg (J++n) j) E) λq2=>bk (match aa with | []=>isTr tt|c::cs=>cs.isEmpty&&(cT tt (QN sg (J++n) j) c).yes) λq3=>(cE ka (QN sg (J++n) j) ke).d λq4=>(cE va (QN sg (J++n) j) ve).d λq6=>rt λX G=>by
   have⟨C,I⟩:=zFG G M w;refine no_E (ok_dc C (by have:=JL G;show X.A.units<_;omega) (q1 _ _ (yj G) q0) (g:=gOf X.K tg) (λS C V s H=>zBC (sg:=QN sg (J++n) j) M (I S C V s H) q2) (WT tg) (λS C V s H=>?_) (λS C V s H=>q4 _ (I S C V s H)) (λS C V s H=>q6 _ (I S C V s H)) (jX k9));cases aa with
   |nil=>exact zFH q3
   |cons c cs =>
    obtain⟨q3,q5⟩:=zAg q3;have:=isEmpty_iff.mp q3;subst this;exact zAx (gkT (sg:=QN sg (J++n) j) q5 (I S C V s H))
 | .dgO i b,sg,e=>qSubscript e λq y _=>qName q λx _=>bk (vis sg i x) λw=>bk (v8 y) λL=>(cE b sg y).d λh2=>rt λX G=>ok_dgO i (by have:=JL G;omega) (JK G w) (Jy L) (h2 _ G)| .dg a b,sg,e=>qSubscript e λx y _=>bk (v8 y) λw=>(cE a sg x).d λh2=>(cE b sg y).d λL=>rt λX G=>ok_dg (by have:=JL G;omega) (Jy w) (h2 _ G) (L _ G)
 | .ninO i a,sg,e=>qCompare e λx q D _=>qCons q λop R=>qNil R <| qCons D λK Q=>qName K λy _=>qNil Q <| bq op .NotIn λk0=>bk (vis sg i y) λW=>(cE a sg x).d λY=>rt λX G=>by subst k0;exact ok_ninO i (by have:=JL G;omega) (JK G W) (Y _ G)
 | .disp a b,sg,e=>qDict e λq D _=>qCons q λQ R=>qSome Q λx=>qNil R <| qCons D λy K=>qNil K <| (cE a sg x).d λw=>(cE b sg y).d λh2=>rt λX G=>ok_disp (by have:=JL G;omega) (w _ G) (h2 _ G)
 | .is T a,sg,e=>qCall e λq D K _=>qName q λf _=>qCons D λx Q=>qCons Q λR w6=>qName R λy _=>qNil w6 <| qNil K <| bq f "isinstance" λW=>bq y T.nm λY=>bk (glb sg "isinstance") λZ=>bk (bIn sg "isinstance") λk4=>bk (glb sg T.nm) λk5=>bk (bIn sg T.nm) λk6=>bk (!zd x) λk7=>(cE a sg x).d λh2=>rt λX G=>by subst W Y;exact ok_is (kit_of _ T) (wB G Z).1 (Jc G k4) (wB G k5).1 (Jc G k6) (bt_of T) (h2 _ G) Ge (nm_of T) (wB G k5).2 (nst k7)
 | .cB b as,sg,e=>qCall e λq D K _=>qName q λf _=>qCons D λx es=>qNil K <| bk (sg.calm) λM=>bq f b.nm λW=>bk (glb sg b.nm) λY=>bk (bIn sg b.nm) λZ=>bk (ju (x::es)) λk4=>(cA as sg (x::es)).d λh2=>rt λX G=>by subst W;exact bi_of M G b (wB G Y).1 (Jc G Z) k4 (h2 _ G)
 | .call k as,sg,e=>qCall e λq D K _=>qName q λf _=>qCons D λx es=>qNil K <| bk (glb sg f) λW=>bk (fIs sg k f) λY=>bk (fArg sg (gLen as) k) λZ=>bk (ju (x::es)) λk4=>(cG as sg (x::es)).d λh2=>rt λX G=>call_ok G W Y Z k4 (h2 _ G)
 | .lset as,sg,e=>qCall e λq D K _=>qName q λt _=>qCons D λQ R=>qCall Q λw6 w7 w8 _=>qName w6 λf _=>qCons w7 λx w9=>qNil w9 <| qNil w8 <| qNil R <| qNil K <| bk (sg.calm) λM=>bq t "len" λW=>bq f "set" λY=>bk (glb sg "len") λZ=>bk (bIn sg "len") λk4=>bk (glb sg "set") λk5=>bk (bIn sg "set") λk6=>bk (!zd x) λk7=>(cA as sg [x]).d λh2=>rt λX G=>by subst W Y;exact ok_lset (G.calm M) (wB G Z).1 (Jc G k4) (wB G k5).1 (Jc G k6) (h2 _ G) (nst k7)
 | .frz a,sg,e=>(cE a sg e).d λh=>rt λX G=>ok_frz (h _ G)
 | .idxK a b,sg,e=>qCall e λq D K cp=>qAttribute q λR m ap=>qName R λx p=>qCons D λv Q=>qNil Q <| qNil K <| bq m "index" λW=>bk (ap.endLine==cp.line) λY=>bk (!zd v) λZ=>(cE a sg (.Name x p)).d λh2=>(cE b sg v).d λL=>rt λX G=>by subst W;exact ok_idxK G.sm (JL G) (h2 _ G) (L _ G) rfl (nst Z) Y (zI6 (nst Z))
noncomputable def cT:(t:Tx)->(sg:Sg)->(e:Lb)->Ck (∀X,SgOk X sg->TOk X e (dT sg.fs t))
 | .tAnd a b,sg,e=>qBoolOp e λg j p=>qAnd g <| qCons j λx k=>qCons k λy r=>(cT a sg x).d λl=>bk (match r with | []=>(cT b sg y).yes|z::n=>(cT b sg (.BoolOp .And (y::z::n) p)).yes) λh2=>rt λX G=>by
   cases r with
   |nil=>exact tk_w (zIW (l _ G) (wk_and1 (gkT h2 G)))|cons z n=>exact tk_w (zIW (l _ G) (zI5 (gkT h2 G)))
 | .tOr a b,sg,e=>qBoolOp e λg j p=>qOr g <| qCons j λx k=>qCons k λy r=>(cT a sg x).d λl=>bk (match r with | []=>(cT b sg y).yes|z::n=>(cT b sg (.BoolOp .Or (y::z::n) p)).yes) λh2=>rt λX G=>by
   cases r with
   |nil=>exact tk_w (wk_or (l _ G) (wk_or1 (gkT h2 G)))|cons z n=>exact tk_w (wk_or (l _ G) (zI5 (gkT h2 G)))
 | .tNot a,sg,e=>qUnaryOp e λg x _=>qNot g <| (cT a sg x).d λh=>rt λX G=>tk_not (h _ G)
 | .tE (.cmp o a b),sg,e=>qCompare e λx g j _=>qCons g λop q=>qNil q <| qCons j λy k=>qNil k <| bq op o.op λl=>bk (jv y) λK=>(cE a sg x).d λu=>(cE b sg y).d λD=>rt λX G=>by subst l;exact cmpT_of G K (u _ G) (D _ G)
 | .tE (.chain o E a b c),sg,e=>qCompare e λx g j _=>qCons g λop v=>qCons v λw I=>qNil I <| qCons j λy k=>qCons k λz q=>qNil q <| bq op o.op λC=>bq (w) (E.op) λu=>bk (o.isI) λD=>bk (E.isI) λL=>bk (jv z) λO=>(cE a sg x).d λQ=>(cE b sg y).d λH=>(cE c sg z).d λM=>rt λX G=>by subst C u;exact zEd (zCJ D) (zCJ L) (Q _ G) (H _ G) (M _ G) (zFE O)
 | .tE (.ninO i a),sg,e=>qCompare e λx g j _=>qCons g λop v=>qNil v <| qCons j λk q=>qName k λy _=>qNil q <| bq op .NotIn λJ=>bk (vis sg i y) λC=>(cE a sg x).d λu=>rt λX G=>by subst J;exact zHP i (by have:=JL G;omega) (JK G C) (u _ G)
 | .tE a,sg,e=>bk (zIU e&&(cE a sg e).yes) λh=>rt λX G=>by
  obtain⟨l,h2⟩:=zAg h;exact ok_test (gkE h2 G) (test_of l)
 | .tTr,sg,e=>bk (false) λh=>rt λX G=>absurd h qF
noncomputable def cA:(t:Ax)->(sg:Sg)->(e:Ls Lb)->Ck (∀X,SgOk X sg->AOk X e (dA sg.fs t))
 | .nil,sg,e=>bk (e.isEmpty) λh=>rt λX G=>by
  have:=isEmpty_iff.mp h;subst this;exact ak_nil
 | .cons a as,sg,e=>qCons e λx r=>bk (!zd x) λc=>(cE a sg x).d λh2=>(cA as sg r).d λg=>rt λX G=>ak_cons (h2 _ G) (g _ G) (nst c)
noncomputable def cG:(t:Gx)->(sg:Sg)->(e:Ls Lb)->Ck (∀X,SgOk X sg->zId X e (dG sg.fs t))
 | .nil,sg,e=>bk (e.isEmpty) λh=>rt λX G=>by
  have:=isEmpty_iff.mp h;subst this;exact ga_nil
 | .ev a as,sg,e=>qCons e λx r=>bk (!zd x) λc=>(cE a sg x).d λh2=>(cG as sg r).d λj=>rt λX G=>ga_ev (h2 _ G) (j _ G) (nst c)| .lend i as,sg,e=>qCons e λg r=>qName g λx _=>bk (vis sg i x) λc=>(cG as sg r).d λh2=>rt λX G=>ga_lend (JK G c) (h2 _ G)
noncomputable def cO:(t:Ox)->(sg:Sg)->(e:Lx Lb)->Ck (∀X,SgOk X sg->OOk X e (dO sg.fs t))
 | .oN,sg,e=>bk (e.isNone) λh=>rt λX G=>by
  cases e with
  |none=>exact oo_none|some e=>cases h
 | .oS a,sg,e=>qSome e λe=>(cE a sg e).d λh=>rt λX G=>oo_some (h _ G)
noncomputable def cI:(t:Ix)->(sg:Sg)->(e:Lb)->Ck (∀X c,SgOk X sg->chkZ t c=true->IOk X c e (dI sg.fs t))
 | .iL a,sg,e=>(cE a sg e).d λh=>rt λX c G hz=>io_list (h _ G)| .iT a,sg,e=>(cE a sg e).d λh=>rt λX c G hz=>io_tup (h _ G)| .iD a,sg,e=>(cE a sg e).d λh=>rt λX c G hz=>io_dic (h _ G)
 | .iR1 as,sg,e=>qCall e λn k i _=>qName n λf _=>qCons k λx j=>qNil j <| qNil i <| bq f "range" λp=>bk (glb sg "range") λg=>bk (bIn sg "range") λl=>bk (!zd x) λo=>(cA as sg [x]).d λh2=>rt λX c G hz=>by subst p;exact io_r1 (wB G g).1 (Jc G l) (h2 _ G) (nst o)
 | .iE z as,sg,e=>qCall e λn k i _=>qName n λf _=>qCons k λx j=>qNil j <| qNil i <| bq f "enumerate" λp=>bk (glb sg "enumerate") λg=>bk (bIn sg "enumerate") λl=>bk (!zd x) λo=>(cA as sg [x]).d λh2=>rt λX c G hz=>by
   subst p;cases c with
   |Tuple w u v=>exact io_enum (wB G g).1 (Jc G l) (h2 _ G) (nst o)|_=>exact absurd hz qF
 | .iZ z C as,sg,e=>qCall e λn k i _=>qName n λf _=>qCons k λx j=>qCons j λy q=>qNil q <| qNil i <| bq f "zip" λp=>bk (glb sg "zip") λg=>bk (bIn sg "zip") λl=>bk (!zd x) λo=>bk (!zd y) λr=>(cA as sg [x,y]).d λh2=>rt λX c G hz=>by
   subst p;cases c with
   |Tuple w u v=>exact zB2 (.inl ⟨_,_,_,rfl⟩) (wB G g).1 (Jc G l) (h2 _ G) (nst o) (nst r)|_=>exact absurd hz qF
 | .iZA C as,sg,e=>qCall e λn k i _=>qName n λf _=>qCons k λx j=>qCons j λy q=>qNil q <| qNil i <| bq f "zip" λp=>bk (glb sg "zip") λg=>bk (bIn sg "zip") λl=>bk (!zd x) λo=>bk (!zd y) λr=>(cA as sg [x,y]).d λh2=>rt λX c G hz=>by
   subst p;cases c with
   |Tuple w u v=>exact io_zipA (wB G g).1 (Jc G l) (h2 _ G) (nst o) (nst r)|_=>exact absurd hz qF
end
def SwOk(X:Cx)(e:Lb)(m:ME):Prop:=∀i x c a,X.N[i]?=some x->Loc X.env.scope x->(X.fn x=true\/X.env.scope.names.lookup x=some .local)->swapsWith e (some (.Name x c)) a.line X.env=pure true->SOk X (.Assign [.Name x c] e a) (sSet i m)
def cW:(t:Ex)->(sg:Sg)->(e:Lb)->Ck (∀X,SgOk X sg->SwOk X e (dE sg.fs t))
 | .comp nl k h r J v D L,sg,e=>qListComp e λw M a _=>qCons M λO Y=>qCm O λj l n=>qNil Y <| bk (sg.calm) λp=>bk (zFD sg nl k h r a) λZ=>bk (jv l) λS=>bk (chkZ J j) λq0=>(cI J sg l).d λq1=>bk (zDH v (QN sg (k++h) a) j) λW=>bk (match n with | []=>isTr D|c::z=>z.isEmpty&&(cT D (QN sg (k++h) a) c).yes) λu=>(cE L (QN sg (k++h) a) w).d λK=>rt λX G i x px E Q V hf y=>by
   have⟨C,I⟩:=zFG G p Z;refine no_set▸no_S (sk_lc G.nd Q V hf C (q1 _ _ (yj G) q0) (g:=gOf X.K v) (λo C q s H=>zBC (sg:=QN sg (k++h) a) p (I o C q s H) W) (WT v) (λo C q s H=>?_) (λo C q s H=>K _ (I o C q s H)) (jX S) y);cases n with
   |nil=>exact zFH u
   |cons c z =>
    obtain⟨u,R⟩:=zAg u;have:=isEmpty_iff.mp u;subst this;exact zAx (gkT (sg:=QN sg (k++h) a) R (I o C q s H))
 |_,_,_=>default
mutual
noncomputable def cS:(t:Sx)->(sg:Sg)->(e:Lf)->Ck (∀X,SgOk X sg->SOk X e (dS sg.fs t))
 | .sIf t a b,sg,e=>qIf e λc x y _=>(cT t sg c).d λq=>(cB a sg x).d λh2=>(cB b sg y).d λr=>rt λX G=>sk_if (q _ G) (h2 _ G) (r _ G)
 | .sSet i a,sg,e=>qAssign e λn v p=>qCons n λu z=>qNil z <| qName u λx px=>bk (locd sg i x) λq=>bk (setOk sg x px a v) λr=>(cE a sg v).d λh2=>bk (!isCo a||(cW a sg v).yes) λhw=>rt λX G=>by
   obtain⟨L,K,J⟩:=Gn G q;unfold setOk at r;split at r
   ·obtain⟨E,C⟩:=zAg r
    rename_i el gs w vp;cases S:swB sg _ _ w vp with
    |false=>exact zEN G.nd L K (h2 _ G) (by rw[zI3 G E,S]) J
    |true =>
     rw[S]at C;have R:isCo a=true:=by exists C
     rw[R]at hw;exact(cW a sg _).why (by exists hw) X G _ _ _ _ L K J (by rw[zI3 G E,S])
   ·obtain⟨E,C⟩:=zAg r
    rename_i ke ve gs w vp;cases S:swB sg _ _ w vp with
    |false=>exact zEN G.nd L K (h2 _ G) (by rw[sw_valD G E,S]) J
    |true =>
     rw[S]at C;exact absurd C (by decide)
   ·exact zEN G.nd L K (h2 _ G) (GT r) J
 | .sAny,sg,e=>rt λX G=>sk_any
 | .sTup is a,sg,e=>qAssign e λn v _=>qCons n λu z=>qTuple u λes k p=>qNil z <| bk (sg.calm) λg=>bk (zDH.all2 sg is es) λE=>bk (ZW v) λC=>bk (swOk sg es v) λR=>(cE a sg v).d λh2=>rt λX G=>by
   obtain⟨L,K,J⟩:=Z9 _ is G E;exact sk_tup (zIH (G.calm g) L K J) (h2 _ G) (zBD C) (sw_ok G R)
 | .sPar i j as,sg,e=>qAssign e λn u _=>qCons n λW w7=>qTuple W λw8 _ _=>qCons w8 λw9 Z=>qName w9 λx px=>qCons Z λab ac=>qName ab λy py=>qNil ac <| qNil w7 <| qTuple u λz _ _=>qCons z λa M=>qCons M λb V=>qNil V <| bk (sg.calm) λg=>bk (zHa sg i j x y px py a b) λq=>(cA as sg [a,b]).d λh2=>rt λX G=>by
   have aa:=q;unfold zHa at q;dsimp[Bool.and_eq_true,Bool.not_eq_true',beq_iff_eq,bne_iff_ne]at q;obtain⟨⟨⟨⟨⟨⟨⟨⟨⟨⟨⟨_,n1⟩,n2⟩,n3⟩,l1⟩,l2⟩,_⟩,_⟩,_⟩,_⟩,_⟩,_⟩:=q;exact yx (ps_par (G.calm g) G.nd (by rw[G.N];exact n1) (by rw[G.N];exact n2) n3 (JJ G l1) (JJ G l2) (h2 _ G) (sw_par G aa) (zBD rfl)) λD σ H=>zG6
 | .sRet a,sg,e=>qReturn e λn _=>qSome n λv=>(cE a sg v).d λh=>rt λX G=>sk_ret (h _ G)| .sDrop a,sg,e=>qExpr e λv _=>bk (ZW v) λq=>(cE a sg v).d λh2=>rt λX G=>sk_drop (h2 _ G) (GT q)
 | .sIx i b a,sg,e=>qAssign e λn v _=>qCons n λu z=>qSubscript u λM y _=>qName M λx _=>qNil z <| bk (vis sg i x) λq=>bk (v8 y) λh4=>(cE b sg y).d λh2=>(cE a sg v).d λr=>rt λX G=>zGo i (JK G q) (h2 _ G) (r _ G) (zI2 h4) zHc
 | .sDput i b a,sg,e=>qAssign e λn v _=>qCons n λu z=>qSubscript u λM y _=>qName M λx _=>qNil z <| bk (vis sg i x) λq=>bk (v8 y) λh4=>bk (ZW v) λQ=>(cE b sg y).d λh2=>(cE a sg v).d λr=>rt λX G=>sk_dput i (by have:=JL G;omega) (JK G q) (h2 _ G) (r _ G) (zI2 h4) (zBD Q)
 | .sAugIx i b a,sg,e=>qAugAssign e λn op v _=>qSubscript n λu y _=>qName u λx _=>bk (vis sg i x) λh7=>bk (op==.Add) λh5=>bk (v8 y) λh4=>(cE b sg y).d λh8=>(cE a sg v).d λr=>rt λX G=>by
   rw[eq_of_beq h5];exact zHI i (JK G h7) (h8 _ G) (r _ G) (aug_of h4)
 | .sApp i a,sg,e=>qExpr e λn _=>qCall n λu z M cp=>qAttribute u λW m ap=>qName W λx _=>qCons z λv V=>qNil V <| qNil M <| bq m "append" λE=>bk (ap.endLine==cp.line) λC=>bk (vis sg i x) λR=>bk (!zd v) λY=>(cE a sg v).d λh2=>rt λX G=>by subst E;exact sk_app i (JK G R) (h2 _ G) rfl (zI6 (nst Y)) C (zf (nst Y)) rfl rfl
 | .sForL a I b,sg,e=>qFor e λt O l n _=>qNil n <| bk (sg.calm) λg=>bk (jv O) λq=>bk (zDH I sg t) λQ=>(cE a sg O).d λh2=>(cB b sg l).d λr=>rt λX G=>no_S (sk_forL (X:=X.nox) PassesOwn.never (G.calm g) (h2 _ (yj G)) (zBC g (yj G) Q) (WT I) (r _ (yj G)) (jX q))
 | .sForI ix I b,sg,e=>qFor e λt O l n _=>qNil n <| bk (sg.calm) λg=>bk (jv O) λq=>bk (zDH I sg t) λQ=>bk (chkZ ix t) λh4=>(cI ix sg O).d λh2=>(cB b sg l).d λr=>rt λX G=>sk_forN (ps_forX (h2 _ _ G h4) (jX q)) (no_S (sk_forI (X:=X.nox) PassesOwn.never (G.calm g) (h2 _ _ (yj G) h4) (zBC g (yj G) Q) (WT I) (r _ (yj G)) (jX q)))
 | .sForT a I b,sg,e=>qFor e λt O l n _=>qNil n <| bk (sg.calm) λg=>bk (jv O) λq=>bk (zDH I sg t) λQ=>(cE a sg O).d λh2=>(cB b sg l).d λr=>rt λX G=>no_S (sk_forT (X:=X.nox) PassesOwn.never (G.calm g) (h2 _ (yj G)) (zBC g (yj G) Q) (WT I) (r _ (yj G)) (jX q))
 | .sForR1 as I b,sg,e=>qFor e λt n l u _=>qCall n λz M V _=>qName z λf _=>qCons M λx W=>qNil W <| qNil V <| qNil u <| bk (sg.calm) λg=>bq f "range" λE=>bk (glb sg "range") λC=>bk (bIn sg "range") λR=>bk (!zd x) λY=>bk (zDH I sg t) λk5=>(cA as sg [x]).d λh2=>(cB b sg l).d λr=>rt λX G=>by subst E;exact no_S (zGr (X:=X.nox) PassesOwn.never (G.calm g) (wB (yj G) C).1 (Jc (yj G) R) (h2 _ (yj G)) (zBC g (yj G) k5) (WT I) (r _ (yj G)) (nst Y) (jX rfl))
 | .sWhile t b,sg,e=>qWhile e λc l n _=>qNil n <| (cT t sg c).d λq=>(cB b sg l).d λh2=>rt λX G=>no_S (zG7 (X:=X.nox) PassesOwn.never (q _ (yj G)) (h2 _ (yj G)))
 | .sAug i o a,sg,e=>qAugAssign e λn op v _=>qName n λx _=>bk (locd sg i x) λq=>bq op o.op λE=>bk (o.isAug) λC=>(cE a sg v).d λh2=>rt λX G=>by
   obtain⟨L,K,J⟩:=Gn G q;subst E;cases o with
   |add=>exact zEj G.nd L K J (h2 _ G)|sub=>exact zEk G.nd L K J (h2 _ G)|mul=>exact zEl G.nd L K J (h2 _ G)|_=>cases C
noncomputable def cB:(t:Bx)->(sg:Sg)->(e:Ls Lf)->Ck (∀X,SgOk X sg->zAe X e (dB sg.fs t))
 | .bNil,sg,e=>bk (e.isEmpty) λh=>rt λX G=>by
  have:=isEmpty_iff.mp h;subst this;exact sk_nil
 | .o a,sg,e=>qCons e λs g=>qNil g <| (cS a sg s).d λh=>rt λX G=>sk_one (h _ G)
 | .s a b,sg,e=>qCons e λs r=>(cS a sg s).d λc=>(cB b sg r).d λh2=>rt λX G=>sk_cons (c _ G) (h2 _ G)
end
def sB(t:Bx){X:Cx}{sg:Sg}{e:Ls Lf}(G:SgOk X sg)(h:(cB t sg e).yes=true):zAe X e (dB sg.fs t):=gkB h G
abbrev chkB(t:Bx)(sg:Sg)(e:Ls Lf):Bool:=(cB t sg e).yes
end
def ClOk(K:qH)(a:Str->Lx Lv)(cl rs:Ls Str):Prop :=
 (cl≠[]->∃T,a "ThrowError"=some (.ref T)/\TCls K T/\∀c∈cl,∃C,a c=some (.ref C)/\XCls K c C T/\C≠T)/\(∀c∈rs,∃C,a c=some (.ref C)/\PySem.W.excIn K C VB "ValueError.__new__"=true)/\zDV K
abbrev zFI(P:Lc)(w:Le)(K:qH)(a:Str->Lx Lv)(base:Heap)(e:Ls Str):Prop:=∀c∈e,RIok P w K a base c/\RAok K a c
def def_ok{P:Lc}{w:Le}{K:qH}{e:Str->Lx Lv}{base:Heap}{x:Str}{st:Lf}{j N:Ls Str}{n lv:Nat}{y:Ls (Str×D)}{fs:Ls FI}{C:Ls Str}{c:Bool}{cl rs:Ls Str}(t:Bx)(T:ja K e x st j)(S:FnScope N j (ze st))(hn:N.length=n)
  (p:∀x d,y.lookup x=some d->∃u v,e x=some u/\yb v u/\∀H,Rep K e H d v)
  (r:∀i∈fs,∃f k j,e i.x=some (.ref f)/\keepIn K (.ref f)=true/\ZS K k j []/\j.length=i.n/\FnOkN (!i.wild) P w K e base i.lv f k j (spM K e i.n i.F))
  (l:∀x∈C,e x=none) (g:ClOk K e cl rs) {z:Ls Str} (o:zFI P w K e base z) (h:(cB t ⟨N,ze st,true,y,fs,C,lv,c,cl,rs,[],z⟩ (jK st)).yes=true):FOk P w K e base c x (lv+1) j (fnM n (dB fs t)):=by
 obtain⟨a,k,I,F,q⟩:=T;subst hn;refine⟨a,k,I,F.kp,q,fn_ok F S λJ A outer s H E hd G=>?_⟩;exact gkB h ⟨rfl,rfl,λ_ _=>rfl,(λx h=>by cases h),id,hd,λ_=>⟨rfl,rfl⟩,S.nd,p,r,l,G,g.1,g.2.1,g.2.2,o⟩
def zHd(K:qH)(a:Str->Lx Lv)(c:Ls (Str×D)):Prop:=∀x d,c.lookup x=some d->∃u v,a x=some u/\yb v u/\∀H,Rep K a H d v
def BsOk(c:Str->Lx Lv)(a:Ls Str):Prop:=∀x∈a,c x=none
def FsOk(P:Lc)(w:Le)(K:qH)(c:Str->Lx Lv)(base:Heap)(fs:Ls FI):Prop :=
 ∀i∈fs,∃f e a,c i.x=some (.ref f)/\keepIn K (.ref f)=true/\ZS K e a []/\a.length=i.n/\FnOkN (!i.wild) P w K c base i.lv f e a (spM K c i.n i.F)
section
variable{P:Lc}{w:Le}{K:qH}{mg:Str->Lx Lv}{base:Heap}
def cs_nil:zHd K mg []:=λx d h=>by cases h
def cs_put(h:∃u v,mg x=some u/\yb v u/\∀H,Rep K mg H d v)(t:zHd K mg cs):zHd K mg ((x,d)::cs):=λy c e=>by
 rw[lookup_cons]at e;cases a:y==x with
 |true =>
  rw[a]at e;cases e;have:y=x:=by exists a
  subst this;exact h
 |false=>rw[a]at e;exact t y c e
def wu(h:∃t,mg x=some (.int i t))(t:zHd K mg cs):zHd K mg ((x,.int i)::cs):=by
 obtain⟨k,h⟩:=h;exact cs_put ⟨_,.int i,h,⟨_,rfl⟩,λH=>by dsimp[Rep]⟩ t
def bs_nil:BsOk mg []:=λx h=>by cases h
def yo(h:mg x=none)(t:BsOk mg bs):BsOk mg (x::bs):=λy e=>by
 rcases mem_cons.mp e with e|e
 ·subst e;exact h
 ·exact t y e
def zW:FsOk P w K mg base []:=λx h=>by cases h
def zC(h:FOk P w K mg base (!wl) x lv ps F)(g:ps.length=n)(t:FsOk P w K mg base fs):FsOk P w K mg base (⟨x,n,lv,wl,F⟩::fs):=λi e=>by
 rcases mem_cons.mp e with e|e
 ·subst e
  subst g;obtain⟨a,c,j,h2,k,h4⟩:=h;exact⟨a,c,ps,j,h2,k,rfl,h4⟩
 ·exact t i e
def def_at(t:Bx)(F:Fun K x x st a fd)(S:FnScope N ps (ze st))(hn:N.length=n)
  (j:zHd K mg cs) (k:FsOk P w K mg base fs) (g:BsOk mg bs) (e:ClOk K mg cl rs) (i:zFI P w K mg base ri) (h:chkB t ⟨N,ze st,true,cs,fs,bs,lv,true,cl,rs,[],ri⟩ (jK st)=true):FnOk P w K mg base (CXx P w) (lv+1) a fd ps (spM K mg ps.length (fnM n (dB fs t))):=by
 subst hn;refine(fn_ok (c:=true) F S λo A outer s H E hd l=>?_).fn;exact sB (sg:=⟨N,ze st,true,cs,fs,bs,lv,true,cl,rs,[],ri⟩) t ⟨rfl,rfl,λ_ _=>rfl,(λx h=>by cases h),id,hd,λ_=>⟨rfl,rfl⟩,S.nd,j,k,g,l,e.1,e.2.1,e.2.2,i⟩ h
def scP(N P:Ls Str)(sc:Scope):Prop:=sc.kind=.function/\sc.isCoroutine=false/\sc.isGenerator=false/\N.Nodup/\N.take P.length=P/\(∀x∈P,sc.names.lookup x=some .local\/sc.names.lookup x=some .cell)/\∀y∈sc.names,y.2≠.free
instance scD (N P:Ls Str) (sc:Scope):Decidable (scP N P sc):=by unfold scP;infer_instance
def sc_of{N P:Ls Str}{sc:Scope}(h:scP N P sc):FnScope N P sc:=⟨h.1,h.2.1,h.2.2.1,h.2.2.2.1,h.2.2.2.2.1,h.2.2.2.2.2.1,h.2.2.2.2.2.2⟩
def zK(t:Bx)(N:Ls Str)(T:ja K mg x st ps)
  (i:zHd K mg cs) (j:FsOk P w K mg base fs) (e:BsOk mg bs) (a:ClOk K mg cl rs) (g:zFI P w K mg base ri) (h:(decide (scP N ps (ze st))&&chkB t ⟨N,ze st,true,cs,fs,bs,lv,c,cl,rs,[],ri⟩ (jK st))=true):FOk P w K mg base c x (lv+1) ps (fnM N.length (dB fs t)) :=
 def_ok t T (sc_of (of_decide_eq_true (Bool.and_eq_true_iff.mp h).1)) rfl i j e a g (Bool.and_eq_true_iff.mp h).2
def def_atB(t:Bx)(N:Ls Str)(F:Fun K x x st a fd)
  (i:zHd K mg cs) (j:FsOk P w K mg base fs) (e:BsOk mg bs) (c:ClOk K mg cl rs) (g:zFI P w K mg base ri) (h:(decide (scP N ps (ze st))&&chkB t ⟨N,ze st,true,cs,fs,bs,lv,true,cl,rs,[],ri⟩ (jK st))=true):FnOk P w K mg base (CXx P w) (lv+1) a fd ps (spM K mg ps.length (fnM N.length (dB fs t))) :=
 def_at t F (sc_of (of_decide_eq_true (Bool.and_eq_true_iff.mp h).1)) rfl i j e c g (Bool.and_eq_true_iff.mp h).2
def zFJ(h:xIn K c C T=true):XCls K c C T/\C≠T:=by
 unfold xIn at h;dsimp[Bool.and_eq_true,beq_iff_eq,Bool.not_eq_true']at h;obtain⟨⟨⟨⟨⟨⟨⟨a,h2⟩,i⟩,h4⟩,h5⟩,j⟩,k⟩,g⟩:=h;refine⟨⟨?_,h2,i,h4,h5,j,k⟩,by exists g⟩;exists e,clsIn K C,a,cd;dsimp[Bool.and_eq_true,beq_iff_eq]at a;exact⟨cd,rfl,a.1,a.2⟩
def tcls_of(h:tIn K T=true):TCls K T:=by
 unfold tIn at h;dsimp[Bool.and_eq_true,beq_iff_eq]at h;obtain⟨a,h2⟩:=h;refine⟨?_,h2⟩;cases e:clsIn K T with
 |none=>rw[e]at a;cases a|some c=>rw[e]at a;exact⟨c,rfl,by exists a⟩
def spLaw(K:qH):Sp:=λe H Q _=>∃(a:Lz) (c:Ls Int),e=[.ref a]/\SqL K H a (c.map V.int)/\c.length<=63/\∀H',Q (.bl true) H'
theorem zAA:∀a:Ls Int,Reps K mg H (a.map D.int) (a.map V.int)
 | []=>Reps.nil|n::a=>Reps.cons (by dsimp[Rep]) (zAA a)
def law_imp(p:∀c:Ls Int,c.length<=63->∃g,F [.v (.l (c.map D.int))]=.ok (.v (.bl true),g))(vs:Ls V)(H:Hp)(Q:VK)(E:XK)(h:spLaw K vs H Q E):spM K mg 1 F vs H Q E:=by
 obtain⟨a,c,rfl,j,hl,k⟩:=h;obtain⟨g,t⟩:=p c hl;have l:∀b,¬Mo (λ_=>False) [(some (V.ref a),Slot.v (.l (c.map D.int)))] b:=by
  intro b q;rcases q with q|q
  ·exact q
  ·rw[zr]at q;cases q
 have n:YU H (Hm (Mo (λ_=>False) [(some (V.ref a),Slot.v (.l (c.map D.int)))]) H):=λb o q=>zq.mpr ⟨l b,q⟩
 refine⟨rfl,λ_=>False,[.v (.l (c.map D.int))],rfl,⟨?_,?_,?_,?_⟩,?_⟩
 ·intro o d q
  have i:=mem_singleton.mp q
  cases i;refine⟨_,rfl,?_⟩;exact⟨a,_,rfl,n.seq j,zAA c⟩
 ·intro o s u q e
  have i:=mem_singleton.mp q
  cases i;cases e
 ·show(yP [(some (V.ref a),Slot.v (.l (c.map D.int)))]).Nodup
  rw[zr];exact List.nodup_nil
 ·intro b q;cases q
 ·rw[t]
  intro v H' _ fr _;obtain⟨w,e,r⟩:=fr.val (some v) (.bl true) qE;cases e;subst r;exact k H'
end
def Jd:yC [] E=[]:=rfl
def Yb:yC (.p ds::ss) (s::E)=s::yC ss E:=rfl
def Je:yC (.v d::ss) (s::E)=.e::yC ss E:=rfl
def Yc:yC (.w d::ss) (s::E)=.e::yC ss E:=rfl
def Yd:yC (.e::ss) (s::E)=.e::yC ss E:=rfl
theorem ji(I:Nat->zU->Prop):∀(a:Ls D) (k:Nat) (E:zU),I k E ->
  (∀i d,a[i]?=some d->∀E,I (k+i) E->∃E1 E2,tg d E=.ok E1/\body E1=.ok (.nx,E2)/\I (k+i+1) E2) ->
  ∃E',Yn tg body a E=.ok (.nx,E')/\I (k+a.length) E'
 | [],k,E,h,step=>⟨E,rfl,h⟩
 |d::a,k,E,h,step=>by
  obtain⟨E1,E2,g,h2,h4⟩:=step 0 d rfl E h;obtain⟨E',j,l⟩:=ji I a (k+1) E2 h4 λi c e E h=>by
   have:=step (i+1) c (by exists e) E (by rw[show k+(i+1)=k+1+i by omega];exact h);rw[show k+(i+1)=k+1+i by omega]at this;exact this
  refine⟨E',?_,?_⟩
  ·dsimp[Yn,g,h2]
   exact j
  ·rw[length_cons,show k+(a.length+1)=k+1+a.length by omega];exact l
theorem Wk:∀(n:Nat) (a:Int) (i:Nat) (d:D),(zI a n)[i]?=some d->i<n/\d=.int (a+i)
 |0,_,_,_,h=>by simp[zI]at h
 |n+1,a,0,d,h=>by
  simp[zI]at h;exact⟨by omega,by rw[<- h];simp⟩
 |n+1,a,i+1,d,h=>by
  obtain⟨c,h2⟩:=Wk n (a+1) i d h;refine⟨by omega,?_⟩;rw[h2];congr 1
  push_cast
  omega
theorem yF:∀(n:Nat) (a:Int),(zI a n).length=n
 |0,_=>rfl|n+1,a=>by simp[zI,yF n]
def yd:Slot->Bool
 | .p _=>false|_=>true
theorem zCK:∀(a:Ls D) (E:zU),zR (a.map AR.tmp) E=.ok (a.map Slot.v,E)
 | [],_=>rfl|d::a,E=>by dsimp[map_cons,zR,zCK a E]
theorem zCL:∀(c:Ls D) (a:Ls Slot) (E0 E:zU),a.length=c.length->zO (c.map AR.tmp) a E0 E=.ok E
 | [],[],_,_,_=>rfl| [],_::_,_,_,h=>by cases h|_::_,[],_,_,h=>by cases h|d::c,s::a,E0,E,h=>by dsimp[map_cons,zO];exact zCL c a E0 E (by exists h)
theorem zAB{vs:Ls D}{tg:MG}{tt:MT}{el:ME}{nl:Nat}(c:D->Ls DV.Slot)(f:D->Bool)(g:D->D):∀(h:Ls D),
  (∀d∈h,∀S:Ls DV.Slot,S.length=nl->(∀s∈S,yd s=true)->tg d (S++vs.map Slot.v)=.ok (c d++vs.map Slot.v)) ->
  (∀d∈h,(c d).length=nl/\∀s∈c d,yd s=true) ->
  (∀d∈h,tt (c d++vs.map Slot.v)=.ok (f d,c d++vs.map Slot.v)) ->
  (∀d∈h,f d=true->∃r,el (c d++vs.map Slot.v)=.ok (r,c d++vs.map Slot.v)/\r.d=g d) ->
  ∀(S:Ls DV.Slot) (e:Ls D),S.length=nl->(∀s∈S,yd s=true)->e.length+h.length<=cap->∃S',S'.length=nl/\Gb tg tt el h (S++vs.map Slot.v) e=.ok (e++(h.filter f).map g,S'++vs.map Slot.v)
 | [],_,_,_,_,S,e,n,_,_=>⟨S,n,by simp[Gb,J4]⟩
 |d::h,p,h2,q,h4,S,e,n,v,w=>by
  have m:=qE (a:=d) (l:=h);have t:=p d m S n v;have i:=q d m;have j:=h2 d m;dsimp[length_cons]at w;have u:=zAB c f g h (λz hz=>p z (qD _ hz)) (λz hz=>h2 z (qD _ hz)) (λz hz=>q z (qD _ hz)) (λz hz=>h4 z (qD _ hz)) (c d);cases hf:f d with
  |false =>
   rw[hf]at i;obtain⟨S',o,k⟩:=u e j.1 j.2 (by omega);refine⟨S',o,?_⟩;dsimp[Gb,J4,ma1,t,i,k,filter_cons,hf];simp
  |true =>
   rw[hf]at i;obtain⟨r,x,y⟩:=h4 d m hf;obtain⟨S',o,k⟩:=u (e++[r.d]) j.1 j.2 (by simp;omega);refine⟨S',o,?_⟩;dsimp[Gb,J4,ma1,t,i,x];rw[if_pos (by omega)];show Gb tg tt el h _ _=_;rw[k,y];simp[filter_cons,hf]
def zHe{vs:Ls D}{tg:MG}{tt:MT}{el:ME}{nl:Nat}{caps:Ls Nat}(a:D->Ls DV.Slot)(f:D->Bool)(g:D->D)(ds:Ls D)
  (i:∀d∈ds,∀S:Ls DV.Slot,S.length=nl->(∀s∈S,yd s=true)->tg d (S++vs.map Slot.v)=.ok (a d++vs.map Slot.v))
  (o:∀d∈ds,(a d).length=nl/\∀s∈a d,yd s=true)
  (l:∀d∈ds,tt (a d++vs.map Slot.v)=.ok (f d,a d++vs.map Slot.v))
  (j:∀d∈ds,f d=true->∃r,el (a d++vs.map Slot.v)=.ok (r,a d++vs.map Slot.v)/\r.d=g d) (k:ds.length<=cap)
  {e:MI} {E E1:zU} (hi:e E=.ok (ds,E1)) (c:JP E1 caps=.ok (vs.map AR.tmp)):zAw nl caps e tg tt el E=.ok (.w ((ds.filter f).map g),E1):=by
 obtain⟨S',p,h⟩:=zAB (vs:=vs) (tg:=tg) (tt:=tt) (el:=el) (nl:=nl) a f g ds i o l j (replicate nl .e) [] (by simp) (λs n=>by rw[(List.mem_replicate.mp n).2];rfl) (by exists k);dsimp[zAw,Y4,hi,c,zCK,h];rw[zCL vs _ _ _ (by rw[List.length_drop,zh];simp)];simp
def gT_ok2{a b:D}{S:Ls DV.Slot}{R:Ls DV.Slot}(h:S.length=2)(c:∀s∈S,yd s=true):gT [0,1] (.t [a,b]) (S++R)=.ok ([.v a,.v b]++R):=by
 match S,h,c with
 | [x,y],_,c =>
  have e:=c x (by simp);have g:=c y (by simp);cases x<;>first|(cases e;done)|(cases y<;>first|(cases g;done)|rfl)
def zFK{a:D}{S:Ls DV.Slot}{R:Ls DV.Slot}(g:S.length=1)(c:∀s∈S,yd s=true):gN 0 a (S++R)=.ok ([.v a]++R):=by
 match S,g,c with
 | [x],_,c =>
  have e:=c x (by simp);cases x<;>first|(cases e;done)|rfl
theorem zCM:∀(l:Ls Obj) (i:Nat) (as:Ls Lz) (a:Lz) (o:Obj),(QO l i as).lookup a=some o->∃j,a=i+j/\l[j]?=some o/\isFr o=false
 | [],_,_,a,o,e=>by cases e|_::_,_,[],a,o,e=>by cases e
 |x::c,i,b::as,a,o,e=>by
  have up:∀{as:Ls Lz},(QO c (i+1) as).lookup a=some o->∃j,a=i+j/\(x::c)[j]?=some o/\isFr o=false:=λe=>by
   obtain⟨j,k,h2,n⟩:=zCM c (i+1) _ a o e;exact⟨j+1,k.trans ((Nat.add_assoc i 1 j).trans (congrArg (i+·) (add_comm 1 j))),by simpa using h2,n⟩
  unfold QO at e;cases h:Nat.beq i b with
  |false=>rw[h]at e;exact up e
  |true =>
   rw[h]at e;cases hf:isFr x with
   |true=>rw[hf]at e;exact up e
   |false =>
    rw[hf]at e;replace e:(match a==i with|true=>some x|false=>List.lookup a (QO c (i+1) as))=some o:=e
    cases g:a==i with
    |true =>
     rw[g]at e;cases e;exact⟨0,beq_iff_eq.mp g,rfl,hf⟩
    |false=>rw[g]at e;exact up e
def zFL(as:Ls Lz):(Yo h as).In h:=λa o e=>by
 obtain⟨j,g,h2,k⟩:=zCM _ _ _ _ _ e;rw[zero_add]at g;subst g;have h4:h.objs[a]?=some o:=by rw[<- Array.getElem?_toList];exact h2
 unfold Heap.get?;rw[h4];obtain⟨c,d,i,l⟩:=o;cases i<;>first|rfl|(cases k)
def zCN(as:Ls Lz)(α:Type)(L:qH->α)(v:α):PySem.W.Hook :=
 ⟨α,λs=>L (Yo s.heap as),λ_=>v,λ_ h=>∃K:qH,K.In h/\L K=v,λ_ s e=>⟨_,zFL as,e⟩,λ_ _ _ ⟨K,x,e⟩ k=>⟨K,x.keeps k,e⟩⟩
def zHf(e:zm K n=zo n st):∃(f:Lz) (i:Lv) (c:Lx Lz) (kV q o:Lv) (j:Lx Lz) (g t:Lv) (h:Lm),
  nsIn K mainGlobals n=some (some (.ref f))/\K.lookup f=some ⟨i,c,.func (fnOf n n (YT st) (jK st) (ze st) .none kV q o j g t),h⟩/\codeIn K g n=true/\keepIn K (.ref f)=true:=by
 unfold zm at e;split at e
 ·rename_i a r
  split at e
  ·rename_i i c l h hl
   have e:=qJ e;unfold fvOf at e;injection e with e1 e
   injection e with e2 e
   injection e with e3 e
   injection e with e4 e
   injection e with e5 e
   injection e with e6 e
   injection e with e7 e
   injection e with e8 e
   injection e with e9 e10
   obtain⟨k,p⟩:=zAg e1;cases l;simp only at e2 e3 e4 e5 e6 e7 e8 e9 e10;subst e2 e3 e4 e5 e6 e7 e8 e9 e10;exact⟨_,_,_,_,_,_,_,_,_,_,r,hl,k,p⟩
  ·cases e
 ·cases e
def nth{α:Type}:Ls α->Nat->Lx α
 | [],_=>none|a::_,0=>some a|_::l,n+1=>nth l n
def ix{α:Type}{l a:Ls α}(n:Nat)(h:l=a):nth l n=nth a n:=congrArg (λl=>nth l n) h
section
variable{K:qH}{h:Heap}{mg:Str->Lx Lv}
def ar0{P:Ls Lv->Prop}(h:P []):∀a:Ls Lv,a.length=0->P a
 | [],_=>h
def arS{P:Ls Lv->Prop}(h:∀a us,us.length=n->P (a::us)):∀us:Ls Lv,us.length=n+1->P us:=by intro us e;cases us with|nil=>cases e|cons a t=>exact h a t (Nat.succ.inj e)
def ar1{P:Ls Lv->Prop}(h:∀a:Lv,P [a]):∀us:Ls Lv,us.length=1->P us:=arS λa=>ar0 (P:=λus=>P (a::us)) (h a)
def ar2{P:Ls Lv->Prop}(h:∀a b:Lv,P [a,b]):∀us:Ls Lv,us.length=2->P us:=arS λa=>ar1 (P:=λus=>P (a::us)) (h a)
def ar3{P:Ls Lv->Prop}(h:∀a b c:Lv,P [a,b,c]):∀us:Ls Lv,us.length=3->P us:=arS λa=>ar2 (P:=λus=>P (a::us)) (h a)
def ar4{P:Ls Lv->Prop}(h:∀a b c d:Lv,P [a,b,c,d]):∀e:Ls Lv,e.length=4->P e
 | [a,b,c,d],_=>h a b c d
def zx(X:K.In h)(G:h.Ns mainGlobals mg)(e:some (zm K n)=some (zo n st))
  (b:∀(kV g o:Lv) (j:Lx Lz) (i q:Lv) (c:Ls Lv),c.length=ps.length->bindArgs (fnOf n n (YT st) (jK st) (ze st) .none kV g o j i q) ⟨c,[]⟩=pure (ps.zip c):=by intro _ _ _ _ _ _;first|exact ar1 (λ_=>rfl)|exact ar2 (λ_ _=>rfl)|exact ar3 (λ_ _ _=>rfl)|exact ar4 (λ_ _ _ _=>rfl)|exact ar0 rfl):ja K mg n st ps:=by
 obtain⟨f,w,r,kV,v,o,j,t,q,u,a,l,k,p⟩:=zHf (qJ e);exact⟨_,_,mg_of X G a,zIP (st:=st) l k p,(zIP (st:=st) l k p).binds b⟩
def Go(X:K.In h)(G:h.Ns mainGlobals mg)(e:some (JR K n)=some (some i)):∃t,mg n=some (.int i t):=by
 have e:=qJ e;unfold JR at e;split at e
 ·rename_i j t a
  cases e;exact⟨_,mg_of X G a⟩
 ·cases e
def Ye(X:K.In h)(G:h.Ns mainGlobals mg)(e:some (jV K n)=some true):mg n=none:=by
 have e:=qJ e;unfold jV at e;split at e
 ·rename_i a
  exact PySem.W.mg_none_of X G a
 ·cases e
def zBF(X:K.In h)(G:h.Ns mainGlobals mg)(e:J7 K n=some a):mg n=some (.ref a):=by
 unfold J7 at e;split at e
 ·rename_i b c
  cases e;exact mg_of X G c
 ·cases e
def sm_at(e:zDW K=true):zDV K:=by
 unfold zDW at e;exists h,K.lookup sysModules,e,o;dsimp at e;cases hd:o.data with
 |dict a n=>exact⟨o,a,n,h,hd⟩|_=>rw[hd]at e;cases e
def cl_at(X:K.In h)(G:h.Ns mainGlobals mg)(e:zIF K cl rs=true):ClOk K mg cl rs:=by
 obtain⟨e,k⟩:=zAg e;obtain⟨g,n⟩:=zAg e;refine⟨λa=>?_,λc a=>?_,sm_at k⟩
 ·cases cl with
  |nil=>exact absurd rfl a
  |cons i j =>
   replace g:(match J7 K "ThrowError" with
    |some T=>tIn K T&&(i::j).all λc=>(match J7 K c with|some C=>xIn K c C T|none=>false)
    |none=>false)=true:=g
   exists hT,J7 K "ThrowError",g,T;obtain⟨o,l⟩:=zAg g;refine⟨T,zBF X G hT,tcls_of o,λc a=>?_⟩;have q:=all_eq_true.mp l c a;exists hC,J7 K c,q,C;exact⟨C,zBF X G hC,(zFJ q).1,(zFJ q).2⟩
 ·have q:=all_eq_true.mp n c a
  exists hC,J7 K c,q,C;exact⟨C,zBF X G hC,q⟩
end
def walkE{l:PySem.W.OpenLaw}{q:Lc}{loose:Ls Str}{XP:(Str->Lx Lv)->Heap->Prop}{d:DefRec}{as:Ls Lz}{α:Type}{L:qH->α}{v:α}{x:Str}{F:MF}(S:∀r:Ls Int,r.length<=63->∃n,F [.v (.l (r.map D.int))]=.ok (.v (.bl true),n))
  (hn:l.most=some 63) (C:d.params.defaults=[])
  (O:∀(w:Le) (K:qH) (j:Str->Lx Lv) (t:Lz) (h:Heap),K.In h->L K=v->h.Ns mainGlobals j->j d.name=some (.ref t) ->
   ∃y:FuncData,(∀(s:La) (u:Lv),BindsTo s y ⟨[u],[]⟩ [(x,u)])/\∀c:Heap,FnOk l.prog w K j c (CXx l.prog w) 40 t y [x] (spM K j 1 F)) :
  PySem.W.WalkO q loose XP (zCN as α L v).says l.row.toRowW d [] (λf I=>PySem.call f I):=by
 refine Att.attach_call hn C λw M J j mb t o pm cd X a I r G Y ho hd W E p i g Q=>?_
 obtain⟨K,KX,e⟩:=Y;obtain⟨y,R,Z⟩:=O w K j t _ KX e G.T.g E;exact zGU (sp:=spLaw K) (k:=40) KX G.T.g G.T.b G.T.builtins G.T.nolimit Q p i (le_trans g (by decide)) ⟨rfl,rfl,by decide,by decide⟩ (λc _ _=>(Z c).imp (law_imp S)) R (λH hO V=>⟨a,r,rfl,V,g,λ_=>rfl⟩) λH e s' ⟨_,_,_,_,_,_,_,_,_,_,_,_,z⟩=>z
end DV
namespace My
open PySem L2 DV
def cs_:Ls (Str×D):=[("LEAST_SIGNS",.int 2),("LEAST_WEIGHT",.int 1),("MOST_COUNTED",.int 40),("MOST_READ",.int 30),("MOST_SIGNS",.int 3),("MOST_STANDS",.int 12),("MOST_TAKEN",.int 40),("MOST_WATCHED",.int 11),("MOST_WEIGHT",.int 9)]
def bs_:Ls Str:=["abs","all","bool","enumerate","int","isinstance","len","list","max","min","range","set","sum","tuple","zip"]
def ri_:Ls Str:=[]
def uq:Bx :=
  (.o (.sRet (.and (.is .int (.x 0)) (.not (.is .bool (.x 0))))))
def zBG:Ls FI:=[]
def Zf:MF:=fnM 1 (dB zBG uq)
def ye:Bx :=
  (.o (.sRet (.and (.call 0 (.ev (.x 0) .nil)) (.chain .le .le (.x 1) (.x 0) (.x 2)))))
def y6:Ls FI:=[⟨"is_whole",1,1,false,Zf⟩]
def zb:MF:=fnM 3 (dB y6 ye)
abbrev J5:Bx :=
  (.o (.sPar 0 1 (.cons (.x 1) (.cons (.bin .mod (.x 0) (.x 1)) .nil))))
def wC:Bx :=
  (.s (.sPar 0 1 (.cons (.cB .abs (.cons (.x 0) .nil)) (.cons (.cB .abs (.cons (.x 1) .nil)) .nil)))
  (.s (.sWhile (.tE (.cmp .ne (.x 1) (.c (.int 0))))
  J5)
  (.o (.sRet (.x 0)))))
def yp:Ls FI:=[]
def y8:MF:=fnM 2 (dB yp wC)
abbrev vQ:Bx :=
  (.o (.sAug 2 .mul (.x 0)))
def ZB:Bx :=
  (.s (.sSet 2 (.c (.int 1)))
  (.s (.sForR1 (.cons (.x 1) .nil) (.n 3)
  vQ)
  (.o (.sRet (.x 2)))))
def YG:Ls FI:=[]
def jj:MF:=fnM 4 (dB YG ZB)
def ur:Bx :=
  (.s (.sIf (.tE (.cmp .eq (.x 1) (.c (.int 0)))) (.o .sAny) .bNil)
  (.s (.sSet 2 (.call 0 (.ev (.x 0) (.ev (.x 1) .nil))))
  (.s (.sIf (.tE (.cmp .lt (.x 1) (.c (.int 0)))) (.o (.sSet 2 (.neg (.x 2)))) .bNil)
  (.o (.sRet (.t (.cons (.bin .fdiv (.x 0) (.x 2)) (.cons (.bin .fdiv (.x 1) (.x 2)) .nil))))))))
def zBH:Ls FI:=[⟨"greatest_divisor",2,1,false,y8⟩]
def Jz:MF:=fnM 3 (dB zBH ur)
def ut:Bx :=
  (.s (.sIf (.tOr (.tNot (.tE (.is .tuple (.x 0)))) (.tNot (.tE (.chain .le .le (.gl (.int 2)) (.cB .len (.cons (.x 0) .nil)) (.gl (.int 3)))))) (.o (.sRet (.c (.bl false)))) .bNil)
  (.o (.sRet (.cB .all (.cons (.comp 1 ["weight"] [] [] (.iT (.x 0)) (.n 0) .tTr (.call 0 (.ev (.x 0) (.ev (.gl (.int 1)) (.ev (.gl (.int 9)) .nil))))) .nil)))))
def Yg:Ls FI:=[⟨"is_whole_within",3,2,false,zb⟩]
def wV:MF:=fnM 1 (dB Yg ut)
def uu:Bx :=
  (.o (.sIf (.tNot (.tE (.call 0 (.ev (.x 0) .nil)))) (.o .sAny) .bNil))
def zBI:Ls FI:=[⟨"die_good",1,3,false,wV⟩]
def J0:MF:=fnM 1 (dB zBI uu)
def ZC:Bx :=
  (.o (.sIf (.tNot (.tE (.call 0 (.ev (.x 0) (.ev (.x 1) (.ev (.x 2) .nil)))))) (.o .sAny) .bNil))
def uE:Ls FI:=[⟨"is_whole_within",3,2,false,zb⟩]
def zV:MF:=fnM 3 (dB uE ZC)
def WA:Bx :=
  (.o (.sDrop (.call 0 (.ev (.x 0) (.ev (.gl (.int 2)) (.ev (.gl (.int 3)) .nil))))))
def Gp:Ls FI:=[⟨"need_number",3,3,false,zV⟩]
def wD:MF:=fnM 1 (dB Gp WA)
def vR:Bx :=
  (.o (.sDrop (.call 0 (.ev (.x 0) (.ev (.c (.int 0)) (.ev (.bin .sub (.x 1) (.c (.int 1))) .nil))))))
def zAC:Ls FI:=[⟨"need_number",3,3,false,zV⟩]
def jP:MF:=fnM 2 (dB zAC vR)
abbrev YH:Bx :=
  (.o (.sSet 4 (.bin .add (.l (.cons (.bin .mul (.x 1) (.cB .sum (.cons (.x 4) .nil))) .nil)) (.comp 1 ["end"] ["weight"] [0] (.iL (.sl (.x 4) .oN (.oS (.neg (.c (.int 1)))))) (.n 0) .tTr (.bin .mul (.x 1) (.x 0))))))
def WB:Bx :=
  (.s (.sSet 4 (.bin .add (.l (.cons (.c (.int 1)) .nil)) (.bin .mul (.l (.cons (.c (.int 0)) .nil)) (.x 3))))
  (.s (.sForR1 (.cons (.x 2) .nil) (.n 5)
  YH)
  (.o (.sRet (.cB .sum (.cons (.x 4) .nil))))))
def wv:Ls FI:=[]
def wE:MF:=fnM 6 (dB wv WB)
def ZD:Bx :=
  (.s (.sDrop (.call 2 (.ev (.x 0) .nil)))
  (.s (.sDrop (.call 1 (.ev (.x 1) (.ev (.cB .len (.cons (.x 0) .nil)) .nil))))
  (.o (.sDrop (.call 0 (.ev (.x 2) (.ev (.c (.int 0)) (.ev (.gl (.int 40)) .nil))))))))
def uF:Ls FI:=[⟨"need_number",3,3,false,zV⟩,⟨"need_sign",2,4,false,jP⟩,⟨"need_die",1,4,false,J0⟩]
def jk:MF:=fnM 3 (dB uF ZD)
def Jf:Bx :=
  (.o (.sRet (.bin .sub (.cB .sum (.cons (.x 0) .nil)) (.ix (.x 0) (.x 1)))))
def WW:Ls FI:=[]
def y9:MF:=fnM 2 (dB WW Jf)
def YI:Bx :=
  (.o (.sRet (.call 0 (.ev (.x 2) (.ev (.call 1 (.ev (.cB .sum (.cons (.x 0) .nil)) (.ev (.x 1) .nil))) .nil)))))
def vS:Ls FI:=[⟨"share_of",2,2,false,Jz⟩,⟨"whole_power",2,1,false,jj⟩]
def yY:MF:=fnM 3 (dB vS YI)
def WC:Bx :=
  (.s (.sDrop (.call 4 (.ev (.x 0) (.ev (.x 1) (.ev (.x 2) .nil)))))
  (.s (.sDrop (.call 3 (.ev (.x 3) (.ev (.c (.int 0)) (.ev (.gl (.int 40)) .nil)))))
  (.o (.sRet (.call 0 (.ev (.x 0) (.ev (.x 2) (.ev (.call 1 (.ev (.ix (.x 0) (.x 1)) (.ev (.call 2 (.ev (.x 0) (.ev (.x 1) .nil))) (.ev (.x 2) (.ev (.x 3) .nil))))) .nil))))))))
def Gq:Ls FI:=[⟨"share_in_all",3,3,false,yY⟩,⟨"weigh_upto",4,1,false,wE⟩,⟨"others_weight",2,1,false,y9⟩,⟨"need_number",3,3,false,zV⟩,⟨"need_thrown",3,5,false,jk⟩]
def jY:MF:=fnM 4 (dB Gq WC)
def WD:Bx :=
  (.o (.sRet (.and (.is .tuple (.x 0)) (.cB .all (.cons (.comp 1 ["number"] ["high"] [1] (.iT (.x 0)) (.n 0) .tTr (.call 0 (.ev (.x 0) (.ev (.c (.int 0)) (.ev (.x 1) .nil))))) .nil)))))
def Gr:Ls FI:=[⟨"is_whole_within",3,2,false,zb⟩]
def yQ:MF:=fnM 2 (dB Gr WD)
def WE:Bx :=
  (.s (.sIf (.tOr (.tNot (.tE (.is .tuple (.x 0)))) (.tNot (.tE (.chain .le .le (.c (.int 1)) (.cB .len (.cons (.x 0) .nil)) (.gl (.int 12)))))) (.o (.sRet (.c (.bl false)))) .bNil)
  (.s (.sIf (.tNot (.tE (.cB .all (.cons (.comp 1 ["row"] ["thing"] [0] (.iT (.x 0)) (.n 0) .tTr (.call 0 (.ev (.x 0) (.ev (.bin .sub (.cB .len (.cons (.x 1) .nil)) (.c (.int 1))) .nil)))) .nil)))) (.o (.sRet (.c (.bl false)))) .bNil)
  (.s (.sSet 1 (.cB .len (.cons (.ix (.x 0) (.c (.int 0))) .nil)))
  (.o (.sRet (.and (.chain .le .le (.gl (.int 2)) (.x 1) (.gl (.int 3))) (.cB .all (.cons (.comp 1 ["row"] ["signs"] [1] (.iT (.x 0)) (.n 0) .tTr (.cmp .eq (.cB .len (.cons (.x 0) .nil)) (.x 1))) .nil))))))))
def yf:Ls FI:=[⟨"all_within",2,3,false,yQ⟩]
def wF:MF:=fnM 2 (dB yf WE)
def Jg:Bx :=
  (.s (.sIf (.tNot (.tE (.call 0 (.ev (.x 0) (.ev (.bin .sub (.x 1) (.c (.int 1))) .nil))))) (.o (.sRet (.c (.bl false)))) .bNil)
  (.o (.sRet (.cB .all (.cons (.comp 2 ["one","behind"] [] [] (.iZ true true (.cons (.x 0) (.cons (.sl (.x 0) (.oS (.c (.int 1))) .oN) .nil))) (.t [0,1]) .tTr (.cmp .lt (.x 0) (.x 1))) .nil)))))
def JM:Ls FI:=[⟨"all_within",2,3,false,yQ⟩]
def jA:MF:=fnM 2 (dB JM Jg)
def YJ:Bx :=
  (.s (.sIf (.tOr (.tNot (.tE (.is .tuple (.x 0)))) (.tE (.cmp .ne (.cB .len (.cons (.x 0) .nil)) (.c (.int 2))))) (.o (.sRet (.c (.bl false)))) .bNil)
  (.s (.sTup [1,2] (.x 0))
  (.o (.sRet (.and (.call 1 (.ev (.x 1) .nil)) (.call 0 (.ev (.x 2) (.ev (.cB .len (.cons (.x 1) .nil)) .nil))))))))
def jB:Ls FI:=[⟨"rising_stands",2,4,false,jA⟩,⟨"steps_good",1,4,false,wF⟩]
def yJ:MF:=fnM 3 (dB jB YJ)
def YK:Bx :=
  (.o (.sIf (.tNot (.tE (.call 0 (.ev (.x 0) .nil)))) (.o .sAny) .bNil))
def vT:Ls FI:=[⟨"machine_good",1,5,false,yJ⟩]
def zN:MF:=fnM 1 (dB vT YK)
def WF:Bx :=
  (.o (.sRet (.cB .len (.cons (.ix (.ix (.x 0) (.c (.int 0))) (.c (.int 0))) .nil))))
def Gs:Ls FI:=[]
def zS:MF:=fnM 1 (dB Gs WF)
def WG:Bx :=
  (.s (.sDrop (.call 1 (.ev (.x 0) .nil)))
  (.s (.sDrop (.call 1 (.ev (.x 1) .nil)))
  (.o (.sIf (.tE (.cmp .ne (.call 0 (.ev (.x 0) .nil)) (.call 0 (.ev (.x 1) .nil)))) (.o .sAny) .bNil))))
def Gu:Ls FI:=[⟨"signs_read",1,1,false,zS⟩,⟨"need_machine",1,6,false,zN⟩]
def yz:MF:=fnM 2 (dB Gu WG)
abbrev ZE:Bx :=
  (.o (.sApp 4 (.ix (.ix (.x 2) (.ixO 4 (.neg (.c (.int 1))))) (.x 5))))
def vU:Bx :=
  (.s (.sDrop (.call 2 (.ev (.x 0) .nil)))
  (.s (.sIf (.tOr (.tNot (.tE (.call 0 (.ev (.x 1) (.ev (.bin .sub (.call 1 (.ev (.x 0) .nil)) (.c (.int 1))) .nil))))) (.tE (.cmp .gt (.cB .len (.cons (.x 1) .nil)) (.gl (.int 30))))) (.o .sAny) .bNil)
  (.s (.sTup [2,3] (.x 0))
  (.s (.sSet 4 (.l (.cons (.c (.int 0)) .nil)))
  (.s (.sForT (.x 1) (.n 5)
  ZE)
  (.o (.sRet (.mov 4))))))))
def wG:Ls FI:=[⟨"all_within",2,3,false,yQ⟩,⟨"signs_read",1,1,false,zS⟩,⟨"need_machine",1,6,false,zN⟩]
def ww:MF:=fnM 6 (dB wG vU)
def zFM:Bx :=
  (.o (.sRet (.cmp .inn (.ix (.call 0 (.ev (.x 0) (.ev (.x 1) .nil))) (.neg (.c (.int 1)))) (.ix (.x 0) (.c (.int 1))))))
def zHg:Ls FI:=[⟨"stands_of",2,7,false,ww⟩]
def yi:MF:=fnM 2 (dB zHg zFM)
abbrev Jh:Bx :=
  (.o (.sAugIx 7 (.x 11) (.bin .mul (.x 10) (.x 9))))
abbrev Ji:Bx :=
  (.o (.sForI (.iZA true (.cons (.x 1) (.cons (.x 8) .nil))) (.t [10,11])
  Jh))
abbrev Jj:Bx :=
  (.s (.sSet 7 (.bin .mul (.l (.cons (.c (.int 0)) .nil)) (.cB .len (.cons (.x 3) .nil))))
  (.s (.sForI (.iZ true false (.cons (.x 3) (.cons (.x 5) .nil))) (.t [8,9])
  Ji)
  (.o (.sSet 5 (.frz (.x 7))))))
def ZF:Bx :=
  (.s (.sTup [3,4] (.x 0))
  (.s (.sSet 5 (.frz (.bin .add (.l (.cons (.c (.int 1)) .nil)) (.bin .mul (.l (.cons (.c (.int 0)) .nil)) (.bin .sub (.cB .len (.cons (.x 3) .nil)) (.c (.int 1)))))))
  (.s (.sForR1 (.cons (.x 2) .nil) (.n 6)
  Jj)
  (.o (.sRet (.cB .sum (.cons (.comp 1 ["stand"] ["ends"] [5] (.iT (.x 4)) (.n 0) .tTr (.ix (.x 1) (.x 0))) .nil)))))))
def jT:Ls FI:=[]
def yg:MF:=fnM 12 (dB jT ZF)
def WH:Bx :=
  (.s (.sDrop (.call 3 (.ev (.x 0) .nil)))
  (.s (.sDrop (.call 2 (.ev (.x 1) (.ev (.c (.int 0)) (.ev (.gl (.int 40)) .nil)))))
  (.o (.sRet (.call 0 (.ev (.x 0) (.ev (.bin .mul (.l (.cons (.c (.int 1)) .nil)) (.call 1 (.ev (.x 0) .nil))) (.ev (.x 1) .nil))))))))
def Gv:Ls FI:=[⟨"weigh_taken",3,1,false,yg⟩,⟨"signs_read",1,1,false,zS⟩,⟨"need_number",3,3,false,zV⟩,⟨"need_machine",1,6,false,zN⟩]
def zw:MF:=fnM 2 (dB Gv WH)
def ZG:Bx :=
  (.s (.sDrop (.call 5 (.ev (.x 0) .nil)))
  (.s (.sIf (.tOr (.tNot (.tE (.call 4 (.ev (.x 1) .nil)))) (.tE (.cmp .ne (.cB .len (.cons (.x 1) .nil)) (.call 3 (.ev (.x 0) .nil))))) (.o .sAny) .bNil)
  (.s (.sDrop (.call 2 (.ev (.x 2) (.ev (.c (.int 0)) (.ev (.gl (.int 40)) .nil)))))
  (.o (.sRet (.call 0 (.ev (.x 1) (.ev (.x 2) (.ev (.call 1 (.ev (.x 0) (.ev (.x 1) (.ev (.x 2) .nil)))) .nil)))))))))
def uG:Ls FI:=[⟨"share_in_all",3,3,false,yY⟩,⟨"weigh_taken",3,1,false,yg⟩,⟨"need_number",3,3,false,zV⟩,⟨"signs_read",1,1,false,zS⟩,⟨"die_good",1,3,false,wV⟩,⟨"need_machine",1,6,false,zN⟩]
def jC:MF:=fnM 3 (dB uG ZG)
def ZH:Bx :=
  (.s (.sDrop (.call 2 (.ev (.x 0) .nil)))
  (.s (.sDrop (.call 1 (.ev (.x 1) (.ev (.x 0) .nil))))
  (.s (.sDrop (.call 0 (.ev (.x 2) (.ev (.c (.int 1)) (.ev (.gl (.int 11)) .nil)))))
  (.s (.sSet 3 (.comp 1 ["stand"] ["m","sign"] [0,1] (.iR1 (.cons (.x 2) .nil)) (.n 0) .tTr (.cB .tuple (.cons (.comp 1 ["thrown"] ["sign","stand"] [2,0] (.iR1 (.cons (.x 1) .nil)) (.n 0) .tTr (.ifx (.tE (.cmp .eq (.x 0) (.x 1))) (.bin .add (.x 2) (.c (.int 1))) (.c (.int 0)))) .nil))))
  (.o (.sRet (.t (.cons (.cB .tuple (.cons (.bin .add (.x 3) (.l (.cons (.bin .mul (.t (.cons (.x 2) .nil)) (.x 0)) .nil))) .nil)) (.cons (.t (.cons (.x 2) .nil)) .nil)))))))))
def uH:Ls FI:=[⟨"need_number",3,3,false,zV⟩,⟨"need_sign",2,4,false,jP⟩,⟨"need_signs",1,4,false,wD⟩]
def jl:MF:=fnM 4 (dB uH ZH)
def uv:Bx :=
  (.s (.sDrop (.call 0 (.ev (.x 0) .nil)))
  (.s (.sTup [1,2] (.x 0))
  (.o (.sRet (.t (.cons (.x 1) (.cons (.cB .tuple (.cons (.comp 1 ["stand"] ["good"] [2] (.iR1 (.cons (.cB .len (.cons (.x 1) .nil)) .nil)) (.n 0) (.tE (.cmp .nin (.x 0) (.x 1))) (.x 0)) .nil)) .nil)))))))
def vV:Ls FI:=[⟨"need_machine",1,6,false,zN⟩]
def jp:MF:=fnM 3 (dB vV uv)
def ZI:Bx :=
  (.o (.sRet (.t (.cons (.ix (.ix (.ix (.x 0) (.c (.int 0))) (.ix (.x 2) (.c (.int 0)))) (.x 3)) (.cons (.ix (.ix (.ix (.x 1) (.c (.int 0))) (.ix (.x 2) (.c (.int 1)))) (.x 3)) .nil)))))
def uI:Ls FI:=[]
def yV:MF:=fnM 4 (dB uI ZI)
abbrev jD:Bx :=
  (.s (.sSet 7 (.call 0 (.ev (.x 0) (.ev (.x 1) (.ev (.x 5) (.ev (.x 6) .nil))))))
  (.o (.sIf (.tE (.ninO 2 (.x 7))) (.s (.sDput 2 (.x 7) (.bin .add (.dgO 2 (.x 5)) (.t (.cons (.x 6) .nil))))
  (.o (.sApp 3 (.x 7)))) .bNil)))
abbrev jE:Bx :=
  (.s (.sSet 5 (.ixO 3 (.x 4)))
  (.s (.sForR1 (.cons (.call 1 (.ev (.x 0) .nil)) .nil) (.n 6)
  jD)
  (.o (.sAug 4 .add (.c (.int 1))))))
def vW:Bx :=
  (.s (.sSet 2 (.disp (.t (.cons (.c (.int 0)) (.cons (.c (.int 0)) .nil))) (.t .nil)))
  (.s (.sSet 3 (.l (.cons (.t (.cons (.c (.int 0)) (.cons (.c (.int 0)) .nil))) .nil)))
  (.s (.sSet 4 (.c (.int 0)))
  (.s (.sWhile (.tE (.cmp .lt (.x 4) (.lenO 3)))
  jE)
  (.o (.sRet (.mov 2)))))))
def zM:Ls FI:=[⟨"pair_behind",4,1,false,yV⟩,⟨"signs_read",1,1,false,zS⟩]
def yq:MF:=fnM 8 (dB zM vW)
def vX:Bx :=
  (.o (.sRet (.cB .len (.cons (.comp 2 ["machine","stand"] [] [] (.iZ true true (.cons (.t (.cons (.x 0) (.cons (.x 1) .nil))) (.cons (.x 2) .nil))) (.t [0,1]) (.tE (.cmp .inn (.x 1) (.ix (.x 0) (.c (.int 1))))) (.x 1)) .nil))))
def WI:Ls FI:=[]
def yr:MF:=fnM 3 (dB WI vX)
def zCO:Bx :=
  (.s (.sDrop (.call 4 (.ev (.x 0) (.ev (.x 1) .nil))))
  (.s (.sSet 3 (.cB .lisK (.cons (.call 3 (.ev (.x 0) (.ev (.x 1) .nil))) .nil)))
  (.s (.sIf (.tE (.cmp .gt (.cB .len (.cons (.x 3) .nil)) (.gl (.int 12)))) (.o .sAny) .bNil)
  (.s (.sSet 4 (.frz (.dcomp 2 ["number","pair"] [] [] (.iE false (.cons (.x 3) .nil)) (.t [0,1]) .tTr (.x 1) (.x 0))))
  (.s (.sSet 5 (.comp 1 ["pair"] ["one","numbers","other"] [0,4,1] (.iL (.x 3)) (.n 0) .tTr (.cB .tuple (.cons (.comp 1 ["sign"] ["numbers","one","other","pair"] [2,1,3,0] (.iR1 (.cons (.call 1 (.ev (.x 1) .nil)) .nil)) (.n 0) .tTr (.dg (.x 1) (.call 2 (.ev (.x 2) (.ev (.x 3) (.ev (.x 4) (.ev (.x 0) .nil))))))) .nil))))
  (.s (.sSet 6 (.comp 1 ["pair"] ["numbers","one","other","wanted"] [4,0,1,2] (.iL (.x 3)) (.n 0) (.tE (.cmp .ge (.call 0 (.ev (.x 2) (.ev (.x 3) (.ev (.x 0) .nil)))) (.x 4))) (.dg (.x 1) (.x 0))))
  (.o (.sRet (.t (.cons (.cB .tuple (.cons (.x 5) .nil)) (.cons (.cB .tuple (.cons (.x 6) .nil)) .nil)))))))))))
def jy:Ls FI:=[⟨"good_many",3,1,false,yr⟩,⟨"signs_read",1,1,false,zS⟩,⟨"pair_behind",4,1,false,yV⟩,⟨"met_pairs",2,2,false,yq⟩,⟨"need_alike",2,7,false,yz⟩]
def jm:MF:=fnM 7 (dB jy zCO)
def zI7:Bx :=
  (.o (.sRet (.call 0 (.ev (.x 0) (.ev (.x 1) (.ev (.c (.int 2)) .nil))))))
def fs_both:Ls FI:=[⟨"joined",3,8,false,jm⟩]
def uw:MF:=fnM 2 (dB fs_both zI7)
def zCP:Bx :=
  (.o (.sRet (.call 0 (.ev (.x 0) (.ev (.x 1) (.ev (.c (.int 1)) .nil))))))
def zFN:Ls FI:=[⟨"joined",3,8,false,jm⟩]
def Wl:MF:=fnM 2 (dB zFN zCP)
abbrev JN:Bx :=
  (.s (.sSet 4 (.lset (.cons (.x 3) .nil)))
  (.s (.sSet 5 (.comp 2 ["alike","row"] ["alikes"] [3] (.iZ false true (.cons (.x 3) (.cons (.x 1) .nil))) (.t [0,1]) .tTr (.t (.cons (.x 0) (.cons (.cB .tuple (.cons (.comp 1 ["stand"] ["alikes"] [2] (.iT (.x 1)) (.n 0) .tTr (.ix (.x 1) (.x 0))) .nil)) .nil)))))
  (.o (.sSet 3 (.comp 1 ["mark"] ["marks"] [5] (.iL (.x 5)) (.n 0) .tTr (.idxK (.x 1) (.x 0)))))))
def YL:Bx :=
  (.s (.sTup [1,2] (.x 0))
  (.s (.sSet 3 (.comp 1 ["stand"] ["good"] [2] (.iR1 (.cons (.cB .len (.cons (.x 1) .nil)) .nil)) (.n 0) .tTr (.ifx (.tE (.cmp .inn (.x 0) (.x 1))) (.c (.int 1)) (.c (.int 0)))))
  (.s (.sSet 4 (.c (.int 0)))
  (.s (.sWhile (.tE (.cmp .lt (.x 4) (.lset (.cons (.x 3) .nil))))
  JN)
  (.o (.sRet (.x 3)))))))
def yL:Ls FI:=[]
def jU:MF:=fnM 6 (dB yL YL)
def zFO:Bx :=
  (.s (.sDrop (.call 2 (.ev (.x 0) .nil)))
  (.s (.sTup [1,2] (.x 0))
  (.s (.sSet 3 (.call 1 (.ev (.x 0) .nil)))
  (.s (.sSet 4 (.t (.cons (.cB .tuple (.cons (.comp 1 ["row"] ["alikes"] [3] (.iT (.x 1)) (.n 0) .tTr (.cB .tuple (.cons (.comp 1 ["stand"] ["alikes"] [1] (.iT (.x 0)) (.n 0) .tTr (.ix (.x 1) (.x 0))) .nil))) .nil)) (.cons (.x 2) .nil))))
  (.o (.sRet (.call 0 (.ev (.x 4) (.ev (.x 4) .nil)))))))))
def zCQ:Ls FI:=[⟨"both",2,9,false,uw⟩,⟨"first_alikes",1,1,false,jU⟩,⟨"need_machine",1,6,false,zN⟩]
def wO:MF:=fnM 5 (dB zCQ zFO)
abbrev wx:Bx :=
  (.o (.sIf (.tE (.cmp .eq (.call 0 (.ev (.x 0) (.ev (.x 1) (.ev (.x 3) .nil)))) (.c (.int 1)))) (.o (.sRet (.dg (.x 2) (.x 3)))) .bNil))
def zAD:Bx :=
  (.s (.sDrop (.call 2 (.ev (.x 0) (.ev (.x 1) .nil))))
  (.s (.sSet 2 (.frz (.call 1 (.ev (.x 0) (.ev (.x 1) .nil)))))
  (.s (.sForI (.iD (.x 2)) (.n 3)
  wx)
  (.o (.sRet (.c .non))))))
def jq:Ls FI:=[⟨"good_many",3,1,false,yr⟩,⟨"met_pairs",2,2,false,yq⟩,⟨"need_alike",2,7,false,yz⟩]
def jF:MF:=fnM 4 (dB jq zAD)
def wP:Bx :=
  (.s (.sIf (.tE (.cmp .lt (.x 1) (.cB .len (.cons (.x 0) .nil)))) (.o (.sRet (.ix (.x 0) (.x 1)))) .bNil)
  (.o (.sRet (.c (.int 0)))))
def Jk:Ls FI:=[]
def yk:MF:=fnM 2 (dB Jk wP)
def Yh:Bx :=
  (.s (.sSet 0 (.bin .mod (.bin .add (.x 0) (.c (.int 7919))) (.c (.int 2147483647))))
  (.o (.sRet (.bin .mod (.bin .add (.bin .add (.bin .mul (.x 0) (.x 0)) (.bin .mul (.c (.int 48271)) (.x 0))) (.c (.int 12345))) (.c (.int 2147483629))))))
def WJ:Ls FI:=[]
def wy:MF:=fnM 1 (dB WJ Yh)
def wz:Bx :=
  (.s (.sSet 1 (.cB .max (.cons (.x 0) (.cons (.bin .sub (.c (.int 0)) (.x 0)) .nil))))
  (.o (.sRet (.l (.cons (.x 1) (.cons (.cB .int (.cons (.cmp .ge (.x 1) (.bin .pow (.c (.int 10)) (.c (.int 18)))) .nil)) (.cons (.bin .mod (.x 1) (.c (.int 1000003))) .nil)))))))
def YM:Ls FI:=[]
def jG:MF:=fnM 2 (dB YM wz)
def JA:Bx :=
  (.s (.sIf (.tE (.cmp .eq (.ixO 0 (.c (.int 1))) (.c (.int 1)))) (.s (.sSet 2 (.bin .mod (.ixO 0 (.c (.int 0))) (.x 1)))
  (.s (.sIx 0 (.c (.int 0)) (.bin .fdiv (.ixO 0 (.c (.int 0))) (.x 1)))
  (.o (.sRet (.x 2))))) .bNil)
  (.s (.sIx 0 (.c (.int 2)) (.call 0 (.ev (.bin .add (.call 0 (.ev (.ixO 0 (.c (.int 2))) .nil)) (.c (.int 7))) .nil)))
  (.o (.sRet (.bin .mod (.bin .fdiv (.ixO 0 (.c (.int 2))) (.c (.int 64))) (.x 1))))))
def Jl:Ls FI:=[⟨"_law_next",1,1,false,wy⟩]
def zT:MF:=fnM 3 (dB Jl JA)
abbrev YN:Bx :=
  (.o (.sPar 2 3 (.cons (.x 3) (.cons (.bin .mod (.x 2) (.x 3)) .nil))))
def WK:Bx :=
  (.s (.sPar 2 3 (.cons (.cB .abs (.cons (.x 0) .nil)) (.cons (.cB .abs (.cons (.x 1) .nil)) .nil)))
  (.s (.sWhile (.tE (.cmp .ne (.x 3) (.c (.int 0))))
  YN)
  (.s (.sIf (.tE (.cmp .lt (.x 1) (.c (.int 0)))) (.o (.sSet 2 (.bin .sub (.c (.int 0)) (.x 2)))) .bNil)
  (.o (.sRet (.t (.cons (.bin .fdiv (.x 0) (.x 2)) (.cons (.bin .fdiv (.x 1) (.x 2)) .nil))))))))
def JB:Ls FI:=[]
def wH:MF:=fnM 4 (dB JB WK)
def ux:Bx :=
  (.o (.sRet (.call 0 (.ev (.bin .add (.bin .mul (.ix (.x 0) (.c (.int 0))) (.ix (.x 1) (.c (.int 1)))) (.bin .mul (.ix (.x 1) (.c (.int 0))) (.ix (.x 0) (.c (.int 1))))) (.ev (.bin .mul (.ix (.x 0) (.c (.int 1))) (.ix (.x 1) (.c (.int 1)))) .nil)))))
def zBJ:Ls FI:=[⟨"_law_share",2,1,false,wH⟩]
def wW:MF:=fnM 2 (dB zBJ ux)
abbrev yt:Bx :=
  (.s (.sSet 7 (.cB .tuple (.cons (.comp 1 ["_law_sign"] ["_law_pen","_law_many"] [0,3] (.iR1 (.cons (.x 2) .nil)) (.n 0) .tTr (.call 0 (.lend 1 (.ev (.x 2) .nil)))) .nil)))
  (.s (.sIf (.tE (.cmp .eq (.x 4) (.c (.int 0)))) (.o (.sSet 7 (.bin .add (.t (.cons (.cB .min (.cons (.bin .add (.x 6) (.c (.int 1))) (.cons (.bin .sub (.x 3) (.c (.int 1))) .nil))) .nil)) (.bin .mul (.t (.cons (.c (.int 0)) .nil)) (.bin .sub (.x 2) (.c (.int 1))))))) .bNil)
  (.s (.sIf (.tE (.cmp .eq (.x 4) (.c (.int 1)))) (.o (.sSet 7 (.bin .add (.bin .mul (.t (.cons (.bin .mod (.bin .add (.x 6) (.c (.int 1))) (.x 3)) .nil)) (.bin .sub (.x 2) (.c (.int 1)))) (.t (.cons (.x 6) .nil))))) .bNil)
  (.o (.sApp 5 (.x 7))))))
def wX:Bx :=
  (.s (.sSet 2 (.bin .add (.c (.int 2)) (.call 0 (.lend 0 (.ev (.c (.int 2)) .nil)))))
  (.s (.sSet 3 (.bin .add (.c (.int 1)) (.call 0 (.lend 0 (.ev (.x 1) .nil)))))
  (.s (.sSet 4 (.call 0 (.lend 0 (.ev (.c (.int 4)) .nil))))
  (.s (.sSet 5 (.l .nil))
  (.s (.sForR1 (.cons (.x 3) .nil) (.n 6)
  yt)
  (.o (.sRet (.t (.cons (.cB .tuple (.cons (.x 5) .nil)) (.cons (.cB .tuple (.cons (.comp 1 ["_law_stand"] ["_law_pen"] [0] (.iR1 (.cons (.x 3) .nil)) (.n 0) (.tE (.cmp .eq (.call 0 (.lend 1 (.ev (.c (.int 3)) .nil))) (.c (.int 0)))) (.x 0)) .nil)) .nil))))))))))
def zY:Ls FI:=[⟨"_law_draw",2,2,false,zT⟩]
def yM:MF:=fnM 8 (dB zY wX)
def JO:Bx :=
  (.s (.sPar 4 5 (.cons (.call 6 (.ev (.x 0) (.ev (.x 1) .nil))) (.cons (.call 7 (.ev (.x 0) (.ev (.x 1) .nil))) .nil)))
  (.s (.sIf (.tOr (.tE (.cmp .ne (.call 1 (.ev (.x 4) (.ev (.x 2) .nil))) (.and (.call 1 (.ev (.x 0) (.ev (.x 2) .nil))) (.call 1 (.ev (.x 1) (.ev (.x 2) .nil)))))) (.tNot (.tE (.call 5 (.ev (.x 4) .nil))))) (.o (.sRet (.c (.bl false)))) .bNil)
  (.s (.sIf (.tOr (.tE (.cmp .ne (.call 1 (.ev (.x 5) (.ev (.x 2) .nil))) (.or (.call 1 (.ev (.x 0) (.ev (.x 2) .nil))) (.call 1 (.ev (.x 1) (.ev (.x 2) .nil)))))) (.tE (.cmp .eq (.call 1 (.ev (.call 4 (.ev (.x 0) .nil)) (.ev (.x 2) .nil))) (.call 1 (.ev (.x 0) (.ev (.x 2) .nil)))))) (.o (.sRet (.c (.bl false)))) .bNil)
  (.s (.sIf (.tE (.cmp .ne (.bin .add (.call 3 (.ev (.x 4) (.ev (.x 3) .nil))) (.call 3 (.ev (.x 5) (.ev (.x 3) .nil)))) (.bin .add (.call 3 (.ev (.x 0) (.ev (.x 3) .nil))) (.call 3 (.ev (.x 1) (.ev (.x 3) .nil)))))) (.o (.sRet (.c (.bl false)))) .bNil)
  (.s (.sSet 6 (.call 2 (.ev (.x 0) (.ev (.x 1) .nil))))
  (.s (.sIf (.tE (.cmp .is (.x 6) (.c .non))) (.o (.sRet (.cmp .eq (.call 0 (.ev (.x 0) .nil)) (.call 0 (.ev (.x 1) .nil))))) .bNil)
  (.o (.sRet (.and (.cmp .ne (.call 1 (.ev (.x 0) (.ev (.x 6) .nil))) (.call 1 (.ev (.x 1) (.ev (.x 6) .nil)))) (.cmp .ne (.call 0 (.ev (.x 0) .nil)) (.call 0 (.ev (.x 1) .nil))))))))))))
def wY:Ls FI:=[⟨"least",1,10,false,wO⟩,⟨"takes",2,8,false,yi⟩,⟨"parting",2,8,false,jF⟩,⟨"taken_many",2,7,false,zw⟩,⟨"contrary",1,7,false,jp⟩,⟨"machine_good",1,5,false,yJ⟩,⟨"both",2,9,false,uw⟩,⟨"either",2,9,false,Wl⟩]
def yX:MF:=fnM 7 (dB wY JO)
def wI:Bx :=
  (.s (.sSet 3 (.call 1 (.ev (.x 0) .nil)))
  (.s (.sIf (.tOr (.tE (.cmp .ne (.call 3 (.ev (.x 3) (.ev (.x 1) .nil))) (.call 3 (.ev (.x 0) (.ev (.x 1) .nil))))) (.tE (.cmp .ne (.call 2 (.ev (.x 3) (.ev (.x 2) .nil))) (.call 2 (.ev (.x 0) (.ev (.x 2) .nil)))))) (.o (.sRet (.c (.bl false)))) .bNil)
  (.o (.sRet (.and (.cmp .eq (.call 1 (.ev (.x 3) .nil)) (.x 3)) (.and (.cmp .le (.cB .len (.cons (.ix (.x 3) (.c (.int 0))) .nil)) (.cB .len (.cons (.ix (.x 0) (.c (.int 0))) .nil))) (.cmp .is (.call 0 (.ev (.x 0) (.ev (.x 3) .nil))) (.c .non))))))))
def Yi:Ls FI:=[⟨"parting",2,8,false,jF⟩,⟨"least",1,10,false,wO⟩,⟨"taken_many",2,7,false,zw⟩,⟨"takes",2,8,false,yi⟩]
def yZ:MF:=fnM 4 (dB Yi wI)
abbrev zBK:Bx :=
  (.s (.sSet 2 (.call 9 (.ev (.x 1) .nil)))
  (.s (.sPar 3 4 (.cons (.call 8 (.lend 2 (.ev (.c (.int 3)) .nil))) (.cons (.call 8 (.lend 2 (.ev (.c (.int 4)) .nil))) .nil)))
  (.s (.sSet 5 (.cB .len (.cons (.ix (.ix (.x 3) (.c (.int 0))) (.c (.int 0))) .nil)))
  (.s (.sSet 6 (.cB .tuple (.cons (.comp 1 ["_law_place"] ["_law_pen"] [2] (.iR1 (.cons (.call 4 (.lend 2 (.ev (.c (.int 21)) .nil))) .nil)) (.n 0) .tTr (.call 4 (.lend 1 (.ev (.c (.int 2)) .nil)))) .nil)))
  (.s (.sSet 7 (.call 4 (.lend 2 (.ev (.c (.int 21)) .nil))))
  (.s (.sIf (.tAnd (.tE (.cmp .eq (.cB .len (.cons (.ix (.ix (.x 4) (.c (.int 0))) (.c (.int 0))) .nil)) (.x 5))) (.tNot (.tE (.call 6 (.ev (.x 3) (.ev (.x 4) (.ev (.x 6) (.ev (.x 7) .nil)))))))) (.o (.sRet (.c (.bl false)))) .bNil)
  (.s (.sIf (.tOr (.tNot (.tE (.call 6 (.ev (.x 3) (.ev (.call 7 (.ev (.x 3) .nil)) (.ev (.x 6) (.ev (.x 7) .nil))))))) (.tNot (.tE (.call 5 (.ev (.x 4) (.ev (.x 6) (.ev (.x 7) .nil))))))) (.o (.sRet (.c (.bl false)))) .bNil)
  (.s (.sSet 8 (.cB .tuple (.cons (.comp 1 ["_law_sign"] ["_law_pen"] [2] (.iR1 (.cons (.x 5) .nil)) (.n 0) .tTr (.bin .add (.c (.int 1)) (.call 4 (.lend 1 (.ev (.c (.int 9)) .nil))))) .nil)))
  (.s (.sPar 9 10 (.cons (.call 4 (.lend 2 (.ev (.x 5) .nil))) (.cons (.bin .add (.c (.int 1)) (.call 4 (.lend 2 (.ev (.c (.int 6)) .nil)))) .nil)))
  (.s (.sSet 11 (.call 2 (.ev (.call 3 (.ev (.x 5) (.ev (.x 9) (.ev (.x 10) .nil)))) (.ev (.x 8) (.ev (.x 7) .nil)))))
  (.o (.sIf (.tE (.cmp .ne (.call 0 (.ev (.x 11) (.ev (.call 1 (.ev (.x 8) (.ev (.x 9) (.ev (.x 7) (.ev (.bin .sub (.x 10) (.c (.int 1))) .nil))))) .nil))) (.t (.cons (.c (.int 1)) (.cons (.c (.int 1)) .nil))))) (.o (.sRet (.c (.bl false)))) .bNil))))))))))))
def t_law:Bx :=
  (.s (.sForL (.bin .add (.l (.cons (.call 10 (.ev (.x 0) (.ev (.c (.int 0)) .nil))) .nil)) (.sl (.x 0) (.oS (.c (.int 1))) (.oS (.c (.int 3))))) (.n 1)
  zBK)
  (.o (.sRet (.c (.bl true)))))
def WL:Ls FI:=[⟨"_law_add",2,2,false,wW⟩,⟨"share_upto",4,6,false,jY⟩,⟨"taken_share",3,7,false,jC⟩,⟨"run_machine",3,5,false,jl⟩,⟨"_law_draw",2,2,false,zT⟩,⟨"_law_least_right",3,11,false,yZ⟩,⟨"_law_two_right",4,11,false,yX⟩,⟨"contrary",1,7,false,jp⟩,⟨"_law_machine_by",2,3,false,yM⟩,⟨"_law_pen_of",1,1,false,jG⟩,⟨"_law_cell_at",2,1,false,yk⟩]
def m_law:MF:=fnM 12 (dB WL t_law)
structure Txt(K:qH)(mg:Str->Lo):Prop where
 n_abs:mg "abs"=none
 n_all:mg "all"=none
 n_bool:mg "bool"=none
 n_enumerate:mg "enumerate"=none
 n_int:mg "int"=none
 n_isinstance:mg "isinstance"=none
 n_len:mg "len"=none
 n_list:mg "list"=none
 n_max:mg "max"=none
 n_min:mg "min"=none
 n_range:mg "range"=none
 n_set:mg "set"=none
 n_sum:mg "sum"=none
 n_tuple:mg "tuple"=none
 n_zip:mg "zip"=none
 c_LEAST_SIGNS:∃t,mg "LEAST_SIGNS"=some (.int 2 t)
 c_LEAST_WEIGHT:∃t,mg "LEAST_WEIGHT"=some (.int 1 t)
 c_MOST_COUNTED:∃t,mg "MOST_COUNTED"=some (.int 40 t)
 c_MOST_READ:∃t,mg "MOST_READ"=some (.int 30 t)
 c_MOST_SIGNS:∃t,mg "MOST_SIGNS"=some (.int 3 t)
 c_MOST_STANDS:∃t,mg "MOST_STANDS"=some (.int 12 t)
 c_MOST_TAKEN:∃t,mg "MOST_TAKEN"=some (.int 40 t)
 c_MOST_WATCHED:∃t,mg "MOST_WATCHED"=some (.int 11 t)
 c_MOST_WEIGHT:∃t,mg "MOST_WEIGHT"=some (.int 9 t)
 f_is_whole:ja K mg "is_whole" uQ ["thing"]
 f_is_whole_within:ja K mg "is_whole_within" wR ["thing","low","high"]
 f_greatest_divisor:ja K mg "greatest_divisor" j8 ["one","other"]
 f_whole_power:ja K mg "whole_power" Yp ["base","exponent"]
 f_share_of:ja K mg "share_of" uR ["top","bottom"]
 f_die_good:ja K mg "die_good" uS ["thing"]
 f_need_die:ja K mg "need_die" uT ["thing"]
 f_need_number:ja K mg "need_number" Yq ["thing","low","high"]
 f_need_signs:ja K mg "need_signs" Zs ["thing"]
 f_need_sign:ja K mg "need_sign" Wr ["thing","signs"]
 f_weigh_upto:ja K mg "weigh_upto" Zt ["weight","others","n","k"]
 f_need_thrown:ja K mg "need_thrown" Yr ["die","sign","n"]
 f_others_weight:ja K mg "others_weight" JS ["die","sign"]
 f_share_in_all:ja K mg "share_in_all" J8 ["die","n","weight"]
 f_share_upto:ja K mg "share_upto" Zu ["die","sign","n","k"]
 f_all_within:ja K mg "all_within" Zv ["thing","high"]
 f_steps_good:ja K mg "steps_good" Zw ["thing"]
 f_rising_stands:ja K mg "rising_stands" JT ["thing","many"]
 f_machine_good:ja K mg "machine_good" J9 ["thing"]
 f_need_machine:ja K mg "need_machine" YA ["thing"]
 f_signs_read:ja K mg "signs_read" Zx ["machine"]
 f_need_alike:ja K mg "need_alike" Zy ["one","other"]
 f_stands_of:ja K mg "stands_of" Ws ["machine","row"]
 f_takes:ja K mg "takes" zDX ["machine","row"]
 f_weigh_taken:ja K mg "weigh_taken" Ys ["machine","weights","n"]
 f_taken_many:ja K mg "taken_many" Zz ["machine","n"]
 f_taken_share:ja K mg "taken_share" Yt ["machine","die","n"]
 f_run_machine:ja K mg "run_machine" Yu ["m","sign","k"]
 f_contrary:ja K mg "contrary" uU ["machine"]
 f_pair_behind:ja K mg "pair_behind" Yv ["one","other","pair","sign"]
 f_met_pairs:ja K mg "met_pairs" Wu ["one","other"]
 f_good_many:ja K mg "good_many" Wv ["one","other","pair"]
 f_joined:ja K mg "joined" zBh ["one","other","wanted"]
 f_both:ja K mg "both" zIG ["one","other"]
 f_either:ja K mg "either" zBi ["one","other"]
 f_first_alikes:ja K mg "first_alikes" YB ["machine"]
 f_least:ja K mg "least" zDY ["machine"]
 f_parting:ja K mg "parting" QP ["one","other"]
 f__law_cell_at:ja K mg "_law_cell_at" YC ["_law_script","_law_k"]
 f__law_next:ja K mg "_law_next" Ww ["_law_seed"]
 f__law_pen_of:ja K mg "_law_pen_of" Yw ["_law_cell"]
 f__law_draw:ja K mg "_law_draw" Wx ["_law_pen","_law_many"]
 f__law_share:ja K mg "_law_share" Z0 ["_law_top","_law_bottom"]
 f__law_add:ja K mg "_law_add" uV ["_law_one","_law_other"]
 f__law_machine_by:ja K mg "_law_machine_by" wS ["_law_pen","_law_most"]
 f__law_two_right:ja K mg "_law_two_right" JH ["_law_one","_law_other","_law_row","_law_n"]
 f__law_least_right:ja K mg "_law_least_right" j9 ["_law_one","_law_row","_law_n"]
 f_law:ja K mg "law" s_law ["_law_script"]
 cl:ClOk K mg cl_ rs_
section
variable{P:Lc}{w:Le}{K:qH}{mg:Str->Lx Lv}{base:Heap}
def zy(T:Txt K mg):zHd K mg cs_:=(wu T.c_LEAST_SIGNS (wu T.c_LEAST_WEIGHT (wu T.c_MOST_COUNTED (wu T.c_MOST_READ (wu T.c_MOST_SIGNS (wu T.c_MOST_STANDS (wu T.c_MOST_TAKEN (wu T.c_MOST_WATCHED (wu T.c_MOST_WEIGHT cs_nil)))))))))
def zz(T:Txt K mg):zFI P w K mg base ri_:=ris_nil
def z9(T:Txt K mg):BsOk mg bs_:=(yo T.n_abs (yo T.n_all (yo T.n_bool (yo T.n_enumerate (yo T.n_int (yo T.n_isinstance (yo T.n_len (yo T.n_list (yo T.n_max (yo T.n_min (yo T.n_range (yo T.n_set (yo T.n_sum (yo T.n_tuple (yo T.n_zip bs_nil)))))))))))))))
def zBL(T:Txt K mg):FOk P w K mg base true "is_whole" 1 ["thing"] Zf:=zK uq ["thing"] T.f_is_whole (zy T) zW (z9 T) T.cl (zz T) (by left)
def jH(T:Txt K mg):FOk P w K mg base true "is_whole_within" 2 ["thing","low","high"] zb:=zK ye ["thing","low","high"] T.f_is_whole_within (zy T) (zC (zBL T) rfl zW) (z9 T) T.cl (zz T) (by left)
def Yj(T:Txt K mg):FOk P w K mg base true "greatest_divisor" 1 ["one","other"] y8:=zK wC ["one","other"] T.f_greatest_divisor (zy T) zW (z9 T) T.cl (zz T) (by left)
def uJ(T:Txt K mg):FOk P w K mg base true "whole_power" 1 ["base","exponent"] jj:=zK ZB ["base","exponent","power","step"] T.f_whole_power (zy T) zW (z9 T) T.cl (zz T) (by left)
def zBM(T:Txt K mg):FOk P w K mg base true "share_of" 2 ["top","bottom"] Jz:=zK ur ["top","bottom","divisor"] T.f_share_of (zy T) (zC (Yj T) rfl zW) (z9 T) T.cl (zz T) (by left)
def vY(T:Txt K mg):FOk P w K mg base true "die_good" 3 ["thing"] wV:=zK ut ["thing"] T.f_die_good (zy T) (zC (jH T) rfl zW) (z9 T) T.cl (zz T) (by left)
def zBN(T:Txt K mg):FOk P w K mg base true "need_die" 4 ["thing"] J0:=zK uu ["thing"] T.f_need_die (zy T) (zC (vY T) rfl zW) (z9 T) T.cl (zz T) (by left)
def yK(T:Txt K mg):FOk P w K mg base true "need_number" 3 ["thing","low","high"] zV:=zK ZC ["thing","low","high"] T.f_need_number (zy T) (zC (jH T) rfl zW) (z9 T) T.cl (zz T) (by left)
def Gw(T:Txt K mg):FOk P w K mg base true "need_signs" 4 ["thing"] wD:=zK WA ["thing"] T.f_need_signs (zy T) (zC (yK T) rfl zW) (z9 T) T.cl (zz T) (by left)
def WM(T:Txt K mg):FOk P w K mg base true "need_sign" 4 ["thing","signs"] jP:=zK vR ["thing","signs"] T.f_need_sign (zy T) (zC (yK T) rfl zW) (z9 T) T.cl (zz T) (by left)
def Gy(T:Txt K mg):FOk P w K mg base true "weigh_upto" 1 ["weight","others","n","k"] wE:=zK WB ["weight","others","n","k","ends","throw"] T.f_weigh_upto (zy T) zW (z9 T) T.cl (zz T) (by left)
def uK(T:Txt K mg):FOk P w K mg base true "need_thrown" 5 ["die","sign","n"] jk:=zK ZD ["die","sign","n"] T.f_need_thrown (zy T) (zC (yK T) rfl (zC (WM T) rfl (zC (zBN T) rfl zW))) (z9 T) T.cl (zz T) (by left)
def WX(T:Txt K mg):FOk P w K mg base true "others_weight" 1 ["die","sign"] y9:=zK Jf ["die","sign"] T.f_others_weight (zy T) zW (z9 T) T.cl (zz T) (by left)
def Jm(T:Txt K mg):FOk P w K mg base true "share_in_all" 3 ["die","n","weight"] yY:=zK YI ["die","n","weight"] T.f_share_in_all (zy T) (zC (zBM T) rfl (zC (uJ T) rfl zW)) (z9 T) T.cl (zz T) (by left)
def Gz(T:Txt K mg):FOk P w K mg base true "share_upto" 6 ["die","sign","n","k"] jY:=zK WC ["die","sign","n","k"] T.f_share_upto (zy T) (zC (Jm T) rfl (zC (Gy T) rfl (zC (WX T) rfl (zC (yK T) rfl (zC (uK T) rfl zW))))) (z9 T) T.cl (zz T) (by left)
def JC(T:Txt K mg):FOk P w K mg base true "all_within" 3 ["thing","high"] yQ:=zK WD ["thing","high"] T.f_all_within (zy T) (zC (jH T) rfl zW) (z9 T) T.cl (zz T) (by left)
def G0(T:Txt K mg):FOk P w K mg base true "steps_good" 4 ["thing"] wF:=zK WE ["thing","signs"] T.f_steps_good (zy T) (zC (JC T) rfl zW) (z9 T) T.cl (zz T) (by left)
def WY(T:Txt K mg):FOk P w K mg base true "rising_stands" 4 ["thing","many"] jA:=zK Jg ["thing","many"] T.f_rising_stands (zy T) (zC (JC T) rfl zW) (z9 T) T.cl (zz T) (by left)
def Jn(T:Txt K mg):FOk P w K mg base true "machine_good" 5 ["thing"] yJ:=zK YJ ["thing","steps","good"] T.f_machine_good (zy T) (zC (WY T) rfl (zC (G0 T) rfl zW)) (z9 T) T.cl (zz T) (by left)
def yN(T:Txt K mg):FOk P w K mg base true "need_machine" 6 ["thing"] zN:=zK YK ["thing"] T.f_need_machine (zy T) (zC (Jn T) rfl zW) (z9 T) T.cl (zz T) (by left)
def yh(T:Txt K mg):FOk P w K mg base true "signs_read" 1 ["machine"] zS:=zK WF ["machine"] T.f_signs_read (zy T) zW (z9 T) T.cl (zz T) (by left)
def ZJ(T:Txt K mg):FOk P w K mg base true "need_alike" 7 ["one","other"] yz:=zK WG ["one","other"] T.f_need_alike (zy T) (zC (yh T) rfl (zC (yN T) rfl zW)) (z9 T) T.cl (zz T) (by left)
def zAE(T:Txt K mg):FOk P w K mg base true "stands_of" 7 ["machine","row"] ww:=zK vU ["machine","row","steps","good","stands","sign"] T.f_stands_of (zy T) (zC (JC T) rfl (zC (yh T) rfl (zC (yN T) rfl zW))) (z9 T) T.cl (zz T) (by left)
def zCR(T:Txt K mg):FOk P w K mg base true "takes" 8 ["machine","row"] yi:=zK zFM ["machine","row"] T.f_takes (zy T) (zC (zAE T) rfl zW) (z9 T) T.cl (zz T) (by left)
def YO(T:Txt K mg):FOk P w K mg base true "weigh_taken" 1 ["machine","weights","n"] yg:=zK ZF ["machine","weights","n","steps","good","ends","throw","grown","row","end","weight","stand"] T.f_weigh_taken (zy T) zW (z9 T) T.cl (zz T) (by left)
def ZK(T:Txt K mg):FOk P w K mg base true "taken_many" 7 ["machine","n"] zw:=zK WH ["machine","n"] T.f_taken_many (zy T) (zC (YO T) rfl (zC (yh T) rfl (zC (yK T) rfl (zC (yN T) rfl zW)))) (z9 T) T.cl (zz T) (by left)
def uL(T:Txt K mg):FOk P w K mg base true "taken_share" 7 ["machine","die","n"] jC:=zK ZG ["machine","die","n"] T.f_taken_share (zy T) (zC (Jm T) rfl (zC (YO T) rfl (zC (yK T) rfl (zC (yh T) rfl (zC (vY T) rfl (zC (yN T) rfl zW)))))) (z9 T) T.cl (zz T) (by left)
def uM(T:Txt K mg):FOk P w K mg base true "run_machine" 5 ["m","sign","k"] jl:=zK ZH ["m","sign","k","steps"] T.f_run_machine (zy T) (zC (yK T) rfl (zC (WM T) rfl (zC (Gw T) rfl zW))) (z9 T) T.cl (zz T) (by left)
def vZ(T:Txt K mg):FOk P w K mg base true "contrary" 7 ["machine"] jp:=zK uv ["machine","steps","good"] T.f_contrary (zy T) (zC (yN T) rfl zW) (z9 T) T.cl (zz T) (by left)
def YQ(T:Txt K mg):FOk P w K mg base true "pair_behind" 1 ["one","other","pair","sign"] yV:=zK ZI ["one","other","pair","sign"] T.f_pair_behind (zy T) zW (z9 T) T.cl (zz T) (by left)
def WN(T:Txt K mg):FOk P w K mg base true "met_pairs" 2 ["one","other"] yq:=zK vW ["one","other","rows","pairs","at","pair","sign","behind"] T.f_met_pairs (zy T) (zC (YQ T) rfl (zC (yh T) rfl zW)) (z9 T) T.cl (zz T) (by left)
def WO(T:Txt K mg):FOk P w K mg base true "good_many" 1 ["one","other","pair"] yr:=zK vX ["one","other","pair"] T.f_good_many (zy T) zW (z9 T) T.cl (zz T) (by left)
def zAF(T:Txt K mg):FOk P w K mg base true "joined" 8 ["one","other","wanted"] jm:=zK zCO ["one","other","wanted","pairs","numbers","steps","good"] T.f_joined (zy T) (zC (WO T) rfl (zC (yh T) rfl (zC (YQ T) rfl (zC (WN T) rfl (zC (ZJ T) rfl zW))))) (z9 T) T.cl (zz T) (by left)
def zFP(T:Txt K mg):FOk P w K mg base true "both" 9 ["one","other"] uw:=zK zI7 ["one","other"] T.f_both (zy T) (zC (zAF T) rfl zW) (z9 T) T.cl (zz T) (by left)
def zFQ(T:Txt K mg):FOk P w K mg base true "either" 9 ["one","other"] Wl:=zK zCP ["one","other"] T.f_either (zy T) (zC (zAF T) rfl zW) (z9 T) T.cl (zz T) (by left)
def vb(T:Txt K mg):FOk P w K mg base true "first_alikes" 1 ["machine"] jU:=zK YL ["machine","steps","good","alikes","many","marks"] T.f_first_alikes (zy T) zW (z9 T) T.cl (zz T) (by left)
def zCS(T:Txt K mg):FOk P w K mg base true "least" 10 ["machine"] wO:=zK zFO ["machine","steps","good","alikes","thinned"] T.f_least (zy T) (zC (zFP T) rfl (zC (vb T) rfl (zC (yN T) rfl zW))) (z9 T) T.cl (zz T) (by left)
def uy(T:Txt K mg):FOk P w K mg base true "parting" 8 ["one","other"] jF:=zK zAD ["one","other","rows","pair"] T.f_parting (zy T) (zC (WO T) rfl (zC (WN T) rfl (zC (ZJ T) rfl zW))) (z9 T) T.cl (zz T) (by left)
def vc(T:Txt K mg):FOk P w K mg base true "_law_cell_at" 1 ["_law_script","_law_k"] yk:=zK wP ["_law_script","_law_k"] T.f__law_cell_at (zy T) zW (z9 T) T.cl (zz T) (by left)
def zAG(T:Txt K mg):FOk P w K mg base true "_law_next" 1 ["_law_seed"] wy:=zK Yh ["_law_seed"] T.f__law_next (zy T) zW (z9 T) T.cl (zz T) (by left)
def uN(T:Txt K mg):FOk P w K mg base true "_law_pen_of" 1 ["_law_cell"] jG:=zK wz ["_law_cell","_law_left"] T.f__law_pen_of (zy T) zW (z9 T) T.cl (zz T) (by left)
def WP(T:Txt K mg):FOk P w K mg base true "_law_draw" 2 ["_law_pen","_law_many"] zT:=zK JA ["_law_pen","_law_many","_law_found"] T.f__law_draw (zy T) (zC (zAG T) rfl zW) (z9 T) T.cl (zz T) (by left)
def G3(T:Txt K mg):FOk P w K mg base true "_law_share" 1 ["_law_top","_law_bottom"] wH:=zK WK ["_law_top","_law_bottom","_law_one","_law_other"] T.f__law_share (zy T) zW (z9 T) T.cl (zz T) (by left)
def zBO(T:Txt K mg):FOk P w K mg base true "_law_add" 2 ["_law_one","_law_other"] wW:=zK ux ["_law_one","_law_other"] T.f__law_add (zy T) (zC (G3 T) rfl zW) (z9 T) T.cl (zz T) (by left)
def ZL(T:Txt K mg):FOk P w K mg base true "_law_machine_by" 3 ["_law_pen","_law_most"] yM:=zK wX ["_law_pen","_law_most","_law_signs","_law_many","_law_way","_law_steps","_law_stand","_law_line"] T.f__law_machine_by (zy T) (zC (WP T) rfl zW) (z9 T) T.cl (zz T) (by left)
def Zg(T:Txt K mg):FOk P w K mg base true "_law_two_right" 11 ["_law_one","_law_other","_law_row","_law_n"] yX:=zK JO ["_law_one","_law_other","_law_row","_law_n","_law_two","_law_some","_law_part"] T.f__law_two_right (zy T) (zC (zCS T) rfl (zC (zCR T) rfl (zC (uy T) rfl (zC (ZK T) rfl (zC (vZ T) rfl (zC (Jn T) rfl (zC (zFP T) rfl (zC (zFQ T) rfl zW)))))))) (z9 T) T.cl (zz T) (by left)
def Yk(T:Txt K mg):FOk P w K mg base true "_law_least_right" 11 ["_law_one","_law_row","_law_n"] yZ:=zK wI ["_law_one","_law_row","_law_n","_law_few"] T.f__law_least_right (zy T) (zC (uy T) rfl (zC (zCS T) rfl (zC (ZK T) rfl (zC (zCR T) rfl zW)))) (z9 T) T.cl (zz T) (by left)
end
def law_fd{P:Lc}{w:Le}{K:qH}{g:Str->Lx Lv}{i:Lz}(h:g "law"=some (.ref i))(T:Txt K g):∃c:FuncData,(∀(s:La) (u:Lv),BindsTo s c ⟨[u],[]⟩ [("_law_script",u)])/\∀base:Heap,FnOk P w K g base (CXx P w) 40 i c ["_law_script"] (spM K g 1 m_law):=by
 obtain⟨a,c,l,F,p⟩:=T.f_law;have e:=h.symm.trans l;cases e;refine⟨c,?_,λbase=>(def_atB (P:=P) (w:=w) (base:=base) (fs:=WL) (lv:=11) t_law ["_law_script","_law_cell","_law_pen","_law_one","_law_other","_law_signs","_law_row","_law_n","_law_die","_law_sign","_law_k","_law_run_share"] F (zy T) (zC (zBO T) rfl (zC (Gz T) rfl (zC (uL T) rfl (zC (uM T) rfl (zC (WP T) rfl (zC (Yk T) rfl (zC (Zg T) rfl (zC (vZ T) rfl (zC (ZL T) rfl (zC (uN T) rfl (zC (vc T) rfl zW))))))))))) (z9 T) T.cl (zz T) (by left)).mono (by decide)⟩;obtain⟨x,q,kV,n,t,r,o,y,j,rfl,v,k⟩:=F.ex;exact λs u=>.of_eq rfl
end My
namespace DV
open PySem L2
section
variable{fs:Ls FI}{E E1 E2 E3:zU}
def x_c:dE fs (.c d) E=.ok (.v d,E):=by dsimp[rE_c,eC]
def vd:dE fs (.gl d) E=.ok (.v d,E):=by dsimp[rE_gl,eC]
def zA(h:E[i]?=some (.v d)):dE fs (.x i) E=.ok (.v d,E):=by dsimp[ZA,zC5,h]
def ZM(h:E[i]?=some (.w ds))(h':E.set i (.v (.l ds))=E1):dE fs (.x i) E=.ok (.v (.l ds),E1):=by dsimp[ZA,Q6,zC5,h,h']
def x_movO(h:E[i]?=some (.w ds))(h':E.set i .e=E1):dE fs (.mov i) E=.ok (.w ds,E1):=by dsimp[zIw,zC8,h,h']
def zu(c:dE fs a E=.ok (r1,E1))(e:dE fs b E1=.ok (r2,E2))(g:o.f r1.d r2.d=some r):dE fs (.bin o a b) E=.ok (r,E2):=by dsimp[Q4,Y1,c,e,g]
def zj(c:dE fs a E=.ok (r1,E1))(e:dE fs b E1=.ok (r2,E2))(g:o.f r1.d r2.d=some r):dE fs (.cmp o a b) E=.ok (r,E2):=by dsimp[Q5,Y1,c,e,g]
def JQ(c:dE fs a E=.ok (r1,E1))(e:dE fs b E1=.ok (r2,E2))(g:ixD r1.d r2.d=some r):dE fs (.ix a b) E=.ok (r,E2):=by dsimp[rE_ix,Y1,c,e,g]
def jZ{as:_}(a:dA fs as E=.ok (rs,E1))(c:b.f (rs.map R.d)=some r):dE fs (.cB b as) E=.ok (r,E1):=by dsimp[rE_cB,eCB,a,c]
def jb{as:_}(a:dA fs as E=.ok (rs,E1))(c:rs.map R.d=ds)(e:ds.length<=cap):dE fs (.t as) E=.ok (.v (.t ds),E1):=by
 subst c;dsimp[rE_tup,zEB,eCB,a];rw[if_pos e]
def Zh{as:_}(a:dA fs as E=.ok (rs,E1))(c:rs.map R.d=ds)(e:ds.length<=cap):dE fs (.l as) E=.ok (.w ds,E1):=by
 subst c;dsimp[Q6,zEC,eCB,a];rw[if_pos e]
def x_sl(c:dE fs a E=.ok (r,E1))(e:dO fs l E1=.ok (lo,E2))(g:dO fs u E2=.ok (hi,E3))(h:slD r.d lo hi=some r'):dE fs (.sl a l u) E=.ok (r',E3):=by dsimp[rE_sl,eSl,c,e,g,h]
def zZ(g:fiF fs k=F)(c:dE fs a E=.ok (r,E1))(e:F [.v r.d]=.ok (r',[o])):dE fs (.call k (.ev a .nil)) E=.ok (r',E1):=by
 subst g;dsimp[wN,uD,JI,wm,yI,c,zR,e,zO]
def zP(h:fiF fs k=F)(e:dE fs a E=.ok (r,E1))(c:dE fs b E1=.ok (r2,E2))(g:F [.v r.d,.v r2.d]=.ok (r',[o,o2])):dE fs (.call k (.ev a (.ev b .nil))) E=.ok (r',E2):=by
 subst h;dsimp[wN,uD,JI,wm,yI,e,c,zR,g,zO]
def Zi(e:dE fs a E=.ok (.v (.int i),E1))(n:dE fs b E1=.ok (.v (.int j),E2))(h:o.b i j=true)(g:dE fs c E2=.ok (.v (.int k),E3))(l:o'.b j k=v):dE fs (.chain o o' a b c) E=.ok (.v (.bl v),E3):=by
 subst l;dsimp[Wj,jx,e,n,g];rw[if_pos h]
def G4(e:dE fs a E=.ok (.v (.int i),E1))(g:dE fs b E1=.ok (.v (.int j),E2))(h:o.b i j=false):dE fs (.chain o o' a b c) E=.ok (.v (.bl false),E2):=by
 dsimp[Wj,jx,e,g];rw[if_neg (by rw[h];decide)]
def J1(j:fiF fs k=F)(c:E[i]?=some (.w p))(e:dE fs a E=.ok (r,E))(l:F [.p p,.v r.d]=.ok (r',[.p p',o]))(h:E.set i (.w p')=E1):dE fs (.call k (.lend i (.ev a .nil))) E=.ok (r',E1):=by
 subst j h;have n:i<E.length:=(qG.mp c).1;have g:(E.set i .e)[i]?=some .e:=by simp[n]
 dsimp[wN,uD,zFA,JI,wm,yI,c,jw,Bool.false_eq_true,if_false,e,zR,Slot.list?,l,zO,g,Slot.put,List.set_set]
def yD(i:fiF fs k=F)(h:dE fs a E=.ok (r,E1))(g:dE fs b E1=.ok (r2,E2))(e:dE fs c E2=.ok (r3,E3))(j:F [.v r.d,.v r2.d,.v r3.d]=.ok (r',[o,o2,o3])):dE fs (.call k (.ev a (.ev b (.ev c .nil)))) E=.ok (r',E3):=by
 subst i;dsimp[wN,uD,JI,wm,yI,h,g,e,zR,j,zO]
def zp(h:body (ss++replicate (n-ss.length) .e)=.ok (.ret r,E1))(a:yC ss E1=o):fnM n body ss=.ok (r,o):=by
 subst a;dsimp[fnM,h]
def f_nx(h:body (ss++replicate (n-ss.length) .e)=.ok (.nx,E1))(a:yC ss E1=o):fnM n body ss=.ok (.v .non,o):=by
 subst a;dsimp[fnM,h]
def zG:dA fs .nil E=.ok ([],E):=by dsimp[vO,zEA]
def zB{a as:_}(c:dE fs a E=.ok (r,E1))(e:dA fs as E1=.ok (rs,E2)):dA fs (.cons a as) E=.ok (r::rs,E2):=by dsimp[zBB,ZY,c,e]
def o_N:dO fs .oN E=.ok (none,E):=by dsimp[rO_oN,zGj]
def o_S(h:dE fs a E=.ok (.v (.int i),E1)):dO fs (.oS a) E=.ok (some i,E1):=by dsimp[rO_oS,zEK,h]
def t_E(h:dE fs a E=.ok (.v (.bl b),E1)):dT fs (.tE a) E=.ok (b,E1):=by dsimp[Q7,tT,h]
def zDI(e:dT fs a E=.ok (false,E1))(g:dT fs b E1=.ok (c,E2)):dT fs (.tOr a b) E=.ok (c,E2):=by dsimp[zE9,zBt,e,g]
def t_orT(c:dT fs a E=.ok (true,E1)):dT fs (.tOr a b) E=.ok (true,E1):=by dsimp[zE9,zBt,c]
def jn(e:dT fs a E=.ok (b,E1))(g:(!b)=c):dT fs (.tNot a) E=.ok (c,E1):=by subst g;dsimp[zBA,ZX,e]
def yE(c:dE fs a E=.ok (r,E1))(e:Wc i r E1=.ok E2):dS fs (.sSet i a) E=.ok (.nx,E2):=by dsimp[vP,sSet,c,e]
def yl(c:dT fs t E=.ok (false,E1))(e:dB fs b E1=o):dS fs (.sIf t a b) E=o:=by subst e;dsimp[Q8,sIf,c]
def Jo(c:dT fs t E=.ok (true,E1))(e:dB fs a E1=o):dS fs (.sIf t a b) E=o:=by subst e;dsimp[Q8,sIf,c]
def zn(c:dE fs a E=.ok (r,E1)):dS fs (.sRet a) E=.ok (.ret r,E1):=by dsimp[Ja,sRet,c]
def ym(c:dE fs a E=.ok (r,E1)):dS fs (.sDrop a) E=.ok (.nx,E1):=by dsimp[zHV,sDrop,c]
def zDJ(c:dE fs a E=.ok (r,E1))(e:gT is r.d E1=.ok E2):dS fs (.sTup is a) E=.ok (.nx,E2):=by dsimp[rS_sTup,sTup,c,e]
def zBP{as:_}(a:dA fs as E=.ok ([r1,r2],E1))(c:gNs [i,j] [r1.d,r2.d] E1=.ok E2):dS fs (.sPar i j as) E=.ok (.nx,E2):=by dsimp[rS_sPar,sPar,a,c]
def s_forL(c:dE fs a E=.ok (r,E1))(e:r.d=.l ds)(g:Yn tg.m (dB fs b) ds E1=.ok p):dS fs (.sForL a tg b) E=.ok p:=by dsimp[zHX];exact vN (by dsimp[sForL,c,e,g])
def s_forT(c:dE fs a E=.ok (r,E1))(e:r.d=.t ds)(g:Yn tg.m (dB fs b) ds E1=.ok p):dS fs (.sForT a tg b) E=.ok p:=by dsimp[zHZ];exact vN (by dsimp[sForT,c,e,g])
def Zj(c:dA fs a E=.ok ([r],E1))(e:r.d=.int j)(h:-1000000<=j/\j<=1000000)(g:Yn tg.m (dB fs b) (zI 0 j.toNat) E1=.ok p):dS fs (.sForR1 a tg b) E=.ok p:=by
 dsimp[zFC];refine vN ?_;dsimp[sForR1,c,e];rw[if_pos ⟨by omega,by omega⟩,g]
def i_L(c:dE fs a E=.ok (r,E1))(e:r.d=.l ds):dI fs (.iL a) E=.ok (ds,E1):=by dsimp[rI_iL,iL,c,e]
def i_T(c:dE fs a E=.ok (r,E1))(e:r.d=.t ds):dI fs (.iT a) E=.ok (ds,E1):=by dsimp[rI_iT,iT,c,e]
def zHh(c:dA fs a E=.ok ([r],E1))(e:r.d=.int j)(g:-1000000<=j/\j<=1000000):dI fs (.iR1 a) E=.ok (zI 0 j.toNat,E1):=by
 dsimp[rI_iR1,iR1,c,e];rw[if_pos ⟨by omega,by omega⟩]
def yn:dB fs .bNil E=.ok (.nx,E):=by dsimp[Gm,zEL]
def zQ(h:dS fs s E=o):dB fs (.o s) E=o:=by dsimp[Jb,h]
def zH(h:dS fs s E=.ok (.nx,E1))(a:dB fs b E1=o):dB fs (.s s b) E=o:=by dsimp[YZ,zBx,h,a]
def Zk(h:dS fs s E=.ok (.ret r,E1)):dB fs (.s s b) E=.ok (.ret r,E1):=by dsimp[YZ,zBx,h]
def yO:[d].length<=cap:=by dsimp[length_singleton,cap];omega
def zBQ:([]:Ls D).length<=cap:=by dsimp[length_nil,cap];omega
def yu:[d,e].length<=cap:=by dsimp[length_cons,length_nil,cap];omega
def uz{nl:Nat}{xs ys:Ls Str}{caps:Ls Nat}{it tt el:_}{tg:Tg}{ds rs:Ls D}{vs:Ls D}(a:D->Ls DV.Slot)(f:D->Bool)(g:D->D)(hi:dI fs it E=.ok (ds,E1))(c:JP E1 caps=.ok (vs.map AR.tmp))
  (h:∀d∈ds,∀S:Ls DV.Slot,S.length=nl->(∀s∈S,yd s=true)->tg.m d (S++vs.map Slot.v)=.ok (a d++vs.map Slot.v))
  (l:∀d∈ds,(a d).length=nl/\∀s∈a d,yd s=true)
  (k:∀d∈ds,dT fs tt (a d++vs.map Slot.v)=.ok (f d,a d++vs.map Slot.v))
  (i:∀d∈ds,f d=true->∃r,dE fs el (a d++vs.map Slot.v)=.ok (r,a d++vs.map Slot.v)/\r.d=g d) (j:ds.length<=cap) (e:(ds.filter f).map g=rs):dE fs (.comp nl xs ys caps it tg tt el) E=.ok (.w rs,E1):=by
 subst e;exact zA8 <| zHe a f g ds h l k i j hi c
def yw{xs ys:Ls Str}{caps:Ls Nat}{it el:_}{ds rs:Ls D}{vs:Ls D}(g:D->D)(hi:dI fs it E=.ok (ds,E1))(a:JP E1 caps=.ok (vs.map AR.tmp))
  (k:∀d∈ds,∃r,dE fs el (.v d::vs.map Slot.v)=.ok (r,.v d::vs.map Slot.v)/\r.d=g d) (j:ds.length<=cap) (e:ds.map g=rs):dE fs (.comp 1 xs ys caps it (.n 0) .tTr el) E=.ok (.w rs,E1):=by
 refine uz (λd=>[.v d]) (λ_=>true) g hi a (λd hd S h i=>zFK h i) (λd hd=>⟨rfl,λs c=>?_⟩) (λd hd=>?_) (λd hd _=>k d hd) j ?_
 ·rw[mem_singleton]at c;subst c;rfl
 ·dsimp[uo,Gc]
 ·rw[List.filter_eq_self.mpr (λ_ _=>rfl),e]
end
end DV
namespace SM
open PySem L2 DV
def wQ(w o k:Nat):Nat->Ls Nat
 |0=>1::replicate k 0|n+1=>(o*(wQ w o k n).sum)::((wQ w o k n).dropLast.map (w*·))
def U(w o k n:Nat):Nat:=(wQ w o k n).sum
theorem Wm(w o k:Nat):∀n,(wQ w o k n).length=k+1
 |0=>by simp[wQ]|n+1=>by simp[wQ,Wm w o k n]
def F(w o k m:Nat):Lk
 |0=>0|r+1=>F w o k m r+w^r*o*U w o k (m-1-r)
def fE(w o k n j:Nat):Nat:=if j<n then w^j*o*U w o k (n-1-j)else if j=n then w^n else 0
theorem G5(w o k:Nat):∀n,wQ w o k n=(List.range (k+1)).map (fE w o k n)
 |0=>by
  rw[range_succ_eq_map,map_cons,map_map];dsimp[wQ];congr 1;refine(List.eq_replicate_iff.mpr ⟨by simp,λb g=>?_⟩).symm;simp at g;obtain⟨a,_,rfl⟩:=g;simp[fE]
 |n+1=>by
  have h:=G5 w o k n;have e:(wQ w o k n).dropLast=(List.range k).map (fE w o k n):=by
   rw[h,range_succ,map_append,List.map_singleton,List.dropLast_concat]
  rw[range_succ_eq_map,map_cons,map_map];dsimp[wQ];rw[e,map_map];congr 1
  ·simp[fE,U]
  ·refine map_congr_left λj _=>?_
   dsimp[Function.comp,fE];by_cases c:j<n
   ·rw[if_pos c,if_pos (by omega),show n+1-1-(j+1)=n-1-j by omega,pow_succ]
    rw[<- mul_assoc,<- mul_assoc,mul_comm w]
   ·by_cases h2:j=n
    ·subst h2;simp[pow_succ,mul_comm]
    ·simp[c,h2]
def rsum(f:Lk)(n:Nat):((List.range (n+1)).map f).sum=((List.range n).map f).sum+f n:=by
 rw[range_succ,map_append,List.sum_append];simp
theorem zBR(w:Nat):∀l:Ls Nat,(l.map (w*·)).sum=w*l.sum
 | []=>by simp|a::l=>by simp[zBR w l,mul_add]
theorem zCT:∀l:Ls Nat,l.dropLast.sum<=l.sum
 | []=>by simp| [a]=>by simp
 |a::b::l=>by
  have:=zCT (b::l);dsimp[List.dropLast_cons₂,sum_cons]at this ⊢;omega
def U_succ(w o k n:Nat):U w o k (n+1)<=(w+o)*U w o k n:=by
 unfold U;dsimp[wQ,sum_cons,zBR];have:=zCT (wQ w o k n);have h:=Nat.mul_le_mul_left w this;rw[add_mul];omega
theorem U_le(w o k:Nat):∀n,U w o k n<=(w+o)^n
 |0=>by simp[U,wQ]
 |n+1=>by
  have a:=U_succ w o k n;have h2:=Nat.mul_le_mul_left (w+o) (U_le w o k n);rw[pow_succ,mul_comm ((w+o)^n)];omega
def dot:Ls Nat->(Lk)->Nat
 | [],_=>0|e::es,g=>e*g 0+dot es λj=>g (j+1)
def Jp(m:Nat):Nat->Ls (Ls Nat)
 |0=>[[]]|n+1=>(Jp m n).flatMap λr=>(List.range m).map λx=>r++[x]
def wt(die:Ls Nat)(c:Ls Nat):Nat:=c.foldl (λa x=>a*die.getD x 0) 1
theorem GB(p:Ls Nat->Bool)(f:Ls Nat->Nat):∀l:Ls (Ls Nat),((l.filter p).map f).sum=(l.map λx=>if p x=true then f x else 0).sum
 | []=>rfl
 |a::l=>by
  rw[filter_cons];by_cases h:p a=true<;>simp[h,GB p f l]
theorem zCU(g:Ls Nat->Nat)(f:Ls Nat->Ls (Ls Nat)):∀l:Ls (Ls Nat),((l.flatMap f).map g).sum=(l.map λx=>((f x).map g).sum).sum
 | []=>rfl|a::l=>by simp[List.flatMap_cons,zCU g f l]
def Die(die:Ls Nat):Prop:=(die.length=2\/die.length=3)/\∀x∈die,1<=x/\x<=9
def red(t u B b:Nat)(G:0<B)(C:0<b)(h:t*b=u*B):t/t.gcd B=u/u.gcd b/\B/t.gcd B=b/u.gcd b:=by
 have i:0<t.gcd B:=Nat.gcd_pos_of_pos_right _ G;have j:0<u.gcd b:=Nat.gcd_pos_of_pos_right _ C;have E:=Nat.coprime_div_gcd_div_gcd (m:=t) (n:=B) i;have o:=Nat.coprime_div_gcd_div_gcd (m:=u) (n:=b) j;have q:t=t.gcd B*(t/t.gcd B):=(Nat.mul_div_cancel' (Nat.gcd_dvd_left t B)).symm;have B1:B=t.gcd B*(B/t.gcd B):=(Nat.mul_div_cancel' (gcd_dvd_right t B)).symm;have w:u=u.gcd b*(u/u.gcd b):=(Nat.mul_div_cancel' (Nat.gcd_dvd_left u b)).symm;have r:b=u.gcd b*(b/u.gcd b):=(Nat.mul_div_cancel' (gcd_dvd_right u b)).symm;generalize t.gcd B=g at *;generalize u.gcd b=k at *;generalize t/g=x at *;generalize B/g=y at *;generalize u/k=z at *;generalize b/k=v at *;have e:x*v=z*y:=by
  have:(g*k)*(x*v)=(g*k)*(z*y):=by
   calc (g*k)*(x*v)=(g*x)*(k*v):=by grind
    _=t*b:=by rw[<- q,<- r]
    _=u*B:=h
    _=(k*z)*(g*y):=by rw[<- w,<- B1]
    _=(g*k)*(z*y):=by grind
  exact Nat.eq_of_mul_eq_mul_left (mul_pos i j) this
 have D:y∣v:=E.symm.dvd_of_dvd_mul_left ⟨z,by rw[e,mul_comm]⟩;have p:v∣y:=o.symm.dvd_of_dvd_mul_left ⟨x,by rw[<- e,mul_comm]⟩;have c:y=v:=Nat.dvd_antisymm D p;refine⟨?_,c⟩;subst c;have l:0<y:=by
  rcases Nat.eq_zero_or_pos y with a|a
  ·rw[a,Nat.mul_zero]at B1;omega
  ·exact a
 exact Nat.eq_of_mul_eq_mul_right l e
def zDK(t:Int)(b:Nat):Int:=t/(t.natAbs.gcd b:Nat)
def zBS(t:Int)(b:Nat):Nat:=b/t.natAbs.gcd b
def nrm(t:Int)(b:Nat):D:=.t [.int (zDK t b),.int (zBS t b:Nat)]
def vf(n b:Nat):zDK (n:Int) b=((n/n.gcd b:Nat):Int):=by
 simp[zDK]
def nrm_eq{T W:Int}{B b:Nat}(w:0<B)(v:0<b)(h:T*b=W*B):nrm T B=nrm W b:=by
 have l:T.natAbs*b=W.natAbs*B:=by
  have:=congrArg Int.natAbs h;simpa[Int.natAbs_mul]using this
 obtain⟨g,r⟩:=red T.natAbs W.natAbs B b w v l;have t:zBS T B=zBS W b:=r;have k:zDK T B=zDK W b:=by
  by_cases c:0<=T
  ·have i:0<=W:=by
    have e:0<=T*b:=Int.mul_nonneg c (by omega);rw[h]at e;exact Int.nonneg_of_mul_nonneg_left e (by omega)
   obtain⟨n,rfl⟩:=Int.eq_ofNat_of_zero_le c;obtain⟨m,rfl⟩:=Int.eq_ofNat_of_zero_le i;rw[vf,vf];dsimp[Int.natAbs_natCast]at g;rw[g]
  ·have i:¬0<=W:=λq=>by
    have e:0<=W*B:=Int.mul_nonneg q (by omega);rw[<- h]at e;exact c (Int.nonneg_of_mul_nonneg_left e (by omega))
   obtain⟨n,p⟩:=Int.eq_ofNat_of_zero_le (a:=-T) (by omega);obtain⟨m,o⟩:=Int.eq_ofNat_of_zero_le (a:=-W) (by omega);have u:T=-(n:Int):=by omega
   have j:W=-(m:Int):=by omega
   subst u;subst j;dsimp[Int.natAbs_neg,Int.natAbs_natCast]at g;have f:∀n b:Nat,zDK (-(n:Int)) b=-((n/n.gcd b:Nat):Int):=λn b=>by
    unfold zDK;rw[Int.natAbs_neg,Int.natAbs_natCast,Int.neg_ediv_of_dvd (by exact_mod_cast Nat.gcd_dvd_left n b)];simp
   rw[f,f,g]
 unfold nrm;rw[k,t]
theorem G6{c:MT}{bd:MS}(mk:Nat->Nat->zU)(g:∀a b,c (mk a b)=.ok (decide (b≠0),mk a b))(l:∀a b,b≠0->bd (mk a b)=.ok (.nx,mk b (a%b))) :
  ∀(k n a b:Nat),b<2^k->2*k+1<=n->whN c bd n (mk a b)=.ok (.nx,mk (a.gcd b) 0)
 |0,n,a,b,h,o=>by
  have:b=0:=by omega
  subst this;obtain⟨m,rfl⟩:∃m,n=m+1:=⟨n-1,by omega⟩;dsimp[whN,g,ne_eq,not_true_eq_false,decide_false,Nat.gcd_zero_right]
 |k+1,n,a,b,h,o=>by
  obtain⟨m,rfl⟩:∃m,n=m+2:=⟨n-2,by omega⟩;by_cases i:b=0
  ·subst i
   dsimp[whN,g,ne_eq,not_true_eq_false,decide_false,Nat.gcd_zero_right]
  ·by_cases j:a%b=0
   ·dsimp[whN,g,l a b i,ne_eq,i,not_false_eq_true,decide_true,j,not_true_eq_false,decide_false]
    rw[gcd_comm,gcd_rec,j,Nat.gcd_zero_left]
   ·have lt:a%b<b:=mod_lt _ (by omega)
    have p:b%(a%b)<a%b:=mod_lt _ (by omega);have e:b%(a%b)<2^k:=by
     have:2*(b%(a%b))<b:=by
      by_cases q:2*(a%b)<=b
      ·omega
      ·have:b%(a%b)=b-a%b:=by
        rw[Nat.mod_eq_sub_mod (by omega),Nat.mod_eq_of_lt (by omega)]
       omega
     rw[pow_succ]at h;omega
    have r:=G6 mk g l k m (a%b) (b%(a%b)) e (by omega);dsimp[whN,g,l a b i,l b (a%b) j,ne_eq,i,j,not_false_eq_true,decide_true];rw[r];rw[gcd_comm a b,gcd_rec b a,gcd_comm (a%b) b,gcd_comm (a%b),<- gcd_rec,gcd_comm b]
def tot(es:Ls (Ls Nat)):Nat:=(es.map List.sum).sum
def al(a:Ls Nat)(k:Nat):Nat->Ls (Ls Nat)
 |0=>a.map λw=>w::replicate (k-1) 0|n+1=>zipWith (λw e=>(w*(tot (al a k n)-e.sum))::e.dropLast.map (w*·)) a (al a k n)
def A(a:Ls Nat)(n k:Nat):Nat:=if n=0 then 1 else if k=0 then 0 else tot (al a k (n-1))
def cross(t:Int)(b:Nat):zDK t b*b=t*(zBS t b:Nat):=by
 unfold zDK zBS;have i:((t.natAbs.gcd b:Nat):Int)∣t:=by
  have:=Nat.gcd_dvd_left t.natAbs b;exact Int.ofNat_dvd_left.mpr this
 have h2:t.natAbs.gcd b∣b:=gcd_dvd_right _ _;obtain⟨x,a⟩:=i;obtain⟨y,e⟩:=h2;generalize k:t.natAbs.gcd b=g at *;by_cases c:g=0
 ·subst c
  simp at a e
  subst a;subst e;simp
 ·have h:t/(g:Int)=x:=by rw[a];exact Int.mul_ediv_cancel_left _ (by omega)
  have j:b/g=y:=by rw[e];exact Nat.mul_div_cancel_left _ (by omega)
  rw[h,j,a,e,Int.natCast_mul]
  grind
def zFR(t:Int)(h:0<b):0<zBS t b:=by
 unfold zBS;exact Nat.div_pos (Nat.le_of_dvd h (gcd_dvd_right _ _)) (Nat.gcd_pos_of_pos_right _ h)
def add_nrm{t1 t2 T:Int}{a b2 B:Nat}(g:0<a)(k:0<b2)(n:0<B)(h:(t1*b2+t2*a)*B=T*(a*b2:Nat)) :
  nrm (zDK t1 a*(zBS t2 b2:Nat)+zDK t2 b2*(zBS t1 a:Nat)) (zBS t1 a*zBS t2 b2)=nrm T B:=by
 have l:=cross t1 a;have c:=cross t2 b2;have p:=zFR t1 g;have o:=zFR t2 k;generalize zDK t1 a=x1 at *;generalize zBS t1 a=y1 at *;generalize zDK t2 b2=x2 at *;generalize zBS t2 b2=y2 at *;refine nrm_eq (mul_pos p o) n ?_;rw[Int.natCast_mul]at h ⊢;have i:((a:Int)*b2)≠0:=by
  have:0<(a:Int)*b2:=Int.mul_pos (by omega) (by omega);omega
 apply Int.eq_of_mul_eq_mul_right i;have e:(x1*(y2:Int)+x2*y1)*B*(a*b2)=((x1*a)*b2*y2+(x2*b2)*a*y1)*B:=by grind
 have j:T*((y1:Int)*y2)*(a*b2)=T*(a*b2)*(y1*y2):=by grind
 rw[e,j,l,c,<- h]
 grind
end SM
namespace RM
open PySem L2 DV
abbrev B:=Int×Nat
def tot(q:Ls B):Nat:=(q.map (·.2)).sum
def top(a:Ls Nat):Nat:=a.foldr max 0
end RM
namespace DV
open PySem L2
section
variable{fs:Ls FI}{E E1 E2 E3 E4 E5:zU}
def Yl(j:fiF fs k=F)(h:dE fs a E=.ok (r,E1))(g:dE fs b E1=.ok (r2,E2))(e:dE fs c E2=.ok (r3,E3))(i:dE fs d E3=.ok (r4,E4))(l:F [.v r.d,.v r2.d,.v r3.d,.v r4.d]=.ok (r',[o,o2,o3,o4])):dE fs (.call k (.ev a (.ev b (.ev c (.ev d .nil))))) E=.ok (r',E4):=by
 subst j;dsimp[wN,uD,JI,wm,yI,h,g,e,i,zR,l,zO]
def JD(j:fiF fs k=F)(c:E[i]?=some (.p p))(e:dE fs a E=.ok (r,E))(l:F [.p p,.v r.d]=.ok (r',[.p p',o]))(h:E.set i (.p p')=E1):dE fs (.call k (.lend i (.ev a .nil))) E=.ok (r',E1):=by
 subst j h;have n:i<E.length:=(qG.mp c).1;have g:(E.set i .e)[i]?=some .e:=by simp[n]
 dsimp[wN,uD,zFA,JI,wm,yI,c,jw,Bool.false_eq_true,if_false,e,zR,Slot.list?,l,zO,g,Slot.put,List.set_set]
def x_neg(h:dE fs a E=.ok (.v (.int i),E1)):dE fs (.neg a) E=.ok (.v (.int (-i)),E1):=by dsimp[rE_neg,eNeg,h]
def vg(h:dE fs a E=.ok (.v (.bl true),E1))(c:dE fs b E1=o):dE fs (.and a b) E=o:=by subst c;dsimp[zCG,zBu,h]
def zAH(h:dE fs a E=.ok (.v (.bl false),E1)):dE fs (.and a b) E=.ok (.v (.bl false),E1):=by dsimp[zCG,zBu,h]
def x_is(h:dE fs a E=.ok (r,E1))(c:tyD r.d=some t)(e:Qm t T.s=v):dE fs (.is T a) E=.ok (.v (.bl v),E1):=by subst e;dsimp[rE_is,eIs,h,c]
def zI8(h:dT fs t E=.ok (true,E1))(c:dE fs a E1=o):dE fs (.ifx t a b) E=o:=by subst c;dsimp[zIx,eIf,h]
def zI9(h:dT fs t E=.ok (false,E1))(c:dE fs b E1=o):dE fs (.ifx t a b) E=o:=by subst c;dsimp[zIx,eIf,h]
def x_ixO(h:E[i]?=some (.w ds))(a:dE fs b E=.ok (.v (.int k),E))(c:atI ds k=some d):dE fs (.ixO i b) E=.ok (.v d,E):=by
 dsimp[zCH,zGm,h,jw,Bool.false_eq_true,if_false,a,ixS,c]
def t_and1(c:dT fs a E=.ok (true,E1))(e:dT fs b E1=o):dT fs (.tAnd a b) E=o:=by subst e;dsimp[zA9,Y3,c]
def t_and0(c:dT fs a E=.ok (false,E1)):dT fs (.tAnd a b) E=.ok (false,E1):=by dsimp[zA9,Y3,c]
def i_Z{as:_}(a:dA fs as E=.ok ([r1,r2],E1))(c:zDC t1 r1.d=some ds)(e:zDC t2 r2.d=some es):dI fs (.iZ t1 t2 as) E=.ok (zipWith wU ds es,E1):=by
 dsimp[rI_iZ,iZ,a,c,e]
def zHi(h:E[i]?=some (.w ds0))(e:dE fs a E=.ok (r,E1))(j:E1[i]?=some (.w ds))(c:ds.length<cap)(g:E1.set i (.w (ds++[r.d]))=E2):dS fs (.sApp i a) E=.ok (.nx,E2):=by
 subst g;dsimp[rS_sApp,sApp,h,Slot.list?,e,j,Slot.put];rw[if_pos c]
end
def put_ok(r:R)(h:E[i]?=some s)(a:yd s=true):Wc i r E=.ok (E.set i r.slot):=by
 dsimp[Wc,h];cases s<;>first|rfl|(cases a)
def jz(h:E[i]?=some s)(a:yd s=true)(e:E.set i r.slot=E1):Wc i r E=.ok E1:=by
 rw[put_ok r h a,e]
def ne_int(x y:Int):neG (.int x) (.int y)=some (.v (.bl (!decide (x=y)))):=by simp[neG,neF]
def eq_int(x y:Int):eqG (.int x) (.int y)=some (.v (.bl (decide (x=y)))):=by simp[eqG,eqF]
def eq_str(t:Str):eqG (.str t) (.str t)=some (.v (.bl true)):=by simp[eqG,eqF]
def ne_str(t:Str):neG (.str t) (.str t)=some (.v (.bl false)):=by simp[neG,neF]
def vh(a b:Ls D)(h:a.length+b.length<=100000):Wa (.l a) (.l b)=some (.w (a++b)):=by
 dsimp[Wa];rw[if_pos (by dsimp[cap];omega)]
def zFS(a b:Ls D)(h:a.length+b.length<=100000):Wa (.t a) (.t b)=some (.v (.t (a++b))):=by
 dsimp[Wa];rw[if_pos (by dsimp[cap];omega)]
def zFT(x:D)(k:Nat):(replicate k [x]).flatten=replicate k x:=by
 induction k with
 |zero=>rfl|succ k a=>rw[replicate_succ,flatten_cons,a,replicate_succ];rfl
def Wn(d:D)(n:Nat)(h:n<=1000):uC (.l [d]) (.int n)=some (.w (replicate n d)):=by
 dsimp[uC,uB];rw[if_pos ⟨by omega,by omega,by dsimp[length_singleton,Int.toNat_natCast,cap];omega⟩,Int.toNat_natCast,zFT]
def zHj(d:D)(n:Nat)(h:n<=1000):uB (.t [d]) (.int n)=some (.v (.t (replicate n d))):=by
 dsimp[uB];rw[if_pos ⟨by omega,by omega,by dsimp[length_singleton,Int.toNat_natCast,cap];omega⟩,Int.toNat_natCast,zFT]
def zFU(e:uB x y=some r):uC x y=some r:=by dsimp[uC,e]
def G7(d:D)(n:Nat)(h:n<=1000):uC (.t [d]) (.int n)=some (.v (.t (replicate n d))):=by
 exact zFU (zHj d n h)
def YR{ds:Ls D}{k:Nat}{d:D}(h:ds[k]?=some d):atI ds (k:Int)=some d:=by
 obtain⟨a,e⟩:=qG.mp h;have:(k:Int)<ds.length:=by omega
 simp[atI,ixN,this,h]
def atI_end(ds:Ls D)(d:D):atI (ds++[d]) (-1)=some d:=by
 have a:¬(0:Int)<=-1:=by decide
 have h2:-(((ds++[d]).length:Nat):Int)<=-1:=by simp;omega
 have c:(-1+(((ds++[d]).length:Nat):Int)).toNat=ds.length:=by simp;omega
 unfold atI ixN;rw[if_neg a,if_pos h2,c];simp
def zFV(ds:Ls D)(i:Int):ixD (.l ds) (.int i)=(atI ds i).map .v:=rfl
def zFW(ds:Ls D)(i:Int):ixD (.t ds) (.int i)=(atI ds i).map .v:=rfl
theorem zAI(f:D->Bool):∀a:Ls D,JX (a.map λd=>D.bl (f d))=some (a.map f)
 | []=>rfl|d::a=>by dsimp[map_cons,JX,zAI f a];rfl
theorem all_map(f:D->Bool)(ds:Ls D):(ds.map f).all id=ds.all f:=by simp[List.all_map]
def zAJ{f:D->Bool}{ds:Ls D}{b:Bool}(h:ds.all f=b):allD [.l (ds.map λd=>D.bl (f d))]=some (.v (.bl b)):=by
 subst h;simp[allD,zAI,all_map]
def zHk(ds:Ls D)(k:Nat)(h:k<=ds.length):zAr ds (some (k:Int)) none=ds.drop k:=by
 unfold zAr;rw[HT.sIx_nat];dsimp[HT.sIx];rw[show min k ds.length=k by omega,take_of_length_le (by simp)]
def N(l:Ls Nat):Ls D:=l.map λn:Nat=>D.int (n:Int)
def jo(l:Ls Nat):(N l).length=l.length:=by simp[N]
def J6(h:d∈N l):∃n∈l,d=.int (n:Nat):=by
 obtain⟨n,a,rfl⟩:=mem_map.mp h;exact⟨n,a,rfl⟩
def zDL{l:Ls Nat}{k n:Nat}(h:l[k]?=some n):(N l)[k]?=some (.int (n:Nat)):=by simp[N,h]
def N_app(a b:Ls Nat):N (a++b)=N a++N b:=by simp[N]
def N_rep(k n:Nat):N (replicate k n)=replicate k (.int (n:Nat)):=by simp[N]
def GC(n:Nat):zI 0 n=N (List.range n):=by
 have a:∀n k:Nat,zI (k:Int) n=N (range' k n):=by
  intro n
  induction n with
  |zero=>intro k;rfl
  |succ n c =>
   intro k;have:=c (k+1);show D.int (k:Int)::zI ((k:Int)+1) n=D.int (k:Int)::N (range' (k+1) n);rw[<- this];simp
 rw[List.range_eq_range'];exact a n 0
section
variable{fs:Ls FI}{E E1 E2 E3:zU}
def x_vA(a:s=.w ds\/s=.v (.l ds))(h:E[i]?=some s)(h':E.set i (.v (.l ds))=E1):dE fs (.x i) E=.ok (.v (.l ds),E1):=by
 rcases a with rfl|rfl
 ·exact ZM h h'
 ·rw[zA h]
  have:E.set i (.v (.l ds))=E:=by
   obtain⟨c,e⟩:=qG.mp h;rw[<- e,List.set_getElem_self]
  rw[<- h',this]
def zCV(a:dI fs it E=.ok (ds,E1))(c:Yn tg.m (dB fs b) ds E1=.ok p):dS fs (.sForI it tg b) E=.ok p:=by
 dsimp[zHY,zEo,a,sForI,c]
def i_E{as:_}(a:dA fs as E=.ok ([r],E1))(c:zDC t r.d=some ds):dI fs (.iE t as) E=.ok (zB3 0 ds,E1):=by
 dsimp[rI_iE,iE,a,c]
end
section
variable{fs:Ls FI}{E E1 E2 E3 E4 E5 E6:zU}
def ZN(a:tg d E=.ok E1)(c:body E1=.ok (.nx,E2))(e:Yn tg body ds E2=o):Yn tg body (d::ds) E=o:=by
 subst e;dsimp[Yn,a,c]
end
def ne_tups(c:∀d∈a,eqb 19 d=true)(g:∀d∈b,eqb 19 d=true):neG (.t a) (.t b)=some (.v (.bl (!deqs a b))):=by
 have e:neF (.t a) (.t b)=none:=rfl;dsimp[neG,e,eqDD];rw[if_pos ⟨all_eq_true.mpr c,all_eq_true.mpr g⟩];rfl
theorem Zl(I:Nat->zU->Ls D->Prop):∀(g:Ls D) (k:Nat) (E:zU) (a:Ls D),I k E a->a.length+g.length<=cap ->
  (∀i d,g[i]?=some d->∀E a,I (k+i) E a->∃E1 E2,tg d E=.ok E1/\((tt E1=.ok (false,E2)/\I (k+i+1) E2 a)\/∃r E3,tt E1=.ok (true,E2)/\el E2=.ok (r,E3)/\I (k+i+1) E3 (a++[r.d]))) ->
  ∃c E',Gb tg tt el g E a=.ok (c,E')/\I (k+g.length) E' c
 | [],k,E,a,h,p,step=>⟨a,E,rfl,h⟩
 |d::g,k,E,a,h,p,step=>by
  dsimp[length_cons]at p;have next:∀i j,g[i]?=some j->∀E a,I (k+1+i) E a->∃E1 E2,tg j E=.ok E1/\((tt E1=.ok (false,E2)/\I (k+1+i+1) E2 a)\/∃r E3,tt E1=.ok (true,E2)/\el E2=.ok (r,E3)/\I (k+1+i+1) E3 (a++[r.d])):=λi j e E a h=>by
   have:=step (i+1) j (by exists e) E a (by rw[show k+(i+1)=k+1+i by omega];exact h);rw[show k+(i+1)=k+1+i by omega]at this;exact this
  obtain⟨E1,E2,q,⟨h2,l⟩|⟨r,E3,h2,l,h4⟩⟩:=step 0 d rfl E a h
  ·obtain⟨c,E',n,o⟩:=Zl I g (k+1) E2 a l (by omega) next
   refine⟨c,E',?_,by rw[length_cons,show k+(g.length+1)=k+1+g.length by omega];exact o⟩;dsimp[Gb,J4,ma1,q,h2];exact n
  ·obtain⟨c,E',n,o⟩:=Zl I g (k+1) E3 (a++[r.d]) h4 (by simp;omega) next
   refine⟨c,E',?_,by rw[length_cons,show k+(g.length+1)=k+1+g.length by omega];exact o⟩;dsimp[Gb,J4,ma1,q,h2,l];rw[if_pos (by omega)];exact n
section
variable{fs:Ls FI}{E:zU}
def zBT{xs ys:Ls Str}{caps:Ls Nat}{it tt el:_}{ds vs p:Ls D}{i:Nat}{E':Ls D->zU}{E2 E0:zU}(e:Ls D->Prop)(I:Nat->Ls D->Prop)(hi:dI fs it E0=.ok (ds,E))(j:JP E caps=.ok (.ln i::vs.map AR.tmp))(J:zR (.ln i::vs.map AR.tmp) E=.ok (.p p::vs.map Slot.v,E2))(w:e p)(O:I 0 [])
  (V:∀k d,ds[k]?=some d->∀p a,e p->I k a->∃g,(dT fs tt (.v d::.p p::vs.map Slot.v)=.ok (false,.v d::.p g::vs.map Slot.v)/\e g/\I (k+1) a) \/
   ∃r l,dT fs tt (.v d::.p p::vs.map Slot.v)=.ok (true,.v d::.p g::vs.map Slot.v)/\dE fs el (.v d::.p g::vs.map Slot.v)=.ok (r,.v d::.p l::vs.map Slot.v)/\e l/\I (k+1) (a++[r.d])) (Q:ds.length<=cap)
  (L:∀(x:DV.Slot) (c:Ls D),zO (.ln i::vs.map AR.tmp) ((yC (.e::.p p::vs.map Slot.v) (x::.p c::vs.map Slot.v)).drop 1) E E2=.ok (E' c)) :
  ∃rs c,dE fs (.comp 1 xs ys caps it (.n 0) tt el) E0=.ok (.w rs,E' c)/\e c/\I ds.length rs:=by
 obtain⟨h,E3,M,G,x,c,n,_,u⟩:=Zl (tg:=gN 0) (tt:=dT fs tt) (el:=dE fs el) (λk E a=>I k a/\∃x p,E=x::.p p::vs.map Slot.v/\yd x=true/\e p) ds 0 (.e::.p p::vs.map Slot.v) [] ⟨O,.e,p,rfl,rfl,w⟩ (by exists Q) (λi d q E a ⟨H,x,p,n,R,w⟩=>by
  rw[zero_add]at H ⊢;have C:gN 0 d E=.ok (.v d::.p p::vs.map Slot.v):=by subst n;cases x<;>first|rfl|(cases R)
  obtain⟨g,⟨y,o,K⟩|⟨r,l,y,W,v,S⟩⟩:=V i d q p a w H
  ·exact⟨_,_,C,.inl ⟨y,K,.v d,g,rfl,rfl,o⟩⟩
  ·exact⟨_,_,C,.inr ⟨r,_,y,W,S,.v d,l,rfl,rfl,v⟩⟩)
 rw[zero_add]at G;subst n;refine⟨h,c,?_,u,G⟩;dsimp[rE_comp];refine zA8 ?_;have z:Gb (gN 0) (dT fs tt) (dE fs el) ds (replicate 1 .e++.p p::vs.map Slot.v) []=.ok (h,x::.p c::vs.map Slot.v):=M;have t:zO (.ln i::vs.map AR.tmp) ((yC (replicate 1 .e++.p p::vs.map Slot.v) (x::.p c::vs.map Slot.v)).drop 1) E E2=.ok (E' c):=L x c;dsimp[zAw,Y4,hi,j,J,Tg.m,z,t]
end
section
variable{fs:Ls FI}{E E1 E2:zU}
def zJA(c:dE fs a E=.ok (r1,E1))(e:dE fs b E1=.ok (r2,E2))(g:Q0 r1.d=some q):dE fs (.disp a b) E=.ok (.m [q] [r2.d],E2):=by
 dsimp[rE_disp,zE4,maD,c,e,g,length_nil];rfl
def x_dgO(h:E[i]?=some (.m ks vs))(a:dE fs b E=.ok (r,E))(c:Q0 r.d=some q)(g:JZ ks vs q=some d):dE fs (.dgO i b) E=.ok (.v d,E):=by
 have e:jw E[i]?=false:=by rw[h];rfl
 dsimp[rE_dgO,eDgO,a,h,ctD,c,g];rfl
def x_dg(c:dE fs a E=.ok (r1,E1))(hd:r1.d=.m ks vs)(e:dE fs b E1=.ok (r2,E2))(g:Q0 r2.d=some q)(h:JZ ks vs q=some d):dE fs (.dg a b) E=.ok (.v d,E2):=by
 dsimp[rE_dg,Y1,c,e,hd,dgD,g,Option.bind_some,h,Option.map_some]
def zCW(h:E[i]?=some (.m ks vs))(c:dE fs a E=.ok (r,E))(e:Q0 r.d=some q):dE fs (.ninO i a) E=.ok (.v (.bl (!(JZ ks vs q).isSome)),E):=by
 dsimp[rE_ninO,eInO,c,h,ctD,e,if_true]
def zJB(h:E[i]?=some (.m ks vs))(j:dE fs a E=.ok (r,E))(l:dE fs b E=.ok (r2,E))(k:Q0 r2.d=some q)(g:ks.length<1000000)(hn:JZ ks vs q=none)(c:E.set i (.m (ks++[q]) (vs++[r.d]))=E1):dS fs (.sDput i b a) E=.ok (.nx,E1):=by
 have e:jw E[i]?=false:=by rw[h];rfl
 subst c;dsimp[zHW,DV.sDput,j,l,h,k,if_pos g,zGB,hn];rfl
def zJC(h:E[i]?=some (.m ks vs))(h':E.set i .e=E1):dE fs (.mov i) E=.ok (.m ks vs,E1):=by dsimp[zIw,zC8,h,h']
def zFX(h:dE fs a E=.ok (r,E1)):dE fs (.frz a) E=.ok (.v r.d,E1):=by dsimp[zIy,eFrz,h]
def Zm(h:DV.whN (dT fs t) (dB fs b) 1000000 E=.ok p):dS fs (.sWhile t b) E=.ok p:=by
 dsimp[Q9];exact vN (by dsimp[DV.sWhile];exact h)
end
theorem G8:∀{a:Ls (Ls KN)} {c:Ls D} {q:Ls KN},q∉a->JZ a c q=none
 | [],_,_,_=>rfl|k::a,[],_,_=>rfl
 |k::a,v::c,q,h=>by
  dsimp[JZ];have:¬k=q:=λe=>h (by rw[e];exact qE)
  rw[if_neg this,G8 λg=>h (qD _ g)]
theorem G9:∀{a:Ls (Ls KN)} {c:Ls D} {q:Ls KN},a.length=c.length->q∈a->∃d,JZ a c q=some d/\d∈c
 | [],_,_,_,h=>by cases h|k::a,[],_,hl,_=>by cases hl
 |k::a,v::c,q,hl,h=>by
  dsimp[JZ];by_cases e:k=q
  ·exact⟨v,if_pos e,qE⟩
  ·rw[if_neg e]
   rcases mem_cons.mp h with h|h
   ·exact absurd h.symm e
   ·obtain⟨d,g,h2⟩:=G9 (by exists hl) h
    exact⟨d,g,qD _ h2⟩
end DV
namespace BF
abbrev P:=Nat×Nat
def add(a:Ls P)(q:P):Ls P:=if q∈a then a else a++[q]
def grow(st:P->Ls P)(a:Ls P)(p:P):Ls P:=(st p).foldl add a
def A(st:P->Ls P):Nat->Ls P
 |0=>[(0,0)]
 |k+1=>match(A st k)[k]? with
  |some p=>grow st (A st k) p|none=>A st k
def add_pre(a:Ls P)(q:P):a <+: add a q:=by
 unfold add;split
 ·exact prefix_rfl
 ·exact List.prefix_append _ _
def add_mem(a:Ls P)(q:P):q∈add a q:=by
 unfold add;split
 ·assumption
 ·simp
def add_nd(h:acc.Nodup):(add acc q).Nodup:=by
 unfold add;split
 ·exact h
 ·rename_i i
  exact nodup_append.mpr ⟨h,by simp,λa g b c e=>by rw[mem_singleton]at c;subst c;subst e;exact i g⟩
def zBU{R:P->Prop}(h:∀x∈acc,R x)(c:R q):∀x∈add acc q,R x:=by
 unfold add;split
 ·exact h
 ·intro x a
  rcases mem_append.mp a with a|a
  ·exact h x a
  ·rw[mem_singleton]at a;subst a;exact c
theorem JE:∀(l:Ls P) (a:Ls P),a <+: l.foldl add a
 | [],a=>prefix_rfl|q::l,a=>(add_pre a q).trans (JE l _)
theorem zCX:∀(l:Ls P) (a:Ls P) (q:P),q∈l->q∈l.foldl add a
 |x::l,a,q,h=>by
  rcases mem_cons.mp h with rfl|h
  ·exact(JE l _).subset (add_mem a q)
  ·exact zCX l _ q h
theorem zFY:∀(l:Ls P) {a:Ls P},a.Nodup->(l.foldl add a).Nodup
 | [],_,h=>h|q::l,_,h=>zFY l (add_nd h)
theorem zCY{R:P->Prop}:∀(l:Ls P) {a:Ls P},(∀x∈a,R x)->(∀x∈l,R x)->∀x∈l.foldl add a,R x
 | [],_,h,_=>h|q::l,_,h,hl=>zCY l (zBU h (hl q qE)) λx c=>hl x (qD _ c)
section
variable{st:P->Ls P}
def WQ(h:(A st k)[k]?=some p):A st (k+1)=grow st (A st k) p:=by dsimp[A,h]
def GD(h:(A st k)[k]?=none):A st (k+1)=A st k:=by dsimp[A,h]
def zJD(k:Nat):A st k <+: A st (k+1):=by
 cases h:(A st k)[k]? with
 |some p=>rw[WQ h];exact JE _ _|none=>rw[GD h];exact prefix_rfl
theorem zHl(k:Nat):∀j,A st k <+: A st (k+j)
 |0=>prefix_rfl|j+1=>(zHl k j).trans (zJD (k+j))
theorem zHm(h:(A st k).length<=k):∀j,A st (k+j)=A st k
 |0=>rfl
 |j+1=>by
  have e:=zHm h j;have:(A st (k+j))[k+j]?=none:=by rw[e];exact getElem?_eq_none (by omega)
  rw[show k+(j+1)=(k+j)+1 by omega,GD this,e]
theorem A_nd:∀k,(A st k).Nodup
 |0=>by simp[A]
 |k+1=>by
  cases h:(A st k)[k]? with
  |some p=>rw[WQ h];exact zFY _ (A_nd k)|none=>rw[GD h];exact A_nd k
theorem uO{R:P->Prop}(c:R (0,0))(a:∀p,R p->∀q∈st p,R q):∀k,∀x∈A st k,R x
 |0=>by intro x e;simp[A]at e;subst e;exact c
 |k+1=>by
  cases h:(A st k)[k]? with
  |some p=>rw[WQ h];exact zCY _ (uO c a k) (a p (uO c a k p (mem_of_getElem? h)))|none=>rw[GD h];exact uO c a k
theorem pig:∀(n:Nat) (l:Ls Nat),l.Nodup->(∀x∈l,x<n)->l.length<=n
 |0,l,_,h=>by
  cases l with
  |nil=>exact le_refl _|cons x l=>exact absurd (h x qE) (by omega)
 |n+1,l,hd,h=>by
  have a:=pig n (l.erase n) (hd.erase n) λx c=>by
   have:=h x (List.mem_of_mem_erase c);have:x≠n:=λe=>by subst e;exact(List.Nodup.not_mem_erase hd) c
   omega
  rw[List.length_erase]at a;split at a<;>omega
def A_len(w:1<=a)(z:1<=b)(r:∀p:P,p.1<a/\p.2<b->∀q∈st p,q.1<a/\q.2<b)(k:Nat):(A st k).length<=a*b:=by
 have h:=uO (st:=st) (R:=λp=>p.1<a/\p.2<b) ⟨by omega,by omega⟩ r k;have j:((A st k).map λp=>p.1*b+p.2).Nodup:=by
  have:=A_nd (st:=st) k;rw[List.nodup_iff_pairwise_ne]at this ⊢;refine List.pairwise_map.mpr (List.Pairwise.imp_of_mem (λ{x y} n l v e=>?_) this);have g:=h x n;have u:=h y l;have i:x.2=y.2:=by
   have c:(x.1*b+x.2)%b=x.2:=by rw[mul_comm,Nat.mul_add_mod];exact Nat.mod_eq_of_lt g.2
   have h2:(y.1*b+y.2)%b=y.2:=by rw[mul_comm,Nat.mul_add_mod];exact Nat.mod_eq_of_lt u.2
   rw[<- c,<- h2,e]
  have o:x.1=y.1:=by
   rw[i]at e;exact Nat.eq_of_mul_eq_mul_right (show 0<b by omega) (by omega)
  exact v (Prod.ext o i)
 have:=pig (a*b) _ j λx g=>by
  obtain⟨p,t,rfl⟩:=mem_map.mp g;obtain⟨c,h2⟩:=h p t
  calc p.1*b+p.2<p.1*b+b:=by omega
   _=(p.1+1)*b:=by rw[add_mul];omega
   _<=a*b:=Nat.mul_le_mul_right b c
 exists this
def zHn(h:(A st k).length<=k):∀p∈A st k,∀q∈st p,q∈A st k:=by
 intro p n q l;obtain⟨i,g,e⟩:=getElem_of_mem n;have u:i<k:=by omega
 obtain⟨j,rfl⟩:∃j,k=i+1+j:=⟨k-(i+1),by omega⟩;have r:i<(A st i).length:=by
  rcases Nat.lt_or_ge i (A st i).length with a|a
  ·exact a
  ·have:=zHm a (1+j)
   rw[show i+(1+j)=i+1+j by omega]at this;rw[this]at g;omega
 have c:A st i <+: A st (i+1+j):=(zJD i).trans (zHl (i+1) j);have o:(A st i)[i]?=some p:=by
  obtain⟨t,ht⟩:=c;rw[<- getElem?_append_left (l₂:=t) r,ht,getElem?_eq_getElem g,e]
 have:q∈A st (i+1):=by rw[WQ o];exact zCX _ _ q l
 exact(zHl (i+1) j).subset this
end
end BF
namespace My
open PySem L2 DV SM
def isFn:D->Bool
 | .fn _=>true| .exn _ _=>true| .m _ _=>true|_=>false
def isW:D->Bool
 | .int _=>true|_=>false
def vi(lo hi:Int):D->Bool
 | .int i=>decide (lo<=i)&&decide (i<=hi)|_=>false
def okD:D->Prop
 | .t a=>a.length<=cap/\∀d∈a,isFn d=false| .fn _=>False| .exn _ _=>False| .m _ _=>False|_=>True
def zGC:D->Bool
 | .t a=>decide (2<=a.length)&&decide (a.length<=3)&&a.all (vi 1 9)|_=>false
def zDM(d:D)(h:isFn d=false):Zf [.v d]=.ok (.v (.bl (isW d)),[.e]):=by
 cases d<;>first|rfl|(cases h)
def jQ(d:D)(lo hi:Int)(h:isFn d=false):zb [.v d,.v (.int lo),.v (.int hi)]=.ok (.v (.bl (vi lo hi d)),[.e,.e,.e]):=by
 have e:=zDM d h;cases d with
 |int i =>
  simp[zb,ye,y6,fnM,Jb,Ja,ZA,Wj,zCG,wN,uD,JI,vO,sRet,sIf,zBx,zEL,sSet,Wc,R.slot,zBu,eOr,zD9,wm,yI,zC5,eC,zR,fiF,fiX,R.d,zO,jx,Cp.b,Cp.f,Op2.f,Bi.f,Ty.s,Je,Jd,Yb,Yc,Yd,zBt,Y3,ZX,tT,Y1,eCB,ZY,zEA,zEB,zEC,v5,zAf,Tg.m,eqG,eqF,neG,neF,maxG,zEI,uC,uB,e,isW,vi];by_cases a:lo<=i<;>simp[a,Je,Jd]
 |_=>first|(cases h;done)|simp[zb,ye,y6,fnM,Jb,Ja,ZA,Wj,zCG,wN,uD,JI,vO,sRet,sIf,zBx,zEL,sSet,Wc,R.slot,zBu,eOr,zD9,wm,yI,zC5,eC,zR,fiF,fiX,R.d,zO,jx,Cp.b,Cp.f,Op2.f,Bi.f,Ty.s,Je,Jd,Yb,Yc,Yd,zBt,Y3,ZX,tT,Y1,eCB,ZY,zEA,zEB,zEC,v5,zAf,Tg.m,eqG,eqF,neG,neF,maxG,zEI,uC,uB,e,isW,vi]
def nxt(s:Int):Int:=((s+7919)%2147483647*((s+7919)%2147483647)+48271*((s+7919)%2147483647)+12345)%2147483629
def zBV(s:Int):wy [.v (.int s)]=.ok (.v (.int (nxt s)),[.e]):=by
 have c:0<=(s+7919)%2147483647:=Int.emod_nonneg _ (by decide);have h2:(s+7919)%2147483647<2147483647:=Int.emod_lt_of_pos _ (by decide);have a:-18446744073709551616<(s+7919)%2147483647/\(s+7919)%2147483647<18446744073709551616:=by omega
 simp[wy,Yh,WJ,fnM,Jb,YZ,vP,Ja,rE_c,ZA,Q4,sRet,sIf,zBx,zEL,sSet,Wc,R.slot,zBu,eOr,zD9,wm,yI,zC5,eC,zR,fiF,fiX,R.d,zO,jx,Cp.b,Cp.f,Op2.f,Bi.f,Ty.s,Je,Jd,Yb,Yc,Yd,zBt,Y3,ZX,tT,Y1,eCB,ZY,zEA,zEB,zEC,v5,zAf,Tg.m,eqG,eqF,neG,neF,maxG,zEI,uC,uB,Wa,uB,zIZ,zED,nxt,a]
def Pen(p:Ls D):Prop:=∃l f s:Int,p=[.int l,.int f,.int s]
def jR(p:Ls D)(e:Pen p)(m:Int)(a:0<m)(c:m<1073741824):∃r p',zT [.p p,.v (.int m)]=.ok (.v (.int r),[.p p',.e])/\0<=r/\r<m/\Pen p':=by
 obtain⟨l,f,s,rfl⟩:=e;by_cases hf:f=1
 ·refine⟨l%m,[.int (l/m),.int f,.int s],?_,Int.emod_nonneg _ (by omega),Int.emod_lt_of_pos _ a,_,_,_,rfl⟩
  simp[zT,JA,Jl,fnM,Gm,Jb,YZ,Q8,vP,Ja,zI0,rE_c,ZA,Q4,Q5,zCH,wN,uD,JI,Q7,vO,sRet,sIf,zBx,zEL,sSet,Wc,R.slot,zBu,eOr,zD9,wm,yI,zC5,eC,zR,fiF,fiX,R.d,zO,jx,Cp.b,Cp.f,Op2.f,Bi.f,Ty.s,Je,Jd,Yb,Yc,Yd,zBt,Y3,ZX,tT,Y1,eCB,ZY,zEA,zEB,zEC,v5,zAf,Tg.m,eqG,eqF,neG,neF,maxG,zEI,uC,uB,zGm,jw,ixS,atI,ixN,eqF,hf,zIZ,zC7,zED,a,c,vC,Slot.list?,Slot.put]
 ·refine⟨nxt (nxt s+7)/64%m,[.int l,.int f,.int (nxt (nxt s+7))],?_,Int.emod_nonneg _ (by omega),Int.emod_lt_of_pos _ a,_,_,_,rfl⟩
  simp[zT,JA,Jl,fnM,Gm,Jb,YZ,Q8,vP,Ja,zI0,rE_c,ZA,Q4,Q5,zCH,wN,uD,JI,Q7,vO,sRet,sIf,zBx,zEL,sSet,Wc,R.slot,zBu,eOr,zD9,wm,yI,zC5,eC,zR,fiF,fiX,R.d,zO,jx,Cp.b,Cp.f,Op2.f,Bi.f,Ty.s,Je,Jd,Yb,Yc,Yd,zBt,Y3,ZX,tT,Y1,eCB,ZY,zEA,zEB,zEC,v5,zAf,Tg.m,eqG,eqF,neG,neF,maxG,zEI,uC,uB,zGm,jw,ixS,atI,ixN,eqF,hf,zIZ,zC7,Wa,zED,a,c,vC,Slot.list?,Slot.put,zBV]
def QA(c:Int):∃p,jG [.v (.int c)]=.ok (.w p,[.e])/\Pen p:=by
 refine⟨[.int (if 0-c > c then 0-c else c),.int (if decide (10^18<=(if 0-c > c then 0-c else c))=true then 1 else 0),.int ((if 0-c > c then 0-c else c)%1000003)],?_,_,_,_,rfl⟩;simp[jG,wz,YM,fnM,Jb,YZ,vP,Ja,rE_c,ZA,Q4,Q5,Q6,rE_cB,JI,vO,zBB,sRet,sIf,zBx,zEL,sSet,Wc,R.slot,zBu,eOr,zD9,wm,yI,zC5,eC,zR,fiF,fiX,R.d,zO,jx,Cp.b,Cp.f,Op2.f,Bi.f,Ty.s,Je,Jd,Yb,Yc,Yd,zBt,Y3,ZX,tT,Y1,eCB,ZY,zEA,zEB,zEC,v5,zAf,Tg.m,eqG,eqF,neG,neF,maxG,zEI,uC,uB,zEI,subD,zEF,intF,geD,powD,zIZ,zED,cap]
def uP(a:Ls Int):∃c,yk [.v (.l (a.map .int)),.v (.int 0)]=.ok (.v (.int c),[.e,.e]):=by
 cases a with
 |nil=>exact⟨0,rfl⟩
 |cons n a => 
  refine⟨n,?_⟩;have:(0:Int)<a.length+1:=by omega
  simp[yk,wP,Jk,fnM,Gm,Jb,YZ,Q8,Ja,rE_c,ZA,Q5,Q6,rE_ix,rE_cB,JI,Q7,vO,zBB,sRet,sIf,zBx,zEL,sSet,Wc,R.slot,zBu,eOr,zD9,wm,yI,zC5,eC,zR,fiF,fiX,R.d,zO,jx,Cp.b,Cp.f,Op2.f,Bi.f,Ty.s,Je,Jd,Yb,Yc,Yd,zBt,Y3,ZX,tT,Y1,eCB,ZY,zEA,zEB,zEC,v5,zAf,Tg.m,eqG,eqF,neG,neF,maxG,zEI,uC,uB,zAq,ltD,zEF,ixD,atI,ixN,this]
def okD_fn{d:D}(h:okD d):isFn d=false:=by cases d<;>first|rfl|(cases h)
def awB(hi:Int):D->Bool
 | .t a=>a.all (vi 0 hi)|_=>false
def Jq(d:D)(hi:Int)(h:okD d):yQ [.v d,.v (.int hi)]=.ok (.v (.bl (awB hi d)),[.e,.e]):=by
 cases d with
 |t a =>
  exact zp (zQ (zn (vg (x_is (zA rfl) rfl rfl) (jZ (zB (yw (vs:=[.int hi]) (λd=>.bl (vi 0 hi d)) (i_T (zA rfl) rfl) rfl (λd hd=>⟨_,yD (F:=zb) rfl (zA rfl) x_c (zA rfl) (jQ d 0 hi (h.2 d hd)),rfl⟩) h.1 rfl) zG) (zAJ rfl))))) rfl
 |fn x=>cases h|exn x y=>cases h|m x y=>cases h|_=>exact zp (zQ (zn (zAH (x_is (zA rfl) rfl rfl)))) rfl
def ok3:D->Prop
 | .t a=>a.length<=cap/\∀d∈a,okD d| .fn _=>False| .exn _ _=>False| .m _ _=>False|_=>True
def ok3_okD{d:D}(h:ok3 d):okD d:=by
 cases d with
 |t c=>exact⟨h.1,λx a=>okD_fn (h.2 x a)⟩|fn x=>cases h|exn x y=>cases h|m x y=>cases h|_=>trivial
def ok4:D->Prop
 | .t a=>a.length<=cap/\∀d∈a,ok3 d| .fn _=>False| .exn _ _=>False| .m _ _=>False|_=>True
def tl:D->Nat
 | .t a=>a.length|_=>0
def stB:D->Bool
 | .t a=>decide (1<=a.length)&&decide (a.length<=12)&&a.all (awB ((a.length:Int)-1))&&(decide (2<=tl (a.getD 0 .non))&&decide (tl (a.getD 0 .non)<=3)&&a.all λr=>decide (tl r=tl (a.getD 0 .non)))|_=>false
def zJE{hi:Int}{d:D}(h:awB hi d=true):∃ds,d=.t ds:=by
 cases d with
 |t ds=>exact⟨ds,rfl⟩|_=>cases h
def zAK(d:D)(h:ok3 d):wF [.v d]=.ok (.v (.bl (stB d)),[.e]):=by
 cases d with
 |t c =>
  have C:dE yf (.cB .len (.cons (.x 0) .nil)) [.v (.t c),.e]=.ok (.v (.int c.length),[.v (.t c),.e]):=jZ (zB (zA rfl) zG) rfl;have E:dT yf (.tNot (.tE (.is .tuple (.x 0)))) [.v (.t c),.e]=.ok (false,[.v (.t c),.e]):=jn (t_E (b:=true) (x_is (zA rfl) rfl rfl)) rfl;by_cases z:1<=c.length
  ·have p:Cp.le.b 1 (c.length:Int)=true:=decide_eq_true (by omega)
   by_cases h2:c.length<=12
   ·have v:Cp.le.b (c.length:Int) 12=true:=decide_eq_true (by omega)
    have o:dE yf (.cB .all (.cons (.comp 1 ["row"] ["thing"] [0] (.iT (.x 0)) (.n 0) .tTr (.call 0 (.ev (.x 0) (.ev (.bin .sub (.cB .len (.cons (.x 1) .nil)) (.c (.int 1))) .nil)))) .nil)) [.v (.t c),.e]=.ok (.v (.bl (c.all (awB ((c.length:Int)-1)))),[.v (.t c),.e]) :=
     jZ (zB (yw (vs:=[.t c]) (λd=>.bl (awB ((c.length:Int)-1) d)) (i_T (zA rfl) rfl) rfl (λd hd=>⟨_,zP (F:=yQ) rfl (zA rfl) (zu (jZ (zB (zA rfl) zG) rfl) x_c rfl) (Jq d _ (h.2 d hd)),rfl⟩) h.1 rfl) zG) (zAJ rfl)
    have I:=zDI E (jn (t_E (Zi x_c C p (vd (d:=.int 12)) v)) rfl);cases j:c.all (awB ((c.length:Int)-1))with
    |false =>
     rw[j]at o;have e:stB (.t c)=false:=by dsimp[stB,j,Bool.and_false,Bool.false_and]
     rw[e];exact zp (zH (yl I yn) (Zk (Jo (jn (t_E o) rfl) (zQ (zn x_c))))) rfl
    |true =>
     rw[j]at o;have g:∀r∈c,∃ds,r=.t ds:=λr L=>zJE (all_eq_true.mp j r L)
     obtain⟨q,wA,i⟩:∃q wA,c=q::wA:=by
      cases c with
      |nil=>exact absurd z (by simp)|cons a l=>exact⟨a,l,rfl⟩
     obtain⟨d0,k⟩:=g q (by rw[i];exact qE);have J:c.getD 0 .non=.t d0:=by rw[i,<- k];rfl
     have u:ixD (.t c) (.int 0)=some (.v (.t d0)):=by
      have M:c[0]?=some (.t d0):=by rw[i,k];rfl
      exact congrArg (Option.map R.v) (YR M)
     have e:stB (.t c)=(decide (2<=d0.length)&&decide (d0.length<=3)&&c.all λr=>decide (tl r=d0.length)):=by
      unfold stB;dsimp;rw[j,J,decide_eq_true z,decide_eq_true h2];rfl
     rw[e];have st:dS yf (.sSet 1 (.cB .len (.cons (.ix (.x 0) (.c (.int 0))) .nil))) [.v (.t c),.e]=.ok (.nx,[.v (.t c),.v (.int d0.length)]):=yE (jZ (zB (JQ (zA rfl) x_c u) zG) rfl) rfl;have K:dE yf (.cB .all (.cons (.comp 1 ["row"] ["signs"] [1] (.iT (.x 0)) (.n 0) .tTr (.cmp .eq (.cB .len (.cons (.x 0) .nil)) (.x 1))) .nil)) [.v (.t c),.v (.int d0.length)]=.ok (.v (.bl (c.all λr=>decide (tl r=d0.length))),[.v (.t c),.v (.int d0.length)]):=by
      refine jZ (zB (yw (vs:=[.int d0.length]) (λd=>.bl (decide (tl d=d0.length))) (i_T (zA rfl) rfl) rfl (λd hd=>?_) h.1 rfl) zG) (zAJ rfl);obtain⟨ds,rfl⟩:=g d hd;refine⟨_,zj (jZ (zB (zA rfl) zG) rfl) (zA rfl) (eq_int _ _),?_⟩;show D.bl _=D.bl _;dsimp[tl];congr 1;exact decide_eq_decide.mpr ⟨λh=>Int.ofNat.inj h,λh=>by rw[h]⟩
     refine zp (E1:=[.v (.t c),.v (.int d0.length)]) (zH (yl I yn) (zH (yl (jn (t_E o) rfl) yn) (zH st (zQ (zn ?_))))) rfl;by_cases G:2<=d0.length
     ·have n:Cp.le.b 2 (d0.length:Int)=true:=decide_eq_true (by omega)
      by_cases H:d0.length<=3
      ·have w:Cp.le.b (d0.length:Int) 3=true:=decide_eq_true (by omega)
       rw[decide_eq_true G,decide_eq_true H];exact vg (Zi (vd (d:=.int 2)) (zA rfl) n (vd (d:=.int 3)) w) K
      ·have w:Cp.le.b (d0.length:Int) 3=false:=decide_eq_false (by omega)
       rw[decide_eq_false H,Bool.and_false,Bool.false_and];exact zAH (Zi (vd (d:=.int 2)) (zA rfl) n (vd (d:=.int 3)) w)
     ·have n:Cp.le.b 2 (d0.length:Int)=false:=decide_eq_false (by omega)
      rw[decide_eq_false G,Bool.false_and,Bool.false_and];exact zAH (G4 (vd (d:=.int 2)) (zA rfl) n)
   ·have v:Cp.le.b (c.length:Int) 12=false:=decide_eq_false (by omega)
    have e:stB (.t c)=false:=by dsimp[stB,decide_eq_false h2,Bool.and_false,Bool.false_and]
    rw[e];exact zp (Zk (Jo (zDI E (jn (t_E (Zi x_c C p (vd (d:=.int 12)) v)) rfl)) (zQ (zn x_c)))) rfl
  ·have p:Cp.le.b 1 (c.length:Int)=false:=decide_eq_false (by omega)
   have e:stB (.t c)=false:=by dsimp[stB,decide_eq_false z,Bool.false_and]
   rw[e];exact zp (Zk (Jo (zDI E (jn (t_E (G4 x_c C p)) rfl)) (zQ (zn x_c)))) rfl
 |fn x=>cases h|exn x y=>cases h|m x y=>cases h|_=>exact zp (Zk (Jo (t_orT (jn (t_E (x_is (zA rfl) rfl rfl)) rfl)) (zQ (zn x_c)))) rfl
def zGD:D->Int
 | .int i=>i|_=>0
def zJF:Ls D->Bool
 |a::b::r=>decide (zGD a<zGD b)&&zJF (b::r)|_=>true
theorem zFZ:∀c:Ls D,(zipWith wU c (c.drop 1)).all (λd=>match d with | .t [a,b]=>decide (zGD a<zGD b)|_=>false)=zJF c
 | []=>rfl| [a]=>rfl
 |a::b::r=>by
  have:=zFZ (b::r);dsimp[List.drop_succ_cons,List.drop_zero]at this;show((decide (zGD a<zGD b))&&_)=(decide (zGD a<zGD b)&&zJF (b::r));rw[<- this]
def patP:D->Ls DV.Slot
 | .t [a,b]=>[.v a,.v b]|_=>[]
def rsB(g:D)(n:Int):Bool:=awB (n-1) g&&match g with
 | .t a=>zJF a|_=>false
def zHo{lo hi:Int}{d:D}(h:vi lo hi d=true):∃i:Int,d=.int i/\lo<=i/\i<=hi:=by
 cases d with
 |int i=>dsimp[vi,Bool.and_eq_true,decide_eq_true_eq]at h;exact⟨i,rfl,h.1,h.2⟩|_=>cases h
theorem ZO{p:D->Prop}:∀{c e:Ls D},(∀d∈c,p d)->(∀d∈e,p d)->∀d∈zipWith wU c e,∃a b,d=.t [a,b]/\p a/\p b
 | [],_,_,_,d,h=>by simp at h|_::_,[],_,_,d,h=>by simp at h
 |a::c,b::e,i,h2,d,h=>by
  rcases mem_cons.mp h with h|h
  ·exact⟨a,b,h,i a qE,h2 b qE⟩
  ·exact ZO (λx g=>i x (qD _ g)) (λx g=>h2 x (qD _ g)) d h
def vj(x y:Int):ltD (.int x) (.int y)=some (.v (.bl (decide (x<y)))):=rfl
def cut_one(ds:Ls D):zAr ds (some 1) none=ds.drop 1:=by
 cases ds with
 |nil=>rfl|cons a l=>exact zHk (a::l) 1 (by simp)
def zHp(d:D)(n:Int)(h:okD d):jA [.v d,.v (.int n)]=.ok (.v (.bl (rsB d n)),[.e,.e]):=by
 have k:dE JM (.call 0 (.ev (.x 0) (.ev (.bin .sub (.x 1) (.c (.int 1))) .nil))) [.v d,.v (.int n)]=.ok (.v (.bl (awB (n-1) d)),[.v d,.v (.int n)]):=zP (F:=yQ) rfl (zA rfl) (zu (zA rfl) x_c rfl) (Jq d _ h);cases c:awB (n-1) d with
 |false =>
  rw[c]at k;have e:rsB d n=false:=by unfold rsB;rw[c];rfl
  rw[e];exact zp (Zk (Jo (jn (t_E k) rfl) (zQ (zn x_c)))) rfl
 |true =>
  rw[c]at k;obtain⟨ds,rfl⟩:=zJE c;have e:rsB (.t ds) n=zJF ds:=by unfold rsB;rw[c];rfl
  rw[e];have g:∀x∈ds,∃i:Int,x=.int i:=λx o=>by obtain⟨i,e,_⟩:=zHo (all_eq_true.mp c x o);exact⟨i,e⟩
  refine zp (zH (yl (jn (t_E k) rfl) yn) (zQ (zn (jZ (zB (uz (vs:=[]) patP (λ_=>true) (λd=>.bl (match d with | .t [a,b]=>decide (zGD a<zGD b)|_=>false)) (i_Z (t1:=true) (t2:=true) (zB (zA rfl) (zB (x_sl (zA rfl) (o_S x_c) o_N (show slD (.t ds) (some 1) none=some (.v (.t (ds.drop 1)))by dsimp[slD,cut_one])) zG)) rfl rfl) rfl ?_ ?_ ?_ ?_ ?_ ?_) zG) (zAJ (zFZ ds)))))) rfl
  ·intro d hd S v l
   obtain⟨a,b,rfl,_⟩:=ZO (p:=λ_=>True) (λ_ _=>trivial) (λ_ _=>trivial) d hd
   match S,v,l with
   | [t,q],_,l =>
    have u:=l t (by simp);have w:=l q (by simp);cases t<;>cases q<;>first|rfl|(cases u;done)|(cases w;done)
  ·intro d hd
   obtain⟨a,b,rfl,_⟩:=ZO (p:=λ_=>True) (λ_ _=>trivial) (λ_ _=>trivial) d hd;refine⟨rfl,λs r=>?_⟩;dsimp[patP,mem_cons,mem_nil_iff,or_false]at r;rcases r with rfl|rfl<;>rfl
  ·intro d hd
   dsimp[zBA,Q7,uo,Gc]
  ·intro d hd _
   obtain⟨a,b,rfl,⟨i,rfl⟩,⟨j,rfl⟩⟩:=ZO (p:=λx=>∃i:Int,x=.int i) g (λx o=>g x (List.mem_of_mem_drop o)) d hd;exact⟨_,zj (zA rfl) (zA rfl) (vj i j),rfl⟩
  ·rw[length_zipWith];have:=h.1;omega
  ·rw[List.filter_eq_self.mpr (λ_ _=>rfl)]
def mgB:D->Bool
 | .t [s,g]=>stB s&&rsB g (tl s)|_=>false
def st_tup{s:D}(h:stB s=true):∃rows,s=.t rows:=by
 cases s with
 |t rows=>exact⟨rows,rfl⟩|_=>cases h
def YS(d:D)(h:ok4 d):yJ [.v d]=.ok (.v (.bl (mgB d)),[.e]):=by
 cases d with
 |t k =>
  have p:dT jB (.tNot (.tE (.is .tuple (.x 0)))) [.v (.t k),.e,.e]=.ok (false,[.v (.t k),.e,.e]):=jn (t_E (b:=true) (x_is (zA rfl) rfl rfl)) rfl;have i:∀b,(!decide ((k.length:Int)=2))=b->dT jB (.tOr (.tNot (.tE (.is .tuple (.x 0)))) (.tE (.cmp .ne (.cB .len (.cons (.x 0) .nil)) (.c (.int 2))))) [.v (.t k),.e,.e]=.ok (b,[.v (.t k),.e,.e]):=λb q=>by
   subst q;exact zDI p (t_E (zj (jZ (zB (zA rfl) zG) rfl) x_c (ne_int _ _)))
  match k,h,i with
  | [s,g],h,i =>
   have n:=h.2 s (by simp);have o:=h.2 g (by simp);have l:dE jB (.call 1 (.ev (.x 1) .nil)) [.v (.t [s,g]),.v s,.v g]=.ok (.v (.bl (stB s)),[.v (.t [s,g]),.v s,.v g]):=zZ (F:=wF) rfl (zA rfl) (zAK s n);refine zp (E1:=[.v (.t [s,g]),.v s,.v g]) (zH (yl (i false rfl) yn) (zH (zDJ (zA rfl) rfl) (zQ (zn ?_)))) rfl;cases e:stB s with
   |false=>rw[e]at l;show dE _ _ _=.ok (.v (.bl (stB s&&_)),_);rw[e];exact zAH l
   |true =>
    rw[e]at l;obtain⟨j,rfl⟩:=st_tup e;show dE _ _ _=.ok (.v (.bl (stB (.t j)&&rsB g (tl (.t j)))),_);rw[e,Bool.true_and];exact vg l (zP (F:=jA) rfl (zA rfl) (jZ (zB (zA rfl) zG) rfl) (zHp g _ (ok3_okD o)))
  | [],h,i=>exact zp (Zk (Jo (i true rfl) (zQ (zn x_c)))) rfl| [_],h,i=>exact zp (Zk (Jo (i true rfl) (zQ (zn x_c)))) rfl|a::b::c::r,h,i=>exact zp (Zk (Jo (i true (by simp;omega)) (zQ (zn x_c)))) rfl
 |fn x=>cases h|exn x y=>cases h|m x y=>cases h|_=>exact zp (Zk (Jo (t_orT (jn (t_E (x_is (zA rfl) rfl rfl)) rfl)) (zQ (zn x_c)))) rfl
def ix0(s g:D):ixD (.t [s,g]) (.int 0)=some (.v s):=rfl
def ix1(s g:D):ixD (.t [s,g]) (.int 1)=some (.v g):=rfl
theorem Jr:∀(a b:Ls Nat),deqs (a.map λn:Nat=>D.int (n:Int)) (b.map λn:Nat=>D.int (n:Int))=decide (a=b)
 | [],[]=>rfl| [],_::_=>rfl|_::_,[]=>rfl
 |x::a,y::b=>by
  have i:=Jr a b;have e:deq (.int (x:Int)) (.int (y:Int))=decide (x=y):=by
   dsimp[deq,flV,eqV];rw[Bool.eq_iff_iff,beq_iff_eq,decide_eq_true_eq];exact⟨λh=>Int.ofNat.inj h,λh=>by rw[h]⟩
  rw[map_cons,map_cons,deqs,i,e,Bool.eq_iff_iff];dsimp[Bool.and_eq_true,decide_eq_true_eq,List.cons.injEq]
theorem zCZ:∀a:Ls Nat,(∀n∈a,n<16)->jc (a.map λn:Nat=>D.int (n:Int))=some a
 | [],_=>rfl
 |n::a,h=>by
  have e:=h n qE;rw[map_cons,jc,if_pos (by omega),zCZ a λm c=>h m (qD _ c)];simp
abbrev tN(l:Ls Nat):D:=.t (N l)
def T(a:Ls (Ls Nat)):Ls D:=a.map λl=>tN l
abbrev mD(a:Ls (Ls Nat))(g:Ls Nat):D:=.t [.t (T a),tN g]
structure Mac(m:Nat)(ls:List (List Nat))(g:List Nat):Prop where
 hm:m=2\/m=3
 hn:1<=ls.length/\ls.length<=12
 hl:∀l∈ls,l.length=m/\∀x∈l,x<ls.length
 hr:zA3 g
 hg:∀x∈g,x<ls.length
theorem N_of{n:Nat}:∀a:Ls D,(∀d∈a,∃x:Nat,d=.int (x:Int)/\x<n)->∃l:Ls Nat,a=N l/\l.length=a.length/\∀x∈l,x<n
 | [],_=>⟨[],rfl,rfl,λx h=>by cases h⟩
 |d::a,h=>by
  obtain⟨l,rfl,e,hl⟩:=N_of a λx c=>h x (qD _ c)
  obtain⟨x,rfl,c⟩:=h d qE;refine⟨x::l,rfl,by simp[e],λy g=>?_⟩;rcases mem_cons.mp g with rfl|g
  ·exact c
  ·exact hl y g
def zBW(a b:Nat)(h:b≠0):zIZ (.int a) (.int b)=some (.v (.int ((a%b:Nat):Int))):=by
 have:(0:Int)<b:=by omega
 dsimp[zIZ,zED];rw[if_pos (decide_eq_true this)];rfl
def zFa(a:Nat):Wa (.int (a:Int)) (.int 1)=some (.v (.int ((a+1:Nat):Int))):=by simp[Wa]
def QB{n:Nat}(h:1<=n):subD (.int (n:Int)) (.int 1)=some (.v (.int ((n-1:Nat):Int))):=by
 show some (R.v (D.int ((n:Int)-1)))=_
 rw[show((n:Int)-1)=((n-1:Nat):Int)by omega]
def min_two(a b:Int):Bi.f .min [.int a,.int b]=some (.v (.int (if b<a then b else a))):=rfl
def line_by{mx:Int}{p:Ls D}(H:Pen p){m n i:Nat}(hm:m=2\/m=3)(hn:1<=n/\n<=12)(hi:i<n)(w:Int)(L:Ls D)(hL:L.length<=100)(s7:DV.Slot)(Y:yd s7=true) :
  ∃a l,dB zY yt [.p p,.v (.int mx),qI m,qI n,.v (.int w),.w L,qI i,s7]=.ok (.nx,[.p a,.v (.int mx),qI m,qI n,.v (.int w),.w (L++[tN l]),qI i,.v (tN l)])/\Pen a/\l.length=m/\∀x∈l,x<n:=by
 obtain⟨V,a,X,g,J,S⟩:=zBT (fs:=zY) (E:=[.p p,.v (.int mx),qI m,qI n,.v (.int w),.w L,qI i,s7]) (xs:=["_law_sign"]) (ys:=["_law_pen","_law_many"]) (caps:=[0,3]) (it:=.iR1 (.cons (.x 2) .nil)) (tt:=.tTr) (el:=.call 0 (.lend 1 (.ev (.x 2) .nil))) (ds:=DV.zI 0 m) (vs:=[.int (n:Nat)]) (p:=p) (i:=0) (E2:=[.e,.v (.int mx),qI m,qI n,.v (.int w),.w L,qI i,s7]) (E':=λa=>[.p a,.v (.int mx),qI m,qI n,.v (.int w),.w L,qI i,s7])
  Pen (λk o=>o.length=k/\∀d∈o,∃x:Nat,d=.int (x:Int)/\x<n) (zHh (j:=(m:Int)) (zB (zA rfl) zG) rfl ⟨by omega,by omega⟩) rfl rfl H ⟨rfl,λd h=>by cases h⟩ (λk d q p o H ⟨M,O⟩=>by
   obtain⟨r,Q,e,r0,Z,G⟩:=jR p H (n:Nat) (by omega) (by omega);refine⟨p,.inr ⟨.v (.int r),Q,by dsimp[Q7,uo,Gc],JD (F:=zT) rfl rfl (zA rfl) e rfl,G,by simp[M],λd hd=>?_⟩⟩;rcases mem_append.mp hd with hd|hd
   ·exact O d hd
   ·rw[mem_singleton]at hd
    exact⟨r.toNat,by rw[hd];show D.int r=_;congr 1;omega,by omega⟩) (by rw[yF];dsimp[cap];omega) (λx a=>rfl)
 rw[yF]at J;obtain⟨l,rfl,el,hl⟩:=N_of V S;have C:dS zY (.sSet 7 (.cB .tuple (.cons (.comp 1 ["_law_sign"] ["_law_pen","_law_many"] [0,3] (.iR1 (.cons (.x 2) .nil)) (.n 0) .tTr (.call 0 (.lend 1 (.ev (.x 2) .nil)))) .nil))) [.p p,.v (.int mx),qI m,qI n,.v (.int w),.w L,qI i,s7]=.ok (.nx,[.p a,.v (.int mx),qI m,qI n,.v (.int w),.w L,qI i,.v (tN l)]):=yE (jZ (zB X zG) rfl) (jz rfl Y rfl);have t:l.length=m:=el.trans J;have fin:∀l:Ls Nat,dS zY (.sApp 5 (.x 7)) [.p a,.v (.int mx),qI m,qI n,.v (.int w),.w L,qI i,.v (tN l)]=.ok (.nx,[.p a,.v (.int mx),qI m,qI n,.v (.int w),.w (L++[tN l]),qI i,.v (tN l)]):=λl=>zHi rfl (zA rfl) rfl (by dsimp[cap];omega) rfl
 have u:1<=m:=by omega
 by_cases K:w=0
 ·subst K
  have v:uC (.t [.int 0]) (.int ((m-1:Nat):Int))=some (.v (.t (replicate (m-1) (.int 0)))):=G7 (.int 0) (m-1) (by omega);have W:Bi.f .min [.int ((i+1:Nat):Int),.int ((n-1:Nat):Int)]=some (.v (.int ((min (i+1) (n-1):Nat):Int))):=by
   refine(min_two _ _).trans (congrArg (λz=>some (R.v (D.int z))) ?_);split<;>omega
  have y:Wa (.t [.int ((min (i+1) (n-1):Nat):Int)]) (.t (replicate (m-1) (.int 0)))=some (.v (tN (min (i+1) (n-1)::replicate (m-1) 0))):=by
   rw[zFS _ _ (by simp;omega)];simp[N,List.map_replicate]
  refine⟨a,min (i+1) (n-1)::replicate (m-1) 0,?_,g,by simp;omega,λx c=>?_⟩
  ·exact zH C (zH (Jo (t_E (zj (zA rfl) x_c (eq_int _ _))) (zQ (yE (zu (jb (zB (jZ (zB (zu (zA rfl) x_c (zFa i)) (zB (zu (zA rfl) x_c (QB hn.1)) zG)) W) zG) rfl yO) (zu (jb (zB x_c zG) rfl yO) (zu (zA rfl) x_c (QB u)) v) y) rfl))) (zH (yl (t_E (zj (zA rfl) x_c (eq_int _ _))) yn) (zQ (fin _))))
  ·rcases mem_cons.mp c with rfl|c
   ·omega
   ·have:=eq_of_mem_replicate c;omega
 ·by_cases I:w=1
  ·subst I
   have v:uC (.t [.int (((i+1)%n:Nat):Int)]) (.int ((m-1:Nat):Int))=some (.v (.t (replicate (m-1) (.int (((i+1)%n:Nat):Int))))):=G7 _ (m-1) (by omega);have y:Wa (.t (replicate (m-1) (.int (((i+1)%n:Nat):Int)))) (.t [.int (i:Nat)])=some (.v (tN (replicate (m-1) ((i+1)%n)++[i]))):=by
    rw[zFS _ _ (by simp;omega)];simp[N,List.map_replicate]
   refine⟨a,replicate (m-1) ((i+1)%n)++[i],?_,g,by simp;omega,λx c=>?_⟩
   ·exact zH C (zH (yl (t_E (zj (zA rfl) x_c (eq_int _ _))) yn) (zH (Jo (t_E (zj (zA rfl) x_c (eq_int _ _))) (zQ (yE (zu (zu (jb (zB (zu (zu (zA rfl) x_c (zFa i)) (zA rfl) (zBW (i+1) n (by omega))) zG) rfl yO) (zu (zA rfl) x_c (QB u)) v) (jb (zB (zA rfl) zG) rfl yO) y) rfl))) (zQ (fin _))))
   ·rcases mem_append.mp c with c|c
    ·have:=eq_of_mem_replicate c
     rw[this];exact mod_lt _ (by omega)
    ·simp at c;omega
  ·refine⟨a,l,?_,g,t,hl⟩
   exact zH C (zH (yl (t_E (zj (zA rfl) x_c ((eq_int _ _).trans (by rw[decide_eq_false K])))) yn) (zH (yl (t_E (zj (zA rfl) x_c ((eq_int _ _).trans (by rw[decide_eq_false I])))) yn) (zQ (fin _))))
def QC(a:Ls (Ls Nat)):(T a).length=a.length:=by simp[T]
def Zn{n k:Nat}{d:D}(h:(DV.zI 0 n)[k]?=some d):d=.int (k:Nat)/\k<n:=by
 rw[GC]at h;dsimp[N,getElem?_map]at h;exists hr,(List.range n)[k]?,h,x;obtain⟨a,h2⟩:=qG.mp hr;simp at a h2;subst h2;simp at h;exact⟨h.symm,a⟩
def WR{p:Ls D}(I:Pen p){mx:Int}(h1:1<=mx)(ad:mx<=12):∃m ls g z,yM [.p p,.v (.int mx)]=.ok (.v (mD ls g),[.p z,.e])/\Pen z/\Mac m ls g/\(ls.length:Int)<=mx:=by
 obtain⟨J,p1,e1,ab,aa,M⟩:=jR p I 2 (by omega) (by omega);obtain⟨K,G,e2,ae,ac,v⟩:=jR p1 M mx (by omega) (by omega);obtain⟨w,p3,e3,_,_,R⟩:=jR G v 4 (by omega) (by omega);obtain⟨m,em,hm⟩:∃m:Nat,2+J=(m:Int)/\(m=2\/m=3):=⟨(2+J).toNat,by omega,by omega⟩;obtain⟨n,en,hn⟩:∃n:Nat,1+K=(n:Int)/\(1<=n/\n<=12):=⟨(1+K).toNat,by omega,by omega⟩;have a1:Wa (.int 2) (.int J)=some (.v (.int (m:Nat))):=by dsimp[Wa,em]
 have a2:Wa (.int 1) (.int K)=some (.v (.int (n:Nat))):=by dsimp[Wa,en]
 obtain⟨E',f,p4,ls,u,o,rfl,O,y,V,X,h7⟩:=ji (tg:=gN 6) (body:=dB zY yt) (λk E=>∃p ls u o,E=[.p p,.v (.int mx),qI m,qI n,.v (.int w),.w (T ls),u,o]/\Pen p/\ls.length=k/\(∀l∈ls,l.length=m/\∀x∈l,x<n)/\yd u=true/\yd o=true) (DV.zI 0 n) 0 [.p p3,.v (.int mx),qI m,qI n,.v (.int w),.w [],.e,.e] ⟨p3,[],.e,.e,rfl,R,rfl,(λl h=>by cases h),rfl,rfl⟩
  (λi d q E ⟨p,ls,u,o,hE,I,L,hl,X,h7⟩=>by
   rw[zero_add]at L ⊢;obtain⟨rfl,hi⟩:=Zn q;obtain⟨z,l,f,Q,l1,l2⟩:=line_by (mx:=mx) I hm hn hi w (T ls) (by rw[QC];omega) o h7;refine⟨_,_,?_,f,z,ls++[l],.v (.int (i:Nat)),.v (tN l),by simp[T],Q,by simp[L],λx c=>?_,rfl,rfl⟩
   ·subst hE;cases u<;>first|rfl|(cases X)
   ·rcases mem_append.mp c with c|c
    ·exact hl x c
    ·rw[mem_singleton]at c;subst c;exact⟨l1,l2⟩)
 rw[yF,zero_add]at y;obtain⟨rs,p5,cp,S,g,rfl,W,C⟩:=zBT (fs:=zY) (E:=[.p p4,.v (.int mx),qI m,qI n,.v (.int w),.v (.l (T ls)),u,o]) (xs:=["_law_stand"]) (ys:=["_law_pen"]) (caps:=[0]) (it:=.iR1 (.cons (.x 3) .nil)) (tt:=.tE (.cmp .eq (.call 0 (.lend 1 (.ev (.c (.int 3)) .nil))) (.c (.int 0)))) (el:=.x 0) (ds:=DV.zI 0 n) (vs:=[]) (p:=p4) (i:=0) (E2:=[.e,.v (.int mx),qI m,qI n,.v (.int w),.v (.l (T ls)),u,o]) (E':=λz=>[.p z,.v (.int mx),qI m,qI n,.v (.int w),.v (.l (T ls)),u,o])
  Pen (λk H=>∃g:Ls Nat,H=N g/\zA3 g/\∀x∈g,x<k) (zHh (j:=(n:Int)) (zB (zA rfl) zG) rfl ⟨by omega,by omega⟩) rfl rfl O ⟨[],rfl,.nil,λx h=>by cases h⟩ (λk d q p H I ⟨g,Y,hr,c⟩=>by
   obtain⟨rfl,L⟩:=Zn q;obtain⟨r,G,e,r0,J,v⟩:=jR p I 3 (by omega) (by omega);have t:dT zY (.tE (.cmp .eq (.call 0 (.lend 1 (.ev (.c (.int 3)) .nil))) (.c (.int 0)))) (.v (.int (k:Nat))::.p p::([]:Ls D).map DV.Slot.v)=.ok (decide (r=0),.v (.int (k:Nat))::.p G::([]:Ls D).map DV.Slot.v):=t_E (zj (JD (F:=zT) rfl rfl x_c e rfl) x_c (eq_int _ _));refine⟨G,?_⟩;cases hd:decide (r=0)with
   |false=>rw[hd]at t;exact .inl ⟨t,v,g,Y,hr,λx h=>lt_succ_of_lt (c x h)⟩
   |true =>
    rw[hd]at t;refine .inr ⟨.v (.int (k:Nat)),G,t,zA rfl,v,g++[k],by rw[Y,N_app];rfl,?_,λx h=>?_⟩
    ·exact List.pairwise_append.mpr ⟨hr,List.pairwise_singleton _ _,λa ha b Z=>by rw[mem_singleton]at Z;subst Z;exact c a ha⟩
    ·rcases mem_append.mp h with h|h
     ·exact lt_succ_of_lt (c x h)
     ·rw[mem_singleton]at h;subst h;exact lt_succ_self _) (by rw[yF];dsimp[cap];omega) (λx z=>rfl)
 rw[yF]at C;refine⟨m,ls,g,p5,?_,S,⟨hm,by omega,by rw[y];exact V,W,by rw[y];exact C⟩,by omega⟩;refine zp (E1:=[.p p5,.v (.int mx),qI m,qI n,.v (.int w),.v (.l (T ls)),u,o]) ?_ rfl;refine zH (yE (zu x_c (JD (F:=zT) rfl rfl x_c e1 rfl) a1) rfl) ?_;refine zH (yE (zu x_c (JD (F:=zT) rfl rfl (zA rfl) e2 rfl) a2) rfl) ?_;refine zH (yE (JD (F:=zT) rfl rfl x_c e3 rfl) rfl) ?_;refine zH (yE (Zh zG rfl zBQ) rfl) ?_;refine zH (Zj (tg:=.n 6) (j:=(n:Int)) (zB (zA rfl) zG) rfl ⟨by omega,by omega⟩ f) ?_;exact zQ (zn (jb (zB (jZ (r:=.v (.t (T ls))) (zB (ZM rfl rfl) zG) rfl) (zB (jZ (r:=.v (tN g)) (zB cp zG) rfl) zG)) rfl yu))
def N_fn{l:Ls Nat}:∀d∈N l,isFn d=false:=λd hd=>by
 obtain⟨n,_,rfl⟩:=J6 hd;rfl
def okD_N{l:Ls Nat}:∀d∈N l,okD d:=λd hd=>by
 obtain⟨n,_,rfl⟩:=J6 hd;trivial
def zDN{a:Ls (Ls Nat)}{d:D}(h:d∈T a):∃l∈a,d=tN l:=by
 obtain⟨l,c,h2⟩:=mem_map.mp h;exact⟨l,c,h2.symm⟩
def zFb{ds:Ls D}(c:ds.length<=100000)(a:∀d∈ds,isFn d=false):okD (.t ds):=⟨by dsimp[cap];omega,a⟩
def zFc{ds:Ls D}(c:ds.length<=100000)(a:∀d∈ds,okD d):ok3 (.t ds):=⟨by dsimp[cap];omega,a⟩
def ok4_two{a b:D}(c:ok3 a)(e:ok3 b):ok4 (.t [a,b]):=⟨by simp[cap],λd hd=>by
 dsimp[mem_cons,mem_nil_iff,or_false]at hd;rcases hd with rfl|rfl
 ·exact c
 ·exact e⟩
def st_ok{m:Nat}{a:Ls (Ls Nat)}{g:Ls Nat}(M:Mac m a g):∀d∈T a,okD d:=λd hd=>by
 obtain⟨l,hl,rfl⟩:=zDN hd;have:=(M.hl l hl).1;have:=M.hm;exact zFb (by rw[jo];omega) N_fn
def Mac.glen{m:Nat}{a:Ls (Ls Nat)}{g:Ls Nat}(M:Mac m a g):g.length<=12:=by
 have:=zCA g 0 a.length M.hr λj c=>⟨zero_le _,M.hg j c⟩
 have:=M.hn;omega
def zAL{m:Nat}{a:Ls (Ls Nat)}{g:Ls Nat}(M:Mac m a g):ok4 (mD a g):=by
 have:=M.hn;have:=M.glen;exact ok4_two (zFc (by rw[QC];omega) (st_ok M)) (zFc (by rw[jo];omega) okD_N)
end My
namespace My
open PySem L2 DV SM BF
def pD(p:P):D:=.t [.int (p.1:Nat),.int (p.2:Nat)]
def kP(p:P):Ls KN:=[some (p.1:Int),some (p.2:Int)]
def wJ(p:P):Q0 (pD p)=some (kP p):=rfl
def zFd{p q:P}(h:kP p=kP q):p=q:=by
 dsimp[kP,List.cons.injEq,Option.some.injEq,Int.natCast_inj,and_true]at h;exact Prod.ext h.1 h.2
def GE{acc:Ls P}{p:P}:kP p∈acc.map kP↔p∈acc:=by
 constructor
 ·intro h
  obtain⟨q,a,e⟩:=mem_map.mp h;rw[<- zFd e];exact a
 ·exact λh=>List.mem_map_of_mem h
def ix_at{ds:Ls D}{k:Nat}{d:D}(h:ds[k]?=some d):ixD (.t ds) (.int (k:Nat))=some (.v d):=by rw[zFW,YR h];rfl
def T_at{a:Ls (Ls Nat)}{k:Nat}{l:Ls Nat}(h:a[k]?=some l):ixD (.t (T a)) (.int (k:Nat))=some (.v (tN l)):=ix_at (by simp[T,h])
def N_at{l:Ls Nat}{k x:Nat}(h:l[k]?=some x):ixD (tN l) (.int (k:Nat))=some (.v (.int (x:Nat))):=ix_at (zDL h)
def p_at0(p:P):ixD (pD p) (.int 0)=some (.v (.int (p.1:Nat))):=rfl
def p_at1(p:P):ixD (pD p) (.int 1)=some (.v (.int (p.2:Nat))):=rfl
def st(c a:Ls (Ls Nat))(p:P):Ls P:=List.zip (c.getD p.1 []) (a.getD p.2 [])
abbrev O4:Ls DV.Slot:=[.e,.e,.e,.e]
section
variable{m m':Nat}{ls ls':Ls (Ls Nat)}{g g':Ls Nat}
def Mac.row(M:Mac m ls g){k:Nat}(h:k<ls.length):ls[k]?=some (ls.getD k [])/\(ls.getD k []).length=m/\∀x∈ls.getD k [],x<ls.length:=by
 have e:ls.getD k []=ls[k]:=by simp[getD,h]
 rw[e];exact⟨getElem?_eq_getElem h,M.hl _ (getElem_mem h)⟩
def st_in(M:Mac m ls g)(c:Mac m ls' g'):∀p:P,p.1<ls.length/\p.2<ls'.length->∀q∈st ls ls' p,q.1<ls.length/\q.2<ls'.length:=λp a q e=>by
 have:=of_mem_zip e;exact⟨(M.row a.1).2.2 _ this.1,(c.row a.2).2.2 _ this.2⟩
def vk(M:Mac m ls g)(c:Mac m ls' g'){p:P}(a:p.1<ls.length/\p.2<ls'.length):(st ls ls' p).length=m:=by
 unfold st;rw[length_zip,(M.row a.1).2.1,(c.row a.2).2.1];exact Nat.min_self m
def vm(M:Mac m ls g):zS [.v (mD ls g)]=.ok (.v (.int (m:Nat)),[.e]):=by
 have r:=M.row M.hn.1;have l:zAq [tN (ls.getD 0 [])]=some (.v (.int (m:Nat))):=by
  show some (R.v (D.int (((N (ls.getD 0 [])).length:Nat):Int)))=_
  rw[jo,r.2.1]
 exact zp (zQ (zn (jZ (zB (JQ (JQ (zA rfl) x_c (ix0 _ _)) x_c (T_at r.1)) zG) l))) rfl
def QD(M:Mac m ls g)(i:Mac m ls' g'){p q:P}{s:Nat}(a:p.1<ls.length/\p.2<ls'.length)(e:(st ls ls' p)[s]?=some q):yV [.v (mD ls g),.v (mD ls' g'),.v (pD p),qI s]=.ok (.v (pD q),O4):=by
 have r:=M.row a.1;have c:=i.row a.2;obtain⟨j,k⟩:=q;obtain⟨h,h2⟩:=List.getElem?_zip_eq_some.mp e;exact zp (zQ (zn (jb (zB (JQ (JQ (JQ (zA rfl) x_c (ix0 _ _)) (JQ (zA rfl) x_c (p_at0 p)) (T_at r.1)) (zA rfl) (N_at h)) (zB (JQ (JQ (JQ (zA rfl) x_c (ix0 _ _)) (JQ (zA rfl) x_c (p_at1 p)) (T_at c.1)) (zA rfl) (N_at h2)) zG)) rfl yu))) rfl
end
theorem zHq{c:MT}{b:MS}(I:Nat->zU->Prop)(J:zU->Prop)(K:Nat)(e:∀k E,k<K->I k E->∃E1 E2,c E=.ok (true,E1)/\b E1=.ok (.nx,E2)/\I (k+1) E2)(g:∀E,I K E->∃E1,c E=.ok (false,E1)/\J E1) :
  ∀n k E,k<=K->K-k<n->I k E->∃E',whN c b n E=.ok (.nx,E')/\J E'
 |0,_,_,_,h,_=>absurd h (Nat.not_lt_zero _)
 |n+1,k,E,q,r,i=>by
  rcases Nat.lt_or_ge k K with h|h
  ·obtain⟨E1,E2,a,p,o⟩:=e k E h i
   obtain⟨E',l,j⟩:=zHq I J K e g n (k+1) E2 h (by omega) o;exact⟨E',by dsimp[whN,a,p,l],j⟩
  ·have:k=K:=by omega
   subst this;obtain⟨E1,a,j⟩:=g E i;exact⟨E1,by dsimp[whN,a],j⟩
def QE(p:Nat->Prop)(n:Nat)(h:p n):∃k,k<=n/\p k/\∀j,j<k->¬p j:=by
 induction n using Nat.strongRecOn with
 |ind n r =>
  by_cases q:∃k,k<n/\p k
  ·obtain⟨k,e,g⟩:=q
   obtain⟨o,a,b,c⟩:=r k e g;exact⟨o,by omega,b,c⟩
  ·exact⟨n,le_refl _,h,λj l i=>q ⟨j,l,i⟩⟩
def zCa{a b:Ls D}(h:a.length+b.length<=1000):Wa (.t a) (.t b)=some (.v (.t (a++b))):=by
 dsimp[Wa];exact if_pos (by dsimp[cap];omega)
def Vs(n:Nat)(vs:Ls D):Prop:=vs.length=n/\∀v∈vs,∃t:Ls D,v=.t t/\t.length<n
def Vs.up{n:Nat}{vs:Ls D}{t:Ls D}(h:Vs n vs)(a:t.length<=n):Vs (n+1) (vs++[.t t]) :=
 ⟨by simp[h.1],λv hv=>by
  rcases mem_append.mp hv with hv|hv
  ·obtain⟨t,e,l⟩:=h.2 v hv;exact⟨t,e,by omega⟩
  ·rw[mem_singleton]at hv;subst hv;exact⟨t,rfl,by omega⟩⟩
section
variable{m:Nat}{ls ls':Ls (Ls Nat)}{g g':Ls Nat}
abbrev AA(c a:Ls (Ls Nat))(k:Nat):Ls P:=A (st c a) k
def vn(M:Mac m ls g)(a:Mac m ls' g')(k:Nat):(AA ls ls' k).length<=144 :=
 le_trans (A_len M.hn.1 a.hn.1 (st_in M a) k) (le_trans (Nat.mul_le_mul M.hn.2 a.hn.2) (le_refl _))
def AA_in(M:Mac m ls g)(a:Mac m ls' g')(k:Nat):∀p∈AA ls ls' k,p.1<ls.length/\p.2<ls'.length:=uO (R:=λp:P=>p.1<ls.length/\p.2<ls'.length) ⟨M.hn.1,a.hn.1⟩ (st_in M a) k
def zFe{n:Nat}(h:n<=1000):n<cap:=by dsimp[cap];omega
def met_one(M:Mac m ls g)(z:Mac m ls' g'){acc:Ls P}{vs:Ls D}{p q:P}{s:Nat}{a:D}{s7:DV.Slot}(x:p.1<ls.length/\p.2<ls'.length)(l:p∈acc)(w:(st ls ls' p)[s]?=some q)(C:acc.length<=200)(j:Vs acc.length vs)(y:yd s7=true) :
  ∃vs',dB zM jD [.v (mD ls g),.v (mD ls' g'),.m (acc.map kP) vs,.w (acc.map pD),.v a,.v (pD p),qI s,s7]=.ok (.nx,[.v (mD ls g),.v (mD ls' g'),.m ((add acc q).map kP) vs',.w ((add acc q).map pD),.v a,.v (pD p),qI s,.v (pD q)])/\Vs (add acc q).length vs':=by
 have c:=QD M z x w;have u:(acc.map kP).length=vs.length:=by rw[j.1];simp
 have r:dS zM (.sSet 7 (.call 0 (.ev (.x 0) (.ev (.x 1) (.ev (.x 5) (.ev (.x 6) .nil)))))) [.v (mD ls g),.v (mD ls' g'),.m (acc.map kP) vs,.w (acc.map pD),.v a,.v (pD p),qI s,s7]=.ok (.nx,[.v (mD ls g),.v (mD ls' g'),.m (acc.map kP) vs,.w (acc.map pD),.v a,.v (pD p),qI s,.v (pD q)]) :=
  yE (Yl (F:=yV) rfl (zA rfl) (zA rfl) (zA rfl) (zA rfl) c) (by cases s7<;>first|rfl|(cases y))
 by_cases k:q∈acc
 ·have e:add acc q=acc:=if_pos k
  rw[e];obtain⟨d,n,_⟩:=G9 u (GE.mpr k);have t:=zCW (fs:=zM) (E:=[.v (mD ls g),.v (mD ls' g'),.m (acc.map kP) vs,.w (acc.map pD),.v a,.v (pD p),qI s,.v (pD q)]) (i:=2) (a:=.x 7) rfl (zA rfl) (wJ q);rw[n]at t;exact⟨vs,zH r (zQ (yl (t_E t) yn)),j⟩
 ·have e:add acc q=acc++[q]:=if_neg k
  rw[e];obtain⟨d,n,hd⟩:=G9 u (GE.mpr l);obtain⟨o,rfl,lt⟩:=j.2 d hd;have v:JZ (acc.map kP) vs (kP q)=none:=G8 λh=>k (GE.mp h)
  have t:=zCW (fs:=zM) (E:=[.v (mD ls g),.v (mD ls' g'),.m (acc.map kP) vs,.w (acc.map pD),.v a,.v (pD p),qI s,.v (pD q)]) (i:=2) (a:=.x 7) rfl (zA rfl) (wJ q);rw[v]at t;have ev:dE zM (.bin .add (.dgO 2 (.x 5)) (.t (.cons (.x 6) .nil))) [.v (mD ls g),.v (mD ls' g'),.m (acc.map kP) vs,.w (acc.map pD),.v a,.v (pD p),qI s,.v (pD q)]=.ok (.v (.t (o++[.int (s:Nat)])),[.v (mD ls g),.v (mD ls' g'),.m (acc.map kP) vs,.w (acc.map pD),.v a,.v (pD p),qI s,.v (pD q)]) :=
   zu (x_dgO rfl (zA rfl) (wJ p) n) (jb (ds:=[.int (s:Nat)]) (zB (zA rfl) zG) rfl yO) (zCa (a:=o) (b:=[.int (s:Nat)]) (by simp;omega))
  refine⟨vs++[.t (o++[.int (s:Nat)])],zH r (zQ (Jo (t_E t) (zH (zJB rfl ev (zA rfl) (wJ q) (by simp;omega) v rfl) (zQ (zHi rfl (zA rfl) rfl (by rw[length_map];exact zFe (by omega)) ?_))))),?_⟩
  ·simp
   exact⟨rfl,rfl⟩
  ·rw[length_append]
   exact j.up (by simp;omega)
end
section
variable{m:Nat}{ls ls':Ls (Ls Nat)}{g g':Ls Nat}
def s_aug{fs:Ls FI}{E E1:zU}{i:Nat}{o:Op2}{a:_}{x y z:Int}(h:E[i]?=some (.v (.int x)))(c:dE fs a E=.ok (.v (.int y),E))(g:o.aug x y=some z)(e:E.set i (.v (.int z))=E1):dS fs (.sAug i o a) E=.ok (.nx,E1):=by
 subst e;dsimp[rS_sAug,DV.sAug,h,c,R.d,g,if_true]
def zCb{fs:Ls FI}{E:zU}{i:Nat}{ds:Ls D}(h:E[i]?=some (.w ds)):dE fs (.lenO i) E=.ok (.v (.int ds.length),E):=by dsimp[rE_lenO,zC9,h]
def zJG{fs:Ls FI}{E:zU}{i:Nat}{b:_}{ds:Ls D}{k:Int}{d:D}(h:E[i]?=some (.w ds))(a:dE fs b E=.ok (.v (.int k),E))(c:atI ds k=some d):dE fs (.ixO i b) E=.ok (.v d,E):=by
 dsimp[zCH,zGm,h,a,jw,ixS,c];rfl
def zAM{l a:Ls P}{i:Nat}{q:P}(h:l[i]?=some q):(l.take (i+1)).foldl add a=add ((l.take i).foldl add a) q:=by
 rw[take_add_one,h];simp[foldl_append]
def zHr(M:Mac m ls g)(v:Mac m ls' g'){k:Nat}{p:P}{vs:Ls D}{G w s7:DV.Slot}(z:(AA ls ls' k)[k]?=some p)(Q:Vs (AA ls ls' k).length vs)(O:yd G=true)(L:yd w=true)(R:yd s7=true) :
  ∃c l n,dB zM jE [.v (mD ls g),.v (mD ls' g'),.m ((AA ls ls' k).map kP) vs,.w ((AA ls ls' k).map pD),qI k,G,w,s7]=.ok (.nx,[.v (mD ls g),.v (mD ls' g'),.m ((AA ls ls' (k+1)).map kP) c,.w ((AA ls ls' (k+1)).map pD),qI (k+1),.v (pD p),l,n])/\Vs (AA ls ls' (k+1)).length c/\yd l=true/\yd n=true:=by
 have u:=mem_of_getElem? z;have K:=AA_in M v k p u;have V:=vk M v K;have e:AA ls ls' (k+1)=grow (st ls ls') (AA ls ls' k) p:=WQ z;have H:∀i,((st ls ls' p).take i).foldl add (AA ls ls' k) <+: AA ls ls' (k+1):=λi=>by
  rw[e];unfold grow
  conv=>rhs;rw[<- take_append_drop i (st ls ls' p)]
  rw[foldl_append];exact JE _ _
 obtain⟨E',f,c,l,n,rfl,h,o,r⟩:=ji (tg:=gN 6) (body:=dB zM jD) (λi E=>∃c l n,E=[.v (mD ls g),.v (mD ls' g'),.m ((((st ls ls' p).take i).foldl add (AA ls ls' k)).map kP) c,.w ((((st ls ls' p).take i).foldl add (AA ls ls' k)).map pD),qI k,.v (pD p),l,n]/\Vs (((st ls ls' p).take i).foldl add (AA ls ls' k)).length c/\yd l=true/\yd n=true) (DV.zI 0 m) 0 [.v (mD ls g),.v (mD ls' g'),.m ((AA ls ls' k).map kP) vs,.w ((AA ls ls' k).map pD),qI k,.v (pD p),w,s7] ⟨vs,w,s7,rfl,Q,L,R⟩
  (λi d q E ⟨c,l,n,J,h,o,r⟩=>by
   rw[zero_add]at J h ⊢;obtain⟨rfl,S⟩:=Zn q;obtain⟨b,I⟩:∃b,(st ls ls' p)[i]?=some b:=⟨_,getElem?_eq_getElem (by omega)⟩;have hl:(((st ls ls' p).take i).foldl add (AA ls ls' k)).length<=144:=le_trans (H i).length_le (vn M v (k+1));obtain⟨C,f,t⟩:=met_one M v (a:=.int (k:Nat)) (s7:=n) K ((JE _ _).subset u) I (by omega) h r;rw[<- zAM I]at f t;refine⟨_,_,?_,f,C,_,_,rfl,t,rfl,rfl⟩;subst J;cases l<;>first|rfl|(cases o))
 rw[zero_add,yF,take_of_length_le (by omega),<- grow,<- e]at f;rw[zero_add,yF,take_of_length_le (by omega),<- grow,<- e]at h;refine⟨c,l,n,?_,h,o,r⟩;refine zH (yE (zJG rfl (zA rfl) (YR (d:=pD p) (by simp[z]))) (by cases G<;>first|rfl|(cases O))) (zH (Zj (tg:=.n 6) (j:=(m:Int)) (zB (zZ (F:=zS) rfl (zA rfl) (vm M)) zG) rfl (by rcases M.hm with rfl|rfl<;>decide) f) (zQ (s_aug (x:=(k:Int)) (y:=1) rfl x_c rfl rfl)))
abbrev fin(c a:Ls (Ls Nat)):Ls P:=AA c a 144
def zJH(M:Mac m ls g)(a:Mac m ls' g'){k:Nat}(h:(AA ls ls' k).length<=k)(c:k<=144):AA ls ls' k=fin ls ls':=by
 have:=zHm h (144-k);rw[show k+(144-k)=144 by omega]at this;exact this.symm
def e_met(M:Mac m ls g)(p:Mac m ls' g'):∃a,yq [.v (mD ls g),.v (mD ls' g')]=.ok (.m ((fin ls ls').map kP) a,[.e,.e]):=by
 obtain⟨K,D,e,G⟩:=QE (λk=>(AA ls ls' k).length<=k) 144 (vn M p 144);have H:=zJH M p e D;obtain⟨E',w,a,j,i,h,rfl⟩:=zHq (c:=dT zM (.tE (.cmp .lt (.x 4) (.lenO 3)))) (b:=dB zM jE) (λk E=>∃a j i h,E=[.v (mD ls g),.v (mD ls' g'),.m ((AA ls ls' k).map kP) a,.w ((AA ls ls' k).map pD),qI k,j,i,h]/\Vs (AA ls ls' k).length a/\yd j=true/\yd i=true/\yd h=true)
  (λE=>∃a j i h,E=[.v (mD ls g),.v (mD ls' g'),.m ((fin ls ls').map kP) a,.w ((fin ls ls').map pD),qI K,j,i,h]) K
  (λk E C ⟨a,j,i,h,n,hv,h5,u,x⟩=>by
   subst n;have q:k<(AA ls ls' k).length:=Nat.lt_of_not_le (G k C);obtain⟨r,y,z,f,o,l,t⟩:=zHr M p (getElem?_eq_getElem q) hv h5 u x;refine⟨_,_,t_E (zj (zA rfl) (zCb rfl) ?_),f,r,_,y,z,rfl,o,rfl,l,t⟩;show ltD (.int (k:Nat)) (.int _)=_;rw[vj,decide_eq_true (by simp;omega)])
  (λE ⟨a,j,i,h,n,hv,h5,u,x⟩=>by
   subst n;refine⟨_,t_E (zj (zA rfl) (zCb rfl) ?_),a,j,i,h,by rw[H]⟩;show ltD (.int (K:Nat)) (.int _)=_;rw[vj,decide_eq_false (by simp;omega)])
  1000000 0 [.v (mD ls g),.v (mD ls' g'),.m [kP (0,0)] [.t []],.w [pD (0,0)],.v (.int 0),.e,.e,.e] (zero_le _) (by omega) ⟨[.t []],.e,.e,.e,rfl,⟨rfl,λv hv=>by rw[mem_singleton]at hv;subst hv;exact⟨[],rfl,Nat.zero_lt_one⟩⟩,rfl,rfl,rfl⟩
 refine⟨a,zp (zH (yE (zJA (jb (ds:=[.int 0,.int 0]) (zB x_c (zB x_c zG)) rfl yu) (jb (ds:=[]) zG rfl zBQ) (wJ (0,0))) rfl) (zH (yE (Zh (ds:=[pD (0,0)]) (zB (jb (ds:=[.int 0,.int 0]) (zB x_c (zB x_c zG)) rfl yu) zG) rfl yO) rfl) (zH (yE x_c rfl) (zH (Zm w) (zQ (zn (zJC rfl rfl))))))) rfl⟩
end
theorem zAN{tg:MG}{tt:MT}{ma:MCD}(I:Nat->zU->Acc->Prop):∀(g:Ls D) (k:Nat) (E:zU) (c:Acc),I k E c ->
  (∀i d,g[i]?=some d->∀E c,I (k+i) E c->∃E1 E2 E3 a,tg d E=.ok E1/\tt E1=.ok (true,E2)/\ma E2 c=.ok (a,E3)/\I (k+i+1) E3 a) ->
  ∃E' a,zHR tg tt ma g E c=.ok (a,E')/\I (k+g.length) E' a
 | [],k,E,c,h,step=>⟨E,c,rfl,h⟩
 |d::g,k,E,c,h,step=>by
  obtain⟨E1,E2,E3,a,n,h2,o,h4⟩:=step 0 d rfl E c h;obtain⟨E',j,p,q⟩:=zAN I g (k+1) E3 a h4 λi l e E c h=>by
   have:=step (i+1) l (by exists e) E c (by rw[show k+(i+1)=k+1+i by omega];exact h);rw[show k+(i+1)+1=k+1+i+1 by omega]at this;exact this
  exact⟨E',j,by dsimp[zHR,J4,n,h2,o,p],by rw[length_cons,show k+(g.length+1)=k+1+g.length by omega];exact q⟩
def zHs{fs:Ls FI}{E E1 a:zU}{xs ys:Ls Str}{it tt ka c:_}{tg:Tg}{ds:Ls D}{res:Acc}(hi:dI fs it E=.ok (ds,E1))(h:zHR tg.m (dT fs tt) (maD (dE fs ka) (dE fs c)) ds [.e,.e] ([],[])=.ok (res,a)):dE fs (.dcomp 2 xs ys [] it tg tt ka c) E=.ok (.m res.1 res.2,E1):=by
 refine zA8 ?_;have e:(yC (replicate 2 DV.Slot.e++[]) a).drop 2=[]:=by
  match a with
  | []=>rfl| [_]=>rfl|_::_::_=>rfl
 have g:zHR tg.m (dT fs tt) (maD (dE fs ka) (dE fs c)) ds (replicate 2 .e++[]) ([],[])=.ok (res,a):=h;dsimp[zE3,Y4,hi,JP,zR,g,e,zO]
theorem zJI:∀(a:Ls D) (n i:Nat) {d:D},(zB3 n a)[i]?=some d->∃e,a[i]?=some e/\d=.t [.int ((n+i:Nat):Int),e]
 | [],_,_,_,h=>by simp[zB3]at h|e::a,n,0,d,h=>by simp[zB3]at h;exact⟨e,rfl,h.symm⟩
 |e::a,n,i+1,d,h=>by
  obtain⟨c,g,h2⟩:=zJI a (n+1) i h;exact⟨c,by simpa using g,by rw[h2,show n+1+i=n+(i+1)by omega]⟩
def zJJ{p q:P}(F:Ls P)(e:¬p=q):(p::F).idxOf q=F.idxOf q+1:=by
 rw[List.idxOf_cons];have:(p==q)=false:=by rw[beq_eq_false_iff_ne];exact e
 rw[this];rfl
theorem gV_at:∀(F:Ls P) (l:Ls Nat) {q:P},F.length=l.length->q∈F->JZ (F.map kP) (N l) (kP q)=some (.int ((l.getD (F.idxOf q) 0:Nat):Int))
 | [],_,_,_,h=>by cases h|p::F,[],_,hl,_=>by cases hl
 |p::F,x::l,q,hl,h=>by
  dsimp[map_cons,N,JZ];by_cases e:p=q
  ·subst e;rw[if_pos rfl];simp
  ·rw[if_neg λk=>e (zFd k)]
   have c:q∈F:=by
    rcases mem_cons.mp h with h|h
    ·exact absurd h.symm e
    ·exact h
   have a:=gV_at F l (by exists hl) c;rw[show List.map (λn:Nat=>D.int (n:Int)) l=N l from rfl,a,zJJ F e];simp
def zJK{F:Ls P}{q:P}(h:q∈F):JZ (F.map kP) (N (List.range F.length)) (kP q)=some (.int ((F.idxOf q:Nat):Int)):=by
 rw[gV_at F _ (by simp) h];have:F.idxOf q<F.length:=idxOf_lt_length_iff.mpr h;simp[getD,this]
def zJL{F:Ls P}(h:F.Nodup){k:Nat}{p:P}(e:F[k]?=some p):F.idxOf p=k:=by
 obtain⟨a,rfl⟩:=qG.mp e;exact h.idxOf_getElem k a
def zFf{F:Ls P}(o:F.Nodup)(G:F.length<=1000){fs:Ls FI}{E E1:zU}{xs ys:Ls Str}{it:_}(hi:dI fs it E=.ok (zB3 0 (F.map pD),E1)):dE fs (.dcomp 2 xs ys [] it (.t [0,1]) .tTr (.x 1) (.x 0)) E=.ok (.m (F.map kP) (N (List.range F.length)),E1):=by
 obtain⟨E',c,h,l,g,r,_,_,rfl⟩:=zAN (tg:=(Tg.t [0,1]).m) (tt:=dT fs .tTr) (ma:=maD (dE fs (.x 1)) (dE fs (.x 0))) (λk E c=>∃l g,E=[l,g]/\yd l=true/\yd g=true/\c=((F.take k).map kP,N (List.range k))) (zB3 0 (F.map pD)) 0 [.e,.e] ([],[]) ⟨.e,.e,rfl,rfl,rfl,rfl⟩
  (λi d q E c ⟨l,g,r,y,v,t⟩=>by
   rw[zero_add]at t ⊢;obtain⟨e,n,rfl⟩:=zJI _ 0 i q;rw[getElem?_map]at n;exists hp,F[i]?,n,p;cases n;rw[zero_add];have nm:p∉F.take i:=λk=>by
    obtain⟨j,w,e⟩:=getElem_of_mem k;have u:j<i:=by simp at w;omega
    have x:F[j]?=some p:=by
     rw[<- e,List.getElem_take,getElem?_eq_getElem]
    have a:=zJL o x;have b:=zJL o hp;omega
   have C:JZ ((F.take i).map kP) (N (List.range i)) (kP p)=none:=G8 λk=>nm (GE.mp k)
   refine⟨[qI i,.v (pD p)],[qI i,.v (pD p)],[qI i,.v (pD p)],_,?_,by dsimp[uo,Gc],?_,_,_,rfl,rfl,rfl,rfl⟩
   ·subst r;cases l<;>first|(cases y;done)|(cases g<;>first|(cases v;done)|rfl)
   ·subst t
    have D:dE fs (.x 1) [qI i,.v (pD p)]=.ok (.v (pD p),[qI i,.v (pD p)]):=zA rfl;have z:dE fs (.x 0) [qI i,.v (pD p)]=.ok (.v (.int (i:Nat)),[qI i,.v (pD p)]):=zA rfl;dsimp[maD,D,z,R.d,wJ];rw[if_pos (by simp;omega)];dsimp[zGB,C,take_add_one,hp,Option.toList_some,map_append,map_cons,map_nil,range_succ,N_app];rfl)
 rw[zero_add,Wh,length_map,take_of_length_le (le_refl _)]at h;exact zHs hi h
abbrev O1:Ls DV.Slot:=[.e]
abbrev O2:Ls DV.Slot:=[.e,.e]
abbrev O3:Ls DV.Slot:=[.e,.e,.e]
def j0{d:D}(h:ok4 d)(a:mgB d=true):zN [.v d]=.ok (.v .non,O1):=by
 have e:=YS d h;rw[a]at e;exact f_nx (zQ (yl (jn (t_E (zZ (F:=yJ) rfl (zA rfl) e)) rfl) yn)) rfl
def in_N(neg:Bool)(a:Nat)(g:Ls Nat):inG neg (.int (a:Nat)) (tN g)=some (.v (.bl (if neg then !decide (a∈g)else decide (a∈g)))):=by
 have i:(N g).all flat=true:=by
  refine all_eq_true.mpr λd hd=>?_
  obtain⟨n,_,rfl⟩:=J6 hd;rfl
 have j:inV (flV (.int (a:Nat))) ((N g).map flV)=decide (a∈g):=by
  unfold inV N;rw[map_map,List.any_map,Bool.eq_iff_iff,List.any_eq_true,decide_eq_true_iff];constructor
  ·rintro ⟨n,c,e⟩
   have:n=a:=by have:=beq_iff_eq.mp e;omega
   subst this;exact c
  ·exact λh=>⟨a,h,show((a:Int)==(a:Int))=true from beq_self_eq_true _⟩
 have:inF neg (.int (a:Nat)) (tN g)=some (.v (.bl (if neg then !decide (a∈g)else decide (a∈g)))):=by
  show(if flat (.int (a:Nat))=true/\(N g).all flat=true then _ else _)=_
  rw[if_pos ⟨rfl,i⟩,j]
 dsimp[inG,this]
def cN(a:Nat)(g:Ls Nat):Nat:=if a∈g then 1 else 0
def gm(g g':Ls Nat)(p:P):Nat:=cN p.1 g+cN p.2 g'
def fG:D->Bool
 | .t [.t [_,g],x]=>(match inG false x g with|some (.v (.bl b))=>b|_=>false)
 |_=>false
section
variable{m:Nat}{ls ls':Ls (Ls Nat)}{g g':Ls Nat}
def fG_at(a:Nat):fG (.t [mD ls g,.int (a:Nat)])=decide (a∈g):=by
 show(match inG false (.int (a:Nat)) (tN g)with|some (.v (.bl b))=>b|_=>false)=_
 rw[in_N];rfl
def gT2(a b:D)(S:Ls DV.Slot)(h:S.length=2)(hn:∀s∈S,yd s=true)(vs:Ls D):(Tg.t [0,1]).m (.t [a,b]) (S++vs.map DV.Slot.v)=.ok ([.v a,.v b]++vs.map DV.Slot.v):=by
 match S,h with
 | [c,e],_ =>
  have i:=hn c (by simp);have g:=hn e (by simp);cases c<;>first|(cases i;done)|(cases e<;>first|(cases g;done)|rfl)
def Ym(p:P):yr [.v (mD ls g),.v (mD ls' g'),.v (pD p)]=.ok (.v (.int ((gm g g' p:Nat):Int)),O3):=by
 have two:∀d∈[D.t [mD ls g,.int (p.1:Nat)],D.t [mD ls' g',.int (p.2:Nat)]],∃l h a,d=.t [mD l h,.int ((a:Nat):Int)]:=λd hd=>by
  rcases mem_cons.mp hd with rfl|hd
  ·exact⟨_,_,_,rfl⟩
  ·rw[mem_singleton]at hd;subst hd;exact⟨_,_,_,rfl⟩
 have c:=uz (fs:=WI) (E:=[.v (mD ls g),.v (mD ls' g'),.v (pD p)]) (nl:=2) (xs:=["machine","stand"]) (ys:=[]) (caps:=[]) (it:=.iZ true true (.cons (.t (.cons (.x 0) (.cons (.x 1) .nil))) (.cons (.x 2) .nil))) (tt:=.tE (.cmp .inn (.x 1) (.ix (.x 0) (.c (.int 1))))) (el:=.x 1) (tg:=.t [0,1]) (vs:=[]) patP fG (λd=>match d with | .t [_,x]=>x|_=>.non)
  (i_Z (zB (jb (ds:=[mD ls g,mD ls' g']) (zB (zA rfl) (zB (zA rfl) zG)) rfl yu) (zB (zA rfl) zG)) rfl rfl) rfl
  (λd hd S k i=>by obtain⟨l,h,a,rfl⟩:=two d hd;exact gT2 _ _ S k i [])
  (λd hd=>by
   obtain⟨l,h,a,rfl⟩:=two d hd;exact⟨rfl,λs e=>by
    rcases mem_cons.mp e with rfl|e
    ·rfl
    ·rw[mem_singleton]at e;subst e;rfl⟩)
  (λd hd=>by
   obtain⟨l,h,a,rfl⟩:=two d hd;rw[fG_at];exact t_E (zj (zA rfl) (JQ (zA rfl) x_c (ix1 _ _)) (in_N false a h)))
  (λd hd _=>by
   obtain⟨l,h,a,rfl⟩:=two d hd;exact⟨_,zA rfl,rfl⟩) (by simp[cap]) rfl
 refine zp (zQ (zn (jZ (zB c zG) ?_))) rfl;show some (R.v (D.int (((([D.t [mD ls g,.int (p.1:Nat)],D.t [mD ls' g',.int (p.2:Nat)]].filter fG).map λd=>match d with | .t [_,x]=>x|_=>.non).length:Nat):Int)))=_
 have:((([D.t [mD ls g,.int (p.1:Nat)],D.t [mD ls' g',.int (p.2:Nat)]].filter fG).map λd=>match d with | .t [_,x]=>x|_=>.non).length)=gm g g' p:=by
  rw[length_map,filter_cons,filter_cons,List.filter_nil,fG_at,fG_at];unfold gm cN;by_cases j:p.1∈g<;>by_cases h2:p.2∈g'<;>simp[j,h2]
 rw[this]
def zCc(a b:Nat):neG (.int (a:Nat)) (.int (b:Nat))=some (.v (.bl (!decide (a=b)))):=by
 have:neF (.int (a:Nat)) (.int (b:Nat))=some (.v (.bl (!decide (a=b)))):=by
  show some (R.v (D.bl (!((a:Int)==(b:Int)))))=_
  have:((a:Int)==(b:Int))=decide (a=b):=by
   rw[Bool.eq_iff_iff,beq_iff_eq,decide_eq_true_iff];omega
  rw[this]
 dsimp[neG,this]
end
def un:D->P
 | .t [.int a,.int b]=>(a.toNat,b.toNat)|_=>(0,0)
def zDO(p:P):un (pD p)=p:=by
 show((p.1:Int).toNat,(p.2:Int).toNat)=p
 simp
def zJM(a b:Nat):gtD (.int (a:Nat)) (.int (b:Nat))=some (.v (.bl (decide (b<a)))):=by
 show some (R.v (D.bl (decide ((a:Int) > (b:Int)))))=_
 congr 3;exact decide_eq_decide.mpr (by omega)
def ge_nat(a b:Nat):geD (.int (a:Nat)) (.int (b:Nat))=some (.v (.bl (decide (b<=a)))):=by
 show some (R.v (D.bl (decide ((a:Int) ≥ (b:Int)))))=_
 congr 3;exact decide_eq_decide.mpr (by omega)
section
variable{m:Nat}{ls ls':Ls (Ls Nat)}{g g':Ls Nat}
def zJN:(fin ls ls').Nodup:=A_nd 144
def QF(M:Mac m ls g)(a:Mac m ls' g'):(fin ls ls').length<=144:=vn M a 144
def zJO(M:Mac m ls g)(a:Mac m ls' g'):∀p∈fin ls ls',p.1<ls.length/\p.2<ls'.length:=AA_in M a 144
def zJP(M:Mac m ls g)(a:Mac m ls' g'):∀p∈fin ls ls',∀q∈st ls ls' p,q∈fin ls ls':=zHn (QF M a)
def zDP(c a:Ls (Ls Nat))(p:P):Ls Nat:=(st c a p).map λq=>(fin c a).idxOf q
def zHt(c a:Ls (Ls Nat)):Ls (Ls Nat):=(fin c a).map (zDP c a)
def goodI(c a:Ls (Ls Nat))(g g':Ls Nat)(w:Nat):Ls Nat:=((fin c a).filter λp=>decide (w<=gm g g' p)).map λp=>(fin c a).idxOf p
abbrev zJQ(c a:Ls (Ls Nat)):D:=.m ((fin c a).map kP) (N (List.range (fin c a).length))
def zAO{α:Type}(l:Ls α)(f:Nat->D)(h:α->D)(e:∀i x,l[i]?=some x->f i=h x):(List.range l.length).map f=l.map h:=by
 refine ext_getElem? λi=>?_
 rw[getElem?_map,getElem?_map];rcases Nat.lt_or_ge i l.length with a|a
 ·rw[getElem?_range a,getElem?_eq_getElem a]
  dsimp[Option.map_some];rw[e i _ (getElem?_eq_getElem a)]
 ·rw[getElem?_eq_none (by exists a),getElem?_eq_none a];rfl
def e_steps(M:Mac m ls g)(a:Mac m ls' g'){E E1:zU}{it:_}(e:dI jy it E=.ok ((fin ls ls').map pD,E1))(l:JP E1 [0,4,1]=.ok ([mD ls g,zJQ ls ls',mD ls' g'].map AR.tmp)) :
  dE jy (.comp 1 ["pair"] ["one","numbers","other"] [0,4,1] it (.n 0) .tTr (.cB .tuple (.cons (.comp 1 ["sign"] ["numbers","one","other","pair"] [2,1,3,0] (.iR1 (.cons (.call 1 (.ev (.x 1) .nil)) .nil)) (.n 0) .tTr (.dg (.x 1) (.call 2 (.ev (.x 2) (.ev (.x 3) (.ev (.x 4) (.ev (.x 0) .nil))))))) .nil))) E=.ok (.w (T (zHt ls ls')),E1):=by
 refine yw (vs:=[mD ls g,zJQ ls ls',mD ls' g']) (λd=>tN (zDP ls ls' (un d))) e l (λd hd=>?_) (by rw[length_map];have:=QF M a;dsimp[cap];omega) ?_
 ·obtain⟨p,h,rfl⟩:=mem_map.mp hd
  have k:=zJO M a p h;have o:=vk M a k;have inner:=yw (fs:=jy) (E:=[.v (pD p),.v (mD ls g),.v (zJQ ls ls'),.v (mD ls' g')]) (xs:=["sign"]) (ys:=["numbers","one","other","pair"]) (caps:=[2,1,3,0]) (it:=.iR1 (.cons (.call 1 (.ev (.x 1) .nil)) .nil)) (el:=.dg (.x 1) (.call 2 (.ev (.x 2) (.ev (.x 3) (.ev (.x 4) (.ev (.x 0) .nil)))))) (ds:=DV.zI 0 m) (rs:=N (zDP ls ls' p)) (vs:=[zJQ ls ls',mD ls g,mD ls' g',pD p])
   (λd=>match d with | .int i=>.int (((zDP ls ls' p).getD i.toNat 0:Nat):Int)|_=>.non)
   (zHh (j:=(m:Int)) (zB (zZ (F:=zS) rfl (zA rfl) (vm M)) zG) rfl (by rcases M.hm with rfl|rfl<;>decide)) rfl
   (λd hd=>by
    obtain⟨i,e⟩:=getElem?_of_mem hd;obtain⟨rfl,u⟩:=Zn e;obtain⟨q,c⟩:∃q,(st ls ls' p)[i]?=some q:=⟨_,getElem?_eq_getElem (by omega)⟩;refine⟨_,x_dg (zA rfl) rfl (Yl (F:=yV) rfl (zA rfl) (zA rfl) (zA rfl) (zA rfl) (QD M a k c)) (wJ q) (zJK (zJP M a p h q (mem_of_getElem? c))),?_⟩;show D.int _=D.int _;simp[zDP,c]) (by rw[yF];rcases M.hm with rfl|rfl<;>simp[cap])
   (by
    rw[GC];unfold N;rw[map_map];have:=zAO (zDP ls ls' p) (λi=>D.int (((zDP ls ls' p).getD i 0:Nat):Int)) (λn:Nat=>D.int (n:Int)) (λi x t=>by simp[t]);rw[show(zDP ls ls' p).length=m by simp[zDP,o]]at this;rw[<- this];exact map_congr_left λi _=>by simp)
  refine⟨_,jZ (b:=.tuple) (r:=.v (tN (zDP ls ls' p))) (zB inner zG) rfl,?_⟩;show tN (zDP ls ls' p)=tN (zDP ls ls' (un (pD p)));rw[zDO]
 ·unfold zHt T
  rw[map_map,map_map];exact map_congr_left λp _=>by show tN (zDP ls ls' (un (pD p)))=_;rw[zDO];rfl
def e_goods(M:Mac m ls g)(j:Mac m ls' g'){w:Nat}{E E1:zU}{it:_}(hi:dI jy it E=.ok ((fin ls ls').map pD,E1))(h:JP E1 [4,0,1,2]=.ok ([zJQ ls ls',mD ls g,mD ls' g',.int (w:Nat)].map AR.tmp)) :
  dE jy (.comp 1 ["pair"] ["numbers","one","other","wanted"] [4,0,1,2] it (.n 0) (.tE (.cmp .ge (.call 0 (.ev (.x 2) (.ev (.x 3) (.ev (.x 0) .nil)))) (.x 4))) (.dg (.x 1) (.x 0))) E=.ok (.w (N (goodI ls ls' g g' w)),E1):=by
 refine uz (vs:=[zJQ ls ls',mD ls g,mD ls' g',.int (w:Nat)]) (λd=>[.v d]) (λd=>decide (w<=gm g g' (un d))) (λd=>.int (((fin ls ls').idxOf (un d):Nat):Int)) hi h (λd hd S e i=>zFK e i) (λd hd=>⟨rfl,λs a=>by rw[mem_singleton]at a;subst a;rfl⟩) (λd hd=>?_) (λd hd _=>?_) (by rw[length_map];have:=QF M j;dsimp[cap];omega) ?_
 ·obtain⟨p,c,rfl⟩:=mem_map.mp hd
  rw[zDO];exact t_E (zj (yD (F:=yr) rfl (zA rfl) (zA rfl) (zA rfl) (Ym p)) (zA rfl) (ge_nat _ _))
 ·obtain⟨p,c,rfl⟩:=mem_map.mp hd
  exact⟨_,x_dg (zA rfl) rfl (zA rfl) (wJ p) (zJK c),by rw[zDO];rfl⟩
 ·unfold goodI N
  rw[List.filter_map,map_map,map_map];have:((λd=>decide (w<=gm g g' (un d))) ∘ pD)=λp=>decide (w<=gm g g' p):=by funext p;show decide (w<=gm g g' (un (pD p)))=_;rw[zDO]
  rw[this];exact map_congr_left λp _=>by show D.int (((fin ls ls').idxOf (un (pD p)):Nat):Int)=_;rw[zDO];rfl
end
section
variable{m:Nat}{ls ls':Ls (Ls Nat)}{g g':Ls Nat}
def zJR(F:Ls P):(F.map kP).map kD=F.map pD:=by rw[map_map];rfl
def zBX(ds:Ls D):Bi.f .tuple [.l ds]=some (.v (.t ds)):=rfl
end
theorem zCd:∀{l:Ls Nat},zA3 l->zJF (N l)=true
 | [],_=>rfl| [_],_=>rfl
 |a::b::r,h=>by
  have c:=(List.pairwise_cons.mp h);show(decide ((a:Int)<(b:Int))&&zJF (N (b::r)))=true;rw[zCd c.2,decide_eq_true (by have:=c.1 b qE;omega)];rfl
def aw_N{l:Ls Nat}{n:Nat}(h:∀x∈l,x<n):awB ((n:Int)-1) (tN l)=true:=by
 show(N l).all _=true
 rw[all_eq_true];intro x a;obtain⟨y,c,rfl⟩:=J6 a;have:=h y c;dsimp[vi,Bool.and_eq_true,decide_eq_true_eq];omega
def Js{m:Nat}{a:Ls (Ls Nat)}{g:Ls Nat}(M:Mac m a g):mgB (mD a g)=true:=by
 have c:=M.hn;have k:=M.hm;have h:tl ((T a).getD 0 .non)=m:=by
  cases a with
  |nil=>simp at c|cons l r=>have:=(M.hl l qE).1;show(N l).length=m;rw[jo,this]
 have j:(T a).all (awB (((T a).length:Int)-1))=true:=by
  rw[QC,all_eq_true];intro d hd;obtain⟨l,hl,rfl⟩:=zDN hd;exact aw_N (M.hl l hl).2
 have i:((T a).all λr=>decide (tl r=tl ((T a).getD 0 .non)))=true:=by
  rw[h,all_eq_true];intro d hd;obtain⟨l,hl,rfl⟩:=zDN hd;exact decide_eq_true (by show(N l).length=m;rw[jo,(M.hl l hl).1])
 show(stB (.t (T a))&&(awB _ (tN g)&&zJF (N g)))=true
 have e:stB (.t (T a))=true:=by
  show(decide (1<=(T a).length)&&decide ((T a).length<=12)&&(T a).all (awB (((T a).length:Int)-1))&&(decide (2<=tl ((T a).getD 0 .non))&&decide (tl ((T a).getD 0 .non)<=3)&&(T a).all λr=>decide (tl r=tl ((T a).getD 0 .non))))=true
  rw[j,i,h,QC,decide_eq_true c.1,decide_eq_true c.2,decide_eq_true (by omega:2<=m),decide_eq_true (by omega:m<=3)];rfl
 rw[e,zCd M.hr];have:awB (((tl (.t (T a)):Nat):Int)-1) (tN g)=true:=by
  show awB (((T a).length:Int)-1) (tN g)=true
  rw[QC];exact aw_N M.hg
 rw[this];rfl
section
variable{m:Nat}{ls ls':Ls (Ls Nat)}{g g':Ls Nat}
def zFg{m c:Nat}(M:Mac m ls g)(a:Mac c ls' g')(h:m=c):yz [.v (mD ls g),.v (mD ls' g')]=.ok (.v .non,O2):=by
 have n:=zCc m c;rw[decide_eq_true h,Bool.not_true]at n;exact f_nx (zH (ym (zZ (F:=zN) rfl (zA rfl) (j0 (zAL M) (Js M)))) (zH (ym (zZ (F:=zN) rfl (zA rfl) (j0 (zAL a) (Js a)))) (zQ (yl (t_E (zj (zZ (F:=zS) rfl (zA rfl) (vm M)) (zZ (F:=zS) rfl (zA rfl) (vm a)) n)) yn)))) rfl
end
section
variable{m:Nat}{ls ls':Ls (Ls Nat)}{g g':Ls Nat}
def zHu(M:Mac m ls g)(a:Mac m ls' g'){w:Nat}(o:(fin ls ls').length<=12):jm [.v (mD ls g),.v (mD ls' g'),qI w]=.ok (.v (mD (zHt ls ls') (goodI ls ls' g g' w)),O3):=by
 obtain⟨c,i⟩:=e_met M a;have j:Bi.f .lisK [.m ((fin ls ls').map kP) c]=some (.w ((fin ls ls').map pD)):=by
  show some (R.w (((fin ls ls').map kP).map kD))=_
  rw[zJR]
 have h:zAq [.l ((fin ls ls').map pD)]=some (.v (.int (((fin ls ls').length:Nat):Int))):=by
  show some (R.v (D.int ((((fin ls ls').map pD).length:Nat):Int)))=_
  rw[length_map]
 have l:gtD (.int (((fin ls ls').length:Nat):Int)) (.int 12)=some (.v (.bl false)):=by
  have:=zJM (fin ls ls').length 12;rw[decide_eq_false (by omega)]at this;exact this
 have k:=zFf (F:=fin ls ls') zJN (by have:=QF M a;omega) (fs:=jy) (E:=[.v (mD ls g),.v (mD ls' g'),qI w,.v (.l ((fin ls ls').map pD)),.e,.e,.e]) (xs:=["number","pair"]) (ys:=[]) (it:=.iE false (.cons (.x 3) .nil)) (i_E (zB (zA rfl) zG) rfl);have n:=e_steps M a (E:=[.v (mD ls g),.v (mD ls' g'),qI w,.v (.l ((fin ls ls').map pD)),.v (zJQ ls ls'),.e,.e]) (it:=.iL (.x 3)) (i_L (zA rfl) rfl) rfl;have e:=e_goods M a (w:=w) (E:=[.v (mD ls g),.v (mD ls' g'),qI w,.v (.l ((fin ls ls').map pD)),.v (zJQ ls ls'),.w (T (zHt ls ls')),.e]) (it:=.iL (.x 3)) (i_L (zA rfl) rfl) rfl;exact zp (zH (ym (zP (F:=yz) rfl (zA rfl) (zA rfl) (zFg M a rfl))) (zH (yE (jZ (b:=.lisK) (zB (zP (F:=yq) rfl (zA rfl) (zA rfl) i) zG) j) rfl) (zH (yl (t_E (zj (jZ (zB (ZM rfl rfl) zG) h) vd l)) yn) (zH (yE (zFX k) rfl) (zH (yE n rfl) (zH (yE e rfl) (zQ (zn (jb (zB (jZ (zB (ZM rfl rfl) zG) (zBX _)) (zB (jZ (zB (ZM rfl rfl) zG) (zBX _)) zG)) rfl yu)))))))) ) rfl
end
end My
namespace My
open PySem L2 DV SM
def GF(d:D)(h:okD d):wV [.v d]=.ok (.v (.bl (zGC d)),[.e]):=by
 cases d with
 |t a =>
  have j:dT Yg (.tNot (.tE (.is .tuple (.x 0)))) [.v (.t a)]=.ok (false,[.v (.t a)]):=jn (t_E (b:=true) rfl) rfl;have g:dE Yg (.cB .len (.cons (.x 0) .nil)) [.v (.t a)]=.ok (.v (.int a.length),[.v (.t a)]):=jZ (zB (zA rfl) zG) rfl;by_cases h2:2<=a.length
  ·have c:Cp.le.b 2 (a.length:Int)=true:=decide_eq_true (by omega)
   by_cases k:a.length<=3
   ·have i:Cp.le.b (a.length:Int) 3=true:=decide_eq_true (by omega)
    have e:zGC (.t a)=a.all (vi 1 9):=by simp[zGC,h2,k]
    rw[e];exact zp (zH (yl (zDI j (jn (t_E (Zi vd g c vd i)) rfl)) yn) (zQ (zn (jZ (zB (yw (vs:=[]) (λd=>.bl (vi 1 9 d)) (i_T (zA rfl) rfl) rfl (λd hd=>⟨_,yD rfl (zA rfl) vd vd (jQ d 1 9 (h.2 d hd)),rfl⟩) h.1 rfl) zG) (zAJ rfl))))) rfl
   ·have i:Cp.le.b (a.length:Int) 3=false:=decide_eq_false (by omega)
    have e:zGC (.t a)=false:=by simp[zGC,k]
    rw[e];exact zp (Zk (Jo (zDI j (jn (t_E (Zi vd g c vd i)) rfl)) (zQ (zn x_c)))) rfl
  ·have c:Cp.le.b 2 (a.length:Int)=false:=decide_eq_false (by omega)
   have e:zGC (.t a)=false:=by simp[zGC,h2]
   rw[e];exact zp (Zk (Jo (zDI j (jn (t_E (G4 vd g c)) rfl)) (zQ (zn x_c)))) rfl
 |fn x=>cases h|exn x y=>cases h|m x y=>cases h|_=>rfl
section
variable{fs:Ls FI}{E E1 E2 E3 E4:zU}
def Zm{t b:_}{p:Fl×zU}(h:DV.whN (dT fs t) (dB fs b) 1000000 E=.ok p):dS fs (.sWhile t b) E=.ok p:=by
 dsimp[Q9];exact vN (by dsimp[DV.sWhile];exact h)
def zFh{i:Nat}{s:DV.Slot}{ds:Ls D}(c:s=.w ds\/s=.v (.l ds))(h:E[i]?=some s)(h':E.set i (.v (.l ds))=E1):dE fs (.x i) E=.ok (.v (.l ds),E1):=by
 rcases c with rfl|rfl
 ·exact ZM h h'
 ·rw[zA h]
  have:E.set i (.v (.l ds))=E:=by
   obtain⟨a,e⟩:=qG.mp h;rw[<- e];exact List.set_getElem_self a
  rw[this]at h';rw[h']
end
def zAP{n:Nat}(h:n<2^800):n<Big:=lt_trans h (by left)
def mul_big{i j:Int}(a:i.natAbs<2^800)(c:j.natAbs<2^800):uC (.int i) (.int j)=some (.v (.int (i*j))):=by
 unfold uC;have:uB (.int i) (.int j)=some (.v (.int (i*j))):=by
  dsimp[uB];exact if_pos (.inr ⟨zAP a,zAP c⟩)
 rw[this]
def zBY(a b:Nat)(c:a<2^800)(e:b<2^800):uC (.int a) (.int b)=some (.v (.int ((a*b:Nat):Int))):=by
 rw[mul_big (by exists c) (by exists e)];simp
def zFi(t:Int):absG [.int t]=some (.v (.int (t.natAbs:Nat))):=by
 have:(if t<0 then -t else t)=((t.natAbs:Nat):Int):=by split<;>omega
 dsimp[absG,this]
def zBZ(t:Nat):absG [.int t]=some (.v (.int (t:Nat))):=by
 rw[zFi];simp
def Wo(a:Int)(b:Nat)(h:0<b)(c:b<2^800):zC7 (.int a) (.int b)=some (.v (.int (a/b))):=by
 dsimp[zC7,zED];rw[if_pos (decide_eq_true ⟨by omega,.inr (zAP (by exists c))⟩)]
def yW(d:D)(lo hi:Int)(h:isFn d=false)(a:vi lo hi d=true):zV [.v d,.v (.int lo),.v (.int hi)]=.ok (.v .non,[.e,.e,.e]):=by
 have e:=jQ d lo hi h;rw[a]at e;exact f_nx (zQ (yl (jn (t_E (yD rfl (zA rfl) (zA rfl) (zA rfl) e)) rfl) yn)) rfl
def e_gcd(t:Int)(b:Nat)(e:b<2^400):y8 [.v (.int t),.v (.int b)]=.ok (.v (.int (t.natAbs.gcd b:Nat)),[.e,.e]):=by
 have w:=G6 (c:=dT yp (.tE (.cmp .ne (.x 1) (.c (.int 0))))) (bd:=dB yp (.o (.sPar 0 1 (.cons (.x 1) (.cons (.bin .mod (.x 0) (.x 1)) .nil))))) (λa b=>[qI a,qI b])
  (λa b=>t_E (zj (zA rfl) x_c (by
   show neG (.int (b:Int)) (.int 0)=_
   rw[ne_int];by_cases z:b=0
   ·subst z;rfl
   ·have:¬(b:Int)=0:=by omega
    simp[z])))
  (λa b h=>zQ (zBP (zB (zA rfl) (zB (zu (zA rfl) (zA rfl) (zBW a b h)) zG)) rfl)) 400 1000000 t.natAbs b e (by omega)
 exact zp (zH (zBP (zB (jZ (zB (zA rfl) zG) (zFi t)) (zB (jZ (zB (zA rfl) zG) (zBZ b)) zG)) rfl) (zH (Zm w) (zQ (zn (zA rfl))))) rfl
def zJS{t b:Nat}(a:0<b)(c:b<2^400):0<t.gcd b/\t.gcd b<2^800:=by
 refine⟨Nat.gcd_pos_of_pos_right _ a,?_⟩;have:=Nat.le_of_dvd a (gcd_dvd_right t b);exact lt_trans (lt_of_le_of_lt this c) (by left)
def zCe(b g:Nat):((b:Int)/(g:Int))=((b/g:Nat):Int):=by simp
def zDQ(t:Int)(b:Nat)(h:0<b)(g:b<2^400):Jz [.v (.int t),.v (.int b)]=.ok (.v (nrm t b),[.e,.e]):=by
 obtain⟨c,e⟩:=zJS (t:=t.natAbs) h g;have q:eqG (.int (b:Int)) (.int 0)=some (.v (.bl false)):=by
  rw[eq_int,decide_eq_false (by omega)]
 have l:ltD (.int (b:Int)) (.int 0)=some (.v (.bl false)):=by
  simp[ltD,zEF]
 have i:=Wo t _ c e;have a:=Wo b _ c e;rw[zCe]at a;exact zp (zH (yl (t_E (zj (zA rfl) x_c q)) yn) (zH (yE (zP rfl (zA rfl) (zA rfl) (e_gcd t b g)) rfl) (zH (yl (t_E (zj (zA rfl) x_c l)) yn) (zQ (zn (jb (zB (zu (zA rfl) (zA rfl) i) (zB (zu (zA rfl) (zA rfl) a) zG)) rfl yu)))))) rfl
def vo(a b:Nat):Wa (.int a) (.int b)=some (.v (.int ((a+b:Nat):Int))):=by simp[Wa]
def zJT{a b:Nat}(h:b<=a):subD (.int (a:Int)) (.int (b:Int))=some (.v (.int ((a-b:Nat):Int))):=by
 dsimp[subD,zEF];rw[Int.ofNat_sub h]
def mul_sm0{i j:Int}(a:0<=i)(h:i<=100000):uB (.int i) (.int j)=some (.v (.int (i*j))):=by
 dsimp[uB];exact if_pos (.inl (.inl ⟨by omega,by omega⟩))
def vq(a b:Nat)(h:a<=100000):uC (.int a) (.int b)=some (.v (.int ((a*b:Nat):Int))):=by
 have:=zFU (mul_sm0 (i:=(a:Int)) (j:=(b:Int)) (by omega) (by omega));rw[this,Int.natCast_mul]
def lt_nat(a b:Nat):ltD (.int (a:Int)) (.int (b:Int))=some (.v (.bl (decide (a<b)))):=by
 show some (R.v (D.bl (decide ((a:Int)<b))))=_
 congr 3;simp
def le_nat(a b:Nat):leD (.int (a:Int)) (.int (b:Int))=some (.v (.bl (decide (a<=b)))):=by
 show some (R.v (D.bl (decide ((a:Int)<=b))))=_
 congr 3;simp
def zFj(a b:Nat):eqG (.int (a:Int)) (.int (b:Int))=some (.v (.bl (decide (a=b)))):=by
 rw[eq_int];congr 3;simp[Int.natCast_inj]
def zFk(l:Ls Int):JY (l.map D.int)=some l:=by
 induction l with
 |nil=>rfl|cons a l c=>dsimp[map_cons,JY,c];rfl
def zFl(l:Ls Nat):JY (N l)=some (l.map λ(n:Nat)=>(n:Int)):=by
 have:N l=(l.map λ(n:Nat)=>(n:Int)).map D.int:=by simp[N]
 rw[this,zFk]
def sum_T(l:Ls Nat):zIl [.t (N l)]=some (.v (.int (l.sum:Nat))):=by
 have e:∀l:Ls Nat,(l.map λ(n:Nat)=>(n:Int)).sum=((l.sum:Nat):Int):=λl=>by
  induction l with
  |nil=>rfl|cons a l c=>simp[c]
 dsimp[zIl,zFl,Option.map_some,e]
theorem zCf:∀l:Ls Nat,(l.map λ(n:Nat)=>(n:Int)).sum=((l.sum:Nat):Int)
 | []=>rfl|a::l=>by simp[zCf l]
def sum_N(l:Ls Nat):zIl [.l (N l)]=some (.v (.int (l.sum:Nat))):=by
 dsimp[zIl,zFl,Option.map_some,zCf]
def zHv(ds:Ls D)(h:0<ds.length):zAr ds none (some (-1))=ds.dropLast:=by
 unfold zAr;have a:HT.sIx ds.length 0 none=0:=rfl;have h2:HT.sIx ds.length ds.length (some (-1))=ds.length-1:=by
  simp[HT.sIx];omega
 rw[a,h2];simp[List.dropLast_eq_take]
def cut_N(e:Ls Nat)(h:0<e.length):slD (.l (N e)) none (some (-1))=some (.w (N e.dropLast)):=by
 have:=zHv (N e) (by rw[jo];exact h);dsimp[slD,this];simp[N,List.map_dropLast]
def e_times{fs:Ls FI}{E E1:zU}{n g:Ls Str}{c a:Nat}{w:Nat}{l:Ls Nat}{s:DV.Slot}(o:w<=1000)(i:0<l.length/\l.length<=1000)(j:s=.w (N l)\/s=.v (.l (N l)))(h:E[a]?=some s)(h':E.set a (.v (.l (N l)))=E1)(k:E1[c]?=some (.v (.int (w:Nat)))) :
  dE fs (.comp 1 n g [c] (.iL (.sl (.x a) .oN (.oS (.neg (.c (.int 1)))))) (.n 0) .tTr (.bin .mul (.x 1) (.x 0))) E=.ok (.w (N (l.dropLast.map (w*·))),E1):=by
 refine yw (vs:=[.int (w:Nat)]) (λd=>match d with | .int e=>.int (w*e)|_=>.non) (i_L (x_sl (x_vA j h h') o_N (o_S (x_neg x_c)) (cut_N l i.1)) rfl) (by simp[JP,k]) (λd hd=>?_) ?_ ?_
 ·obtain⟨x,_,rfl⟩:=J6 hd
  exact⟨_,zu (zA rfl) (zA rfl) (vq w x (by omega)),by simp[R.d]⟩
 ·rw[jo];simp[cap];omega
 ·dsimp[N,map_map]
  refine map_congr_left λx _=>?_
  simp
def InW(w o n k i:Nat)(E:zU):Prop:=∃a c,E=[.v (.int w),.v (.int o),.v (.int n),.v (.int k),a,c]/\(a=.w (N (wQ w o k i))\/a=.v (.l (N (wQ w o k i))))/\yd c=true
def p27{n:Nat}(h:n<=80):27^n<2^400:=lt_of_le_of_lt (Nat.pow_le_pow_right (by omega) h) (by left)
def lt400{n:Nat}(h:n<2^400):n<2^800:=lt_trans h (by left)
theorem zFm:∀{l:Ls Nat} {x:Nat},x∈l->x<=l.sum
 |a::l,x,h=>by
  rw[sum_cons];rcases mem_cons.mp h with rfl|h
  ·omega
  ·have:=zFm h;omega
def QG{S n:Nat}(h:S<=27)(hn:n<=80):jj [.v (.int S),.v (.int n)]=.ok (.v (.int (S^n:Nat)),[.e,.e]):=by
 obtain⟨E1,k,c,a,e⟩:=ji (tg:=gN 3) (body:=dB YG (.o (.sAug 2 .mul (.x 0)))) (λi E=>∃c,E=[.v (.int S),.v (.int n),.v (.int (S^i:Nat)),c]/\yd c=true) (DV.zI 0 n) 0 [.v (.int S),.v (.int n),.v (.int 1),.e] ⟨.e,by simp,rfl⟩ (λi d q E ⟨c,a,e⟩=>by
  obtain⟨l,rfl⟩:=Wk _ _ _ _ q;rw[zero_add]at a ⊢;refine⟨[.v (.int S),.v (.int n),.v (.int (S^i:Nat)),.v (.int (0+(i:Int)))],[.v (.int S),.v (.int n),.v (.int (S^(i+1):Nat)),.v (.int (0+(i:Int)))],?_,?_,_,rfl,rfl⟩
  ·subst a;cases c<;>first|rfl|(cases e)
  ·have g:S^i<2^800:=lt400 (lt_of_le_of_lt (Nat.pow_le_pow_left h i) (p27 (by omega)))
   have m:Qu ((S^i:Nat):Int) (S:Int)=some ((S^(i+1):Nat):Int):=by
    unfold Qu;rw[if_pos (.inr ⟨zAP (by rw[Int.natAbs_natCast];exact g),zAP (by rw[Int.natAbs_natCast];exact lt_of_le_of_lt h (by left))⟩),pow_succ,Int.natCast_mul]
   exact zQ (s_aug rfl (zA rfl) m rfl))
 rw[yF,zero_add]at a;subst a;have j:((n:Nat):Int).toNat=n:=by omega
 exact zp (zH (yE x_c rfl) (zH (Zj (zB (zA rfl) zG) rfl ⟨by omega,by omega⟩ (by rw[j];exact k)) (zQ (zn (zA rfl))))) rfl
end My
namespace SM
end SM
namespace My
open PySem L2 DV SM
abbrev zAQ(die:Ls Nat):D:=.t (N die)
def zJU{die:Ls Nat}(h:Die die):okD (zAQ die):=⟨by rw[jo];rcases h.1 with e|e<;>rw[e]<;>simp[cap],N_fn⟩
def die_B{die:Ls Nat}(h:Die die):zGC (zAQ die)=true:=by
 have hl:2<=die.length/\die.length<=3:=by rcases h.1 with e|e<;>omega
 have c:(N die).all (vi 1 9)=true:=by
  rw[all_eq_true];intro d hd;obtain⟨x,a,rfl⟩:=J6 hd;have:=h.2 x a;simp[vi];omega
 dsimp[zGC,jo,c,decide_eq_true hl.1,decide_eq_true hl.2,Bool.and_self]
theorem zAR{c:Nat}:∀{l:Ls Nat},(∀x∈l,1<=x/\x<=c)->l.length<=l.sum/\l.sum<=l.length*c
 | [],_=>by simp
 |a::l,h=>by
  have g:=h a qE;have i:=zAR (l:=l) (λx e=>h x (qD _ e));rw[sum_cons,length_cons,Nat.succ_mul];omega
structure DS(die:List Nat)(s:Nat):Prop where
 ok:Die die
 lt:s<die.length
namespace DS
variable{die:Ls Nat}{s:Nat}
def S27(h:DS die s):2<=die.sum/\die.sum<=27:=by
 have:=zAR h.ok.2;rcases h.ok.1 with e|e<;>rw[e]at this<;>omega
def get(h:DS die s):die[s]?=some (die.getD s 0):=by
 rw[getD_eq_getElem?_getD,getElem?_eq_getElem h.lt];rfl
def le(h:DS die s):die.getD s 0<=die.sum:=zFm (mem_of_getElem? h.get)
def wo(h:DS die s):die.getD s 0+(die.sum-die.getD s 0)<=27:=by have:=h.S27;have:=h.le;omega
def wo'(h:DS die s):die.getD s 0+(die.sum-die.getD s 0)=die.sum:=by have:=h.le;omega
end DS
def zJV{die:Ls Nat}{s x:Nat}(h:die[s]?=some x):ixD (zAQ die) (.int s)=some (.v (.int (x:Nat))):=by
 rw[zFW,YR (zDL h)];rfl
def zFn(die:Ls Nat):zAq [zAQ die]=some (.v (.int die.length)):=by dsimp[zAq,jo]
def S_pow{die:Ls Nat}{s:Nat}(h:DS die s){n:Nat}(hn:n<=80):0<die.sum^n/\die.sum^n<2^400 :=
 ⟨Nat.pow_pos (by have:=h.S27;omega),lt_of_le_of_lt (Nat.pow_le_pow_left h.S27.2 n) (p27 hn)⟩
def zCg{n hi:Nat}(h:n<=hi):vi 0 (hi:Int) (.int n)=true:=by
 simp[vi];omega
def zFo{m sg:Nat}(h:sg<m):vi 0 ((m:Int)-1) (.int (sg:Nat))=true:=by
 simp[vi];omega
def zCh{die:Ls Nat}{s:Nat}(h:DS die s){n:Nat}(hn:n<=80)(t:Int):yY [.v (zAQ die),.v (.int n),.v (.int t)]=.ok (.v (nrm t (die.sum^n)),O3):=by
 have a:=S_pow h hn;exact zp (zQ (zn (zP (F:=Jz) rfl (zA rfl) (zP (F:=jj) rfl (jZ (zB (zA rfl) zG) (sum_T die)) (zA rfl) (QG h.S27.2 hn)) (zDQ _ _ a.1 a.2)))) rfl
def GG(f:Lk)(i:Nat):N ((List.range i).map f)++[.int ((f i:Nat):Int)]=N ((List.range (i+1)).map f):=by
 rw[range_succ,map_append,N_app];rfl
abbrev dw(die:Ls Nat)(s:Nat):Nat:=die.getD s 0
abbrev dr(die:Ls Nat)(s:Nat):Nat:=die.sum-die.getD s 0
abbrev Ud(die:Ls Nat)(s k t:Nat):Nat:=U (dw die s) (dr die s) (k-1) t
def nx(a:Ls (Ls Nat))(s t:Nat):Nat:=(a.getD s []).getD t 0
def rd(a:Ls (Ls Nat))(r:Ls Nat):Nat:=r.foldl (nx a) 0
def pth(a:Ls (Ls Nat))(r:Ls Nat):Ls Nat:=(List.range (r.length+1)).map λi=>rd a (r.take i)
def T_get{a:Ls (Ls Nat)}{k:Nat}{l:Ls Nat}(h:a[k]?=some l):(T a)[k]?=some (tN l):=by simp[T,h]
section
variable{m:Nat}{ls:Ls (Ls Nat)}{g:Ls Nat}
def zJW(M:Mac m ls g){s t:Nat}(k:s<ls.length)(j:t<m):ixD (.t (T ls)) (.int (s:Nat))=some (.v (tN (ls.getD s [])))/\ixD (tN (ls.getD s [])) (.int (t:Nat))=some (.v (.int (nx ls s t:Nat)))/\nx ls s t<ls.length:=by
 have c:ls[s]?=some (ls.getD s []):=by rw[getD_eq_getElem?_getD,getElem?_eq_getElem k];rfl
 have e:=M.hl _ (mem_of_getElem? c);have a:t<(ls.getD s []).length:=by rw[e.1];exact j
 have h:(ls.getD s [])[t]?=some (nx ls s t):=by unfold nx;rw[getD_eq_getElem?_getD (i:=t),getElem?_eq_getElem a];rfl
 refine⟨congrArg (Option.map R.v) (YR (T_get c)),congrArg (Option.map R.v) (YR (zDL h)),e.2 _ (mem_of_getElem? h)⟩
theorem zHw(M:Mac m ls g):∀(r:Ls Nat) (s:Nat),s<ls.length->(∀t∈r,t<m)->r.foldl (nx ls) s<ls.length
 | [],s,h,_=>h|t::r,s,h,ht=>zHw M r (nx ls s t) (zJW M h (ht t qE)).2.2 λx a=>ht x (qD _ a)
def rd_step{r:Ls Nat}{i t:Nat}(h:r[i]?=some t):rd ls (r.take (i+1))=nx ls (rd ls (r.take i)) t:=by
 have:r.take (i+1)=r.take i++[t]:=by rw[take_add_one,h];rfl
 rw[this,rd,foldl_append];rfl
def zFp(f:Lk)(k:Nat):atI (N ((List.range (k+1)).map f)) (-1)=some (.int ((f k:Nat):Int)):=by
 rw[<- GG];exact atI_end _ _
def zHx(r:Ls Nat):atI (N (pth ls r)) (-1)=some (.int ((rd ls r:Nat):Int)):=by
 have:=zFp (λi=>rd ls (r.take i)) r.length;rw[List.take_length]at this;exact this
def N_ex{r:Ls Nat}{i:Nat}{d:D}(h:(N r)[i]?=some d):∃t,r[i]?=some t/\d=.int (t:Nat):=by
 dsimp[N,getElem?_map]at h;cases e:r[i]? with
 |none=>rw[e]at h;cases h|some t=>rw[e]at h;cases h;exact⟨t,rfl,rfl⟩
def zFq(M:Mac m ls g):∃l,ixD (.t (T ls)) (.int 0)=some (.v (tN l))/\l.length=m:=by
 obtain⟨c,_⟩:=M.hn;have a:ls[0]?=some (ls.getD 0 []):=by rw[getD_eq_getElem?_getD,getElem?_eq_getElem c];rfl
 exact⟨_,congrArg (Option.map R.v) (YR (k:=0) (T_get a)),(M.hl _ (mem_of_getElem? a)).1⟩
def Jt(M:Mac m ls g):zS [.v (mD ls g)]=.ok (.v (.int (m:Nat)),O1):=by
 obtain⟨l,e,hl⟩:=zFq M;exact zp (zQ (zn (jZ (zB (JQ (JQ (zA rfl) x_c (ix0 _ _)) x_c e) zG) (by show zAq [.t (N l)]=_;dsimp[zAq,jo,hl])))) rfl
def zHy(M:Mac m ls g){d:D}(h:okD d):dE wG (.call 0 (.ev (.x 1) (.ev (.bin .sub (.call 1 (.ev (.x 0) .nil)) (.c (.int 1))) .nil))) [.v (mD ls g),.v d,.e,.e,.e,.e]=.ok (.v (.bl (awB ((m:Int)-1) d)),[.v (mD ls g),.v d,.e,.e,.e,.e]) :=
 zP (F:=yQ) rfl (zA rfl) (zu (zZ (F:=zS) rfl (zA rfl) (Jt M)) x_c rfl) (Jq d _ h)
def zHz(M:Mac m ls g){r:Ls Nat}(a:∀t∈r,t<m)(z:r.length<=30):ww [.v (mD ls g),.v (tN r)]=.ok (.w (N (pth ls r)),O2):=by
 have h:=zHy M (d:=tN r) (zFb (by rw[jo];omega) N_fn);have p:awB ((m:Int)-1) (tN r)=true:=by
  show(N r).all _=true
  rw[all_eq_true];intro x c;obtain⟨n,l,rfl⟩:=J6 c;have:=a n l;dsimp[vi,Bool.and_eq_true,decide_eq_true_eq];omega
 rw[p]at h;have y:dT wG (.tE (.cmp .gt (.cB .len (.cons (.x 1) .nil)) (.gl (.int 30)))) [.v (mD ls g),.v (tN r),.e,.e,.e,.e]=.ok (false,[.v (mD ls g),.v (tN r),.e,.e,.e,.e]) :=
  t_E (zj (jZ (zB (zA rfl) zG) rfl) vd ((zJM (N r).length 30).trans (by rw[jo,decide_eq_false (by omega)])))
 obtain⟨E1,f,e,rfl,_⟩:=ji (tg:=gN 5) (body:=dB wG ZE) (λk E=>∃e,E=[.v (mD ls g),.v (tN r),.v (.t (T ls)),.v (tN g),.w (N ((List.range (k+1)).map λi=>rd ls (r.take i))),e]/\yd e=true) (N r) 0 [.v (mD ls g),.v (tN r),.v (.t (T ls)),.v (tN g),.w [.int 0],.e] ⟨.e,rfl,rfl⟩ (λi d q E ⟨v,j,u⟩=>by
  rw[zero_add]at j ⊢;obtain⟨t,ht,rfl⟩:=N_ex q;have C:i<r.length:=(qG.mp ht).1;obtain⟨w,o,_⟩:=zJW M (zHw M (r.take i) 0 (by have:=M.hn;omega) λx c=>a x (List.mem_of_mem_take c)) (a t (mem_of_getElem? ht));refine⟨[.v (mD ls g),.v (tN r),.v (.t (T ls)),.v (tN g),.w (N ((List.range (i+1)).map λi=>rd ls (r.take i))),qI t],[.v (mD ls g),.v (tN r),.v (.t (T ls)),.v (tN g),.w (N ((List.range (i+1+1)).map λi=>rd ls (r.take i))),qI t],?_,zQ (zHi rfl (JQ (JQ (zA rfl) (x_ixO rfl (x_neg x_c) (zFp _ i)) w) (zA rfl) o) rfl ?_ ?_),.v (.int (t:Nat)),rfl,rfl⟩
  ·subst j;cases v<;>first|rfl|(cases u)
  ·rw[jo];dsimp[length_map,List.length_range,cap];omega
  ·show [_,_,_,_,DV.Slot.w (_++[D.int ((nx ls (rd ls (r.take i)) t:Nat):Int)]),_]=_
   rw[<- rd_step ht,GG (λi=>rd ls (r.take i))])
 rw[jo,zero_add]at f;exact zp (zH (ym (zZ (F:=zN) rfl (zA rfl) (j0 (zAL M) (Js M)))) (zH (yl (zDI (jn (t_E h) rfl) y) yn) (zH (zDJ (zA rfl) rfl) (zH (yE (Zh (zB x_c zG) rfl yO) rfl) (zH (s_forT (zA rfl) rfl f) (zQ (zn (x_movO rfl rfl)))))))) rfl
end
def in_Nv(a:Nat)(g:Ls Nat):inV (V.int (a:Int)) ((N g).map flV)=decide (a∈g):=by
 unfold inV N
 induction g with
 |nil=>simp
 |cons b g h =>
  dsimp[map_cons,any_cons,h];have e:eqV (flV (D.int (b:Int))) (V.int (a:Int))=decide (a=b):=by
   show((b:Int)==(a:Int))=_
   by_cases c:a=b
   ·subst c;simp
   ·have:¬(b:Int)=a:=by omega
    simp[c,this]
  rw[e];by_cases c:a=b<;>simp[c]
def flat_N(g:Ls Nat):(N g).all flat=true:=by
 rw[all_eq_true];intro d hd;obtain⟨n,_,rfl⟩:=J6 hd;rfl
def inn_N(a:Nat)(g:Ls Nat):Cp.f .inn (.int (a:Nat)) (tN g)=some (.v (.bl (decide (a∈g)))):=by
 have:inF false (.int (a:Nat)) (tN g)=some (.v (.bl (decide (a∈g)))):=by
  dsimp[inF];rw[if_pos ⟨rfl,flat_N g⟩];show some (R.v (D.bl (inV (V.int (a:Int)) _)))=_;rw[in_Nv]
 first|exact this|dsimp[Cp.f,inG,this]
def JF{m:Nat}{a:Ls (Ls Nat)}{g:Ls Nat}(M:Mac m a g){r:Ls Nat}(c:∀t∈r,t<m)(e:r.length<=30):yi [.v (mD a g),.v (tN r)]=.ok (.v (.bl (decide (rd a r∈g))),O2) :=
 zp (zQ (zn (zj (JQ (zP (F:=ww) rfl (zA rfl) (zA rfl) (zHz M c e)) (x_neg x_c) (congrArg (Option.map R.v) (zHx r))) (JQ (zA rfl) x_c (ix1 _ _)) (inn_N _ g)))) rfl
def i_ZA{fs:Ls FI}{E E1:zU}{t2:Bool}{as:Ax}{r1 r2:R}{ds es:Ls D}(c:dA fs as E=.ok ([r1,r2],E1))(a:r1.d=.l ds\/r1.d=.t ds)(g:zDC t2 r2.d=some es):dI fs (.iZA t2 as) E=.ok (zipWith wU ds es,E1):=by
 rcases a with a|a
 ·have e:zDC false (D.l ds)=some ds:=rfl
  dsimp[zIz,iZA,c,a,iZ,e,g]
 ·have e:zDC true (D.t ds)=some ds:=rfl
  dsimp[zIz,iZA,c,a,iZ,e,g]
def N_set(l:Ls Nat)(j x:Nat):(N l).set j (.int (x:Nat))=N (l.set j x):=by simp[N,List.map_set]
def zFX{fs:Ls FI}{E E1:zU}{a:_}{r:R}(h:dE fs a E=.ok (r,E1)):dE fs (.frz a) E=.ok (.v r.d,E1):=by dsimp[zIy,DV.eFrz,h]
def zDR(a:Ls (Ls Nat)):zAq [.t (T a)]=some (.v (.int (a.length:Nat))):=by dsimp[zAq,QC]
def s_augIx{fs:Ls FI}{E E1:zU}{i:Nat}{b v:_}{k:Nat}{ds:Ls D}{a y:Int}(g:E[i]?=some (.w ds))(e:dE fs b E=.ok (.v (.int (k:Nat)),E))(hd:ds[k]?=some (.int a))(j:dE fs v E=.ok (.v (.int y),E))(h:E.set i (.w (ds.set k (.int (a+y))))=E1):dS fs (.sAugIx i b v) E=.ok (.nx,E1):=by
 subst h;have l:k<ds.length:=(qG.mp hd).1;have c:¬((k:Nat):Int)<0:=by omega
 have ix:ixN ds.length (k:Int)=some k:=by
  have:(k:Int)<(ds.length:Nat):=by omega
  unfold ixN;rw[if_pos (by omega)];simp[this]
 dsimp[zFB,DV.sAugIx,g,jw,Bool.false_eq_true,if_false,e,Slot.list?,c,Int.toNat_natCast,hd,j,ix,Slot.put]
def inc(g:Ls Nat)(j x:Nat):Ls Nat:=g.set j (g.getD j 0+x)
def zAS(e:Nat)(g:Ls Nat)(a:Ls (Nat×Nat)):Ls Nat:=a.foldl (λg p=>inc g p.2 (p.1*e)) g
def zBa(a:Ls (Ls Nat))(die es:Ls Nat):Ls Nat:=(a.zip es).foldl (λg p=>zAS p.2 g (die.zip p.1)) (replicate a.length 0)
def wk(a:Ls (Ls Nat))(die:Ls Nat):Nat->Ls Nat
 |0=>1::replicate (a.length-1) 0|n+1=>zBa a die (wk a die n)
def zBb(g:Ls Nat)(j x:Nat):(inc g j x).length=g.length:=by simp[inc]
theorem Wp(e:Nat):∀(a:Ls (Nat×Nat)) (g:Ls Nat),(zAS e g a).length=g.length
 | [],g=>rfl
 |p::a,g=>by
  show(zAS e (inc g p.2 (p.1*e)) a).length=_
  rw[Wp e a,zBb]
theorem zCi(die:Ls Nat):∀(a:Ls (Ls Nat×Nat)) (g:Ls Nat),(a.foldl (λg p=>zAS p.2 g (die.zip p.1)) g).length=g.length
 | [],g=>rfl
 |p::a,g=>by
  rw[foldl_cons,zCi die a,Wp]
def zFr(a:Ls (Ls Nat))(die es:Ls Nat):(zBa a die es).length=a.length:=by
 rw[zBa,zCi,length_replicate]
def zJX{a:Ls (Ls Nat)}(h:1<=a.length)(die:Ls Nat):∀n,(wk a die n).length=a.length
 |0=>by simp[wk];omega|n+1=>zFr ..
def put10{a0 a1 a2 a3 a4 a5 a6 a7 a8 a9 c a:DV.Slot}{x y:D}(e:yd c=true)(g:yd a=true):gT [10,11] (wU x y) [a0,a1,a2,a3,a4,a5,a6,a7,a8,a9,c,a]=.ok [a0,a1,a2,a3,a4,a5,a6,a7,a8,a9,.v x,.v y]:=by
 cases c<;>first|(cases e;done)|(cases a<;>first|rfl|(cases g))
def put89{a0 a1 a2 a3 a4 a5 a6 a7 e g c a:DV.Slot}{x y:D}(h:yd e=true)(i:yd g=true):gT [8,9] (wU x y) [a0,a1,a2,a3,a4,a5,a6,a7,e,g,c,a]=.ok [a0,a1,a2,a3,a4,a5,a6,a7,.v x,.v y,c,a]:=by
 cases e<;>first|(cases h;done)|(cases g<;>first|rfl|(cases i))
def N_inc(g:Ls Nat)(j x:Nat):(N g).set j (.int ((g.getD j 0:Nat)+(x:Nat):Int))=N (inc g j x):=by
 rw[inc,<- N_set,Int.natCast_add]
theorem inW{e:Nat}{a0 a1 a2 a3 a4 a5 a6 a8:DV.Slot}:∀(n l g:Ls Nat) (c a:DV.Slot),yd c=true->yd a=true->(∀x∈n,x<=1000)->(∀x∈l,x<g.length) ->
  ∃j k,DV.Yn (gT [10,11]) (dB jT Jh) (zipWith wU (N n) (N l)) [a0,a1,a2,a3,a4,a5,a6,.w (N g),a8,qI e,c,a]=.ok (.nx,[a0,a1,a2,a3,a4,a5,a6,.w (N (zAS e g (n.zip l))),a8,qI e,j,k])/\yd j=true/\yd k=true
 | [],l,g,c,a,h,i,_,_=>⟨c,a,rfl,h,i⟩|d::n,[],g,c,a,h,i,_,_=>⟨c,a,rfl,h,i⟩
 |d::n,r::l,g,c,a,h,i,hd,t=>by
  have o:=t r qE;obtain⟨j,k,f,q⟩:=inW (e:=e) (a0:=a0) (a1:=a1) (a2:=a2) (a3:=a3) (a4:=a4) (a5:=a5) (a6:=a6) (a8:=a8) n l (inc g r (d*e)) (.v (.int (d:Nat))) (.v (.int (r:Nat))) rfl rfl (λx p=>hd x (qD _ p)) (λx p=>by rw[zBb];exact t x (qD _ p));refine⟨j,k,?_,q⟩;have m:=vq d e (by have:=hd d qE;omega);have u:(N g)[r]?=some (.int ((g.getD r 0:Nat):Int)):=zDL (by rw[getD_eq_getElem?_getD,getElem?_eq_getElem o];rfl);exact ZN (d:=wU (.int (d:Nat)) (.int (r:Nat))) (put10 h i) (zQ (s_augIx rfl (zA rfl) u (zu (zA rfl) (zA rfl) m) (by rw[N_inc];rfl))) f
theorem ouW{die:Ls Nat}{wd:D}(G:wd=.l (N die)\/wd=tN die)(hd:∀x∈die,x<=1000){a0 a2 a3 a4 a5 a6:DV.Slot}:∀(ls:Ls (Ls Nat)) (u g:Ls Nat) (n o c a:DV.Slot),yd n=true->yd o=true->yd c=true->yd a=true->(∀l∈ls,∀x∈l,x<g.length) ->
  ∃w v j k,DV.Yn (gT [8,9]) (dB jT Ji) (zipWith wU (T ls) (N u)) [a0,.v wd,a2,a3,a4,a5,a6,.w (N g),n,o,c,a]=.ok (.nx,[a0,.v wd,a2,a3,a4,a5,a6,.w (N ((ls.zip u).foldl (λg p=>zAS p.2 g (die.zip p.1)) g)),w,v,j,k])/\yd w=true/\yd v=true/\yd j=true/\yd k=true
 | [],u,g,n,o,c,a,r,t,h,i,_=>⟨n,o,c,a,rfl,r,t,h,i⟩|l::ls,[],g,n,o,c,a,r,t,h,i,_=>⟨n,o,c,a,rfl,r,t,h,i⟩
 |l::ls,e::u,g,n,o,c,a,r,t,h,i,hl=>by
  obtain⟨E,y,K,C,z⟩:=inW (e:=e) (a0:=a0) (a1:=.v wd) (a2:=a2) (a3:=a3) (a4:=a4) (a5:=a5) (a6:=a6) (a8:=.v (tN l)) die l g c a h i hd (hl l qE);obtain⟨w,v,j,k,f,q⟩:=ouW (die:=die) (wd:=wd) G hd (a0:=a0) (a2:=a2) (a3:=a3) (a4:=a4) (a5:=a5) (a6:=a6) ls u (zAS e g (die.zip l)) (.v (tN l)) (.v (.int (e:Nat))) E y rfl rfl C z (λH I x J=>by rw[Wp];exact hl H (qD _ I) x J);refine⟨w,v,j,k,?_,q⟩;exact ZN (d:=wU (tN l) (.int (e:Nat))) (put89 r t) (zQ (zCV (i_ZA (zB (zA rfl) (zB (zA rfl) zG)) G rfl) K)) f
abbrev IW(e:Ls (Ls Nat))(g die:Ls Nat)(wd:D)(n:Nat)(i:Nat)(E:zU):Prop:=∃h l j k c a,E=[.v (mD e g),.v wd,qI n,.v (.t (T e)),.v (tN g),.v (.l (N (wk e die i))),h,l,j,k,c,a]/\yd h=true/\yd l=true/\yd j=true/\yd k=true/\yd c=true/\yd a=true
def ZP{m:Nat}{a:Ls (Ls Nat)}{g die:Ls Nat}(h:Mac m a g){wd:D}(W:wd=.l (N die)\/wd=tN die)(hd:∀x∈die,x<=1000){n:Nat}(hn:n<=80):yg [.v (mD a g),.v wd,qI n]=.ok (.v (.int (((g.map λx=>(wk a die n).getD x 0).sum:Nat):Int)),O3):=by
 have hl:=h.hn;have ml:=Wn (.int 0) (a.length-1) (by omega);have M:=Wn (.int 0) a.length (by omega);have K:=vh [.int 1] (replicate (a.length-1) (.int 0)) (by simp;omega);have z:∀k,replicate k (D.int 0)=N (replicate k 0):=λk=>by simp[N]
 have S:[D.int 1]++replicate (a.length-1) (.int 0)=N (wk a die 0):=by rw[z];rfl
 rw[S]at K;obtain⟨E1,f1,J,C,r,t,e,c,o,_⟩:=ji (tg:=gN 6) (body:=dB jT Jj) (IW a g die wd n) (DV.zI 0 n) 0 [.v (mD a g),.v wd,qI n,.v (.t (T a)),.v (tN g),.v (.l (N (wk a die 0))),.e,.e,.e,.e,.e,.e] ⟨_,_,_,_,_,_,rfl,rfl,rfl,rfl,rfl,rfl,rfl⟩ (λi d q E ⟨J,C,r,t,e,c,o,O,h7,Q,Z,v,H⟩=>by
  obtain⟨hi,rfl⟩:=Wk _ _ _ _ q;rw[zero_add]at o ⊢;obtain⟨X,L,G,I,f,V,Y,y,u⟩:=ouW (die:=die) (wd:=wd) W hd (a0:=.v (mD a g)) (a2:=.v (.int (n:Nat))) (a3:=.v (.t (T a))) (a4:=.v (tN g)) (a5:=.v (.l (N (wk a die i)))) (a6:=.v (.int (0+(i:Int)))) a (wk a die i) (replicate a.length 0) r t e c Q Z v H (λl w x p=>by rw[length_replicate];exact(h.hl l w).2 x p);refine⟨[.v (mD a g),.v wd,qI n,.v (.t (T a)),.v (tN g),.v (.l (N (wk a die i))),.v (.int (0+(i:Int))),C,r,t,e,c],[.v (mD a g),.v wd,qI n,.v (.t (T a)),.v (tN g),.v (.l (N (wk a die (i+1)))),.v (.int (0+(i:Int))),.v (.l (N (wk a die (i+1)))),X,L,G,I],?_,?_,_,_,_,_,_,_,rfl,rfl,rfl,V,Y,y,u⟩
  ·subst o;cases J<;>first|rfl|(cases O)
  ·refine zH (E1:=[.v (mD a g),.v wd,qI n,.v (.t (T a)),.v (tN g),.v (.l (N (wk a die i))),.v (.int (0+(i:Int))),.w (N (replicate a.length 0)),r,t,e,c]) (yE (zu (Zh (zB x_c zG) rfl yO) (jZ (zB (zA rfl) zG) (zDR a)) M) ?_) (zH (zCV (i_Z (zB (zA rfl) (zB (zA rfl) zG)) rfl rfl) f) (zQ (yE (zFX (ZM rfl rfl)) rfl)))
   rw[<- z];cases C<;>first|rfl|(cases h7))
 rw[yF,zero_add]at o;subst o;have wl:=zJX hl.1 die n;have sg:∀l:Ls Nat,(∀x∈l,x<a.length)->(N l).map (λd=>match d with | .int x=>.int (((wk a die n).getD x.toNat 0:Nat):Int)|d=>d)=N (l.map λx=>(wk a die n).getD x 0):=λl _=>by
  dsimp[N,map_map];refine map_congr_left λi _=>?_
  simp
 refine zp (zH (zDJ (zA rfl) rfl) (zH (yE (zFX (zu (Zh (zB x_c zG) rfl yO) (zu (Zh (zB x_c zG) rfl yO) (zu (jZ (zB (zA rfl) zG) (zDR a)) x_c (QB hl.1)) ml) K)) rfl) (zH (Zj (j:=(n:Int)) (zB (zA rfl) zG) rfl ⟨by omega,by omega⟩ (by rw[Int.toNat_natCast];exact f1)) (zQ (zn (jZ (zB (yw (vs:=[.l (N (wk a die n))]) (λd=>match d with | .int x=>.int (((wk a die n).getD x.toNat 0:Nat):Int)|d=>d) (i_T (zA rfl) rfl) rfl (λd hd=>?_) ?_ (sg g h.hg)) zG) (sum_N _))))))) rfl
 ·obtain⟨x,p,rfl⟩:=J6 hd
  have p:=h.hg x p;refine⟨.v (.int (((wk a die n).getD x 0:Nat):Int)),JQ (zA rfl) (zA rfl) ?_,by simp[R.d]⟩;show ixD (.l (N (wk a die n))) (.int (x:Nat))=_;rw[zFV,YR (zDL (n:=(wk a die n).getD x 0) (by rw[getD_eq_getElem?_getD,getElem?_eq_getElem (by rw[wl];exact p)];rfl))];rfl
 ·rw[jo];have:=h.glen;dsimp[cap];omega
def more(m:Nat)(r:Ls Nat):Ls (Ls Nat):=(List.range m).map λx=>r++[x]
theorem Zo(m:Nat):∀n (r:Ls Nat),r∈Jp m n->∀x∈r,x<m
 |0,r,h=>by simp[Jp]at h;subst h;simp
 |n+1,r,h=>by
  obtain⟨a,g,e⟩:=List.mem_flatMap.mp h;obtain⟨x,i,rfl⟩:=mem_map.mp e;have:=Zo m n a g;intro y c;rcases mem_append.mp c with c|c
  ·exact this y c
  ·simp at c i;omega
theorem zFs:∀(g:Ls Nat) (j x:Nat) (f:Lk),j<g.length->dot (inc g j x) f=dot g f+x*f j
 | [],j,x,f,h=>by simp at h|a::g,0,x,f,h=>by simp[inc,dot,add_mul];omega
 |a::g,j+1,x,f,h=>by
  have:=zFs g j x (λi=>f (i+1)) (by exists h);dsimp[inc,List.set_cons_succ,List.getD_cons_succ,dot]at this ⊢;omega
def ip(die l:Ls Nat)(f:Lk):Nat:=((die.zip l).map λp=>p.1*f p.2).sum
theorem zCj(e:Nat)(f:Lk):∀(a:Ls (Nat×Nat)) (g:Ls Nat),(∀p∈a,p.2<g.length)->dot (zAS e g a) f=dot g f+e*(a.map λp=>p.1*f p.2).sum
 | [],g,_=>by simp[zAS]
 |p::a,g,h=>by
  have c:=zFs g p.2 (p.1*e) f (h p qE);have h2:=zCj e f a (inc g p.2 (p.1*e)) λq i=>by rw[zBb];exact h q (qD _ i)
  show dot (zAS e (inc g p.2 (p.1*e)) a) f=_
  rw[h2,c,map_cons,sum_cons,mul_add];have:p.1*e*f p.2=e*(p.1*f p.2):=by rw[mul_comm p.1 e,mul_assoc]
  omega
theorem zCk(die:Ls Nat)(f:Lk):∀(ls:Ls (Ls Nat)) (a g:Ls Nat),ls.length=a.length->(∀l∈ls,∀x∈l,x<g.length)->dot ((ls.zip a).foldl (λg p=>zAS p.2 g (die.zip p.1)) g) f=dot g f+dot a λs=>ip die (ls.getD s []) f
 | [],[],g,_,_=>by simp[dot]| [],_::_,g,h,_=>by simp at h|_::_,[],g,h,_=>by simp at h
 |l::ls,e::a,g,h,hl=>by
  have i:=zCj e f (die.zip l) g λp k=>hl l qE p.2 (of_mem_zip k).2
  have h2:=zCk die f ls a (zAS e g (die.zip l)) (by exists h) λc j x n=>by rw[Wp];exact hl c (qD _ j) x n
  rw[zip_cons_cons,foldl_cons,h2,i];dsimp[dot,List.getD_cons_zero,List.getD_cons_succ,ip];omega
theorem vt:∀(n:Nat) (f:Lk),dot (replicate n 0) f=0
 |0,f=>rfl|n+1,f=>by rw[replicate_succ,dot,vt n];omega
theorem zAT:∀(l:Ls Nat) (f h:Lk),(∀i,i<l.length->f i=h i)->dot l f=dot l h
 | [],_,_,_=>rfl
 |a::l,f,h,e=>by
  dsimp[dot];rw[e 0 (by simp),zAT l _ _ λi c=>e (i+1) (by exists c)]
theorem zCl:∀(a l:Ls Nat) (f:Lk),a.length=l.length->ip a l f=((List.range l.length).map λt=>a.getD t 0*f (l.getD t 0)).sum
 | [],[],f,_=>rfl| [],_::_,f,h=>by simp at h|_::_,[],f,h=>by simp at h
 |d::a,x::l,f,h=>by
  have:=zCl a l f (by exists h);rw[length_cons,range_succ_eq_map,map_cons,map_map,sum_cons];show d*f x+ip a l f=_;rw[this];rfl
theorem zJY{m:Nat}{a:Ls (Ls Nat)}{g die:Ls Nat}(M:Mac m a g)(hd:die.length=m):∀(n:Nat) (f:Lk),dot (wk a die n) f=((Jp m n).map λr=>wt die r*f (rd a r)).sum
 |0,f=>by
  show 1*f 0+dot (replicate (a.length-1) 0) _=_
  rw[vt];show _=(1*f 0+0);rfl
 |n+1,f=>by
  have hl:=zJX M.hn.1 die n;have c:=zCk die f a (wk a die n) (replicate a.length 0) hl.symm λl hl x j=>by rw[length_replicate];exact(M.hl l hl).2 x j
  rw[vt]at c;have k:=zJY M hd n λs=>ip die (a.getD s []) f
  show dot (zBa a die (wk a die n)) f=_
  rw[zBa,c,zero_add,k];show _=(((Jp m n).flatMap λr=>(List.range m).map λx=>r++[x]).map _).sum;rw[zCU];congr 1;refine map_congr_left λr i=>?_
  have e:rd a r<a.length:=zHw M r 0 M.hn.1 (Zo m n r i);have h:=(M.hl (a.getD (rd a r) []) (by rw[getD_eq_getElem?_getD,getElem?_eq_getElem e];exact getElem_mem e)).1;rw[zCl die _ f (by rw[h,hd]),h,map_map];have:∀l:Ls Nat,wt die r*(l.map λt=>die.getD t 0*f ((a.getD (rd a r) []).getD t 0)).sum=(l.map ((λr=>wt die r*f (rd a r)) ∘ λx=>r++[x])).sum:=by
   intro l
   induction l with
   |nil=>rfl
   |cons t l o =>
    rw[map_cons,map_cons,sum_cons,sum_cons,mul_add,o];congr 1;dsimp[Function.comp,wt,rd,foldl_append,foldl_cons,foldl_nil,nx];rw[mul_assoc]
  exact this _
theorem zFt:∀(l:Ls Nat) (f h:Lk),dot l (λs=>f s+h s)=dot l f+dot l h
 | [],_,_=>rfl
 |a::l,f,h=>by
  dsimp[dot];rw[zFt l,mul_add];omega
theorem Zq:∀(l:Ls Nat) (x:Nat),dot l (λs=>if s=x then 1 else 0)=l.getD x 0
 | [],x=>by simp[dot]
 |a::l,0=>by
  have:dot l (λj=>if j+1=0 then 1 else 0)=0:=by
   rw[zAT l _ (λ_=>0) λi _=>by simp];exact go l
  dsimp[dot,List.getD_cons_zero];rw[this];simp
 |a::l,x+1=>by
  dsimp[dot,List.getD_cons_succ];rw[<- Zq l x];have:(λj=>if j+1=x+1 then 1 else 0)=λj=>if j=x then 1 else(0:Nat):=by funext j;simp
  rw[this];simp
where go:∀l:Ls Nat,dot l (λ_=>0)=0
 | []=>rfl|a::l=>by rw[dot,go l];simp
theorem zCm:∀(g l:Ls Nat),g.Nodup->(g.map λx=>l.getD x 0).sum=dot l λs=>if s∈g then 1 else 0
 | [],l,_=>by
  have:(λs=>if s∈([]:Ls Nat)then 1 else 0)=λ_=>(0:Nat):=by funext s;simp
  rw[this,Zq.go];rfl
 |x::g,l,h=>by
  obtain⟨a,h2⟩:=nodup_cons.mp h;rw[map_cons,sum_cons,zCm g l h2,<- Zq l x,<- zFt];congr 1;funext s;by_cases e:s=x
  ·subst e;simp[a]
  ·simp[e]
def taken{m:Nat}{a:Ls (Ls Nat)}{g die:Ls Nat}(M:Mac m a g)(hd:die.length=m)(n:Nat):(g.map λx=>(wk a die n).getD x 0).sum=(((Jp m n).filter λr=>decide (rd a r∈g)).map (wt die)).sum:=by
 rw[zCm g _ (M.hr.imp λh=>ne_of_lt h),zJY M hd n,GB];congr 1;refine map_congr_left λr _=>?_
 by_cases h:rd a r∈g<;>simp[h]
theorem zFu{m:Nat}:∀(r:Ls Nat) (a:Nat),(∀t∈r,t<m)->r.foldl (λa x=>a*(replicate m 1).getD x 0) a=a
 | [],a,_=>rfl
 |t::r,a,h=>by
  have ht:=h t qE;rw[foldl_cons,zFu r _ λx c=>h x (qD _ c)];rw[getD_eq_getElem?_getD,List.getElem?_replicate,if_pos ht];simp
def zDS{m:Nat}{a:Ls (Ls Nat)}{g:Ls Nat}(M:Mac m a g)(n:Nat):(g.map λx=>(wk a (replicate m 1) n).getD x 0).sum=((Jp m n).filter λr=>decide (rd a r∈g)).length:=by
 rw[taken M (by simp) n];have:∀l:Ls (Ls Nat),(∀r∈l,∀t∈r,t<m)->(l.map (wt (replicate m 1))).sum=l.length:=by
  intro l
  induction l with
  |nil=>exact λ_=>rfl
  |cons r l e =>
   intro h;rw[map_cons,sum_cons,e λx i=>h x (qD _ i),wt,zFu r 1 (h r qE),length_cons];omega
 exact this _ λr c=>Zo m n r (mem_filter.mp c).1
section
variable{m:Nat}{ls:Ls (Ls Nat)}{g:Ls Nat}
def rep_N(k:Nat):replicate k (D.int 1)=N (replicate k 1):=by simp[N]
def GH(M:Mac m ls g){n:Nat}(hn:n<=40):zw [.v (mD ls g),qI n]=.ok (.v (.int ((((Jp m n).filter λr=>decide (rd ls r∈g)).length:Nat):Int)),O2):=by
 have h:=M.hm;have c:=ZP M (wd:=.l (N (replicate m 1))) (die:=replicate m 1) (.inl rfl) (λx e=>by rw[eq_of_mem_replicate e];omega) (n:=n) (by omega);rw[zDS M n]at c;have a:=Wn (.int 1) m (by omega);rw[rep_N]at a;exact zp (zH (ym (zZ (F:=zN) rfl (zA rfl) (j0 (zAL M) (Js M)))) (zH (ym (yD (F:=zV) rfl (zA rfl) x_c vd (yW _ 0 40 rfl (zCg hn)))) (zQ (zn (yD (F:=yg) rfl (zA rfl) (zu (Zh (zB x_c zG) rfl yO) (zZ (F:=zS) rfl (zA rfl) (Jt M)) a) (zA rfl) c))))) rfl
end
end My
namespace My
open PySem L2 DV SM BF
abbrev wl(a:Ls (Ls Nat))(s:Nat)(r:Ls Nat):Nat:=r.foldl (nx a) s
abbrev Low(m:Nat)(r:Ls Nat):Prop:=∀a∈r,a<m
def WS{F:Ls P}{p:P}(h:p∈F):F[F.idxOf p]?=some p:=by
 have:=idxOf_lt_length_iff.mpr h;rw[getElem?_eq_getElem this];simp
def idx_inj{F:Ls P}{p q:P}(g:p∈F)(c:q∈F)(e:F.idxOf p=F.idxOf q):p=q:=by
 have a:=WS g;have h2:=WS c;rw[e,h2]at a;exact(qJ a).symm
def zCn{F:Ls P}(hn:F.Nodup){i:Nat}{p:P}(h:F[i]?=some p):F.idxOf p=i:=by
 have h2:=WS (mem_of_getElem? h);obtain⟨g,c⟩:=qG.mp h;obtain⟨e,a⟩:=qG.mp h2;exact(List.getElem_inj hn).mp (a.trans c.symm)
def idx_all{F:Ls P}(hn:F.Nodup):F.map (λp=>F.idxOf p)=List.range F.length:=by
 apply ext_getElem?;intro i;rw[getElem?_map];by_cases h:i<F.length
 ·rw[getElem?_eq_getElem h,getElem?_range h,Option.map_some,zCn hn (getElem?_eq_getElem h)]
 ·rw[getElem?_eq_none (by omega),getElem?_eq_none (by simp;omega)];rfl
section
variable{m:Nat}{ls ls':Ls (Ls Nat)}{g g':Ls Nat}
def Low.hd{a:Nat}{r:Ls Nat}(h:Low m (a::r)):a<m:=h a qE
def Low.tl{a:Nat}{r:Ls Nat}(h:Low m (a::r)):Low m r:=λx c=>h x (qD _ c)
def ZQ(M:Mac m ls g){s a:Nat}(h:s<ls.length)(i:a<m):(ls.getD s [])[a]?=some (nx ls s a)/\nx ls s a<ls.length:=by
 obtain⟨_,h2,c⟩:=M.row h;have e:(ls.getD s [])[a]?=some (nx ls s a):=by
  unfold nx;rw[getD_eq_getElem?_getD (l:=ls.getD s []),getElem?_eq_getElem (by omega)];rfl
 exact⟨e,c _ (mem_of_getElem? e)⟩
def wl_lt(M:Mac m ls g){s:Nat}(c:s<ls.length){r:Ls Nat}(a:Low m r):wl ls s r<ls.length:=zHw M r s c a
def zFv(M:Mac m ls g)(h:Mac m ls' g'){p:P}(e:p.1<ls.length/\p.2<ls'.length){a:Nat}(c:a<m):(st ls ls' p)[a]?=some (nx ls p.1 a,nx ls' p.2 a):=by
 unfold st;rw[List.getElem?_zip_eq_some];exact⟨(ZQ M e.1 c).1,(ZQ h e.2 c).1⟩
abbrev to2(c a:Ls (Ls Nat))(p:P)(r:Ls Nat):P:=(wl c p.1 r,wl a p.2 r)
def A_zero{f:P->Ls P}(k:Nat):(A f k)[0]?=some (0,0):=by
 obtain⟨t,ht⟩:=zHl (st:=f) 0 k;rw[zero_add]at ht;rw[<- ht];rfl
structure FinOk(m:Nat)(ls ls':List (List Nat))(F:List P):Prop where
 nd:F.Nodup
 z:F[0]?=some (0,0)
 inn:∀p∈F,p.1<ls.length/\p.2<ls'.length
 cl:∀p∈F,∀q∈st ls ls' p,q∈F
 bf:∃k,F.length<=k/\∀j,F=A (st ls ls') (k+j)
def finOk(M:Mac m ls g)(a:Mac m ls' g'):FinOk m ls ls' (fin ls ls') where
 nd:=zJN
 z:=A_zero 144
 inn:=zJO M a
 cl:=zJP M a
 bf:=⟨144,vn M a 144,λj=>(zHm (vn M a 144) j).symm⟩
end
section
variable{m:Nat}{ls ls':Ls (Ls Nat)}{g g':Ls Nat}{F:Ls P}
def F_nx(h:FinOk m ls ls' F)(M:Mac m ls g)(i:Mac m ls' g'){p:P}(c:p∈F){a:Nat}(e:a<m):(nx ls p.1 a,nx ls' p.2 a)∈F :=
 h.cl p c _ (mem_of_getElem? (zFv M i (h.inn p c) e))
theorem F_to(h:FinOk m ls ls' F)(M:Mac m ls g)(e:Mac m ls' g'):∀{r:Ls Nat} {p:P},p∈F->Low m r->to2 ls ls' p r∈F
 | [],p,c,_=>c|a::r,p,c,hr=>F_to h M e (r:=r) (p:=(nx ls p.1 a,nx ls' p.2 a)) (F_nx h M e c hr.hd) hr.tl
def F_00(h:FinOk m ls ls' F):(0,0)∈F:=mem_of_getElem? h.z
def zJZ(F:Ls P)(c a:Ls (Ls Nat))(p:P):Ls Nat:=(st c a p).map λq=>F.idxOf q
def jI(F:Ls P)(c a:Ls (Ls Nat)):Ls (Ls Nat):=F.map (zJZ F c a)
def j1(F:Ls P)(g g':Ls Nat)(w:Nat):Ls Nat:=(F.filter λp=>decide (w<=gm g g' p)).map λp=>F.idxOf p
def wZ:(jI F ls ls').length=F.length:=length_map ..
def row_at{p:P}(a:p∈F):(jI F ls ls')[F.idxOf p]?=some (zJZ F ls ls' p):=by
 rw[jI,getElem?_map,WS a];rfl
def nx_J(h:FinOk m ls ls' F)(M:Mac m ls g)(i:Mac m ls' g'){p:P}(c:p∈F){a:Nat}(e:a<m):nx (jI F ls ls') (F.idxOf p) a=F.idxOf (nx ls p.1 a,nx ls' p.2 a):=by
 unfold nx;rw[getD_eq_getElem?_getD (l:=jI F ls ls'),row_at c];show(zJZ F ls ls' p).getD a 0=_;rw[getD_eq_getElem?_getD,zJZ,getElem?_map,zFv M i (h.inn p c) e];rfl
theorem wl_J(h:FinOk m ls ls' F)(M:Mac m ls g)(e:Mac m ls' g'):∀{r:Ls Nat} {p:P},p∈F->Low m r->wl (jI F ls ls') (F.idxOf p) r=F.idxOf (to2 ls ls' p r)
 | [],p,i,_=>rfl
 |a::r,p,i,c=>by
  show wl (jI F ls ls') (nx (jI F ls ls') (F.idxOf p) a) r=_
  rw[nx_J h M e i c.hd];exact wl_J h M e (r:=r) (F_nx h M e i c.hd) c.tl
def good_J{w:Nat}{p:P}(a:p∈F):F.idxOf p∈j1 F g g' w↔w<=gm g g' p:=by
 unfold j1;rw[mem_map];constructor
 ·rintro ⟨q,i,e⟩
  obtain⟨c,h2⟩:=mem_filter.mp i;have:=idx_inj c a e;subst this;exact of_decide_eq_true h2
 ·exact λh=>⟨p,mem_filter.mpr ⟨a,decide_eq_true h⟩,rfl⟩
def rd_J(h:FinOk m ls ls' F)(M:Mac m ls g)(c:Mac m ls' g'){r:Ls Nat}(a:Low m r){w:Nat}:rd (jI F ls ls') r∈j1 F g g' w↔w<=gm g g' (rd ls r,rd ls' r):=by
 have e:F.idxOf (0,0)=0:=zCn h.nd h.z;have:=wl_J h M c (r:=r) (F_00 h) a;rw[e]at this;show wl (jI F ls ls') 0 r∈_↔_;rw[this];exact good_J (F_to h M c (F_00 h) a)
def Mac_J(h:FinOk m ls ls' F)(M:Mac m ls g)(i:Mac m ls' g')(hl:F.length<=12)(w:Nat):Mac m (jI F ls ls') (j1 F g g' w) where
 hm:=M.hm
 hn:=by
  have:=(qG.mp h.z).1;rw[wZ];omega
 hl:=λl q=>by
  rw[wZ];rw[jI]at q;obtain⟨p,c,rfl⟩:=mem_map.mp q;refine⟨by rw[zJZ,length_map];exact vk M i (h.inn p c),λx a=>?_⟩;rw[zJZ]at a;obtain⟨q,e,rfl⟩:=mem_map.mp a;exact idxOf_lt_length_iff.mpr (h.cl p c q e)
 hr:=by
  have q:(j1 F g g' w).Sublist (List.range F.length):=by
   rw[<- idx_all h.nd];exact List.Sublist.map _ List.filter_sublist
  exact List.Pairwise.sublist q List.pairwise_lt_range
 hg:=λx a=>by
  rw[wZ];rw[j1]at a;obtain⟨p,c,rfl⟩:=mem_map.mp a;exact idxOf_lt_length_iff.mpr (mem_filter.mp c).1
def zFw(p:P):gm g g' p=(if p.1∈g then 1 else 0)+(if p.2∈g' then 1 else 0):=rfl
def zFx(M:Mac m ls g)(a:Mac m ls' g')(c:∀F,FinOk m ls ls' F->F.length<=12):∃F,FinOk m ls ls' F/\∀w:Nat,jm [.v (mD ls g),.v (mD ls' g'),qI w]=.ok (.v (mD (jI F ls ls') (j1 F g g' w)),O3) :=
 ⟨fin ls ls',finOk M a,λw=>zHu M a (c _ (finOk M a))⟩
def F_len(h:FinOk m ls ls' F)(M:Mac m ls g)(a:Mac m ls' g'):F.length<=ls.length*ls'.length:=by
 obtain⟨k,_,e⟩:=h.bf;rw[e 0];exact A_len M.hn.1 a.hn.1 (st_in M a) _
end
theorem zFy{α:Type}[BEq α][LawfulBEq α]:∀{l1 l2:Ls α},l1.Nodup->(∀x∈l1,x∈l2)->l1.length<=l2.length
 | [],_,_,_=>zero_le _
 |x::l1,l2,h,g=>by
  have a:=g x qE;have i:=nodup_cons.mp h;have:=zFy (l1:=l1) (l2:=l2.erase x) i.2 λy c=>(List.mem_erase_of_ne (λe=>i.1 (by rw[<- e];exact c))).mpr (g y (qD _ c))
  rw[List.length_erase_of_mem a]at this;have:=List.length_pos_of_mem a;dsimp[length_cons];omega
def vals(al:Ls Nat):Ls Nat:=(List.range 16).filter λv=>al.contains v
def cnt(al:Ls Nat):Nat:=(vals al).length
def Wq{al:Ls Nat}(h:∀x∈al,x<16){v:Nat}:v∈vals al↔v∈al:=by
 unfold vals;rw[mem_filter,mem_range,contains_iff_mem];exact⟨λq=>q.2,λq=>⟨h v q,q⟩⟩
def vals_nd(al:Ls Nat):(vals al).Nodup:=List.Nodup.sublist List.filter_sublist List.nodup_range
def cnt_le(al:Ls Nat):cnt al<=16:=by
 have:=List.length_filter_le (λv=>al.contains v) (List.range 16);rw[List.length_range]at this;exact this
def zCo{l:Ls Nat}{s:Nat}(h:s<l.length):l.getD s 0∈l:=by
 rw[getD_eq_getElem?_getD,getElem?_eq_getElem h];exact getElem_mem h
def zJa{l:Ls Nat}{x:Nat}(h:x∈l):∃s,s<l.length/\l.getD s 0=x:=by
 obtain⟨i,a,e⟩:=getElem_of_mem h;exact⟨i,a,by rw[getD_eq_getElem?_getD,getElem?_eq_getElem a];exact e⟩
def zAy{n:Nat}{f h:Ls Nat}(y:f.length=n)(C:h.length=n)(o:∀x∈f,x<16)(j:∀x∈h,x<16)(ref:∀s t,s<n->t<n->h.getD s 0=h.getD t 0->f.getD s 0=f.getD t 0)(c:cnt h<=cnt f) :
  ∀s t,s<n->t<n->f.getD s 0=f.getD t 0->h.getD s 0=h.getD t 0:=λs t g ht e=>by
 by_cases q:h.getD s 0=h.getD t 0
 ·exact q
 ·exfalso
  have ix:∀u,u<n->f.getD (h.idxOf (h.getD u 0)) 0=f.getD u 0:=λu hu=>by
   have r:=zCo (l:=h) (s:=u) (by omega);have hl:=idxOf_lt_length_iff.mpr r;refine ref _ _ (by omega) hu ?_;rw[getD_eq_getElem?_getD (l:=h) (i:=h.idxOf _),getElem?_eq_getElem hl];simp
  have a:h.getD t 0∈vals h:=(Wq j).mpr (zCo (by omega));have:=zFy (vals_nd f) (l2:=((vals h).erase (h.getD t 0)).map λv=>f.getD (h.idxOf v) 0) λb w=>by
   obtain⟨u,hu,rfl⟩:=zJa ((Wq o).mp w);rw[y]at hu;have k:∀v,v<n->h.getD v 0∈vals h:=λv hv=>(Wq j).mpr (zCo (by omega))
   rw[mem_map];by_cases z:h.getD u 0=h.getD t 0
   ·exact⟨h.getD s 0,(List.mem_erase_of_ne q).mpr (k s g),by rw[ix s g,e];exact(ref u t hu ht z).symm⟩
   ·exact⟨h.getD u 0,(List.mem_erase_of_ne z).mpr (k u hu),ix u hu⟩
  rw[length_map,List.length_erase_of_mem a]at this;have p:=List.length_pos_of_mem a;unfold cnt at c;omega
section
variable{m:Nat}{ls:Ls (Ls Nat)}{g:Ls Nat}
abbrev Mk:=Nat×Ls Nat
def mk2(a:Ls (Ls Nat))(al:Ls Nat)(s:Nat):Mk:=(al.getD s 0,(a.getD s []).map λx=>al.getD x 0)
def mks(a:Ls (Ls Nat))(al:Ls Nat):Ls Mk:=(List.range a.length).map (mk2 a al)
def j5(a:Ls (Ls Nat))(al:Ls Nat):Ls Nat:=(mks a al).map λq=>(mks a al).idxOf q
def zAU{al:Ls Nat}{s:Nat}(h:s<ls.length):(mks ls al)[s]?=some (mk2 ls al s):=by
 rw[mks,getElem?_map,getElem?_range h];rfl
def Zr{al:Ls Nat}:(mks ls al).length=ls.length:=by simp[mks]
def zAV{al:Ls Nat}:(j5 ls al).length=ls.length:=by rw[j5,length_map,Zr]
def JG{al:Ls Nat}{s:Nat}(h:s<ls.length):(j5 ls al).getD s 0=(mks ls al).idxOf (mk2 ls al s):=by
 rw[getD_eq_getElem?_getD,j5,getElem?_map,zAU h];rfl
def ixm{al:Ls Nat}{s:Nat}(h:s<ls.length):(mks ls al)[(mks ls al).idxOf (mk2 ls al s)]?=some (mk2 ls al s)/\(mks ls al).idxOf (mk2 ls al s)<ls.length:=by
 have l:=idxOf_lt_length_iff.mpr (mem_of_getElem? (zAU (al:=al) h));refine⟨?_,by rw[Zr]at l;exact l⟩;rw[getElem?_eq_getElem l];simp
def ZR{al:Ls Nat}{s t:Nat}(g:s<ls.length)(c:t<ls.length):(j5 ls al).getD s 0=(j5 ls al).getD t 0↔mk2 ls al s=mk2 ls al t:=by
 rw[JG g,JG c];refine⟨λe=>?_,λe=>by rw[e]⟩;have a:=(ixm (al:=al) g).1;rw[e,(ixm (al:=al) c).1]at a;exact(qJ a).symm
def zCp(M:Mac m ls g){al:Ls Nat}{s t:Nat}(j:s<ls.length)(i:t<ls.length):mk2 ls al s=mk2 ls al t↔al.getD s 0=al.getD t 0/\∀a,a<m->al.getD (nx ls s a) 0=al.getD (nx ls t a) 0:=by
 unfold mk2;rw[Prod.mk.injEq];refine and_congr_right λ_=>⟨λe a c=>?_,λh=>?_⟩
 ·have:=congrArg (λl=>l[a]?) e
  dsimp[getElem?_map,(ZQ M j c).1,(ZQ M i c).1,Option.map_some]at this;exact qJ this
 ·have k:=(M.row j).2.1
  have n:=(M.row i).2.1;apply ext_getElem?;intro a;rw[getElem?_map,getElem?_map];by_cases c:a<m
  ·rw[(ZQ M j c).1,(ZQ M i c).1];exact congrArg some (h a c)
  ·rw[getElem?_eq_none (by omega),getElem?_eq_none (by omega)]
def Sl(m:Nat)(c:Ls (Ls Nat))(g:Ls Nat)(a:Ls (Ls Nat))(g':Ls Nat)(s t:Nat):Prop:=∀r,Low m r->(wl c s r∈g↔wl a t r∈g')
theorem Sl.nx{c:Ls (Ls Nat)}{g':Ls Nat}{s t:Nat}(h:Sl m ls g c g' s t){a:Nat}(j:a<m):Sl m ls g c g' (nx ls s a) (nx c t a):=λr i =>
 h (a::r) λx e=>by
  rcases mem_cons.mp e with rfl|e
  ·exact j
  ·exact i x e
def al0(n:Nat)(g:Ls Nat):Ls Nat:=(List.range n).map λs=>if s∈g then 1 else 0
def alk(a:Ls (Ls Nat))(g:Ls Nat):Nat->Ls Nat
 |0=>al0 a.length g|k+1=>j5 a (alk a g k)
def zCq{n s:Nat}(h:s<n):(al0 n g).getD s 0=if s∈g then 1 else 0:=by
 rw[getD_eq_getElem?_getD,al0,getElem?_map,getElem?_range h];rfl
def vw:∀k,(alk ls g k).length=ls.length
 |0=>by simp[alk,al0]|k+1=>zAV
def vx(M:Mac m ls g):∀k,∀x∈alk ls g k,x<16
 |0,x,a=>by
  dsimp[alk,al0,mem_map]at a;obtain⟨s,_,rfl⟩:=a;split<;>omega
 |k+1,x,a=>by
  obtain⟨s,c,rfl⟩:=zJa a;rw[vw]at c;show(j5 ls (alk ls g k)).getD s 0<16;rw[JG c];have:=(ixm (al:=alk ls g k) c).2;have:=M.hn;omega
theorem zFz(M:Mac m ls g):∀k s t,s<ls.length->t<ls.length->Sl m ls g ls g s t->(alk ls g k).getD s 0=(alk ls g k).getD t 0
 |0,s,t,c,ht,h=>by
  show(al0 ls.length g).getD s 0=(al0 ls.length g).getD t 0
  rw[zCq c,zCq ht];have:=h [] (λ_ q=>by cases q);dsimp[foldl_nil]at this;dsimp[this]
 |k+1,s,t,c,ht,h=>by
  show(j5 ls (alk ls g k)).getD s 0=(j5 ls (alk ls g k)).getD t 0
  rw[ZR c ht,zCp M c ht];exact⟨zFz M k s t c ht h,λa e=>zFz M k _ _ (ZQ M c e).2 (ZQ M ht e).2 (h.nx e)⟩
theorem zCr(M:Mac m ls g):∀k s t,s<ls.length->t<ls.length->(alk ls g k).getD s 0=(alk ls g k).getD t 0->(s∈g↔t∈g)
 |0,s,t,a,ht,h=>by
  have h:(al0 ls.length g).getD s 0=(al0 ls.length g).getD t 0:=h;rw[zCq a,zCq ht]at h;by_cases p:s∈g<;>by_cases q:t∈g<;>simp[p,q]at h ⊢
 |k+1,s,t,a,ht,h=>by
  have h:(j5 ls (alk ls g k)).getD s 0=(j5 ls (alk ls g k)).getD t 0:=h;rw[ZR a ht,zCp M a ht]at h;exact zCr M k s t a ht h.1
structure Alk(m:Nat)(ls:List (List Nat))(g al:List Nat):Prop where
 len:al.length=ls.length
 low:∀s,s<ls.length->al.getD s 0<ls.length
 can:∀s,s<ls.length->al.getD (al.getD s 0) 0=al.getD s 0
 zero:al.getD 0 0=0
 lang:∀s t,s<ls.length->t<ls.length->(al.getD s 0=al.getD t 0↔Sl m ls g ls g s t)
def alk_ok(M:Mac m ls g)(k:Nat)(c:cnt (alk ls g (k+1))<=cnt (alk ls g k)):Alk m ls g (alk ls g (k+1)) where
 len:=zAV
 low:=λs i=>by
  show(j5 ls (alk ls g k)).getD s 0<_
  rw[JG i];exact(ixm i).2
 can:=λs i=>by
  show(j5 ls (alk ls g k)).getD ((j5 ls (alk ls g k)).getD s 0) 0=(j5 ls (alk ls g k)).getD s 0
  have q:=ixm (al:=alk ls g k) i;rw[JG i]at *;rw[JG q.2];have:=zAU (al:=alk ls g k) q.2;rw[q.1]at this;rw[<- qJ this]
 zero:=by
  have p:0<ls.length:=M.hn.1;show(j5 ls (alk ls g k)).getD 0 0=0;rw[JG p];have:=zAU (al:=alk ls g k) p;cases e:mks ls (alk ls g k)with
  |nil=>rw[e]at this;cases this|cons x r=>rw[e]at this;cases this;simp
 lang:=λs t i ht=>by
  have ref:∀s t,s<ls.length->t<ls.length->(alk ls g (k+1)).getD s 0=(alk ls g (k+1)).getD t 0->(alk ls g k).getD s 0=(alk ls g k).getD t 0:=λs t i ht h=>by
   have h:(j5 ls (alk ls g k)).getD s 0=(j5 ls (alk ls g k)).getD t 0:=h;rw[ZR i ht,zCp M i ht]at h;exact h.1
  have u:=zAy (vw k) (vw (k+1)) (vx M k) (vx M (k+1)) ref c;have j:∀r,Low m r->∀s t,s<ls.length->t<ls.length->(alk ls g (k+1)).getD s 0=(alk ls g (k+1)).getD t 0->(wl ls s r∈g↔wl ls t r∈g):=by
   intro r
   induction r with
   |nil=>exact λ_ s t i ht h=>zCr M (k+1) s t i ht h
   |cons a r v =>
    intro l s t i ht h;have h:(j5 ls (alk ls g k)).getD s 0=(j5 ls (alk ls g k)).getD t 0:=h;rw[ZR i ht,zCp M i ht]at h;have n:=ZQ M i l.hd;have o:=ZQ M ht l.hd;exact v l.tl _ _ n.2 o.2 (u _ _ n.2 o.2 (h.2 a l.hd))
  exact⟨λh r l=>j r l s t i ht h,zFz M (k+1) s t i ht⟩
end
def zF0{fs:Ls FI}{E E1:zU}{as:Ax}{rs:Ls R}{r:R}(a:dA fs as E=.ok (rs,E1))(c:zEv (rs.map R.d)=some r):dE fs (.lset as) E=.ok (r,E1):=by dsimp[rE_lset,eCB,a,c]
def x_idxK{fs:Ls FI}{E E1 E2:zU}{a b:_}{r1 r2 r:R}{ds:Ls D}(c:dE fs a E=.ok (r1,E1))(hd:r1.d=.l ds)(e:dE fs b E1=.ok (r2,E2))(g:idxK (.l ds) r2.d=some r):dE fs (.idxK a b) E=.ok (r,E2):=by
 dsimp[Q6,rE_idxK,eMet,c,e,hd,g]
def zJb{al:Ls Nat}(h:∀x∈al,x<16):zEv [.l (N al)]=some (.v (.int (cnt al:Nat))):=by
 show(jc (N al)).map _=_
 rw[show jc (N al)=some al from zCZ al h,Option.map_some];show some (R.v (D.int (((zHM al).length:Nat):Int)))=_;rw[zHM,length_map];rfl
def kM(q:Mk):D:=.t [.int (q.1:Nat),tN q.2]
def deq_kM(p q:Mk):deq (kM p) (kM q)=decide (p=q):=by
 have c:deq (.int (p.1:Int)) (.int (q.1:Int))=decide (p.1=q.1):=by
  have:=Jr [p.1] [q.1];simpa[deqs]using this
 have a:deq (tN p.2) (tN q.2)=decide (p.2=q.2):=Jr p.2 q.2;show(deq (.int (p.1:Int)) (.int (q.1:Int))&&(deq (tN p.2) (tN q.2)&&true))=_;rw[c,a,Bool.and_true,<- Bool.decide_and];exact decide_eq_decide.mpr (by rw[Prod.ext_iff])
theorem fi_kM(q:Mk):∀L:Ls Mk,q∈L->(L.map kM).findIdx? (deq · (kM q))=some (L.idxOf q)
 | [],h=>by cases h
 |p::L,h=>by
  rw[map_cons,List.findIdx?_cons,deq_kM,List.idxOf_cons];by_cases e:p=q
  ·subst e;simp
  ·rw[decide_eq_false e]
   have a:q∈L:=by
    rcases mem_cons.mp h with h|h
    ·exact absurd h.symm e
    ·exact h
   rw[fi_kM q L a];have:(p==q)=false:=beq_eq_false_iff_ne.mpr e;rw[this];rfl
def zJc(q:Mk):eqb 18 (kM q)=true:=by
 show(([D.int (q.1:Int),tN q.2].all (eqb 17)))=true
 dsimp[all_cons,List.all_nil,Bool.and_true,Bool.and_eq_true];refine⟨rfl,?_⟩;show(N q.2).all (eqb 16)=true;rw[all_eq_true];intro d hd;obtain⟨n,_,rfl⟩:=J6 hd;rfl
def zJd{L:Ls Mk}{q:Mk}(h:q∈L)(a:L.length<=1000):idxK (.l (L.map kM)) (kM q)=some (.v (.int (L.idxOf q:Nat))):=by
 have e:(L.map kM).all (eqb 18)=true:=by
  rw[all_eq_true];intro d hd;obtain⟨p,_,rfl⟩:=mem_map.mp hd;exact zJc p
 have:=idxOf_lt_length_iff.mpr h;dsimp[idxK,fi_kM q L h];rw[if_pos ⟨zJc q,e⟩,if_pos (by omega)]
section
variable{m:Nat}{ls:Ls (Ls Nat)}{g:Ls Nat}
def ix_l{l:Ls Nat}{k x:Nat}(h:l[k]?=some x):ixD (.l (N l)) (.int (k:Nat))=some (.v (.int (x:Nat))):=by
 rw[zFV,YR (zDL h)];rfl
def get_D{l:Ls Nat}{s:Nat}(h:s<l.length):l[s]?=some (l.getD s 0):=by
 rw[getD_eq_getElem?_getD,getElem?_eq_getElem h];rfl
def kF(al:Ls Nat):D->D
 | .int x=>.int ((al.getD x.toNat 0:Nat):Int)|d=>d
def kF_N(al l:Ls Nat):(N l).map (kF al)=N (l.map λx=>al.getD x 0):=by
 dsimp[N,map_map];refine map_congr_left λx _=>?_
 simp[kF]
def kZ(al:Ls Nat):D->D
 | .t [a,.t c]=>.t [a,.t (c.map (kF al))]|d=>d
def kZ_at(al:Ls Nat)(a:Nat)(l:Ls Nat):kZ al (wU (.int (a:Nat)) (tN l))=kM (a,l.map λx=>al.getD x 0):=by
 show D.t [.int (a:Nat),.t ((N l).map (kF al))]=D.t [.int (a:Nat),.t (N _)]
 rw[kF_N]
theorem zJe(al:Ls Nat):∀(as:Ls Nat) (ls:Ls (Ls Nat)),(zipWith wU (N as) (T ls)).map (kZ al)=(zipWith (λa l=>(a,l.map λx=>al.getD x 0)) as ls).map kM
 | [],_=>rfl|_::_,[]=>rfl
 |a::as,l::ls=>by
  show kZ al (wU (.int (a:Nat)) (tN l))::(zipWith wU (N as) (T ls)).map (kZ al)=_
  rw[kZ_at,zJe al as ls];rfl
def zip_mks{al:Ls Nat}(h:al.length=ls.length):zipWith (λa (l:Ls Nat)=>(a,l.map λx=>al.getD x 0)) al ls=mks ls al:=by
 apply ext_getElem?;intro s;rw[List.getElem?_zipWith];by_cases c:s<ls.length
 ·rw[zAU c,get_D (by omega:s<al.length),getElem?_eq_getElem c]
  show some _=some _
  unfold mk2;rw[getD_eq_getElem?_getD (l:=ls),getElem?_eq_getElem c];rfl
 ·rw[getElem?_eq_none (by omega:al.length<=s),getElem?_eq_none (by omega:ls.length<=s),getElem?_eq_none (l:=mks ls al) (by rw[Zr];omega)]
def zBc{al:Ls Nat}{d:D}(h:d∈zipWith wU (N al) (T ls)):∃a l,l∈ls/\d=wU (.int (a:Nat)) (tN l):=by
 obtain⟨i,c⟩:=getElem?_of_mem h;rw[List.getElem?_zipWith]at c;cases e:(N al)[i]? with
 |none=>rw[e]at c;cases c
 |some x =>
  cases g:(T ls)[i]? with
  |none=>rw[e,g]at c;cases c
  |some y =>
   rw[e,g]at c;cases c;obtain⟨n,_,rfl⟩:=J6 (mem_of_getElem? e);obtain⟨l,hl,rfl⟩:=zDN (mem_of_getElem? g);exact⟨n,l,hl,rfl⟩
abbrev EA6(a:Ls (Ls Nat))(g:Ls Nat)(c e h:DV.Slot):zU:=[.v (mD a g),.v (.t (T a)),.v (tN g),c,e,h]
def zH0(M:Mac m ls g){al:Ls Nat}(h:al.length=ls.length)(e j:DV.Slot):dE yL (.comp 2 ["alike","row"] ["alikes"] [3] (.iZ false true (.cons (.x 3) (.cons (.x 1) .nil))) (.t [0,1]) .tTr (.t (.cons (.x 0) (.cons (.cB .tuple (.cons (.comp 1 ["stand"] ["alikes"] [2] (.iT (.x 1)) (.n 0) .tTr (.ix (.x 1) (.x 0))) .nil)) .nil)))) (EA6 ls g (.v (.l (N al))) e j)=.ok (.w ((mks ls al).map kM),EA6 ls g (.v (.l (N al))) e j):=by
 refine uz (vs:=[.l (N al)]) patP (λ_=>true) (kZ al) (i_Z (zB (zA rfl) (zB (zA rfl) zG)) rfl rfl) rfl (λd hd S k c=>?_) (λd hd=>?_) (λd hd=>?_) (λd hd _=>?_) ?_ ?_
 ·obtain⟨a,l,_,rfl⟩:=zBc hd
  exact gT_ok2 k c
 ·obtain⟨a,l,_,rfl⟩:=zBc hd
  refine⟨rfl,λs i=>?_⟩;dsimp[patP,wU,mem_cons,mem_nil_iff,or_false]at i;rcases i with rfl|rfl<;>rfl
 ·dsimp[Q7,uo,Gc]
 ·obtain⟨a,l,hl,rfl⟩:=zBc hd
  have o:=(M.hl l hl);have c:=M.hm;refine⟨_,jb (zB (zA rfl) (zB (jZ (b:=.tuple) (zB (yw (vs:=[.l (N al)]) (kF al) (i_T (zA rfl) rfl) rfl (λd hd=>?_) ?_ rfl) zG) rfl) zG)) rfl yu,rfl⟩
  ·obtain⟨x,n,rfl⟩:=J6 hd
   exact⟨_,JQ (zA rfl) (zA rfl) (ix_l (get_D (by rw[h];exact o.2 x n))),by simp[R.d,kF]⟩
  ·rw[jo];dsimp[cap];omega
 ·have:=M.hn
  rw[length_zipWith,jo,QC];dsimp[cap];omega
 ·rw[List.filter_eq_self.mpr (λ_ _=>rfl),zJe,zip_mks h]
def fa_next(M:Mac m ls g){al:Ls Nat}(c h:DV.Slot):dE yL (.comp 1 ["mark"] ["marks"] [5] (.iL (.x 5)) (.n 0) .tTr (.idxK (.x 1) (.x 0))) (EA6 ls g c h (.w ((mks ls al).map kM)))=.ok (.w (N (j5 ls al)),EA6 ls g c h (.v (.l ((mks ls al).map kM)))):=by
 have i:=M.hn;refine yw (vs:=[.l ((mks ls al).map kM)]) (λd=>match idxK (.l ((mks ls al).map kM)) d with|some (.v d)=>d|_=>d) (i_L (ZM rfl rfl) rfl) rfl (λd hd=>?_) ?_ ?_
 ·obtain⟨q,a,rfl⟩:=mem_map.mp hd
  have e:=zJd a (by rw[Zr];omega);exact⟨_,x_idxK (zA rfl) rfl (zA rfl) e,by dsimp[R.d,e]⟩
 ·rw[length_map,Zr];dsimp[cap];omega
 ·rw[map_map,j5]
  dsimp[N,map_map];refine map_congr_left λq a=>?_
  have e:=zJd a (by rw[Zr];omega);dsimp[Function.comp,e]
end
def oth(n:Nat)(g:Ls Nat):Ls Nat:=(List.range n).filter λx=>!decide (x∈g)
section
variable{m m':Nat}{ls ls':Ls (Ls Nat)}{g g':Ls Nat}
def zAW{n:Nat}{d:D}(h:d∈DV.zI 0 n):∃i:Nat,d=.int (i:Nat)/\i<n:=by
 obtain⟨i,a⟩:=getElem?_of_mem h;obtain⟨rfl,h2⟩:=Zn a;exact⟨i,rfl,h2⟩
def fO(g:Ls Nat):D->Bool
 | .int i=>!decide (i.toNat∈g)|_=>false
def oth_map(n:Nat)(g:Ls Nat):((DV.zI 0 n).filter (fO g)).map (λd=>d)=N (oth n g):=by
 rw[GC,List.map_id'];unfold oth N;rw[List.filter_map];rfl
def GI(M:Mac m ls g):jp [.v (mD ls g)]=.ok (.v (mD ls (oth ls.length g)),O1):=by
 have a:=M.hn;have c:=uz (fs:=vV) (E:=[.v (mD ls g),.v (.t (T ls)),.v (tN g)]) (nl:=1) (xs:=["stand"]) (ys:=["good"]) (caps:=[2]) (it:=.iR1 (.cons (.cB .len (.cons (.x 1) .nil)) .nil)) (tt:=.tE (.cmp .nin (.x 0) (.x 1))) (el:=.x 0) (tg:=.n 0) (vs:=[tN g]) (λd=>[.v d]) (fO g) (λd=>d)
  (zHh (j:=(ls.length:Int)) (zB (jZ (zB (zA rfl) zG) (zDR ls)) zG) rfl ⟨by omega,by omega⟩) rfl (λd hd S h a=>zFK h a) (λd hd=>⟨rfl,λs e=>by rw[mem_singleton]at e;subst e;rfl⟩)
  (λd hd=>by
   obtain⟨i,rfl,k⟩:=zAW hd;exact t_E (zj (zA rfl) (zA rfl) (in_N true i g)))
  (λd hd _=>⟨_,zA rfl,rfl⟩) (by rw[yF];dsimp[cap];omega) (oth_map _ g)
 exact zp (zH (ym (zZ (F:=zN) rfl (zA rfl) (j0 (zAL M) (Js M)))) (zH (zDJ (E2:=[.v (mD ls g),.v (.t (T ls)),.v (tN g)]) (zA rfl) rfl) (zQ (zn (jb (zB (zA rfl) (zB (jZ (zB c zG) (zBX _)) zG)) rfl yu))))) rfl
end
section
variable{m:Nat}{ls:Ls (Ls Nat)}{g:Ls Nat}
def mnk(a:Ls (Ls Nat))(g:Ls Nat):Lk
 |0=>0|k+1=>cnt (alk a g k)
def al0_map(n:Nat)(g:Ls Nat):(DV.zI 0 n).map (λd=>match d with | .int i=>(if(i.toNat∈g)then D.int 1 else D.int 0)|d=>d)=N (al0 n g):=by
 rw[GC];dsimp[N,al0,map_map];refine map_congr_left λi _=>?_
 dsimp[Function.comp,Int.toNat_natCast];split<;>rfl
def zH1(M:Mac m ls g):dE yL (.comp 1 ["stand"] ["good"] [2] (.iR1 (.cons (.cB .len (.cons (.x 1) .nil)) .nil)) (.n 0) .tTr (.ifx (.tE (.cmp .inn (.x 0) (.x 1))) (.c (.int 1)) (.c (.int 0)))) (EA6 ls g .e .e .e)=.ok (.w (N (al0 ls.length g)),EA6 ls g .e .e .e):=by
 have a:=M.hn;refine yw (vs:=[tN g]) _ (zHh (j:=(ls.length:Int)) (zB (jZ (zB (zA rfl) zG) (zDR ls)) zG) rfl ⟨by omega,by omega⟩) rfl (λd hd=>?_) (by rw[yF];dsimp[cap];omega) (al0_map ls.length g);obtain⟨i,rfl,e⟩:=zAW hd;by_cases c:i∈g
 ·exact⟨_,zI8 (t_E (zj (zA rfl) (zA rfl) ((inn_N i g).trans (by rw[decide_eq_true c])))) x_c,by simp[R.d,c]⟩
 ·exact⟨_,zI9 (t_E (zj (zA rfl) (zA rfl) ((inn_N i g).trans (by rw[decide_eq_false c])))) x_c,by simp[R.d,c]⟩
def stops(M:Mac m ls g):∃n,n<=17/\¬mnk ls g n<cnt (alk ls g n):=by
 refine Classical.byContradiction λh=>?_
 have e:∀n,n<=17->mnk ls g n<cnt (alk ls g n):=λn c=>Classical.byContradiction λq=>h ⟨n,c,q⟩
 have up:∀n,n<=17->n+1<=cnt (alk ls g n):=by
  intro n
  induction n with
  |zero=>exact λc=>e 0 c
  |succ n i =>
   intro c;have a:=i (by omega);have b:=e (n+1) c;have:mnk ls g (n+1)=cnt (alk ls g n):=rfl;omega
 have:=up 17 (le_refl _);have:=cnt_le (alk ls g 17);omega
def zH2(M:Mac m ls g):∃al,Alk m ls g al/\jU [.v (mD ls g)]=.ok (.v (.l (N al)),[.e]):=by
 have C:=M.hn;obtain⟨n,t,y⟩:=stops M;obtain⟨K,D,r,x⟩:=QE (λk=>¬mnk ls g k<cnt (alk ls g k)) n y;have z:K≠0:=λe=>by
  subst e;refine r ?_;show 0<(vals _).length;exact List.length_pos_of_mem ((Wq (vx M 0)).mpr (zCo (s:=0) (by rw[vw];omega)))
 obtain⟨i,rfl⟩:∃i,K=i+1:=⟨K-1,by omega⟩;refine⟨alk ls g (i+1),alk_ok M i (Nat.le_of_not_lt r),?_⟩;have lt:∀a b:Nat,ltD (.int (a:Int)) (.int (b:Int))=some (.v (.bl (decide (a<b)))):=lt_nat
 obtain⟨E',w,u,h,rfl⟩:=zHq (c:=dT yL (.tE (.cmp .lt (.x 4) (.lset (.cons (.x 3) .nil))))) (b:=dB yL JN) (λk E=>∃j h,E=EA6 ls g j (.v (.int (mnk ls g k:Nat))) h/\(j=.w (N (alk ls g k))\/j=.v (.l (N (alk ls g k))))/\yd h=true) (λE=>∃u h,E=EA6 ls g (.v (.l (N (alk ls g (i+1))))) u h) (i+1)
  (λk E v ⟨j,h,o,p,h5⟩=>by
   subst o;have c:mnk ls g k<cnt (alk ls g k):=Classical.byContradiction λq=>x k v q
   have l:=zJb (vx M k);refine⟨EA6 ls g (.v (.l (N (alk ls g k)))) (.v (.int (mnk ls g k:Nat))) h,EA6 ls g (.w (N (alk ls g (k+1)))) (.v (.int (mnk ls g (k+1):Nat))) (.v (.l ((mks ls (alk ls g k)).map kM))),?_,?_,_,_,rfl,.inl rfl,rfl⟩
   ·exact t_E (zj (zA rfl) (zF0 (zB (zFh p rfl rfl) zG) l) ((lt _ _).trans (by rw[decide_eq_true c])))
   ·exact zH (E1:=EA6 ls g (.v (.l (N (alk ls g k)))) (.v (.int (cnt (alk ls g k):Nat))) h) (yE (zF0 (zB (zA rfl) zG) l) (jz rfl rfl rfl)) (zH (E1:=EA6 ls g (.v (.l (N (alk ls g k)))) (.v (.int (cnt (alk ls g k):Nat))) (.w ((mks ls (alk ls g k)).map kM))) (yE (zH0 M (vw k) _ _) (jz rfl h5 rfl)) (zQ (yE (fa_next M _ _) (jz rfl rfl rfl)))))
  (λE ⟨j,h,o,p,h5⟩=>by
   subst o;refine⟨_,t_E (zj (zA rfl) (zF0 (zB (zFh p rfl rfl) zG) (zJb (vx M (i+1)))) ((lt _ _).trans (by rw[decide_eq_false r]))),_,_,rfl⟩)
  1000000 0 (EA6 ls g (.w (N (alk ls g 0))) (.v (.int 0)) .e) (zero_le _) (by omega) ⟨_,_,rfl,.inl rfl,rfl⟩
 exact zp (zH (zDJ (zA rfl) rfl) (zH (yE (zH1 M) rfl) (zH (yE x_c rfl) (zH (Zm w) (zQ (zn (zA rfl))))))) rfl
end
def tls(al:Ls Nat)(a:Ls (Ls Nat)):Ls (Ls Nat):=a.map λl=>l.map λx=>al.getD x 0
section
variable{m:Nat}{ls ls':Ls (Ls Nat)}{g g' al al':Ls Nat}{F F':Ls P}
def vz:(tls al ls).length=ls.length:=length_map ..
def Ju(M:Mac m ls g)(a:Alk m ls g al):Mac m (tls al ls) g where
 hm:=M.hm
 hn:=by rw[vz];exact M.hn
 hl:=λl h=>by
  rw[vz];obtain⟨e,i,rfl⟩:=mem_map.mp h;refine⟨by rw[length_map];exact(M.hl e i).1,λx c=>?_⟩;obtain⟨y,j,rfl⟩:=mem_map.mp c;exact a.low y ((M.hl e i).2 y j)
 hr:=M.hr
 hg:=λx c=>by rw[vz];exact M.hg x c
def zF1(M:Mac m ls g){s a:Nat}(c:s<ls.length)(e:a<m):nx (tls al ls) s a=al.getD (nx ls s a) 0:=by
 unfold nx tls;rw[getD_eq_getElem?_getD (l:=List.map _ ls),getElem?_map,(M.row c).1];show(List.map _ (ls.getD s [])).getD a 0=_;rw[getD_eq_getElem?_getD,getElem?_map,(ZQ M c e).1];show al.getD (nx ls s a) 0=_;rfl
def Sl.refl(s:Nat):Sl m ls g ls g s s:=λr _=>Iff.rfl
theorem Sl.symm{s t:Nat}(h:Sl m ls g ls' g' s t):Sl m ls' g' ls g t s:=λr a=>(h r a).symm
theorem Sl.trans{e:Ls (Ls Nat)}{c:Ls Nat}{s t u:Nat}(h:Sl m ls g ls' g' s t)(k:Sl m ls' g' e c t u):Sl m ls g e c s u:=λr a=>(h r a).trans (k r a)
theorem zJf(M:Mac m ls g)(a:Alk m ls g al):∀(r:Ls Nat) (s:Nat),s<ls.length->Low m r->(wl (tls al ls) s r∈g↔wl ls s r∈g)
 | [],s,_,_=>Iff.rfl
 |b::r,s,h,c=>by
  show wl (tls al ls) (nx (tls al ls) s b) r∈g↔wl ls (nx ls s b) r∈g
  have e:=ZQ M h c.hd;rw[zF1 M h c.hd];have l:=a.low _ e.2;exact(zJf M a r _ l c.tl).trans ((a.lang _ _ l e.2).mp (a.can _ e.2) r c.tl)
def Rd(a:Ls (Ls Nat))(al:Ls Nat)(p:P):Prop:=p.1=p.2/\p.1<a.length/\al.getD p.1 0=p.1
theorem Rd.zero(M:Mac m ls g)(a:Alk m ls g al):Rd ls al (0,0):=⟨rfl,M.hn.1,a.zero⟩
def Rd.step(M:Mac m ls g)(a:Alk m ls g al):∀p,Rd ls al p->∀q∈st (tls al ls) (tls al ls) p,Rd ls al q:=λp ⟨l,n,_⟩ q e=>by
 unfold st at e;rw[<- l]at e;obtain⟨i,c⟩:=getElem?_of_mem e;rw[List.getElem?_zip_eq_some]at c;have u:q.1=q.2:=qJ (c.1.symm.trans c.2);refine⟨u,?_⟩;have k:=mem_of_getElem? c.1;have h:=(M.row n);have r:(tls al ls).getD p.1 []=(ls.getD p.1 []).map λx=>al.getD x 0:=by
  rw[getD_eq_getElem?_getD,tls,getElem?_map,h.1];rfl
 rw[r]at k;obtain⟨y,t,o⟩:=mem_map.mp k;have j:=h.2.2 y t;rw[<- o];exact⟨a.low y j,a.can y j⟩
def diag(M:Mac m ls g)(a:Alk m ls g al)(h:FinOk m (tls al ls) (tls al ls) F):∀p∈F,p.1=p.2/\p.1<ls.length/\al.getD p.1 0=p.1:=by
 obtain⟨k,_,e⟩:=h.bf;rw[e 0];exact uO (R:=Rd ls al) (Rd.zero M a) (Rd.step M a) _
def QH(M:Mac m ls g)(a:Alk m ls g al)(h:FinOk m (tls al ls) (tls al ls) F):F.length<=ls.length:=by
 have d:=diag M a h;have c:(F.map λp=>p.1).Nodup:=by
  have:=h.nd;rw[List.nodup_iff_pairwise_ne]at this ⊢;exact List.pairwise_map.mpr (List.Pairwise.imp_of_mem (λ{x y} j i n e=>n (Prod.ext e (by rw[<- (d x j).1,<- (d y i).1];exact e))) this)
 have:=pig ls.length _ c λx l=>by
  obtain⟨p,k,rfl⟩:=mem_map.mp l;exact(d p k).2.1
 rw[length_map]at this;exact this
def Lst(m:Nat)(a:Ls (Ls Nat))(g:Ls Nat)(c:Ls (Ls Nat))(e:Ls Nat):Prop :=
 ∃al F,Alk m a g al/\FinOk m (tls al a) (tls al a) F/\c=jI F (tls al a) (tls al a)/\e=j1 F g g 2
def Lst.mac(M:Mac m ls g){c:Ls (Ls Nat)}{gf:Ls Nat}(h:Lst m ls g c gf):Mac m c gf:=by
 obtain⟨al,F,a,f,rfl,rfl⟩:=h;have:=QH M a f;have e:=M.hn;exact Mac_J f (Ju M a) (Ju M a) (by omega) 2
def Lst.len(M:Mac m ls g){c:Ls (Ls Nat)}{e:Ls Nat}(h:Lst m ls g c e):c.length<=ls.length:=by
 obtain⟨al,F,a,f,rfl,rfl⟩:=h;rw[wZ];exact QH M a f
def zAX(g:Ls Nat)(s:Nat):2<=gm g g (s,s)↔s∈g:=by
 rw[zFw];by_cases c:s∈g<;>simp[c]
def Lst.lang(M:Mac m ls g){i:Ls (Ls Nat)}{e:Ls Nat}(h:Lst m ls g i e):Sl m ls g i e 0 0:=λr c=>by
 obtain⟨al,F,a,f,rfl,rfl⟩:=h;have N:=Ju M a;refine(zJf M a r 0 M.hn.1 c).symm.trans ?_;rw[show(wl (jI F (tls al ls) (tls al ls)) 0 r∈j1 F g g 2)↔_ from rd_J f N N c];exact(zAX g _).symm
section
def Eqv(W:P->P->Prop)(l a:Ls P):Prop:=l.length=a.length/\∀(i:Nat) (p q:P),l[i]?=some p->a[i]?=some q->W p q
structure Uni(W:P->P->Prop)(R R':P->Prop):Prop where
 r:∀p q q',R' q->R' q'->W p q->W p q'->q=q'
 l:∀p p' q,R p->R p'->W p q->W p' q->p=p'
variable{W:P->P->Prop}{R R':P->Prop}
def Eqv.mem(u:Uni W R R'){l c:Ls P}(h:Eqv W l c)(n:∀x∈l,R x)(g:∀x∈c,R' x){p q:P}(o:R p)(k:R' q)(t:W p q){i:Nat}:l[i]?=some p↔c[i]?=some q:=by
 constructor
 ·intro e
  have j:=(qG.mp e).1;have a:=getElem?_eq_getElem (l:=c) (i:=i) (by rw[<- h.1];exact j);rw[a,u.r p _ _ (g _ (mem_of_getElem? a)) k (h.2 i _ _ e a) t]
 ·intro e
  have j:=(qG.mp e).1;have a:=getElem?_eq_getElem (l:=l) (i:=i) (by rw[h.1];exact j);rw[a,u.l _ p q (n _ (mem_of_getElem? a)) o (h.2 i _ _ a e) t]
theorem Eqv.add(u:Uni W R R'){l l':Ls P}(h:Eqv W l l')(o:∀x∈l,R x)(j:∀x∈l',R' x){p q:P}(r:R p)(n:R' q)(t:W p q):Eqv W (BF.add l p) (BF.add l' q):=by
 have k:p∈l↔q∈l':=by
  rw[List.mem_iff_getElem?,List.mem_iff_getElem?];exact exists_congr λi=>h.mem u o j r n t
 unfold BF.add;by_cases c:p∈l
 ·rw[if_pos c,if_pos (k.mp c)];exact h
 ·rw[if_neg c,if_neg λz=>c (k.mpr z)]
  refine⟨by simp[h.1],λi x y a g=>?_⟩;rcases Nat.lt_trichotomy i l.length with e|e|e
  ·rw[getElem?_append_left e]at a
   rw[getElem?_append_left (by rw[<- h.1];exact e)]at g;exact h.2 i x y a g
  ·subst e
   rw[getElem?_append_right (le_refl _),sub_self]at a;rw[h.1,getElem?_append_right (le_refl _),sub_self]at g;cases a;cases g;exact t
  ·rw[getElem?_eq_none (by simp;omega)]at a;cases a
theorem Eqv.fold(u:Uni W R R'):∀(a b:Ls P) {l e:Ls P},Eqv W l e->(∀x∈l,R x)->(∀x∈e,R' x)->Eqv W a b->(∀x∈a,R x)->(∀x∈b,R' x)->Eqv W (a.foldl BF.add l) (b.foldl BF.add e)
 | [],[],_,_,h,_,_,_,_,_=>h| [],_::_,_,_,_,_,_,k,_,_=>by have:=k.1;simp at this|_::_,[],_,_,_,_,_,k,_,_=>by have:=k.1;simp at this
 |p::a,q::b,l,e,h,o,c,k,j,v=>by
  have t:=k.2 0 p q rfl rfl;have r:=j p qE;have n:=v q qE;exact Eqv.fold u a b (h.add u o c r n t) (zBU o r) (zBU c n) ⟨by have:=k.1;simpa using this,λi x y w z=>k.2 (i+1) x y (by exists w) (by exists z)⟩ (λx g=>j x (qD _ g)) λx g=>v x (qD _ g)
theorem Eqv.A(u:Uni W R R'){f j:P->Ls P}(o:R (0,0))(c:R' (0,0))(y:W (0,0) (0,0))(n:∀p,R p->∀q∈f p,R q)(a:∀p,R' p->∀q∈j p,R' q)(v:∀p q,R p->R' q->W p q->Eqv W (f p) (j q)):∀k,Eqv W (BF.A f k) (BF.A j k)
 |0=>⟨rfl,λi p q r z=>by
  cases i with
  |zero=>cases r;cases z;exact y|succ i=>simp[BF.A]at r⟩
 |k+1=>by
  have h:=Eqv.A u o c y n a v k;cases e:(BF.A f k)[k]? with
  |none =>
   have g:(BF.A j k)[k]?=none:=by
    rw[List.getElem?_eq_none_iff]at e ⊢;rw[<- h.1];exact e
   rw[GD e,GD g];exact h
  |some p =>
   have C:=(qG.mp e).1;have g:=getElem?_eq_getElem (l:=BF.A j k) (i:=k) (by rw[<- h.1];exact C);have t:=h.2 k _ _ e g;have x:=uO o n k p (mem_of_getElem? e);have w:=uO c a k _ (mem_of_getElem? g);rw[WQ e,WQ g];exact h.fold u _ _ (uO o n k) (uO c a k) (v _ _ x w t) (n p x) (a _ w)
end
end
section
variable{m:Nat}{ls ls':Ls (Ls Nat)}{g g' al al':Ls Nat}{F F':Ls P}
def uni(M:Mac m ls g)(v:Mac m ls' g')(a:Alk m ls g al)(o:Alk m ls' g' al'):Uni (λp q=>Sl m ls g ls' g' p.1 q.1) (Rd ls al) (Rd ls' al') where
 r:=λp q u j i h k=>by
  have e:=(o.lang q.1 u.1 j.2.1 i.2.1).mpr (h.symm.trans k);rw[j.2.2,i.2.2]at e;exact Prod.ext e (by rw[<- j.1,<- i.1];exact e)
 l:=λp t q n c h k=>by
  have e:=(a.lang p.1 t.1 n.2.1 c.2.1).mpr (h.trans k.symm);rw[n.2.2,c.2.2]at e;exact Prod.ext e (by rw[<- n.1,<- c.1];exact e)
def zJg(M:Mac m ls g)(o:Mac m ls' g')(a:Alk m ls g al)(j:Alk m ls' g' al')(p q:P)(h:Rd ls al p)(e:Rd ls' al' q)(t:Sl m ls g ls' g' p.1 q.1):Eqv (λp q=>Sl m ls g ls' g' p.1 q.1) (st (tls al ls) (tls al ls) p) (st (tls al' ls') (tls al' ls') q):=by
 have N:=Ju M a;have N':=Ju o j;have ip:p.1<(tls al ls).length/\p.2<(tls al ls).length:=by rw[vz,<- h.1];exact⟨h.2.1,h.2.1⟩
 have u:q.1<(tls al' ls').length/\q.2<(tls al' ls').length:=by rw[vz,<- e.1];exact⟨e.2.1,e.2.1⟩
 have r:=vk N N ip;have w:=vk N' N' u;refine⟨by rw[r,w],λi x y k v=>?_⟩;have c:i<m:=by rw[<- r];exact(qG.mp k).1
 rw[zFv N N ip c]at k;rw[zFv N' N' u c]at v;cases k;cases v;show Sl m ls g ls' g' (nx (tls al ls) p.1 i) (nx (tls al' ls') q.1 i);have l:=ZQ M h.2.1 c;have n:=ZQ o e.2.1 c;rw[zF1 M h.2.1 c,zF1 o e.2.1 c];exact((a.lang _ _ (a.low _ l.2) l.2).mp (a.can _ l.2)).trans ((t.nx c).trans ((j.lang _ _ (j.low _ n.2) n.2).mp (j.can _ n.2)).symm)
def zF2{w:Nat}(h:F.Nodup){x:Nat}:x∈j1 F g g' w↔∃p,F[x]?=some p/\w<=gm g g' p:=by
 unfold j1;rw[mem_map];constructor
 ·rintro ⟨q,c,e⟩
  obtain⟨a,h2⟩:=mem_filter.mp c;exact⟨q,by rw[<- e];exact WS a,of_decide_eq_true h2⟩
 ·rintro ⟨p,e,i⟩
  exact⟨p,mem_filter.mpr ⟨mem_of_getElem? e,decide_eq_true i⟩,zCn h e⟩
def zF3{a b:Ls Nat}{n:Nat}(c:zA3 a)(i:zA3 b)(e:∀x∈a,x<n)(g:∀x∈b,x<n)(h:∀x,x∈a↔x∈b):a=b:=by
 rw[YY a c n e,YY b i n g];refine List.filter_congr λx _=>?_
 rw[Bool.eq_iff_iff,contains_iff_mem,contains_iff_mem];exact h x
def Lst.same(M:Mac m ls g)(z:Mac m ls' g'){Z J:Ls (Ls Nat)}{W gf':Ls Nat}(h:Lst m ls g Z W)(h':Lst m ls' g' J gf')(e:Sl m ls g ls' g' 0 0):Z=J/\W=gf':=by
 have Q:=h.mac M;have Q':=h'.mac z;obtain⟨al,F,a,f,rfl,rfl⟩:=h;obtain⟨w,F',C,D,rfl,rfl⟩:=h';have N:=Ju M a;have N':=Ju z C;have G:∀p∈F,Rd ls al p:=diag M a f;have r:∀p∈F',Rd ls' w p:=diag z C D;have u:=uni M z a C;have E:Eqv (λp q=>Sl m ls g ls' g' p.1 q.1) F F':=by
  obtain⟨k,_,ek⟩:=f.bf;obtain⟨k',_,S⟩:=D.bf;rw[ek k',S k,add_comm k' k];exact Eqv.A u (Rd.zero M a) (Rd.zero z C) e (Rd.step M a) (Rd.step z C) (zJg M z a C) _
 have ix:∀x y,x∈F->y∈F'->Sl m ls g ls' g' x.1 y.1->F.idxOf x=F'.idxOf y:=λx y c hy t =>
  (zCn D.nd ((E.mem u G r (G x c) (r y hy) t).mp (WS c))).symm
 constructor
 ·apply ext_getElem?
  intro i;rw[jI,jI,getElem?_map,getElem?_map];by_cases K:i<F.length
  ·have o:=getElem?_eq_getElem K
   have v:=getElem?_eq_getElem (l:=F') (i:=i) (by rw[<- E.1];exact K);rw[o,v,Option.map_some,Option.map_some];congr 1;have t:=E.2 i _ _ o v;have X:=mem_of_getElem? o;have Y:=mem_of_getElem? v;have V:=zJg M z a C _ _ (G _ X) (r _ Y) t;rw[zJZ,zJZ];apply ext_getElem?;intro j;rw[getElem?_map,getElem?_map];cases I:(st (tls al ls) (tls al ls) F[i])[j]? with
   |none =>
    have:(st (tls w ls') (tls w ls') (F'[i]'(by rw[<- E.1];exact K)))[j]?=none:=by
     rw[List.getElem?_eq_none_iff]at I ⊢;rw[<- V.1];exact I
    rw[this];rfl
   |some x =>
    have R:=getElem?_eq_getElem (l:=st (tls w ls') (tls w ls') (F'[i]'(by rw[<- E.1];exact K))) (i:=j) (by rw[<- V.1];exact(qG.mp I).1);rw[R,Option.map_some,Option.map_some];congr 1;exact ix _ _ (f.cl _ X _ (mem_of_getElem? I)) (D.cl _ Y _ (mem_of_getElem? R)) (V.2 j _ _ I R)
  ·rw[getElem?_eq_none (by omega),getElem?_eq_none (by rw[<- E.1];omega)];rfl
 ·refine zF3 (n:=F.length) Q.hr Q'.hr (λx c=>by have:=Q.hg x c;rwa [wZ]at this) (λx c=>by have:=Q'.hg x c;rwa [wZ,<- E.1]at this) λx=>?_
  rw[zF2 f.nd,zF2 D.nd];constructor
  ·rintro ⟨p,o,H⟩
   have c:=(qG.mp o).1;have v:=getElem?_eq_getElem (l:=F') (i:=x) (by rw[<- E.1];exact c);refine⟨_,v,?_⟩;have L:=G _ (mem_of_getElem? o);have O:=r _ (mem_of_getElem? v);rw[show p=(p.1,p.1)from Prod.ext rfl L.1.symm,zAX]at H;rw[show F'[x]'(by rw[<- E.1];exact c)=((F'[x]'(by rw[<- E.1];exact c)).1,(F'[x]'(by rw[<- E.1];exact c)).1)from Prod.ext rfl O.1.symm,zAX];exact(E.2 x _ _ o v [] (λ_ q=>by cases q)).mp H
  ·rintro ⟨p,v,H⟩
   have c:=(qG.mp v).1;have o:=getElem?_eq_getElem (l:=F) (i:=x) (by rw[E.1];exact c);refine⟨_,o,?_⟩;have L:=G _ (mem_of_getElem? o);have O:=r _ (mem_of_getElem? v);rw[show p=(p.1,p.1)from Prod.ext rfl O.1.symm,zAX]at H;rw[show F[x]'(by rw[E.1];exact c)=((F[x]'(by rw[E.1];exact c)).1,(F[x]'(by rw[E.1];exact c)).1)from Prod.ext rfl L.1.symm,zAX];exact(E.2 x _ _ o v [] (λ_ q=>by cases q)).mpr H
def zJh{a b d:D}(h:jm [.v a,.v b,.v (.int 2)]=.ok (.v d,O3)):uw [.v a,.v b]=.ok (.v d,O2):=zp (zQ (zn (yD (F:=jm) rfl (zA rfl) (zA rfl) x_c h))) rfl
def zH3{a b d:D}(h:jm [.v a,.v b,.v (.int 1)]=.ok (.v d,O3)):Wl [.v a,.v b]=.ok (.v d,O2):=zp (zQ (zn (yD (F:=jm) rfl (zA rfl) (zA rfl) x_c h))) rfl
def T_tls(al:Ls Nat)(a:Ls (Ls Nat)):(T a).map (λd=>match d with | .t ds=>.t (ds.map (kF al))|d=>d)=T (tls al a):=by
 unfold T tls;rw[map_map,map_map];refine map_congr_left λl _=>?_
 show D.t ((N l).map (kF al))=D.t (N _)
 rw[kF_N]
def QI(M:Mac m ls g):∃e c,Lst m ls g e c/\wO [.v (mD ls g)]=.ok (.v (mD e c),O1):=by
 obtain⟨al,a,i⟩:=zH2 M;have N:=Ju M a;have o:=M.hn;obtain⟨F,f,h⟩:=zFx N N λF f=>by have:=QH M a f;omega
 refine⟨_,_,⟨al,F,a,f,rfl,rfl⟩,?_⟩;have n:dE zCQ (.cB .tuple (.cons (.comp 1 ["row"] ["alikes"] [3] (.iT (.x 1)) (.n 0) .tTr (.cB .tuple (.cons (.comp 1 ["stand"] ["alikes"] [1] (.iT (.x 0)) (.n 0) .tTr (.ix (.x 1) (.x 0))) .nil))) .nil)) [.v (mD ls g),.v (.t (T ls)),.v (tN g),.v (.l (DV.N al)),.e]=.ok (.v (.t (T (tls al ls))),[.v (mD ls g),.v (.t (T ls)),.v (tN g),.v (.l (DV.N al)),.e]):=by
  refine jZ (zB (yw (vs:=[.l (DV.N al)]) _ (i_T (zA rfl) rfl) rfl (λd hd=>?_) (by rw[QC];dsimp[cap];omega) (T_tls al ls)) zG) rfl;obtain⟨l,hl,rfl⟩:=zDN hd;have k:=M.hl l hl;have p:=M.hm;refine⟨_,jZ (b:=.tuple) (zB (yw (vs:=[.l (DV.N al)]) (kF al) (i_T (zA rfl) rfl) rfl (λd hd=>?_) (by rw[jo];dsimp[cap];omega) rfl) zG) rfl,rfl⟩;obtain⟨x,j,rfl⟩:=J6 hd;exact⟨_,JQ (zA rfl) (zA rfl) (ix_l (get_D (by rw[a.len];exact k.2 x j))),by simp[R.d,kF]⟩
 exact zp (zH (ym (zZ (F:=zN) rfl (zA rfl) (j0 (zAL M) (Js M)))) (zH (zDJ (zA rfl) rfl) (zH (yE (zZ (F:=jU) rfl (zA rfl) i) rfl) (zH (yE (jb (zB n (zB (zA rfl) zG)) rfl yu) rfl) (zQ (zn (zP (F:=uw) rfl (zA rfl) (zA rfl) (zJh (h 2))))))))) rfl
end
def Rw(m:Nat)(c a:Ls (Ls Nat))(n:Nat)(p:P)(v:D):Prop:=∃r:Ls Nat,v=tN r/\r.length<n/\Low m r/\rd c r=p.1/\rd a r=p.2
def Vr(m:Nat)(e c:Ls (Ls Nat))(a:Ls P)(vs:Ls D):Prop:=vs.length=a.length/\∀(i:Nat) (p:P),a[i]?=some p->∃r:Ls Nat,vs[i]?=some (tN r)/\r.length<a.length/\Low m r/\rd e r=p.1/\rd c r=p.2
def Vr.one{m:Nat}{c a:Ls (Ls Nat)}:Vr m c a [(0,0)] [.t []]:=⟨rfl,λi p h=>by
 cases i with
 |zero=>cases h;exact⟨[],rfl,Nat.zero_lt_one,(λ_ q=>by cases q),rfl,rfl⟩|succ i=>simp at h⟩
def Vr.up{m:Nat}{l j:Ls (Ls Nat)}{g:Ls P}{vs:Ls D}{q:P}{v:D}(h:Vr m l j g vs)(n:Rw m l j (g.length+1) q v):Vr m l j (g++[q]) (vs++[v]):=by
 refine⟨by simp[h.1],λi p e=>?_⟩;rcases Nat.lt_trichotomy i g.length with k|k|k
 ·rw[getElem?_append_left k]at e
  obtain⟨r,a,b,c⟩:=h.2 i p e;exact⟨r,by rw[getElem?_append_left (by rw[h.1];exact k)];exact a,by simp;omega,c⟩
 ·subst k
  rw[getElem?_append_right (le_refl _),sub_self]at e;cases e;obtain⟨r,rfl,b,c⟩:=n;exact⟨r,by rw[<- h.1,getElem?_append_right (le_refl _),sub_self];rfl,by simp;omega,c⟩
 ·rw[getElem?_eq_none (by simp;omega)]at e;cases e
theorem N_inj:∀{r r':Ls Nat},DV.N r=DV.N r'->r=r'
 | [],[],_=>rfl| [],_::_,h=>by cases h|_::_,[],h=>by cases h
 |a::r,b::r',h=>by
  have h:D.int (a:Int)::DV.N r=D.int (b:Int)::DV.N r':=h;injection h with h1 h2
  injection h1 with h1
  rw[N_inj h2,show a=b by omega]
theorem gV_ix:∀(acc:Ls P) (a:Ls D) {p:P},a.length=acc.length->p∈acc->JZ (acc.map kP) a (kP p)=a[acc.idxOf p]?
 | [],_,_,_,h=>by cases h|q::acc,[],_,hl,_=>by cases hl
 |q::acc,v::a,p,hl,h=>by
  dsimp[map_cons,JZ];by_cases e:q=p
  ·subst e;rw[if_pos rfl];simp
  ·rw[if_neg λk=>e (zFd k),zJJ acc e]
   have c:p∈acc:=by
    rcases mem_cons.mp h with h|h
    ·exact absurd h.symm e
    ·exact h
   rw[gV_ix acc a (by exists hl) c];rfl
section
variable{m:Nat}{ls ls':Ls (Ls Nat)}{g g':Ls Nat}
def zH4(M:Mac m ls g)(v:Mac m ls' g'){acc:Ls P}{vs:Ls D}{p q:P}{s:Nat}{a:D}{s7:DV.Slot}(x:p.1<ls.length/\p.2<ls'.length)(k:p∈acc)(l:(st ls ls' p)[s]?=some q)(O:acc.length<=200)(o:Vr m ls ls' acc vs)(L:yd s7=true) :
  ∃vs',dB zM jD [.v (mD ls g),.v (mD ls' g'),.m (acc.map kP) vs,.w (acc.map pD),.v a,.v (pD p),qI s,s7]=.ok (.nx,[.v (mD ls g),.v (mD ls' g'),.m ((add acc q).map kP) vs',.w ((add acc q).map pD),.v a,.v (pD p),qI s,.v (pD q)])/\Vr m ls ls' (add acc q) vs':=by
 have c:=QD M v x l;have J:(acc.map kP).length=vs.length:=by rw[o.1];simp
 have C:dS zM (.sSet 7 (.call 0 (.ev (.x 0) (.ev (.x 1) (.ev (.x 5) (.ev (.x 6) .nil)))))) [.v (mD ls g),.v (mD ls' g'),.m (acc.map kP) vs,.w (acc.map pD),.v a,.v (pD p),qI s,s7]=.ok (.nx,[.v (mD ls g),.v (mD ls' g'),.m (acc.map kP) vs,.w (acc.map pD),.v a,.v (pD p),qI s,.v (pD q)]) :=
  yE (Yl (F:=yV) rfl (zA rfl) (zA rfl) (zA rfl) (zA rfl) c) (by cases s7<;>first|rfl|(cases L))
 by_cases u:q∈acc
 ·have e:add acc q=acc:=if_pos u
  rw[e];obtain⟨d,w,_⟩:=G9 J (GE.mpr u);have t:=zCW (fs:=zM) (E:=[.v (mD ls g),.v (mD ls' g'),.m (acc.map kP) vs,.w (acc.map pD),.v a,.v (pD p),qI s,.v (pD q)]) (i:=2) (a:=.x 7) rfl (zA rfl) (wJ q);rw[w]at t;exact⟨vs,zH C (zQ (yl (t_E t) yn)),o⟩
 ·have e:add acc q=acc++[q]:=if_neg u
  rw[e];obtain⟨r,I,Q,n,G,H⟩:=o.2 _ _ (WS k);have w:JZ (acc.map kP) vs (kP p)=some (tN r):=(gV_ix acc vs o.1 k).trans I;have y:s<m:=by rw[<- vk M v x];exact(qG.mp l).1
  have z:JZ (acc.map kP) vs (kP q)=none:=G8 λh=>u (GE.mp h)
  have t:=zCW (fs:=zM) (E:=[.v (mD ls g),.v (mD ls' g'),.m (acc.map kP) vs,.w (acc.map pD),.v a,.v (pD p),qI s,.v (pD q)]) (i:=2) (a:=.x 7) rfl (zA rfl) (wJ q);rw[z]at t;have ev:dE zM (.bin .add (.dgO 2 (.x 5)) (.t (.cons (.x 6) .nil))) [.v (mD ls g),.v (mD ls' g'),.m (acc.map kP) vs,.w (acc.map pD),.v a,.v (pD p),qI s,.v (pD q)]=.ok (.v (.t (N r++[.int (s:Nat)])),[.v (mD ls g),.v (mD ls' g'),.m (acc.map kP) vs,.w (acc.map pD),.v a,.v (pD p),qI s,.v (pD q)]) :=
   zu (x_dgO rfl (zA rfl) (wJ p) w) (jb (ds:=[.int (s:Nat)]) (zB (zA rfl) zG) rfl yO) (zCa (a:=N r) (b:=[.int (s:Nat)]) (by simp[N];omega))
  refine⟨vs++[.t (N r++[.int (s:Nat)])],zH C (zQ (Jo (t_E t) (zH (zJB rfl ev (zA rfl) (wJ q) (by simp;omega) z rfl) (zQ (zHi rfl (zA rfl) rfl (by rw[length_map];exact zFe (by omega)) ?_))))),?_⟩
  ·simp
   exact⟨rfl,rfl⟩
  ·rw[zFv M v x y]at l
   have K:D.t (N r++[.int (s:Nat)])=tN (r++[s]):=by simp[N]
   rw[K];refine o.up ⟨r++[s],rfl,by simp;omega,λa j=>?_,?_,?_⟩
   ·rcases mem_append.mp j with j|j
    ·exact n a j
    ·rw[mem_singleton]at j;rw[j];exact y
   ·cases l
    show(r++[s]).foldl (nx ls) 0=_
    rw[foldl_append,show r.foldl (nx ls) 0=p.1 from G];rfl
   ·cases l
    show(r++[s]).foldl (nx ls') 0=_
    rw[foldl_append,show r.foldl (nx ls') 0=p.2 from H];rfl
def zF4(M:Mac m ls g)(v:Mac m ls' g'){k:Nat}{p:P}{vs:Ls D}{G w s7:DV.Slot}(z:(AA ls ls' k)[k]?=some p)(Q:Vr m ls ls' (AA ls ls' k) vs)(O:yd G=true)(L:yd w=true)(R:yd s7=true) :
  ∃c l n,dB zM jE [.v (mD ls g),.v (mD ls' g'),.m ((AA ls ls' k).map kP) vs,.w ((AA ls ls' k).map pD),qI k,G,w,s7]=.ok (.nx,[.v (mD ls g),.v (mD ls' g'),.m ((AA ls ls' (k+1)).map kP) c,.w ((AA ls ls' (k+1)).map pD),qI (k+1),.v (pD p),l,n])/\Vr m ls ls' (AA ls ls' (k+1)) c/\yd l=true/\yd n=true:=by
 have u:=mem_of_getElem? z;have K:=AA_in M v k p u;have V:=vk M v K;have e:AA ls ls' (k+1)=grow (st ls ls') (AA ls ls' k) p:=WQ z;have H:∀i,((st ls ls' p).take i).foldl add (AA ls ls' k) <+: AA ls ls' (k+1):=λi=>by
  rw[e];unfold grow
  conv=>rhs;rw[<- take_append_drop i (st ls ls' p)]
  rw[foldl_append];exact JE _ _
 obtain⟨E',f,c,l,n,rfl,h,o,r⟩:=ji (tg:=gN 6) (body:=dB zM jD) (λi E=>∃c l n,E=[.v (mD ls g),.v (mD ls' g'),.m ((((st ls ls' p).take i).foldl add (AA ls ls' k)).map kP) c,.w ((((st ls ls' p).take i).foldl add (AA ls ls' k)).map pD),qI k,.v (pD p),l,n]/\Vr m ls ls' (((st ls ls' p).take i).foldl add (AA ls ls' k)) c/\yd l=true/\yd n=true) (DV.zI 0 m) 0 [.v (mD ls g),.v (mD ls' g'),.m ((AA ls ls' k).map kP) vs,.w ((AA ls ls' k).map pD),qI k,.v (pD p),w,s7] ⟨vs,w,s7,rfl,Q,L,R⟩
  (λi d q E ⟨c,l,n,J,h,o,r⟩=>by
   rw[zero_add]at J h ⊢;obtain⟨rfl,S⟩:=Zn q;obtain⟨b,I⟩:∃b,(st ls ls' p)[i]?=some b:=⟨_,getElem?_eq_getElem (by omega)⟩;have hl:(((st ls ls' p).take i).foldl add (AA ls ls' k)).length<=144:=le_trans (H i).length_le (vn M v (k+1));obtain⟨C,f,t⟩:=zH4 M v (a:=.int (k:Nat)) (s7:=n) K ((JE _ _).subset u) I (by omega) h r;rw[<- zAM I]at f t;refine⟨_,_,?_,f,C,_,_,rfl,t,rfl,rfl⟩;subst J;cases l<;>first|rfl|(cases o))
 rw[zero_add,yF,take_of_length_le (by omega),<- grow,<- e]at f;rw[zero_add,yF,take_of_length_le (by omega),<- grow,<- e]at h;refine⟨c,l,n,?_,h,o,r⟩;refine zH (yE (zJG rfl (zA rfl) (YR (d:=pD p) (by simp[z]))) (by cases G<;>first|rfl|(cases O))) (zH (Zj (tg:=.n 6) (j:=(m:Int)) (zB (zZ (F:=zS) rfl (zA rfl) (vm M)) zG) rfl (by rcases M.hm with rfl|rfl<;>decide) f) (zQ (s_aug (x:=(k:Int)) (y:=1) rfl x_c rfl rfl)))
def e_metR(M:Mac m ls g)(l:Mac m ls' g'):∃F a,FinOk m ls ls' F/\Vr m ls ls' F a/\yq [.v (mD ls g),.v (mD ls' g')]=.ok (.m (F.map kP) a,[.e,.e]):=by
 obtain⟨K,G,e,H⟩:=QE (λk=>(AA ls ls' k).length<=k) 144 (vn M l 144);have y:=zJH M l e G;obtain⟨E',w,a,j,i,h,rfl,u⟩:=zHq (c:=dT zM (.tE (.cmp .lt (.x 4) (.lenO 3)))) (b:=dB zM jE) (λk E=>∃a j i h,E=[.v (mD ls g),.v (mD ls' g'),.m ((AA ls ls' k).map kP) a,.w ((AA ls ls' k).map pD),qI k,j,i,h]/\Vr m ls ls' (AA ls ls' k) a/\yd j=true/\yd i=true/\yd h=true)
  (λE=>∃a j i h,E=[.v (mD ls g),.v (mD ls' g'),.m ((fin ls ls').map kP) a,.w ((fin ls ls').map pD),qI K,j,i,h]/\Vr m ls ls' (fin ls ls') a) K
  (λk E D ⟨a,j,i,h,o,hv,h5,v,x⟩=>by
   subst o;have q:k<(AA ls ls' k).length:=Nat.lt_of_not_le (H k D);obtain⟨r,z,C,f,p,n,t⟩:=zF4 M l (getElem?_eq_getElem q) hv h5 v x;refine⟨_,_,t_E (zj (zA rfl) (zCb rfl) ?_),f,r,_,z,C,rfl,p,rfl,n,t⟩;show ltD (.int (k:Nat)) (.int _)=_;rw[vj,decide_eq_true (by simp;omega)])
  (λE ⟨a,j,i,h,o,hv,h5,v,x⟩=>by
   subst o;refine⟨_,t_E (zj (zA rfl) (zCb rfl) ?_),a,j,i,h,by rw[y],by rw[<- y];exact hv⟩;show ltD (.int (K:Nat)) (.int _)=_;rw[vj,decide_eq_false (by simp;omega)])
  1000000 0 [.v (mD ls g),.v (mD ls' g'),.m [kP (0,0)] [.t []],.w [pD (0,0)],.v (.int 0),.e,.e,.e] (zero_le _) (by omega) ⟨[.t []],.e,.e,.e,rfl,Vr.one,rfl,rfl,rfl⟩
 refine⟨fin ls ls',a,finOk M l,u,zp (zH (yE (zJA (jb (ds:=[.int 0,.int 0]) (zB x_c (zB x_c zG)) rfl yu) (jb (ds:=[]) zG rfl zBQ) (wJ (0,0))) rfl) (zH (yE (Zh (ds:=[pD (0,0)]) (zB (jb (ds:=[.int 0,.int 0]) (zB x_c (zB x_c zG)) rfl yu) zG) rfl yO) rfl) (zH (yE x_c rfl) (zH (Zm w) (zQ (zn (zJC rfl rfl))))))) rfl⟩
def i_D{fs:Ls FI}{E E1:zU}{a:_}{r:R}{ks:Ls (Ls KN)}{vs:Ls D}(c:dE fs a E=.ok (r,E1))(e:r.d=.m ks vs):dI fs (.iD a) E=.ok (ks.map kD,E1):=by dsimp[rI_iD,iD,c,e]
def zH5{tg:MG}{body:MS}{d:D}{ds:Ls D}{E E1 E2:zU}{r:R}(a:tg d E=.ok E1)(c:body E1=.ok (.ret r,E2)):DV.Yn tg body (d::ds) E=.ok (.ret r,E2):=by dsimp[DV.Yn,a,c]
def zJi(n:Nat):eqG (.int (n:Nat)) (.int 1)=some (.v (.bl (decide (n=1)))):=zFj n 1
theorem zAY{F:Ls P}{vs:Ls D}(l:Vr m ls ls' F vs):∀(L:Ls P) (i:DV.Slot),yd i=true->(∀p∈L,p∈F) ->
  (∃j,DV.Yn (gN 3) (dB jq wx) (L.map pD) [.v (mD ls g),.v (mD ls' g'),.v (.m (F.map kP) vs),i]=.ok (.nx,[.v (mD ls g),.v (mD ls' g'),.v (.m (F.map kP) vs),j])/\∀p∈L,gm g g' p≠1) \/
  (∃p r j,Rw m ls ls' F.length p (tN r)/\gm g g' p=1/\DV.Yn (gN 3) (dB jq wx) (L.map pD) [.v (mD ls g),.v (mD ls' g'),.v (.m (F.map kP) vs),i]=.ok (.ret (.v (tN r)),[.v (mD ls g),.v (mD ls' g'),.v (.m (F.map kP) vs),j]))
 | [],i,t,_=>.inl ⟨i,rfl,λp h=>by cases h⟩
 |p::L,i,t,w=>by
  have v:=w p qE;have o:gN 3 (pD p) [.v (mD ls g),.v (mD ls' g'),.v (.m (F.map kP) vs),i]=.ok [.v (mD ls g),.v (mD ls' g'),.v (.m (F.map kP) vs),.v (pD p)]:=by cases i<;>first|rfl|(cases t)
  by_cases c:gm g g' p=1
  ·obtain⟨r,x,a⟩:=l.2 _ _ (WS v)
   have y:JZ (F.map kP) vs (kP p)=some (tN r):=(gV_ix F vs l.1 v).trans x;refine .inr ⟨p,r,.v (pD p),⟨r,rfl,a⟩,c,?_⟩;exact zH5 o (zQ (Jo (t_E (zj (yD (F:=yr) rfl (zA rfl) (zA rfl) (zA rfl) (Ym p)) x_c ((zJi _).trans (by rw[decide_eq_true c])))) (zQ (zn (x_dg (zA rfl) rfl (zA rfl) (wJ p) y)))))
  ·have u:dB jq wx [.v (mD ls g),.v (mD ls' g'),.v (.m (F.map kP) vs),.v (pD p)]=.ok (.nx,[.v (mD ls g),.v (mD ls' g'),.v (.m (F.map kP) vs),.v (pD p)]):=zQ (yl (t_E (zj (yD (F:=yr) rfl (zA rfl) (zA rfl) (zA rfl) (Ym p)) x_c ((zJi _).trans (by rw[decide_eq_false c])))) yn)
   rcases zAY l L (.v (pD p)) rfl λq k=>w q (qD _ k)with⟨j,e,n⟩|⟨q,r,j,a,b,e⟩
   ·refine .inl ⟨j,DV.ZN o u e,λq k=>?_⟩
    rcases mem_cons.mp k with rfl|k
    ·exact c
    ·exact n q k
   ·exact .inr ⟨q,r,j,a,b,DV.ZN o u e⟩
def zAZ(M:Mac m ls g)(o:Mac m ls' g'):∃F,FinOk m ls ls' F/\(((∀p∈F,gm g g' p≠1)/\jF [.v (mD ls g),.v (mD ls' g')]=.ok (.v .non,O2))\/∃r,Low m r/\r.length<F.length/\gm g g' (rd ls r,rd ls' r)=1/\jF [.v (mD ls g),.v (mD ls' g')]=.ok (.v (tN r),O2)):=by
 obtain⟨F,q,f,hv,t⟩:=e_metR M o;refine⟨F,f,?_⟩;have i:dS jq (.sDrop (.call 2 (.ev (.x 0) (.ev (.x 1) .nil)))) [.v (mD ls g),.v (mD ls' g'),.e,.e]=.ok (.nx,[.v (mD ls g),.v (mD ls' g'),.e,.e]):=ym (zP (F:=yz) rfl (zA rfl) (zA rfl) (zFg M o rfl));have l:dS jq (.sSet 2 (.frz (.call 1 (.ev (.x 0) (.ev (.x 1) .nil))))) [.v (mD ls g),.v (mD ls' g'),.e,.e]=.ok (.nx,[.v (mD ls g),.v (mD ls' g'),.v (.m (F.map kP) q),.e]):=yE (zFX (zP (F:=yq) rfl (zA rfl) (zA rfl) t)) rfl;have j:(F.map kP).map kD=F.map pD:=zJR F;rcases zAY (g:=g) (g':=g') hv F .e rfl (λ_ h=>h)with⟨t3,e,n⟩|⟨p,r,t3,⟨r',er,a,b,c,d⟩,k,e⟩
 ·refine .inl ⟨n,zp (zH i (zH l (zH (zCV (i_D (zA rfl) rfl) (by rw[j];exact e)) (zQ (zn x_c))))) rfl⟩
 ·have:r=r':=by
   have h:DV.N r=DV.N r':=by injection er
   exact N_inj h
  subst this;refine .inr ⟨r,b,a,by rw[c,d];exact k,zp (zH i (zH l (Zk (zCV (i_D (zA rfl) rfl) (by rw[j];exact e))))) rfl⟩
end
def eq_tups{a b:Ls D}(c:∀d∈a,eqb 19 d=true)(e:∀d∈b,eqb 19 d=true):eqG (.t a) (.t b)=some (.v (.bl (deqs a b))):=by
 have h:eqb 20 (.t a)=true:=by dsimp[eqb,all_eq_true];exact c
 have g:eqb 20 (.t b)=true:=by dsimp[eqb,all_eq_true];exact e
 show eqDD false (.t a) (.t b)=_
 unfold eqDD;rw[if_pos ⟨h,g⟩];rfl
theorem zJj:∀(a b:Ls (Ls Nat)),deqs (T a) (T b)=decide (a=b)
 | [],[]=>rfl| [],_::_=>rfl|_::_,[]=>rfl
 |x::a,y::b=>by
  have e:deq (tN x) (tN y)=decide (x=y):=Jr x y;show(deq (tN x) (tN y)&&deqs (T a) (T b))=_;rw[e,zJj a b,<- Bool.decide_and];exact decide_eq_decide.mpr (by rw[List.cons.injEq])
def zJk(n:Nat)(l:Ls Nat):eqb (n+1) (tN l)=true:=by
 show(N l).all (eqb n)=true
 rw[all_eq_true];intro d hd;obtain⟨x,_,rfl⟩:=J6 hd;cases n<;>rfl
def zCs(a:Ls (Ls Nat))(g:Ls Nat):∀d∈[D.t (T a),tN g],eqb 19 d=true:=λd hd=>by
 dsimp[mem_cons,mem_nil_iff,or_false]at hd;rcases hd with rfl|rfl
 ·show(T a).all (eqb 18)=true
  rw[all_eq_true];intro d hd;obtain⟨l,_,rfl⟩:=zDN hd;exact zJk 17 l
 ·exact zJk 18 g
def zJl(c a:Ls (Ls Nat))(g g':Ls Nat):deqs [D.t (T c),tN g] [D.t (T a),tN g']=decide (c=a/\g=g'):=by
 show(deqs (T c) (T a)&&(deqs (N g) (N g')&&true))=_
 rw[zJj,show deqs (N g) (N g')=decide (g=g')from Jr g g',Bool.and_true,Bool.decide_and]
def eq_mD(c a:Ls (Ls Nat))(g g':Ls Nat):eqG (mD c g) (mD a g')=some (.v (.bl (decide (c=a/\g=g')))):=by
 rw[<- zJl];exact eq_tups (zCs c g) (zCs a g')
def ne_mD(c a:Ls (Ls Nat))(g g':Ls Nat):neG (mD c g) (mD a g')=some (.v (.bl (!decide (c=a/\g=g')))):=by
 rw[<- zJl];exact ne_tups (zCs c g) (zCs a g')
def x_andB{fs:Ls FI}{E:zU}{a b:_}{x y:Bool}(h:dE fs a E=.ok (.v (.bl x),E))(c:dE fs b E=.ok (.v (.bl y),E)):dE fs (.and a b) E=.ok (.v (.bl (x&&y)),E):=by
 cases x
 ·exact zAH h
 ·exact vg h c
def x_orB{fs:Ls FI}{E:zU}{a b:_}{x y:Bool}(h:dE fs a E=.ok (.v (.bl x),E))(c:dE fs b E=.ok (.v (.bl y),E)):dE fs (.or a b) E=.ok (.v (.bl (x||y)),E):=by
 cases x<;>dsimp[rE_or,eOr,h,c]<;>rfl
def zH6(a b:Bool):neG (.bl a) (.bl b)=some (.v (.bl (a != b))):=by cases a<;>cases b<;>rfl
def eq_bl(a b:Bool):eqG (.bl a) (.bl b)=some (.v (.bl (a==b))):=by cases a<;>cases b<;>rfl
theorem zF5{α:Type}(a b c d:α->Bool):∀L:Ls α,(∀x∈L,a x=(c x&&d x)/\b x=(c x||d x))->(L.filter a).length+(L.filter b).length=(L.filter c).length+(L.filter d).length
 | [],_=>rfl
 |x::L,h=>by
  have i:=zF5 a b c d L λy g=>h y (qD _ g)
  obtain⟨e,h2⟩:=h x qE;dsimp[filter_cons,e,h2];cases c x<;>cases d x<;>simp<;>omega
section
variable{m:Nat}{ls ls':Ls (Ls Nat)}{g g':Ls Nat}{F:Ls P}
abbrev tk(a:Ls (Ls Nat))(g r:Ls Nat):Bool:=decide (rd a r∈g)
def zF6(h:FinOk m ls ls' F)(M:Mac m ls g)(e:Mac m ls' g'){r:Ls Nat}(c:Low m r):tk (jI F ls ls') (j1 F g g' 2) r=(tk ls g r&&tk ls' g' r):=by
 unfold tk;rw[Bool.eq_iff_iff,decide_eq_true_eq,rd_J h M e c,zFw];by_cases a:rd ls r∈g<;>by_cases b:rd ls' r∈g'<;>simp[a,b]
def zAa(h:FinOk m ls ls' F)(M:Mac m ls g)(e:Mac m ls' g'){r:Ls Nat}(c:Low m r):tk (jI F ls ls') (j1 F g g' 1) r=(tk ls g r||tk ls' g' r):=by
 unfold tk;rw[Bool.eq_iff_iff,decide_eq_true_eq,rd_J h M e c,zFw];by_cases a:rd ls r∈g<;>by_cases b:rd ls' r∈g'<;>simp[a,b]
def zF7(M:Mac m ls g):Mac m ls (oth ls.length g) where
 hm:=M.hm
 hn:=M.hn
 hl:=M.hl
 hr:=List.Pairwise.sublist List.filter_sublist List.pairwise_lt_range
 hg:=λx a=>mem_range.mp (mem_filter.mp a).1
def tk_oth(M:Mac m ls g){r:Ls Nat}(a:Low m r):tk ls (oth ls.length g) r=!tk ls g r:=by
 unfold tk oth;have:=wl_lt M M.hn.1 a;rw[<- decide_not];exact decide_eq_decide.mpr (by rw[mem_filter,mem_range];simp;exact λ_=>this)
def zH7{F:Ls P}(f:FinOk m ls ls' F)(M:Mac m ls g)(e:Mac m ls' g')(h:∀p∈F,gm g g' p≠1):Sl m ls g ls' g' 0 0:=λr c=>by
 have:=h _ (F_to f M e (F_00 f) c);rw[zFw]at this;by_cases a:wl ls 0 r∈g<;>by_cases b:wl ls' 0 r∈g'<;>simp[a,b]at this ⊢
def zF8{p:P}(h:gm g g' p=1):decide (p.1∈g)=!decide (p.2∈g'):=by
 rw[zFw]at h;by_cases a:p.1∈g<;>by_cases b:p.2∈g'<;>simp[a,b]at h ⊢
end
section
variable{m:Nat}{ls ls':Ls (Ls Nat)}{g g':Ls Nat}{F:Ls P}
def e_mg(M:Mac m ls g):yJ [.v (mD ls g)]=.ok (.v (.bl true),[.e]):=by
 rw[<- Js M];exact YS _ (zAL M)
def two_end(M:Mac m ls g)(a:Mac m ls' g')(R:ls.length*ls'.length<=12)(E x w D:DV.Slot):∃v G,jF [.v (mD ls g),.v (mD ls' g')]=.ok (.v v,O2)/\dB wY (.s (.sIf (.tE (.cmp .is (.x 6) (.c .non))) (.o (.sRet (.cmp .eq (.call 0 (.ev (.x 0) .nil)) (.call 0 (.ev (.x 1) .nil))))) .bNil)
  (.o (.sRet (.and (.cmp .ne (.call 1 (.ev (.x 0) (.ev (.x 6) .nil))) (.call 1 (.ev (.x 1) (.ev (.x 6) .nil)))) (.cmp .ne (.call 0 (.ev (.x 0) .nil)) (.call 0 (.ev (.x 1) .nil))))))) [.v (mD ls g),.v (mD ls' g'),E,x,w,D,.v v]=.ok (.ret (.v (.bl true)),[.v (mD ls g),.v (mD ls' g'),E,x,w,D,G]):=by
 obtain⟨t,l,h,e⟩:=QI M;obtain⟨j,i,C,y⟩:=QI a;obtain⟨F,f,L⟩:=zAZ M a;have V:=F_len f M a;rcases L with⟨n,p⟩|⟨r,o,S,k,p⟩
 ·refine⟨_,.v .non,p,?_⟩
  obtain⟨u,q⟩:=h.same M a C (zH7 f M a n);have K:eqG (mD t l) (mD j i)=some (.v (.bl true)):=by rw[eq_mD,decide_eq_true ⟨u,q⟩]
  exact Zk (Jo (t_E (zj (zA rfl) x_c rfl)) (zQ (zn (zj (zZ (F:=wO) rfl (zA rfl) e) (zZ (F:=wO) rfl (zA rfl) y) K))))
 ·refine⟨_,.v (tN r),p,?_⟩
  have Q:=JF M (r:=r) o (by omega);have O:=JF a (r:=r) o (by omega);have I:neG (.bl (decide (rd ls r∈g))) (.bl (decide (rd ls' r∈g')))=some (.v (.bl true)):=by
   rw[zH6,show decide (rd ls r∈g)=!decide (rd ls' r∈g')from zF8 k];cases decide (rd ls' r∈g')<;>rfl
  have H:¬(t=j/\l=i):=λ⟨u,q⟩=>by
   subst u q;have:=((h.lang M).trans (C.lang a).symm) r o;have z:=zF8 k;rw[show decide (rd ls r∈g)=decide (rd ls' r∈g')from decide_eq_decide.mpr this]at z;cases c:decide (rd ls' r∈g')<;>rw[c]at z<;>cases z
  have J:neG (mD t l) (mD j i)=some (.v (.bl true)):=by
   rw[ne_mD,decide_eq_false H]<;>rfl
  exact zH (yl (t_E (zj (zA rfl) x_c rfl)) yn) (zQ (zn (vg (zj (zP (F:=yi) rfl (zA rfl) (zA rfl) Q) (zP (F:=yi) rfl (zA rfl) (zA rfl) O) I) (zj (zZ (F:=wO) rfl (zA rfl) e) (zZ (F:=wO) rfl (zA rfl) y) J))))
def e_two(M:Mac m ls g)(a:Mac m ls' g')(h:ls.length*ls'.length<=12){r:Ls Nat}(e:Low m r)(c:r.length<=30){n:Nat}(hn:n<=40):yX [.v (mD ls g),.v (mD ls' g'),.v (tN r),qI n]=.ok (.v (.bl true),O4):=by
 obtain⟨F,f,j⟩:=zFx M a λF f=>le_trans (F_len f M a) h
 have l:F.length<=12:=le_trans (F_len f M a) h;have B:=Mac_J f M a l 2;have E:=Mac_J f M a l 1;have O:=zF7 M;obtain⟨v,p,w,y⟩:=two_end M a h (.v (tN r)) (.v (.int (n:Nat))) (.v (mD (jI F ls ls') (j1 F g g' 2))) (.v (mD (jI F ls ls') (j1 F g g' 1)));have i:=JF M e c;have o:=JF a e c;have t:=JF B e c;have C:=JF E e c;have H:=JF O e c;have D:neG (.bl (tk (jI F ls ls') (j1 F g g' 2) r)) (.bl (tk ls g r&&tk ls' g' r))=some (.v (.bl false)):=by
  rw[zF6 f M a e,zH6,bne_self_eq_false]
 have q:neG (.bl (tk (jI F ls ls') (j1 F g g' 1) r)) (.bl (tk ls g r||tk ls' g' r))=some (.v (.bl false)):=by
  rw[zAa f M a e,zH6,bne_self_eq_false]
 have z:eqG (.bl (tk ls (oth ls.length g) r)) (.bl (tk ls g r))=some (.v (.bl false)):=by
  rw[tk_oth M e,eq_bl];cases tk ls g r<;>rfl
 have u:=zF5 (λr=>decide (rd (jI F ls ls') r∈j1 F g g' 2)) (λr=>decide (rd (jI F ls ls') r∈j1 F g g' 1)) (λr=>decide (rd ls r∈g)) (λr=>decide (rd ls' r∈g')) (Jp m n) λx k=>⟨zF6 f M a (Zo m n x k),zAa f M a (Zo m n x k)⟩
 have G:neG (.int (((((Jp m n).filter λr=>decide (rd (jI F ls ls') r∈j1 F g g' 2)).length+((Jp m n).filter λr=>decide (rd (jI F ls ls') r∈j1 F g g' 1)).length:Nat):Int))) (.int ((((Jp m n).filter λr=>decide (rd ls r∈g)).length+((Jp m n).filter λr=>decide (rd ls' r∈g')).length:Nat):Int))=some (.v (.bl false)):=by
  rw[u,zCc,decide_eq_true rfl];rfl
 refine zp (E1:=[.v (mD ls g),.v (mD ls' g'),.v (tN r),qI n,.v (mD (jI F ls ls') (j1 F g g' 2)),.v (mD (jI F ls ls') (j1 F g g' 1)),p]) (zH (zBP (zB (zP (F:=uw) rfl (zA rfl) (zA rfl) (zJh (j 2))) (zB (zP (F:=Wl) rfl (zA rfl) (zA rfl) (zH3 (j 1))) zG)) rfl) ?_) rfl;refine zH (yl (zDI (t_E (zj (zP (F:=yi) rfl (zA rfl) (zA rfl) t) (x_andB (zP (F:=yi) rfl (zA rfl) (zA rfl) i) (zP (F:=yi) rfl (zA rfl) (zA rfl) o)) D)) (jn (t_E (zZ (F:=yJ) rfl (zA rfl) (e_mg B))) rfl)) yn) ?_;refine zH (yl (zDI (t_E (zj (zP (F:=yi) rfl (zA rfl) (zA rfl) C) (x_orB (zP (F:=yi) rfl (zA rfl) (zA rfl) i) (zP (F:=yi) rfl (zA rfl) (zA rfl) o)) q)) (t_E (zj (zP (F:=yi) rfl (zZ (F:=jp) rfl (zA rfl) (GI M)) (zA rfl) H) (zP (F:=yi) rfl (zA rfl) (zA rfl) i) z))) yn) ?_;refine zH (yl (t_E (zj (zu (zP (F:=zw) rfl (zA rfl) (zA rfl) (GH B hn)) (zP (F:=zw) rfl (zA rfl) (zA rfl) (GH E hn)) (vo _ _)) (zu (zP (F:=zw) rfl (zA rfl) (zA rfl) (GH M hn)) (zP (F:=zw) rfl (zA rfl) (zA rfl) (GH a hn)) (vo _ _)) G)) yn) ?_;exact zH (yE (zP (F:=jF) rfl (zA rfl) (zA rfl) w) rfl) y
def e_lr(M:Mac m ls g)(S:ls.length<=4){r:Ls Nat}(p:Low m r)(j:r.length<=30){n:Nat}(hn:n<=40):yZ [.v (mD ls g),.v (tN r),qI n]=.ok (.v (.bl true),O3):=by
 obtain⟨a,i,h,e⟩:=QI M;have L:=h.mac M;obtain⟨Q,E,y,w⟩:=QI L;have l:=h.lang M;obtain⟨O,G⟩:=h.same M L y l;subst O G;have K:=h.len M;obtain⟨F,f,J⟩:=zAZ M L;have o:jF [.v (mD ls g),.v (mD a i)]=.ok (.v .non,O2):=by
  rcases J with⟨_,o⟩|⟨r,v,_,k,_⟩
  ·exact o
  ·have z:=zF8 k
   rw[show decide (rd ls r∈g)=decide (rd a r∈i)from decide_eq_decide.mpr (l r v)]at z;cases c:decide (rd a r∈i)<;>rw[c]at z<;>cases z
 have H:=JF M p j;have R:=JF L p j;have C:neG (.bl (decide (rd a r∈i))) (.bl (decide (rd ls r∈g)))=some (.v (.bl false)):=by
  rw[zH6,show decide (rd ls r∈g)=decide (rd a r∈i)from decide_eq_decide.mpr (l r p),bne_self_eq_false]
 have q:((Jp m n).filter λr=>decide (rd a r∈i))=(Jp m n).filter λr=>decide (rd ls r∈g):=List.filter_congr λx D=>decide_eq_decide.mpr (l x (Zo m n x D)).symm
 have t:neG (.int ((((Jp m n).filter λr=>decide (rd a r∈i)).length:Nat):Int)) (.int ((((Jp m n).filter λr=>decide (rd ls r∈g)).length:Nat):Int))=some (.v (.bl false)):=by
  rw[q,zCc,decide_eq_true rfl];rfl
 have u:eqG (mD a i) (mD a i)=some (.v (.bl true)):=by rw[eq_mD,decide_eq_true ⟨rfl,rfl⟩]
 have I:leD (.int (a.length:Nat)) (.int (ls.length:Nat))=some (.v (.bl true)):=by rw[le_nat,decide_eq_true K]
 refine zp (E1:=[.v (mD ls g),.v (tN r),qI n,.v (mD a i)]) (zH (yE (zZ (F:=wO) rfl (zA rfl) e) rfl) ?_) rfl;refine zH (yl (zDI (t_E (zj (zP (F:=yi) rfl (zA rfl) (zA rfl) R) (zP (F:=yi) rfl (zA rfl) (zA rfl) H) C)) (t_E (zj (zP (F:=zw) rfl (zA rfl) (zA rfl) (GH L hn)) (zP (F:=zw) rfl (zA rfl) (zA rfl) (GH M hn)) t))) yn) ?_;exact zQ (zn (vg (zj (zZ (F:=wO) rfl (zA rfl) w) (zA rfl) u) (vg (zj (jZ (zB (JQ (zA rfl) x_c (ix0 _ _)) zG) (zDR a)) (jZ (zB (JQ (zA rfl) x_c (ix0 _ _)) zG) (zDR ls)) I) (zj (zP (F:=jF) rfl (zA rfl) (zA rfl) o) x_c rfl))))
end
end My
namespace My
open PySem L2 DV SM
def zDT(d:D)(h:okD d)(a:zGC d=true):J0 [.v d]=.ok (.v .non,[.e]):=by
 have e:=GF d h;rw[a]at e;exact f_nx (zQ (yl (jn (t_E (zZ rfl (zA rfl) e)) rfl) yn)) rfl
def v3(d:D)(m:Int)(h:isFn d=false)(a:vi 0 (m-1) d=true):jP [.v d,.v (.int m)]=.ok (.v .non,[.e,.e]) :=
 f_nx (zQ (ym (yD rfl (zA rfl) x_c (zu (zA rfl) x_c rfl) (yW d 0 (m-1) h a)))) rfl
end My
namespace SM
def U_step(w o k n:Nat):U w o k (n+1)+w*fE w o k n k=(w+o)*U w o k n:=by
 have e:(wQ w o k n).dropLast=(List.range k).map (fE w o k n):=by
  rw[G5,range_succ,map_append,List.map_singleton,List.dropLast_concat]
 have c:U w o k n=((List.range k).map (fE w o k n)).sum+fE w o k n k:=by
  unfold U;rw[G5,rsum]
 have a:U w o k (n+1)=o*U w o k n+w*((List.range k).map (fE w o k n)).sum:=by
  show(wQ w o k (n+1)).sum=_
  dsimp[wQ,sum_cons,zBR];rw[e];rfl
 rw[a,c]
 grind
end SM
namespace My
open PySem L2 DV SM
namespace DS
variable{die:Ls Nat}{s:Nat}
end DS
def zH8{die:Ls Nat}{s:Nat}(h:DS die s):y9 [.v (zAQ die),.v (.int s)]=.ok (.v (.int ((die.sum-die.getD s 0:Nat):Int)),O2) :=
 zp (zQ (zn (zu (jZ (zB (zA rfl) zG) (sum_T die)) (JQ (zA rfl) (zA rfl) (zJV h.get)) (zJT h.le)))) rfl
def zAb(d:D)(h:isFn d=false)(a:vi 2 3 d=true):wD [.v d]=.ok (.v .non,O1) :=
 f_nx (zQ (ym (yD rfl (zA rfl) vd vd (yW d 2 3 h a)))) rfl
def zBd(m sg s:Nat):Ls Nat:=(List.range m).map λt=>if t=sg then s+1 else 0
def stL(m sg k:Nat):Ls (Ls Nat):=(List.range k).map (zBd m sg)++[replicate m k]
structure Ok(m sg k:Nat):Prop where
 hm:2<=m/\m<=3
 hs:sg<m
 hk:1<=k/\k<=11
def zH9(m sg s:Nat):(zBd m sg s).length=m:=by simp[zBd]
def v4(m sg k:Nat):(stL m sg k).length=k+1:=by simp[stL]
def row_T{m sg s:Nat}:(N (List.range m)).map (λd=>match d with | .int t=>.int (if t=(sg:Int)then(s:Int)+1 else 0)|d=>d)=N (zBd m sg s):=by
 dsimp[N,zBd,map_map];apply map_congr_left;intro t _;dsimp[Function.comp];by_cases c:t=sg
 ·have:(t:Int)=sg:=by omega
  simp[c]
 ·have:¬(t:Int)=sg:=by omega
  simp[c,this]
def e_rows{fs:Ls FI}{E:zU}{r i l u:Ls Str}{k m sg:Nat}{h g:Nat}{e:Ex}(w:k<=1000)(x:m<=1000)(p:dE fs e E=.ok (.v (.int (k:Nat)),E))(n:E[h]?=some (.v (.int (m:Nat))))(q:E[g]?=some (.v (.int (sg:Nat)))) :
  dE fs (.comp 1 r i [h,g] (.iR1 (.cons e .nil)) (.n 0) .tTr (.cB .tuple (.cons (.comp 1 l u [2,0] (.iR1 (.cons (.x 1) .nil)) (.n 0) .tTr (.ifx (.tE (.cmp .eq (.x 0) (.x 1))) (.bin .add (.x 2) (.c (.int 1))) (.c (.int 0)))) .nil))) E=.ok (.w (T ((List.range k).map (zBd m sg))),E):=by
 have v:dI fs (.iR1 (.cons e .nil)) E=.ok (N (List.range k),E):=by
  have:=zHh (fs:=fs) (a:=.cons e .nil) (j:=(k:Int)) (zB p zG) rfl ⟨by omega,by omega⟩;rw[Int.toNat_natCast,GC]at this;exact this
 refine yw (vs:=[.int (m:Nat),.int (sg:Nat)]) (λd=>match d with | .int s=>tN (zBd m sg s.toNat)|d=>d) v (by simp[JP,n,q]) (λd hd=>?_) (by rw[jo];simp[cap];omega) ?_
 ·obtain⟨s,_,rfl⟩:=J6 hd
  have o:dI fs (.iR1 (.cons (.x 1) .nil)) [qI s,qI m,qI sg]=.ok (N (List.range m),[qI s,qI m,qI sg]):=by
   have:=zHh (fs:=fs) (E:=[qI s,qI m,qI sg]) (a:=.cons (.x 1) .nil) (j:=(m:Int)) (zB (zA rfl) zG) rfl ⟨by omega,by omega⟩;rw[Int.toNat_natCast,GC]at this;exact this
  refine⟨.v (tN (zBd m sg s)),jZ (zB (yw (vs:=[.int (sg:Nat),.int (s:Nat)]) (λd=>match d with | .int t=>.int (if t=(sg:Int)then(s:Int)+1 else 0)|d=>d) o rfl (λd hd=>?_) (by rw[jo];simp[cap];omega) row_T) zG) rfl,rfl⟩
  obtain⟨t,_,rfl⟩:=J6 hd;by_cases c:(t:Int)=sg
  ·refine⟨.v (.int ((s:Int)+1)),zI8 (t_E (zj (zA rfl) (zA rfl) (by show eqG (.int (t:Int)) (.int (sg:Int))=_;rw[eq_int,decide_eq_true c]))) (zu (zA rfl) x_c rfl),?_⟩
   simp[R.d,c]
  ·refine⟨.v (.int 0),zI9 (t_E (zj (zA rfl) (zA rfl) (by show eqG (.int (t:Int)) (.int (sg:Int))=_;rw[eq_int,decide_eq_false c]))) x_c,?_⟩
   simp[R.d,c]
 ·dsimp[N,T,map_map]
  apply map_congr_left;intro t _;simp
def T_app(a b:Ls (Ls Nat)):T (a++b)=T a++T b:=by simp[T]
def zIA(m k:Nat):T [replicate m k]=[.t (replicate m (.int (k:Nat)))]:=by simp[T,N_rep]
def st_T(m sg k:Nat):T (stL m sg k)=T ((List.range k).map (zBd m sg))++[.t (replicate m (.int (k:Nat)))]:=by
 rw[stL,T_app,zIA]
def zF9{n lo hi:Nat}(a:lo<=n)(h:n<=hi):vi (lo:Int) (hi:Int) (.int n)=true:=by
 simp[vi];omega
def zIB(m sg k:Nat)(a:k<=1000):Wa (.l (T ((List.range k).map (zBd m sg)))) (.l [.t (replicate m (.int (k:Nat)))])=some (.w (T (stL m sg k))):=by
 rw[vh _ _ (by simp[QC];omega),st_T]
def QJ{m sg k:Nat}(h:Ok m sg k):jl [qI m,qI sg,qI k]=.ok (.v (mD (stL m sg k) [k]),O3):=by
 have c:=h.hm;have a:=h.hk;refine zp (E1:=[qI m,qI sg,qI k,.v (.l (T ((List.range k).map (zBd m sg))))]) ?_ rfl;refine zH (ym (zZ (F:=wD) rfl (zA rfl) (zAb _ rfl (zF9 (lo:=2) (hi:=3) c.1 c.2)))) ?_;refine zH (ym (zP (F:=jP) rfl (zA rfl) (zA rfl) (v3 _ _ rfl (zFo h.hs)))) ?_;refine zH (ym (yD (F:=zV) rfl (zA rfl) x_c vd (yW _ 1 11 rfl (zF9 (lo:=1) (hi:=11) a.1 a.2)))) ?_;refine zH (yE (e_rows (by omega) (by omega) (zA rfl) rfl rfl) rfl) ?_;have e:=G7 (.int (k:Nat)) m (by omega);refine zQ (zn (jb (zB (jZ (zB (zu (ZM rfl rfl) (Zh (zB (zu (r1:=.v (.t [.int (k:Nat)])) (r2:=.v (.int (m:Nat))) (r:=.v (.t (replicate m (.int (k:Nat))))) (jb (zB (zA rfl) zG) rfl yO) (zA rfl) e) zG) rfl yO) (zIB m sg k (by omega))) zG) rfl) (zB (jb (zB (zA rfl) zG) rfl yO) zG)) rfl yu))
abbrev stepB:Bx:=YH
def step_w{w o n k:Nat}(c:w<=1000)(p:o<=1000)(l:k<=80)(i:Nat)(E:zU)(a:InW w o n k i E):∃E1 E2,gN 5 (.int (i:Int)) E=.ok E1/\dB wv stepB E1=.ok (.nx,E2)/\InW w o n k (i+1) E2:=by
 obtain⟨g,j,a,h4,h5⟩:=a;have e:=vq o (wQ w o k i).sum (by omega);have len:=Wm w o k i;refine⟨[.v (.int w),.v (.int o),.v (.int n),.v (.int k),g,.v (.int (i:Int))],[.v (.int w),.v (.int o),.v (.int n),.v (.int k),.w (N (wQ w o k (i+1))),.v (.int (i:Int))],?_,?_,_,_,rfl,.inl rfl,rfl⟩
 ·subst a;cases j<;>first|rfl|(cases h5)
 ·have h:=vh [.int ((o*(wQ w o k i).sum:Nat):Int)] (N ((wQ w o k i).dropLast.map (w*·))) (by simp[jo,len];omega)
  exact zQ (yE (zu (Zh (zB (zu (zA rfl) (jZ (zB (x_vA h4 rfl rfl) zG) (sum_N _)) e) zG) rfl yO) (e_times c (by omega) (.inr rfl) rfl rfl rfl) h) (jz rfl rfl rfl))
def zAc{w o n k:Nat}(g:w<=1000)(j:o<=1000)(c:k<=80)(hn:n<=80):wE [.v (.int w),.v (.int o),.v (.int n),.v (.int k)]=.ok (.v (.int (U w o k n:Nat)),O4):=by
 have z:replicate k (D.int 0)=N (replicate k 0):=by simp[N]
 have e:=Wn (.int 0) k (by omega);have l:=vh [.int 1] (replicate k (.int 0)) (by simp;omega);obtain⟨E1,r,t,u,h,h4,h5⟩:=ji (tg:=gN 5) (body:=dB wv stepB) (λi E=>InW w o n k i E) (DV.zI 0 n) 0 [.v (.int w),.v (.int o),.v (.int n),.v (.int k),.w ([.int 1]++replicate k (.int 0)),.e] ⟨_,_,rfl,.inl (by rw[z];rfl),rfl⟩ (λi d q E a=>by
  obtain⟨v,rfl⟩:=Wk _ _ _ _ q;rw[zero_add]at a ⊢;rw[Int.zero_add];exact step_w g j c i E a)
 rw[yF,zero_add]at h4;subst h;have p:((n:Nat):Int).toNat=n:=by omega
 exact zp (zH (yE (zu (Zh (zB x_c zG) rfl yO) (zu (Zh (zB x_c zG) rfl yO) (zA rfl) e) l) rfl) (zH (Zj (zB (zA rfl) zG) rfl ⟨by omega,by omega⟩ (by rw[p];exact r)) (zQ (zn (jZ (zB (x_vA h4 rfl rfl) zG) (sum_N _)))))) rfl
def zIC{die:Ls Nat}{s:Nat}(h:DS die s){n:Nat}(hn:n<=40):jk [.v (zAQ die),.v (.int s),.v (.int n)]=.ok (.v .non,O3) :=
 f_nx (zH (ym (zZ (F:=J0) rfl (zA rfl) (zDT _ (zJU h.ok) (die_B h.ok)))) (zH (ym (zP (F:=jP) rfl (zA rfl) (jZ (zB (zA rfl) zG) (zFn die)) (v3 _ _ rfl (zFo h.lt)))) (zQ (ym (yD (F:=zV) rfl (zA rfl) x_c vd (yW _ 0 40 rfl (zCg hn))))))) rfl
def e_upto{die:Ls Nat}{s:Nat}(h:DS die s){n k:Nat}(hn:n<=40)(a:k<=40):jY [.v (zAQ die),.v (.int s),.v (.int n),.v (.int k)]=.ok (.v (nrm (U (dw die s) (dr die s) k n:Nat) (die.sum^n)),O4):=by
 have c:dw die s+dr die s<=27:=h.wo;exact zp (zH (ym (yD (F:=jk) rfl (zA rfl) (zA rfl) (zA rfl) (zIC h hn))) (zH (ym (yD (F:=zV) rfl (zA rfl) x_c vd (yW _ 0 40 rfl (zCg a)))) (zQ (zn (yD (F:=yY) rfl (zA rfl) (zA rfl) (Yl (F:=wE) rfl (JQ (zA rfl) (zA rfl) (zJV h.get)) (zP (F:=y9) rfl (zA rfl) (zA rfl) (zH8 h)) (zA rfl) (zA rfl) (zAc (w:=dw die s) (o:=dr die s) (by omega) (by omega) (by omega) (by omega))) (zCh h (by omega) _)))))) rfl
def zBe(g:Ls Nat)(j x i:Nat):(inc g j x)[i]?=if i=j then(g[i]?).map (·+x)else g[i]?:=by
 unfold inc;rw[List.getElem?_set];by_cases c:j=i
 ·subst c
  dsimp[if_true];by_cases l:j<g.length
  ·simp[l,getElem?_eq_getElem l]
  ·rw[if_neg l,getElem?_eq_none (by omega)];rfl
 ·rw[if_neg c,if_neg (λh=>c h.symm)]
def QK(g:Ls Nat)(i j x y:Nat):inc (inc g i x) j y=inc (inc g j y) i x:=by
 apply ext_getElem?;intro t;dsimp[zBe];by_cases c:t=i
 ·by_cases a:t=j
  ·rw[if_pos c,if_pos a,if_pos c,if_pos a]
   cases g[t]?<;>simp;omega
  ·rw[if_neg a,if_pos c,if_pos c,if_neg a]
 ·by_cases a:t=j
  ·rw[if_pos a,if_neg c,if_neg c,if_pos a]
  ·rw[if_neg a,if_neg c,if_neg c,if_neg a]
def QL(g:Ls Nat)(i x y:Nat):inc (inc g i x) i y=inc g i (x+y):=by
 apply ext_getElem?;intro t;dsimp[zBe];by_cases a:t=i
 ·dsimp[a,if_true]
  cases g[i]?<;>simp;omega
 ·dsimp[a,if_false]
def zID(g:Ls Nat)(i:Nat):inc g i 0=g:=by
 apply ext_getElem?;intro t;dsimp[zBe];by_cases a:t=i
 ·dsimp[a,if_true];cases g[i]?<;>rfl
 ·dsimp[a,if_false]
def row_inc{die:Ls Nat}{sg:Nat}(h:DS die sg)(e s:Nat)(g:Ls Nat):zAS e g (die.zip (zBd die.length sg s))=inc (inc g 0 (dr die sg*e)) (s+1) (dw die sg*e):=by
 have hd:=h.ok.1;have i:=h.lt
 match die,hd,i with
 | [a,b],_,i =>
  have:sg=0\/sg=1:=by simp at i;omega
  rcases this with rfl|rfl
  ·have j:a+b-a=b:=by omega
   show inc (inc g (s+1) (a*e)) 0 (b*e)=inc (inc g 0 ((a+(b+0)-a)*e)) (s+1) (a*e)
   rw[show a+(b+0)-a=b by omega,QK]
  ·show inc (inc g 0 (a*e)) (s+1) (b*e)=inc (inc g 0 ((a+(b+0)-b)*e)) (s+1) (b*e)
   rw[show a+(b+0)-b=a by omega]
 | [a,b,c],_,i =>
  have:sg=0\/sg=1\/sg=2:=by simp at i;omega
  rcases this with rfl|rfl|rfl
  ·show inc (inc (inc g (s+1) (a*e)) 0 (b*e)) 0 (c*e)=inc (inc g 0 ((a+(b+(c+0))-a)*e)) (s+1) (a*e)
   rw[QL,show a+(b+(c+0))-a=b+c by omega,QK,add_mul]
  ·show inc (inc (inc g 0 (a*e)) (s+1) (b*e)) 0 (c*e)=inc (inc g 0 ((a+(b+(c+0))-b)*e)) (s+1) (b*e)
   rw[QK,QL,show a+(b+(c+0))-b=c+a by omega,add_mul,add_comm (c*e)]
  ·show inc (inc (inc g 0 (a*e)) 0 (b*e)) (s+1) (c*e)=inc (inc g 0 ((a+(b+(c+0))-c)*e)) (s+1) (c*e)
   rw[QL,show a+(b+(c+0))-c=a+b by omega,add_mul]
theorem zCt(e k:Nat):∀(c g:Ls Nat),zAS e g (c.zip (replicate c.length k))=inc g k (c.sum*e)
 | [],g=>by simp[zAS,zID]
 |a::c,g=>by
  show zAS e (inc g k (a*e)) (c.zip (replicate c.length k))=_
  rw[zCt e k c,QL,sum_cons,add_mul]
def zJm(a suf:Ls Nat)(y x:Nat):inc (a++y::suf) a.length x=a++(y+x)::suf:=by
 simp[inc]
theorem zAd{die:Ls Nat}{sg:Nat}(h:DS die sg):∀(i c:Ls Nat) (a:Nat),
  ((((range' c.length i.length).map (zBd die.length sg)).zip i).foldl (λg p=>zAS p.2 g (die.zip p.1)) (a::(c++replicate i.length 0)))=(a+dr die sg*i.sum)::(c++i.map (dw die sg*·))
 | [],c,a=>by simp
 |e::i,c,a=>by
  rw[length_cons,List.range'_succ,map_cons,zip_cons_cons,foldl_cons];have k:=zAd h i (c++[dw die sg*e]) (a+dr die sg*e);rw[length_append,length_singleton]at k;rw[row_inc h];have l:inc (inc (a::(c++replicate (i.length+1) 0)) 0 (dr die sg*e)) (c.length+1) (dw die sg*e)=(a+dr die sg*e)::(c++[dw die sg*e]++replicate i.length 0):=by
   have n:inc (a::(c++replicate (i.length+1) 0)) 0 (dr die sg*e)=(a+dr die sg*e)::(c++0::replicate i.length 0):=rfl;have j:=zJm ((a+dr die sg*e)::c) (replicate i.length 0) 0 (dw die sg*e);rw[n,show c.length+1=((a+dr die sg*e)::c).length from rfl];rw[cons_append]at j;rw[j,zero_add];simp
  rw[l,k,sum_cons,mul_add,map_cons];simp;omega
def U_in{die:Ls Nat}{s k:Nat}(h:DS die s)(t:Nat):Ud die s k t<=die.sum^t:=by
 have:=U_le (dw die s) (dr die s) (k-1) t
 rwa [h.wo']at this
def zIE{die:Ls Nat}{sg k:Nat}(h:DS die sg)(v:1<=k)(n:Nat):zBa (stL die.length sg k) die (wQ (dw die sg) (dr die sg) (k-1) n++[die.sum^n-U (dw die sg) (dr die sg) (k-1) n])=wQ (dw die sg) (dr die sg) (k-1) (n+1)++[die.sum^(n+1)-U (dw die sg) (dr die sg) (k-1) (n+1)]:=by
 have a:(wQ (dw die sg) (dr die sg) (k-1) n).length=k:=by rw[Wm];omega
 have q:=U_step (dw die sg) (dr die sg) (k-1) n;rw[h.wo']at q;have r:=G5 (dw die sg) (dr die sg) (k-1) n;have u:=U_in (k:=k) h n;have un:wQ (dw die sg) (dr die sg) (k-1) (n+1)=(dr die sg*(wQ (dw die sg) (dr die sg) (k-1) n).sum)::(wQ (dw die sg) (dr die sg) (k-1) n).dropLast.map (dw die sg*·):=rfl;have j:(List.range k)=range' 0 (wQ (dw die sg) (dr die sg) (k-1) n).length:=by rw[a,List.range_eq_range']
 unfold zBa;rw[v4];have t:(stL die.length sg k).zip (wQ (dw die sg) (dr die sg) (k-1) n++[die.sum^n-U (dw die sg) (dr die sg) (k-1) n])=(((List.range k).map (zBd die.length sg)).zip (wQ (dw die sg) (dr die sg) (k-1) n))++[(replicate die.length k,die.sum^n-U (dw die sg) (dr die sg) (k-1) n)]:=by
  rw[stL,zip_append (by rw[length_map,List.length_range,a])];rfl
 rw[t,foldl_append,foldl_cons,foldl_nil,zCt];have g:replicate (k+1) 0=0::([]++replicate (wQ (dw die sg) (dr die sg) (k-1) n).length 0):=by rw[a];rfl
 have e:=zAd h (wQ (dw die sg) (dr die sg) (k-1) n) [] 0;rw[g,j];rw[show([]:Ls Nat).length=0 from rfl]at e;rw[e,nil_append,zero_add];have p:wQ (dw die sg) (dr die sg) (k-1) n=(wQ (dw die sg) (dr die sg) (k-1) n).dropLast++[fE (dw die sg) (dr die sg) (k-1) n (k-1)]:=by
  rw[r,range_succ,map_append,List.map_singleton,List.dropLast_concat]
 rw[un];have i:(wQ (dw die sg) (dr die sg) (k-1) n).dropLast.length=k-1:=by rw[List.length_dropLast,a]
 have o:(wQ (dw die sg) (dr die sg) (k-1) n).map (dw die sg*·)=(wQ (dw die sg) (dr die sg) (k-1) n).dropLast.map (dw die sg*·)++[dw die sg*fE (dw die sg) (dr die sg) (k-1) n (k-1)]:=by
  conv=>lhs;rw[p]
  rw[map_append];rfl
 rw[o];have c:=zJm ((dr die sg*(wQ (dw die sg) (dr die sg) (k-1) n).sum)::(wQ (dw die sg) (dr die sg) (k-1) n).dropLast.map (dw die sg*·)) [] (dw die sg*fE (dw die sg) (dr die sg) (k-1) n (k-1)) (die.sum*(die.sum^n-U (dw die sg) (dr die sg) (k-1) n));rw[length_cons,length_map,i,show k-1+1=k by omega]at c;rw[cons_append]at c;rw[c];have fin:dw die sg*fE (dw die sg) (dr die sg) (k-1) n (k-1)+die.sum*(die.sum^n-U (dw die sg) (dr die sg) (k-1) n)=die.sum^(n+1)-U (dw die sg) (dr die sg) (k-1) (n+1):=by
  rw[Nat.mul_sub,pow_succ,mul_comm (die.sum^n)];have:=Nat.mul_le_mul_left die.sum u;have l:Ud die sg k n=U (dw die sg) (dr die sg) (k-1) n:=rfl;rw[l]at this;omega
 rw[fin]
theorem zJn{die:Ls Nat}{sg k:Nat}(h:DS die sg)(a:1<=k):∀n,wk (stL die.length sg k) die n=wQ (dw die sg) (dr die sg) (k-1) n++[die.sum^n-U (dw die sg) (dr die sg) (k-1) n]
 |0=>by
  have c:wQ (dw die sg) (dr die sg) (k-1) 0=1::replicate (k-1) 0:=rfl;have e:U (dw die sg) (dr die sg) (k-1) 0=1:=by unfold U;rw[c];simp
  rw[c,e,wk,v4,Nat.add_sub_cancel,Nat.pow_zero,sub_self,cons_append];congr 1
  conv=>lhs;rw[show k=k-1+1 by omega]
  rw[List.replicate_succ']
 |n+1=>by rw[wk,zJn h a n,zIE h a n]
end My
namespace My
open PySem L2 DV SM BF
def zBf(t b:Nat)(k:0<b)(j:b<2^400):wH [.v (.int t),.v (.int b)]=.ok (.v (nrm t b),O2):=by
 have w:=G6 (c:=dT JB (.tE (.cmp .ne (.x 3) (.c (.int 0))))) (bd:=dB JB YN) (λa c=>[qI t,qI b,qI a,qI c])
  (λa b=>t_E (zj (zA rfl) x_c (by
   show neG (.int (b:Int)) (.int 0)=_
   rw[ne_int];by_cases z:b=0
   ·subst z;rfl
   ·have:¬(b:Int)=0:=by omega
    simp[z])))
  (λa b h=>zQ (zBP (zB (zA rfl) (zB (zu (zA rfl) (zA rfl) (zBW a b h)) zG)) rfl)) 400 1000000 t b j (by omega)
 obtain⟨g,i⟩:=zJS (t:=t) k j;have l:ltD (.int (b:Int)) (.int 0)=some (.v (.bl false)):=by simp[ltD,zEF]
 have n:=Wo t _ g i;have e:=Wo b _ g i;rw[zCe]at e;exact zp (zH (E1:=[qI t,qI b,qI t,qI b]) (zBP (zB (jZ (zB (zA rfl) zG) (zBZ t)) (zB (jZ (zB (zA rfl) zG) (zBZ b)) zG)) rfl) (zH (E1:=[qI t,qI b,.v (.int ((t.gcd b:Nat):Int)),qI (0)]) (Zm w) (zH (yl (t_E (zj (zA rfl) x_c l)) yn) (zQ (zn (jb (zB (zu (zA rfl) (zA rfl) n) (zB (zu (zA rfl) (zA rfl) e) zG)) rfl yu)))))) rfl
def zBg(a B:Nat):nrm (a:Int) B=.t [.int ((a/a.gcd B:Nat):Int),.int ((B/a.gcd B:Nat):Int)]:=by
 dsimp[nrm,vf,zBS,Int.natAbs_natCast]
def m2{a b:Nat}(c:a<2^200)(e:b<2^200):a*b<2^400:=by
 have:a*b<2^200*2^200:=Nat.mul_lt_mul'' c e;rw[<- Nat.pow_add]at this;exact this
def l8{a:Nat}(h:a<2^200):a<2^800:=lt_trans h (by left)
def dv{a g:Nat}(h:a<2^200):a/g<2^200:=lt_of_le_of_lt (Nat.div_le_self _ _) h
def bpos{a B:Nat}(h:0<B):0<B/a.gcd B:=Nat.div_pos (Nat.le_of_dvd h (gcd_dvd_right _ _)) (Nat.gcd_pos_of_pos_right _ h)
def zGA{a c B:Nat}(e:0<B)(l:B<2^200)(q:a<2^200)(w:c<2^200):wW [.v (nrm (a:Int) B),.v (nrm (c:Int) B)]=.ok (.v (nrm ((a+c:Nat):Int) B),O2):=by
 have k:=add_nrm (t1:=(a:Int)) (t2:=(c:Int)) (T:=((a+c:Nat):Int)) e e e (by rw[Int.natCast_add,Int.natCast_mul];grind);rw[vf,vf]at k;dsimp[zBS,Int.natAbs_natCast]at k;rw[zBg a B,zBg c B];have v:=dv (g:=a.gcd B) q;have j:=dv (g:=a.gcd B) l;have u:=dv (g:=c.gcd B) w;have h:=dv (g:=c.gcd B) l;have x:=bpos (a:=a) e;have y:=bpos (a:=c) e;generalize a/a.gcd B=x1 at *;generalize B/a.gcd B=y1 at *;generalize c/c.gcd B=x2 at *;generalize B/c.gcd B=y2 at *;have o:=zBY x1 y2 (l8 v) (l8 h);have i:=zBY x2 y1 (l8 u) (l8 j);have t:=zBY y1 y2 (l8 j) (l8 h);have n:=zBf (x1*y2+x2*y1) (y1*y2) (mul_pos x y) (m2 j h);have p:nrm ((x1*y2+x2*y1:Nat):Int) (y1*y2)=nrm ((a+c:Nat):Int) B:=by
  rw[<- k,Int.natCast_add,Int.natCast_mul,Int.natCast_mul]
 rw[p]at n;exact zp (zQ (zn (zP (F:=wH) rfl (zu (zu (JQ (r:=.v (.int (x1:Nat))) (zA rfl) x_c rfl) (JQ (r:=.v (.int (y2:Nat))) (zA rfl) x_c rfl) o) (zu (JQ (r:=.v (.int (x2:Nat))) (zA rfl) x_c rfl) (JQ (r:=.v (.int (y1:Nat))) (zA rfl) x_c rfl) i) (vo _ _)) (zu (JQ (r:=.v (.int (y1:Nat))) (zA rfl) x_c rfl) (JQ (r:=.v (.int (y2:Nat))) (zA rfl) x_c rfl) t) n))) rfl
def run_Mac{m sg k:Nat}(h:Ok m sg k):Mac m (stL m sg k) [k] where
 hm:=by have:=h.hm;omega
 hn:=by rw[v4];have:=h.hk;omega
 hl:=λl hl=>by
  rw[v4];dsimp[stL,mem_append,mem_map,mem_range,mem_singleton]at hl;rcases hl with⟨s,c,rfl⟩|rfl
  ·refine⟨zH9 ..,λx a=>?_⟩
   dsimp[zBd,mem_map,mem_range]at a;obtain⟨t,_,rfl⟩:=a;split<;>omega
  ·exact⟨by simp,λx a=>by rw[List.mem_replicate]at a;omega⟩
 hr:=List.pairwise_singleton _ _
 hg:=λx a=>by rw[v4];simp at a;omega
def nrm_one{B:Nat}(h:0<B):nrm ((B:Nat):Int) B=.t [.int 1,.int 1]:=by
 rw[zBg,Nat.gcd_self,Nat.div_self h];rfl
def b200{n:Nat}(h:n<=40):27^n<2^200:=lt_of_le_of_lt (Nat.pow_le_pow_right (by omega) h) (by left)
def e_taken{die:Ls Nat}{sg:Nat}(h:DS die sg){k n:Nat}(j:1<=k/\k<=8)(hn:n<=40):jC [.v (mD (stL die.length sg k) [k]),.v (zAQ die),qI n]=.ok (.v (nrm ((die.sum^n-Ud die sg k n:Nat):Int) (die.sum^n)),O3):=by
 have hl:2<=die.length/\die.length<=3:=by rcases h.ok.1 with e|e<;>omega
 have ok:Ok die.length sg k:=⟨hl,h.lt,by omega⟩;have c:=run_Mac ok;have i:=ZP c (wd:=zAQ die) (die:=die) (.inr rfl) (λx l=>by have:=h.ok.2 x l;omega) (n:=n) (by omega);have o:(([k].map λx=>(wk (stL die.length sg k) die n).getD x 0).sum)=die.sum^n-Ud die sg k n:=by
  rw[zJn h j.1];have a:(wQ (dw die sg) (dr die sg) (k-1) n).length=k:=by rw[Wm];omega
  dsimp[map_cons,map_nil,sum_cons,List.sum_nil,Nat.add_zero];rw[getD_eq_getElem?_getD,getElem?_append_right (by omega),a,sub_self];rfl
 rw[o]at i;have g:=GF _ (zJU h.ok);rw[die_B h.ok]at g;have q:neG (.int (die.length:Nat)) (.int (die.length:Nat))=some (.v (.bl false)):=by rw[zCc];simp
 have p:=zCh h (n:=n) (by omega) (((die.sum^n-Ud die sg k n:Nat)):Int);refine zp (E1:=[.v (mD (stL die.length sg k) [k]),.v (zAQ die),qI n]) (zH (ym (zZ (F:=zN) rfl (zA rfl) (j0 (zAL c) (Js c)))) ?_) rfl;refine zH (yl (zDI (jn (t_E (zZ (F:=wV) rfl (zA rfl) g)) rfl) (t_E (zj (jZ (zB (zA rfl) zG) (zFn die)) (zZ (F:=zS) rfl (zA rfl) (Jt c)) q))) yn) ?_;refine zH (ym (yD (F:=zV) rfl (zA rfl) x_c vd (yW _ 0 40 rfl (zCg hn)))) ?_;exact zQ (zn (yD (F:=yY) rfl (zA rfl) (zA rfl) (yD (F:=yg) rfl (zA rfl) (zA rfl) (zA rfl) i) p))
def e_whole{die:Ls Nat}{sg:Nat}(h:DS die sg){k n:Nat}(l:1<=k/\k<=8)(hn:n<=40):∃a b,jC [.v (mD (stL die.length sg k) [k]),.v (zAQ die),qI n]=.ok (.v a,O3)/\jY [.v (zAQ die),qI sg,qI n,qI (k-1)]=.ok (.v b,O4)/\wW [.v a,.v b]=.ok (.v (.t [.int 1,.int 1]),O2):=by
 have j:=U_in (k:=k) h n;have up:=e_upto h hn (k:=k-1) (by omega);have i:=(S_pow h (n:=n) (by omega)).1;have S27:=h.S27;have e:die.sum^n<2^200:=lt_of_le_of_lt (Nat.pow_le_pow_left S27.2 n) (b200 hn);have g:=zGA (a:=die.sum^n-Ud die sg k n) (c:=Ud die sg k n) i e (lt_of_le_of_lt (Nat.sub_le _ _) e) (lt_of_le_of_lt j e);rw[Nat.sub_add_cancel j,nrm_one i]at g;exact⟨_,_,e_taken h l hn,up,g⟩
def QM{i:Nat}{a:Ls Nat}{d:D}{ds:Ls D}{E E1 E2:zU}(h:Wc i (.v d) E=.ok E1)(k:gNs a ds E1=.ok E2):gNs (i::a) (d::ds) E=.ok E2:=by
 show(match Wc i (.v d) E with | .ok E1=>gNs a ds E1|_=>.z)=_
 rw[h];exact k
def J2(p:Ls D)(g:Pen p)(n:Nat)(k:0<n)(i:n<1000):∃a p',zT [.p p,qI n]=.ok (.v (.int (a:Nat)),[.p p',.e])/\a<n/\Pen p':=by
 obtain⟨r,p',e,h,j,c⟩:=jR p g (n:Nat) (by omega) (by omega);refine⟨r.toNat,p',?_,by omega,c⟩;rw[e,show((r.toNat:Nat):Int)=r by omega]
def InL(v:D)(E:zU):Prop:=∃e l j h o g n i k c a,E=[.v v,e,l,j,h,o,g,n,i,k,c,a]/\∀x∈[e,l,j,h,o,g,n,i,k,c,a],yd x=true
def drawn{v c:DV.Slot}{p:Ls D}(C:Pen p){a3 a4 a5 a6 a7 a8 a9 a10 a11:DV.Slot}{el:Ex}{it:Ix}{k:Nat}{E0:zU}{lo hi:Nat}(G:k<=1000)(t:dI WL it E0=.ok (DV.zI 0 k,[v,c,.w p,a3,a4,a5,a6,a7,a8,a9,a10,a11])){xs:Ls Str}
  (u:∀d p,Pen p->∃(x:Nat) (g:Ls D),dE WL el [.v d,.p p]=.ok (.v (.int (x:Nat)),[.v d,.p g])/\lo<=x/\x<hi/\Pen g) :
  ∃l g,dE WL (.cB .tuple (.cons (.comp 1 xs ["_law_pen"] [2] it (.n 0) .tTr el) .nil)) E0=.ok (.v (tN l),[v,c,.w g,a3,a4,a5,a6,a7,a8,a9,a10,a11])/\Pen g/\l.length=k/\∀x∈l,lo<=x/\x<hi:=by
 obtain⟨O,g,S,z,K,H⟩:=zBT (fs:=WL) (E0:=E0) (E:=[v,c,.w p,a3,a4,a5,a6,a7,a8,a9,a10,a11]) (xs:=xs) (ys:=["_law_pen"]) (caps:=[2]) (it:=it) (tt:=.tTr) (el:=el) (ds:=DV.zI 0 k) (vs:=[]) (p:=p) (i:=2) (E2:=[v,c,.e,a3,a4,a5,a6,a7,a8,a9,a10,a11]) (E':=λg=>[v,c,.w g,a3,a4,a5,a6,a7,a8,a9,a10,a11])
  Pen (λk j=>j.length=k/\∀d∈j,∃x:Nat,d=.int (x:Int)/\lo<=x/\x<hi) t rfl rfl C ⟨rfl,λd h=>by cases h⟩ (λi d q p j C ⟨G,M⟩=>by
   obtain⟨x,R,e,J,I,w⟩:=u d p C;refine⟨p,.inr ⟨.v (.int (x:Nat)),R,by dsimp[zA9,zE9,zBA,Q7,uo,Gc],e,w,by simp[G],λy o=>?_⟩⟩;rcases mem_append.mp o with o|o
   ·exact M y o
   ·rw[mem_singleton]at o;exact⟨x,o,J,I⟩) (by rw[yF];dsimp[cap];omega) (λx g=>rfl)
 rw[yF]at K;obtain⟨l,rfl,L,hl⟩:=N_of (n:=hi) O λd h=>by obtain⟨x,e,_,a⟩:=H d h;exact⟨x,e,a⟩
 refine⟨l,g,jZ (r:=.v (tN l)) (zB S zG) rfl,z,by omega,λx Q=>?_⟩;obtain⟨y,e,a,b⟩:=H (.int (x:Nat)) (mem_map.mpr ⟨x,Q,rfl⟩);have:x=y:=Int.ofNat.inj (D.int.inj e);omega
def cell_ok(v:D)(c:Int)(t2 V S K H E u t q i:DV.Slot)(r:∀x∈[t2,V,S,K,H,E,u,t,q,i],yd x=true):∃E2,dB WL zBK [.v v,.v (.int c),t2,V,S,K,H,E,u,t,q,i]=.ok (.nx,E2)/\InL v E2:=by
 obtain⟨p0,e0,Y⟩:=QA c;obtain⟨m,ls,g,p1,e1,aa,M,l3⟩:=WR Y (mx:=3) (by omega) (by omega);obtain⟨m',o,w,R,e2,ad,M',l4⟩:=WR aa (mx:=4) (by omega) (by omega);have hm:=M.hm;have an:=M'.hm;obtain⟨l,il,ll⟩:=zFq M;obtain⟨l',J,ac⟩:=zFq M';have lm:zAq [tN l]=some (.v (.int (m:Nat))):=by dsimp[zAq,jo,ll]
 have L:zAq [tN l']=some (.v (.int (m':Nat))):=by dsimp[zAq,jo,ac]
 obtain⟨k3,p3,e3,am,ah⟩:=J2 R ad 21 (by omega) (by omega);obtain⟨row,p4,e4,ag,rl,G⟩:=drawn (v:=.v v) (c:=.v (.int c)) ah (a3:=.v (mD ls g)) (a4:=.v (mD o w)) (a5:=.v (.int (m:Nat))) (a6:=H) (a7:=E) (a8:=u) (a9:=t) (a10:=q) (a11:=i) (k:=k3) (lo:=0) (hi:=2) (E0:=[.v v,.v (.int c),.w R,.v (mD ls g),.v (mD o w),qI m,H,E,u,t,q,i]) (it:=.iR1 (.cons (.call 4 (.lend 2 (.ev (.c (.int 21)) .nil))) .nil)) (el:=.call 4 (.lend 1 (.ev (.c (.int 2)) .nil))) (xs:=["_law_place"]) (by omega) (zHh (j:=((k3:Nat):Int)) (zB (J1 (F:=zT) rfl rfl x_c e3 rfl) zG) rfl ⟨by omega,by omega⟩)
  λd p r=>by
   obtain⟨a,p',e,h,I⟩:=J2 p r 2 (by omega) (by omega);exact⟨a,p',JD (F:=zT) rfl rfl x_c e rfl,zero_le _,h,I⟩
 obtain⟨n,p5,e5,hn,af⟩:=J2 p4 ag 21 (by omega) (by omega);have lr:Low m row:=λx O=>by have:=G x O;omega
 have X:Low m' row:=λx O=>by have:=G x O;omega
 have h3:ls.length<=3:=by omega
 have h4:o.length<=4:=by omega
 have Z:ls.length*o.length<=12:=Nat.mul_le_mul h3 h4;have q9:ls.length*ls.length<=12:=le_trans (Nat.mul_le_mul h3 h3) (by omega);have w2:=e_two M (zF7 M) q9 lr (by omega) (n:=n) (by omega);have w3:=e_lr M' h4 X (by omega) (n:=n) (by omega);obtain⟨y,p6,e6,W,dl,Q⟩:=drawn (v:=.v v) (c:=.v (.int c)) af (a3:=.v (mD ls g)) (a4:=.v (mD o w)) (a5:=.v (.int (m:Nat))) (a6:=.v (tN row)) (a7:=.v (.int (n:Nat))) (a8:=u) (a9:=t) (a10:=q) (a11:=i) (k:=m) (lo:=1) (hi:=10) (E0:=[.v v,.v (.int c),.w p5,.v (mD ls g),.v (mD o w),qI m,.v (tN row),qI n,u,t,q,i]) (it:=.iR1 (.cons (.x 5) .nil)) (el:=.bin .add (.c (.int 1)) (.call 4 (.lend 1 (.ev (.c (.int 9)) .nil)))) (xs:=["_law_sign"]) (by omega) (zHh (j:=((m:Nat):Int)) (zB (zA rfl) zG) rfl ⟨by omega,by omega⟩)
  λd p r=>by
   obtain⟨a,p',e,h,I⟩:=J2 p r 9 (by omega) (by omega);exact⟨1+a,p',zu x_c (JD (F:=zT) rfl rfl x_c e rfl) (vo 1 a),by omega,by omega,I⟩
 obtain⟨sg,p7,e7,ak,ai⟩:=J2 p6 W m (by omega) (by omega);obtain⟨C,p8,e8,aj,ao⟩:=J2 p7 ai 6 (by omega) (by omega);have ds:DS y sg:=⟨⟨by omega,λx O=>by have:=Q x O;omega⟩,by omega⟩;obtain⟨a,b,w4,w5,w6⟩:=e_whole ds (k:=1+C) (n:=n) ⟨by omega,by omega⟩ (by omega);have rm:=QJ (m:=m) (sg:=sg) (k:=1+C) ⟨by omega,by omega,by omega,by omega⟩;rw[dl]at w4;have a1:Wa (.int 1) (.int (C:Nat))=some (.v (.int ((1+C:Nat):Int))):=vo 1 C;have s1:subD (.int ((1+C:Nat):Int)) (.int 1)=some (.v (.int ((1+C-1:Nat):Int))):=zJT (b:=1) (by omega);have nt:neG (.t [.int 1,.int 1]) (.t [.int 1,.int 1])=some (.v (.bl false)):=rfl;have g2:=r t2 (by simp);have g3:=r V (by simp);have g4:=r S (by simp);have g5:=r K (by simp);have g6:=r H (by simp);have g7:=r E (by simp);have g8:=r u (by simp);have g9:=r t (by simp);have ae:=r q (by simp);have ab:=r i (by simp);refine⟨[.v v,.v (.int c),.w p8,.v (mD ls g),.v (mD o w),qI m,.v (tN row),qI n,.v (zAQ y),qI sg,qI (1+C),.v a],?_,_,_,_,_,_,_,_,_,_,_,_,rfl,λz hz=>?_⟩
 ·refine zH (E1:=[.v v,.v (.int c),.w p0,V,S,K,H,E,u,t,q,i]) (yE (zZ (F:=jG) rfl (zA rfl) e0) (jz rfl g2 rfl)) ?_
  refine zH (E1:=[.v v,.v (.int c),.w R,.v (mD ls g),.v (mD o w),K,H,E,u,t,q,i]) (zBP (zB (J1 (F:=yM) rfl rfl x_c e1 rfl) (zB (J1 (F:=yM) rfl rfl x_c e2 rfl) zG)) (QM (jz rfl g3 rfl) (QM (jz rfl g4 rfl) rfl))) ?_;refine zH (E1:=[.v v,.v (.int c),.w R,.v (mD ls g),.v (mD o w),qI m,H,E,u,t,q,i]) (yE (jZ (zB (JQ (JQ (zA rfl) x_c (ix0 _ _)) x_c il) zG) lm) (jz rfl g5 rfl)) ?_;refine zH (E1:=[.v v,.v (.int c),.w p4,.v (mD ls g),.v (mD o w),qI m,.v (tN row),E,u,t,q,i]) (yE e4 (jz rfl g6 rfl)) ?_;refine zH (E1:=[.v v,.v (.int c),.w p5,.v (mD ls g),.v (mD o w),qI m,.v (tN row),qI n,u,t,q,i]) (yE (J1 (F:=zT) rfl rfl x_c e5 rfl) (jz rfl g7 rfl)) ?_;refine zH (E1:=[.v v,.v (.int c),.w p5,.v (mD ls g),.v (mD o w),qI m,.v (tN row),qI n,u,t,q,i]) ?_ ?_
  ·by_cases em:m'=m
   ·subst em
    have w1:=e_two M M' Z lr (by omega) (n:=n) (by omega);exact yl (t_and1 (t_E (zj (jZ (zB (JQ (JQ (zA rfl) x_c (ix0 _ _)) x_c J) zG) L) (zA rfl) ((zFj _ _).trans (by rw[decide_eq_true rfl])))) (jn (t_E (Yl (F:=yX) rfl (zA rfl) (zA rfl) (zA rfl) (zA rfl) w1)) rfl)) yn
   ·exact yl (t_and0 (t_E (zj (jZ (zB (JQ (JQ (zA rfl) x_c (ix0 _ _)) x_c J) zG) L) (zA rfl) ((zFj _ _).trans (by rw[decide_eq_false em]))))) yn
  refine zH (yl (zDI (jn (t_E (Yl (F:=yX) rfl (zA rfl) (zZ (F:=jp) rfl (zA rfl) (GI M)) (zA rfl) (zA rfl) w2)) rfl) (jn (t_E (yD (F:=yZ) rfl (zA rfl) (zA rfl) (zA rfl) w3)) rfl)) yn) ?_;refine zH (E1:=[.v v,.v (.int c),.w p6,.v (mD ls g),.v (mD o w),qI m,.v (tN row),qI n,.v (zAQ y),t,q,i]) (yE e6 (jz rfl g8 rfl)) ?_;refine zH (E1:=[.v v,.v (.int c),.w p8,.v (mD ls g),.v (mD o w),qI m,.v (tN row),qI n,.v (zAQ y),qI sg,qI (1+C),i]) (zBP (zB (J1 (F:=zT) rfl rfl (zA rfl) e7 rfl) (zB (zu x_c (J1 (F:=zT) rfl rfl x_c e8 rfl) a1) zG)) (QM (jz rfl g9 rfl) (QM (jz rfl ae rfl) rfl))) ?_;refine zH (E1:=[.v v,.v (.int c),.w p8,.v (mD ls g),.v (mD o w),qI m,.v (tN row),qI n,.v (zAQ y),qI sg,qI (1+C),.v a]) (yE (yD (F:=jC) rfl (yD (F:=jl) rfl (zA rfl) (zA rfl) (zA rfl) rm) (zA rfl) (zA rfl) w4) (jz rfl ab rfl)) ?_;exact zQ (yl (t_E (zj (zP (F:=wW) rfl (zA rfl) (Yl (F:=jY) rfl (zA rfl) (zA rfl) (zA rfl) (zu (zA rfl) x_c s1) w5) w6) (jb (zB x_c (zB x_c zG)) rfl yu) nt)) yn)
 ·dsimp[mem_cons,mem_nil_iff,or_false]at hz
  rcases hz with rfl|rfl|rfl|rfl|rfl|rfl|rfl|rfl|rfl|rfl|rfl<;>rfl
def math38(a:Ls Int)(R:a.length<=63):∃g,m_law [.v (.l (a.map D.int))]=.ok (.v (.bl true),g):=by
 obtain⟨c,G⟩:=uP a;have e:zAr (a.map D.int) (some 1) (some 3)=((a.drop (HT.sIx a.length 0 (some 1))).take (HT.sIx a.length a.length (some 3)-HT.sIx a.length 0 (some 1))).map D.int:=by
  unfold zAr;simp[List.map_drop,List.map_take]
 generalize W:(a.drop (HT.sIx a.length 0 (some 1))).take (HT.sIx a.length a.length (some 3)-HT.sIx a.length 0 (some 1))=k at e;have aa:k.length<=63:=by rw[<- W];simp;omega
 have w:slD (.l (a.map D.int)) (some 1) (some 3)=some (.w (k.map D.int)):=by dsimp[slD,e]
 have c2:=vh [.int c] (k.map D.int) (by simp;omega);generalize hv:D.l (a.map D.int)=v at G w;obtain⟨E',t,V,u2,u3,Z,X,S,u7,Y,u9,p,n,o,_⟩:=ji (tg:=gN 1) (body:=dB WL zBK) (λ_ E=>InL v E) ([.int c]++k.map D.int) 0 [.v v,.e,.e,.e,.e,.e,.e,.e,.e,.e,.e,.e] ⟨_,_,_,_,_,_,_,_,_,_,_,rfl,λx L=>by
   dsimp[mem_cons,mem_nil_iff,or_false,or_self]at L;rw[L];rfl⟩
  (λi d q E h=>by
   obtain⟨I,Q,C,z,M,J,H,K,O,l,j,o,u⟩:=h;obtain⟨x,rfl⟩:∃x:Int,d=.int x:=by
    have:=mem_of_getElem? q;rcases mem_append.mp this with m|m
    ·exact⟨c,mem_singleton.mp m⟩
    ·obtain⟨x,_,rfl⟩:=mem_map.mp m;exact⟨x,rfl⟩
   obtain⟨E2,t,f2⟩:=cell_ok v x Q C z M J H K O l j (λy hy=>u y (qD _ hy));refine⟨[.v v,.v (.int x),Q,C,z,M,J,H,K,O,l,j],E2,?_,t,f2⟩;have h1:=u I (by simp);subst o;cases I<;>first|rfl|(cases h1))
 subst o;refine⟨_,zp (r:=.v (.bl true)) (E1:=[.v v,V,u2,u3,Z,X,S,u7,Y,u9,p,n]) ?_ rfl⟩;exact zH (s_forL (zu (Zh (zB (zP (F:=yk) rfl (zA rfl) x_c G) zG) rfl yO) (x_sl (zA rfl) (o_S x_c) (o_S x_c) w) c2) rfl t) (zQ (zn x_c))
end My
namespace My
open PySem L2 DV
def txt_lk{K:qH}{h:Heap}{mg:Str->Lx Lv}(X:K.In h)(G:h.Ns mainGlobals mg)(e:Wy K=wants):Txt K mg :=
 have a:=congrArg (λx:lkT=>x.1) e;have g:=congrArg (λx:lkT=>x.2.1) e;have c:=congrArg (λx:lkT=>x.2.2.1) e
 {n_abs:=Ye X G (ix 0 c),n_all:=Ye X G (ix 1 c),n_bool:=Ye X G (ix 2 c),n_enumerate:=Ye X G (ix 3 c),n_int:=Ye X G (ix 4 c),n_isinstance:=Ye X G (ix 5 c),n_len:=Ye X G (ix 6 c),n_list:=Ye X G (ix 7 c),n_max:=Ye X G (ix 8 c),n_min:=Ye X G (ix 9 c),n_range:=Ye X G (ix 10 c),n_set:=Ye X G (ix 11 c),n_sum:=Ye X G (ix 12 c),n_tuple:=Ye X G (ix 13 c),n_zip:=Ye X G (ix 14 c),c_LEAST_SIGNS:=Go X G (ix 0 g),c_LEAST_WEIGHT:=Go X G (ix 1 g),c_MOST_COUNTED:=Go X G (ix 2 g),c_MOST_READ:=Go X G (ix 3 g),c_MOST_SIGNS:=Go X G (ix 4 g),c_MOST_STANDS:=Go X G (ix 5 g),c_MOST_TAKEN:=Go X G (ix 6 g),c_MOST_WATCHED:=Go X G (ix 7 g),c_MOST_WEIGHT:=Go X G (ix 8 g),f_is_whole:=zx X G (ix 0 a),f_is_whole_within:=zx X G (ix 1 a),f_greatest_divisor:=zx X G (ix 2 a),f_whole_power:=zx X G (ix 3 a),f_share_of:=zx X G (ix 4 a),f_die_good:=zx X G (ix 5 a),f_need_die:=zx X G (ix 6 a),f_need_number:=zx X G (ix 7 a),f_need_signs:=zx X G (ix 8 a),f_need_sign:=zx X G (ix 9 a),f_weigh_upto:=zx X G (ix 10 a),f_need_thrown:=zx X G (ix 11 a),f_others_weight:=zx X G (ix 12 a),f_share_in_all:=zx X G (ix 13 a),f_share_upto:=zx X G (ix 14 a),f_all_within:=zx X G (ix 15 a),f_steps_good:=zx X G (ix 16 a),f_rising_stands:=zx X G (ix 17 a),f_machine_good:=zx X G (ix 18 a),f_need_machine:=zx X G (ix 19 a),f_signs_read:=zx X G (ix 20 a),f_need_alike:=zx X G (ix 21 a),f_stands_of:=zx X G (ix 22 a),f_takes:=zx X G (ix 23 a),f_weigh_taken:=zx X G (ix 24 a),f_taken_many:=zx X G (ix 25 a),f_taken_share:=zx X G (ix 26 a),f_run_machine:=zx X G (ix 27 a),f_contrary:=zx X G (ix 28 a),f_pair_behind:=zx X G (ix 29 a),f_met_pairs:=zx X G (ix 30 a),f_good_many:=zx X G (ix 31 a),f_joined:=zx X G (ix 32 a),f_both:=zx X G (ix 33 a),f_either:=zx X G (ix 34 a),f_first_alikes:=zx X G (ix 35 a),f_least:=zx X G (ix 36 a),f_parting:=zx X G (ix 37 a),f__law_cell_at:=zx X G (ix 38 a),f__law_next:=zx X G (ix 39 a),f__law_pen_of:=zx X G (ix 40 a),f__law_draw:=zx X G (ix 41 a),f__law_share:=zx X G (ix 42 a),f__law_add:=zx X G (ix 43 a),f__law_machine_by:=zx X G (ix 44 a),f__law_two_right:=zx X G (ix 45 a),f__law_least_right:=zx X G (ix 46 a),f_law:=zx X G (ix 47 a),cl:=cl_at X G (congrArg (λx:lkT=>x.2.2.2) e)}
end My
end
open PySem PySem.W PyProof.Rows
set_option maxRecDepth 100000 in
set_option maxHeartbeats 0 in
theorem PySem.Challenge.cw_throwruns_k38_whole_machines_holds : PySem.Challenge.rw_throwruns_k38_whole_machines.Holds := by
 w_on;refine holds_law My.hz λc=>?_
 refine holds_open (q:=My.qP) (loose:=My.ls) (Xt:=λs=>xlAt My.qP [] s&&recOk (RowW.records (OpenLaw.row PySem.Challenge.rw_throwruns_k38_whole_machines).toRowW) s) (XP:=XL My.qP []) (Yf:=λs=>My.Wy (DV.Yo s.heap My.as)) (Ya:=λ_=>My.wants) (YP:=(DV.zCN My.as My.lkT My.Wy My.wants).says) (N:=5870) My.hl (DV.zCN My.as My.lkT My.Wy My.wants).of (DV.zCN My.as My.lkT My.Wy My.wants).keeps (λs e=>xl_of s (Bool.and_eq_true_iff.mp e).1) XL.keeps (by rfl) (by rfl) (by rfl) (λs e=>recFacts_of (Bool.and_eq_true_iff.mp e).2) ?h4 ?h5 ?h6 ⟨rfl,rfl,rfl,rfl,rfl,by decide +kernel⟩ ?hw ?hc
 case h4=>rfl
 case h5=>first|assumption|decide +kernel
 case h6=>decide +kernel
 case hw=>w_witness2
 case hc=>exact DV.walkE (l:=PySem.Challenge.rw_throwruns_k38_whole_machines) (x:="_law_script") My.math38 rfl rfl λw K g i h KX e G a=>My.law_fd a (My.txt_lk KX G e)
