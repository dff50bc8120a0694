import PyProof.Rows.All
import KE.KFromBytes
import KE.KSortTup
import KE.KIsAll
import PyProof.InstStoreFacts
import PyProof.InstSpecial
import PyProof.FString
import OpenK.KCls
import PyProof.TupleKey
import PyProof.Rows.TupTab
import PyProof.FactsAll.NoneType
import PyProof.DictRoadsH
import PyProof.Rows.TupDisplay
import KE.KDictList
import PyProof.AttrMiss
import KE.KDictOf
import KE.KIntText
import PyProof.NeData
import KE.KRevIter
import PySem.Challenge.RW_throwruns_k28_whole_rings
set_option Elab.async false
set_option linter.all false
set_option genSizeOf false
set_option compiler.extract_closed false
set_option backward.eqns.nonrecursive false
set_option genSizeOfSpec false
set_option genInjectivity false
set_option maxRecDepth 100000
set_option maxHeartbeats 0
def DV.nf{P:Prop}(h:false=true):P:=absurd h Bool.false_ne_true
open List (mem_filter mem_range filterMap_cons mem_cons_self mem_cons_of_mem mem_cons mem_append mem_append_left getElem?_set_self getElem?_set_ne mem_filterMap mem_append_right append_nil nodup_cons of_mem_zip replicate length length_take getElem?_map mem_of_getElem? length_append length_map zip_cons_cons length_cons length_nil size_toArray length_drop map_nil map_cons reverse_cons replicate_succ flatten_cons foldl append_assoc foldl_cons sublist_cons_self nodup_append nil_append perm_append_comm sublist_append_right cons_append getElem?_zip_eq_some range_succ_eq_map all_cons drop_eq_getElem_cons perm_middle zip_append lookup_cons all_eq_true mem_nil_iff getD_eq_getElem?_getD getElem?_eq_getElem getElem_mem take_add_one sum_append take_length toArray pairwise_iff_getElem length_range range_succ mem_map map_map getElem_of_mem mem_singleton drop_zero take_of_length_le mem_iff_getElem? map_append map_congr_left isEmpty_iff set_set sum_cons map_take filter_map getElem?_range map_drop)
open Nat (lt_of_lt_of_le lt_irrefl ne_of_lt le_trans ne_of_gt le_refl zero_le lt_succ_self mul_comm lt_trans lt_succ_of_lt not_lt le_succ zero_add lt_or_eq_of_le lt_of_le_of_lt le_of_lt_succ mod_lt succ_pos pow_succ not_lt_zero lt_or_ge mul_assoc mul_add add_mul gcd_comm gcd_rec pow_add pow_le_pow_left mul_pow min_eq_left)
open PySem.W (nsOkIn nsIn clsIn typeIn findIn specialIn takesIn codeIn keepIn fnOf instObj methodObj hideAll hideAll_get of_hideAll plainGet emptyDict mroIn cellsFrom_some codeRec_of kitOne kia_one mg_of)
open PySem.Heap (lt_size get?_push_of_some get?_push_size size_push get?_update_self get?_update_other)
noncomputable section
def qA:=@PySem.Heap.get?_push_of_some
def qB:=@PySem.wpAny_bind
def qC:=@PySem.wpAny_pure
def qD:=@List.mem_cons_of_mem
def qE:=@List.mem_cons_self
def qF:=@Bool.false_ne_true
def qG:=@List.getElem?_eq_some_iff
def qJ:=@Option.some.inj
def qK:=@List.mem_append_right
abbrev qH:=PySem.W.Frag
section
open PySem
abbrev Ls(α:Type):=List α
abbrev Lv:=Value
abbrev Lx(α:Type):=Option α
abbrev Ly:=Lv->Shared->Prop
abbrev Lz:=Addr
abbrev La:=Shared
abbrev Lb:=Expr
abbrev Lc:=Program
abbrev Ld:=Array (Int×Lv)
abbrev Le:=World
abbrev Lf:=Lz->Prop
abbrev Lg:=Array Lv
abbrev Lh:=Stmt
abbrev Li:=Around
abbrev Lj:=Array (Lx Lv)
abbrev Lk:=Array Nat
abbrev Ll:=Int->Int->Bool
abbrev Lm:=Nat->Heap->Prop
abbrev Ln:=Bool->La->Prop
abbrev Lo:=List Str
abbrev Lp:=Option Lv
end
local macro_rules
 |`(tactic|exists $h:term)=>`(tactic|simpa using $h)
 |`(tactic|dsimp$[$l:location]?)=>`(tactic|dsimp only$[$l]?)
 |`(tactic|left)=>`(tactic|decide +kernel)
 |`(tactic|dsimp[$a,*]$[$l]?)=>`(tactic|simp only[$a,*]$[$l]?)
 |`(tactic|exists $e:ident,$m,$k:ident,$r:ident,$s:ident)=>`(tactic|(cases $e:ident:$m:term with|z=>rw[$e:ident]at $k:ident;exact $k|y _ _=>rw[$e:ident]at $k:ident;exact $k|ok p=>?_);(cases p with|mk $r:ident $s:ident=>?_);(rw[$e:ident]at $k:ident))
 |`(tactic|exists $e:ident,$m,$k:ident,$x:ident)=>`(tactic|(cases $e:ident:$m:term with|none=>rw[$e:ident]at $k:ident;cases $k:ident|some $x:ident=>?_);(rw[$e:ident]at $k:ident))
namespace L2
open PySem
def Yd(s:Lh):Arguments:=match s with
 | .FunctionDef _ a _ _ _ _ _ _ _ _=>a|_=>{posonlyargs:=[],args:=[],vararg:=none,kwonlyargs:=[],kw_defaults:=[],kwarg:=none,defaults:=[]}
def jL(s:Lh):Ls Lh:=match s with
 | .FunctionDef _ _ b _ _ _ _ _ _ _=>b|_=>[]
def zc(s:Lh):Scope:=match s with
 | .FunctionDef _ _ _ _ _ _ p _ _ _=>p|_=>{kind:=.function,names:=[],isGenerator:=false,isCoroutine:=false}
end L2
namespace DV
open PySem L2
structure Ck(P:Prop) where
 yes:Bool
 why:yes=true->P
def Ck.d{P Q:Prop}(a:Ck P)(f:P->Ck Q):Ck Q:=⟨if h:a.yes=true then(f (a.why h)).yes else false,λh=>by
 split at h
 ·exact(f _).why h
 ·cases h⟩
abbrev bk{Q:Prop}(b:Bool)(f:b=true->Ck Q):Ck Q:=Ck.d ⟨b,id⟩ f
def bq{α:Type}[BEq α][LawfulBEq α]{Q:Prop}(a b:α)(f:a=b->Ck Q):Ck Q:=bk (a==b) λh=>f (beq_iff_eq.mp h)
def rt{P:Prop}(p:P):Ck P:=⟨true,λ_=>p⟩
instance {P:Prop}:Inhabited (Ck P):=⟨⟨false,λh=>nomatch h⟩⟩
@[elab_as_elim] def qCons{α:Type}{M:Ls α->Type}[∀e,Inhabited (M e)](e:Ls α)(f:∀a b,M (a::b)):M e:=match e with
 |a::b=>f a b| []=>default
@[elab_as_elim] def qNil{α:Type}{M:Ls α->Type}[∀e,Inhabited (M e)](e:Ls α)(f:M []):M e:=match e with
 | []=>f|_::_=>default
@[elab_as_elim] def qSome{α:Type}{M:Lx α->Type}[∀e,Inhabited (M e)](e:Lx α)(f:∀a,M (some a)):M e:=match e with
 |some a=>f a|none=>default
abbrev VB:Ls Lv:=[.type "ValueError",.type "Exception",.type "BaseException",.type "object"]
@[elab_as_elim] def qObj{M:Obj->Type}(e:Obj)(f:∀a b c d,M ⟨a,b,c,d⟩):M e:=match e with
 |⟨a,b,c,d⟩=>f a b c d
@[elab_as_elim] def qTy{M:Lv->Type}[∀e,Inhabited (M e)](e:Lv)(f:∀a,M (.type a)):M e:=match e with
 | .type a=>f a|_=>default
@[elab_as_elim] def qRef{M:Lv->Type}[∀e,Inhabited (M e)](e:Lv)(f:∀a,M (.ref a)):M e:=match e with
 | .ref a=>f a|_=>default
@[elab_as_elim] def qBui{M:Lv->Type}[∀e,Inhabited (M e)](e:Lv)(f:∀a,M (.builtin a)):M e:=match e with
 | .builtin a=>f a|_=>default
@[elab_as_elim] def qCls{M:Data->Type}[∀e,Inhabited (M e)](e:Data)(f:∀a b c d g h i j k l m,M (.cls ⟨a,b,c,d,g,h,i,j,k,l,m⟩)):M e:=match e with
 | .cls ⟨a,b,c,d,g,h,i,j,k,l,m⟩=>f a b c d g h i j k l m|_=>default
@[elab_as_elim] def qArr{M:Lj->Type}(e:Lj)(f:∀l,M ⟨l⟩):M e:=match e with
 |⟨l⟩=>f l
def clsC(K:qH)(C:Lz)(x:Lx (Lx Lv))(o:Lx Obj):Ck (K.lookup C=o->∀h,K.In h ->
  ∃e N nm q bs w i sub a j dd t O r n k,h.get? C=some (excClassObj nm q C N bs e w i sub a j dd t O r n k "ValueError.__new__")/\nsOkIn K N=true/\nsIn K N "__init__"=x/\OwnTail h VB e) :=
 qSome o λo=>qObj o λc dd p D=>qTy c λT=>qCls p λnm bs mro E M L i sub a j G=>qArr D λl=>qCons mro λv e=>qRef v λC'=>qCons l λI l=>qCons l λZ l=>qCons l λg l=>qCons l λu l=>qCons l λH l=>qCons l λz l=>qNil l <| qSome H λH=>qBui H λid =>
  bq T "type" λP=>bq C' C λJ=>bq id "ValueError.__new__" λh2=>bq G false λQ=>bk (PySem.W.tailIn K VB e) λh4=>bk (nsOkIn K E) λh5=>bk (nsIn K E "__init__" == x) λy=>rt λho h X=>by
   subst P J h2 Q;exact⟨e,E,nm,M,bs,L,i,sub,a,j,dd,I,Z,g,u,z,X _ _ ho,h5,beq_iff_eq.mp y,PySem.W.tail_of_in X h4⟩
def clsI(K:qH)(C:Lz)(x:Lx (Lx Lv)):Bool:=(clsC K C x (K.lookup C)).yes
abbrev excJ(K:qH)(C:Lz):Bool:=clsI K C (some none)
def xIn(K:qH)(c:Str)(C T:Lz):Bool:=(match clsIn K C with|some Z=>Z.name==c&&Z.mro==[.ref C,.ref T,.type "ValueError",.type "Exception",.type "BaseException",.type "object"]|none=>false)
 && typeIn K (.ref C)==some (.type "type")&&findIn K (.ref C) "__getattribute__" == some (some (.builtin "BaseException.__getattribute__"))&&findIn K (.ref C) "__getattr__" == some none
 && findIn K (.ref C) "__class__" == some (some (.builtin "object.__class__"))&&specialIn K (.builtin "object.__class__") "__get__" == some (some (.builtin "getset_descriptor.__get__"))&&takesIn K (.builtin "object.__class__")==some true&&!(C==T)
def tIn(K:qH)(T:Lz):Bool:=(match clsIn K T with|some Z=>Z.mro==(.ref T::VB)|none=>false)&&typeIn K (.ref T)==some (.type "type")
def isFr:Obj->Bool
 |⟨_,_,.freed,_⟩=>true|_=>false
def QZ:Ls Obj->Nat->Ls Lz->qH
 | [],_,_=>[]|_::_,_,[]=>[]
 |o::p,i,a::as=>match Nat.beq i a with
  |true=>(match isFr o with
   |true=>QZ p (i+1) as|false=>(i,o)::QZ p (i+1) as)
  |false=>QZ p (i+1) (a::as)
def Yu(h:Heap)(as:Ls Lz):qH:=QZ h.objs.toList 0 as
def FvT:Type:=Bool×Str×Str×Arguments×FuncBody×Scope×Lz×Ls (Str×Lz)×Lv×Lz
def fvOf(b:Bool)(M:FuncData):FvT:=(b,M.name,M.qualname,M.params,M.body,M.scope,M.globals,M.closure,M.defaults,M.builtins)
def zn(K:qH)(n:Str):Lx FvT:=match nsIn K mainGlobals n with
 |some (some (.ref a))=>(match K.lookup a with
  |some ⟨_,_,.func M,_⟩=>some (fvOf (codeIn K M.code n&&keepIn K (.ref a)) M)|_=>none)
 |_=>none
def zo(n:Str)(st:Lh):Lx FvT:=some (fvOf true (fnOf n n (Yd st) (jL st) (zc st) .none .none .none .none none .none .none))
def Jl(K:qH)(n:Str):Lx Int:=match nsIn K mainGlobals n with
 |some (some (.int i _))=>some i|_=>none
def ji(K:qH)(n:Str):Bool:=match nsIn K mainGlobals n with
 |some none=>true|_=>false
def YL(K:qH)(n:Str):Lx Lz:=match nsIn K mainGlobals n with
 |some (some (.ref a))=>some a|_=>none
def zDL(K:qH):Bool:=match K.lookup sysModules with
 |some o=>(match o.data with | .dict _ _=>true|_=>false)
 |none=>false
def zHa(K:qH)(cl rs:Ls Str):Bool :=
 (cl.isEmpty||(match YL K "ThrowError" with
  |some T=>tIn K T&&cl.all λc=>(match YL K c with|some C=>xIn K c C T|none=>false)
  |none=>false)) &&
 (rs.all λc=>(match YL K c with|some C=>excJ K C|none=>false))&&zDL K
end DV
namespace My
open PySem L2 DV
def top(i:Nat):Lh:=PySem.Challenge.pw_throwruns_k28_whole_rings.main.body.getD i (.Pass ⟨0,0,0,0⟩)
abbrev uU:Lh:=top 7
abbrev wt:Lh:=top 8
abbrev wL:Lh:=top 9
abbrev Yv:Lh:=top 10
abbrev uV:Lh:=top 11
abbrev uW:Lh:=top 18
abbrev Wj:Lh:=top 19
abbrev uX:Lh:=top 20
abbrev uY:Lh:=top 21
abbrev uZ:Lh:=top 22
abbrev Yw:Lh:=top 23
abbrev Zn:Lh:=top 24
abbrev Wk:Lh:=top 25
abbrev wu:Lh:=top 26
abbrev YM:Lh:=top 27
abbrev Qa:Lh:=top 28
abbrev Wl:Lh:=top 29
abbrev YN:Lh:=top 30
abbrev Zo:Lh:=top 33
abbrev YO:Lh:=top 34
abbrev Wm:Lh:=top 35
abbrev Jm:Lh:=top 40
abbrev wv:Lh:=top 41
abbrev ww:Lh:=top 42
abbrev Zq:Lh:=top 43
abbrev Wn:Lh:=top 44
abbrev Wo:Lh:=top 45
abbrev Zr:Lh:=top 46
abbrev Zs:Lh:=top 47
abbrev uc:Lh:=top 48
abbrev Zt:Lh:=top 49
abbrev Qb:Lh:=top 50
abbrev Wp:Lh:=top 51
abbrev YQ:Lh:=top 52
abbrev Zu:Lh:=top 53
abbrev Yx:Lh:=top 54
abbrev Zv:Lh:=top 55
abbrev YR:Lh:=top 57
abbrev Wq:Lh:=top 58
abbrev Yy:Lh:=top 59
abbrev Wr:Lh:=top 60
abbrev Yz:Lh:=top 61
abbrev Zw:Lh:=top 62
abbrev j0:Lh:=top 63
abbrev j1:Lh:=top 64
abbrev wM:Lh:=top 65
abbrev s_law:Lh:=top 66
def cl_:Ls Str:=[]
def rs_:Ls Str:=[]
def lkT:Type:=Ls (Lx FvT)×Ls (Lx Int)×Ls Bool×Bool
def Ws(K:qH):lkT:=([zn K "is_whole",zn K "is_whole_within",zn K "greatest_divisor",zn K "whole_power",zn K "share_of",zn K "die_good",zn K "sign_good",zn K "row_good",zn K "need_die",zn K "need_row",zn K "need_number",zn K "need_signs",zn K "need_sign",zn K "greatest_length",zn K "runs_of_sign",zn K "runs_of",zn K "ring_runs",zn K "ring_longest",zn K "weigh_upto",zn K "need_counted",zn K "rows_upto",zn K "weigh_between",zn K "weigh_ring_upto",zn K "weigh_ring_just",zn K "need_round",zn K "ring_upto",zn K "ring_just",zn K "ring_table",zn K "ring_share",zn K "turns_of",zn K "least_turn",zn K "turn_to",zn K "need_kind",zn K "kept_by_turn",zn K "kinds_many",zn K "grown_kinds",zn K "kinds_list",zn K "_law_cell_at",zn K "_law_next",zn K "_law_pen_of",zn K "_law_draw",zn K "_law_row_of",zn K "_law_power",zn K "_law_counts_right",zn K "_law_turned_right",zn K "_law_kinds_right",zn K "law"],[Jl K "LEAST_SIGNS",Jl K "LEAST_WEIGHT",Jl K "MOST_COUNTED",Jl K "MOST_KINDS",Jl K "MOST_OF_KIND",Jl K "MOST_ROUND",Jl K "MOST_SIGNS",Jl K "MOST_THROWS",Jl K "MOST_WEIGHT"],[ji K "abs",ji K "all",ji K "bool",ji K "enumerate",ji K "int",ji K "isinstance",ji K "len",ji K "max",ji K "min",ji K "range",ji K "set",ji K "sorted",ji K "sum",ji K "tuple"],zHa K cl_ rs_)
def wants:lkT:=([zo "is_whole" uU,zo "is_whole_within" wt,zo "greatest_divisor" wL,zo "whole_power" Yv,zo "share_of" uV,zo "die_good" uW,zo "sign_good" Wj,zo "row_good" uX,zo "need_die" uY,zo "need_row" uZ,zo "need_number" Yw,zo "need_signs" Zn,zo "need_sign" Wk,zo "greatest_length" wu,zo "runs_of_sign" YM,zo "runs_of" Qa,zo "ring_runs" Wl,zo "ring_longest" YN,zo "weigh_upto" Zo,zo "need_counted" YO,zo "rows_upto" Wm,zo "weigh_between" Jm,zo "weigh_ring_upto" wv,zo "weigh_ring_just" ww,zo "need_round" Zq,zo "ring_upto" Wn,zo "ring_just" Wo,zo "ring_table" Zr,zo "ring_share" Zs,zo "turns_of" uc,zo "least_turn" Zt,zo "turn_to" Qb,zo "need_kind" Wp,zo "kept_by_turn" YQ,zo "kinds_many" Zu,zo "grown_kinds" Yx,zo "kinds_list" Zv,zo "_law_cell_at" YR,zo "_law_next" Wq,zo "_law_pen_of" Yy,zo "_law_draw" Wr,zo "_law_row_of" Yz,zo "_law_power" Zw,zo "_law_counts_right" j0,zo "_law_turned_right" j1,zo "_law_kinds_right" wM,zo "law" s_law],[some 2,some 1,some 40,some 300,some 12,some 30,some 3,some 20,some 9],[true,true,true,true,true,true,true,true,true,true,true,true,true,true],true)
def q0:Lc:=PySem.Challenge.pw_throwruns_k28_whole_rings
def isLaw:Lh->Bool
 | .FunctionDef f ..=>f == "law"|_=>false
def qP:Lc:={q0 with main:={q0.main with body:=q0.main.body.filter isLaw}}
def nameOf:Lh->Ls Str
 | .FunctionDef f ..=>[f]| .ClassDef f ..=>[f]| .Assign [.Name x _] _ _=>[x]|_=>[]
def ls:Ls Str:=(q0.main.body.flatMap nameOf).filter (· != "law")
def as:Ls Lz:=[1,2,3,15,22,23,24,25,28,35,36,37,40,47,48,49,52,59,60,61,64,71,73,74,76,77,78,79,80,83,85,86,88,89,90,92,93,95,96,97,99,100,102,103,104,106,107,109,110,111,113,114,116,117,118,121,122,123,125,126,128,129,130,133,134,135,137,138,140,141,142,144,145,147,148,149,151,152,154,155,156,158,159,161,162,163,165,166,168,169,170,173,174,175,178,179,180,182,183,185,186,187,189,190,192,193,194,196,197,199,200,201,204,205,206,208,209,211,212,213,215,216,218,219,220,222,223,225,226,227,229,230,232,233,234,236,237,239,240,241,243,244,246,247,248,250,251,253,254,255,257,258,260,261,262,265,266,267,269,270,272,273,274,277,278,279,281,282,284,285,286,288,289,291,292,293,295,296,298,299,300,302,303,305,306,307,310,311,312,315,316,317,320,321,322,324,325,327,328,329,331,332,334,335,336,338,339,341,342,343,345,346,348,349,350,352,353,355,356,357,359,360,362,363,364,366,367,369,370,371,374,375,376,379,380,381,383,384,386,387]
end My
section
open PySem PySem.W PyProof.Rows
theorem My.hz:OpenLaw.wellSaid PySem.Challenge.rw_throwruns_k28_whole_rings=true:=by left
theorem My.h2{α β γ:Type}{o:Lx α}{f:α->β}{g:α->γ}{b:β}{c:γ}(J:o.map f=some b)(Y:o.map g=some c):o.map (λs=>(f s,g s))=some (b,c):=by
 cases o with
 |none=>cases J|some s=>cases J;cases Y;rfl
theorem My.hu:∀(w:Le) (p:OsState),(topFrom treeTable (OpenLaw.row PySem.Challenge.rw_throwruns_k28_whole_rings).toRowW.prog w 5344 ⟨boot_heap w.params,#[],boot_drawn,boot_toks,p⟩).map (λs=>openSeen My.qP My.ls (importedModules (OpenLaw.row PySem.Challenge.rw_throwruns_k28_whole_rings).toRowW.prog.main.body) (λs=>xlAt My.qP [] s&&recOk (RowW.records (OpenLaw.row PySem.Challenge.rw_throwruns_k28_whole_rings).toRowW) s) true s)=some (openGood My.qP My.ls):=by
 intro w p
 kernel_rfl
theorem My.h4{α γ:Type}{o:Lx α}{g:α->Ls γ}{w:Ls γ}(n:Nat)(C:o.map (λs=>(g s).take n)=some (w.take n))(Z:o.map (λs=>(g s).drop n)=some (w.drop n)):o.map g=some w:=by
 cases o with
 |none=>cases C|some s=>exact congrArg some ((List.take_append_drop n (g s)).symm.trans ((congr (congrArg HAppend.hAppend (qJ C)) (qJ Z)).trans (List.take_append_drop n w)))
theorem My.h5{α γ δ:Type}{o:Lx α}{g:α->γ×δ}{w:γ×δ}(C:o.map (λs=>(g s).1)=some w.1)(S:o.map (λs=>(g s).2)=some w.2):o.map g=some w:=by
 cases o with
 |none=>cases C|some s=>exact congrArg some (Prod.ext (qJ C) (qJ S))
theorem My.hv0:∀(w:Le) (p:OsState),(topFrom treeTable (OpenLaw.row PySem.Challenge.rw_throwruns_k28_whole_rings).toRowW.prog w 5344 ⟨boot_heap w.params,#[],boot_drawn,boot_toks,p⟩).map (λs=>((My.Ws (DV.Yu s.heap My.as)).1.take 24))=some (My.wants.1.take 24):=by
 intro w p
 kernel_rfl
theorem My.hv1:∀(w:Le) (p:OsState),(topFrom treeTable (OpenLaw.row PySem.Challenge.rw_throwruns_k28_whole_rings).toRowW.prog w 5344 ⟨boot_heap w.params,#[],boot_drawn,boot_toks,p⟩).map (λs=>((My.Ws (DV.Yu s.heap My.as)).1.drop 24))=some (My.wants.1.drop 24):=by
 intro w p
 kernel_rfl
theorem My.hvc:∀(w:Le) (p:OsState),(topFrom treeTable (OpenLaw.row PySem.Challenge.rw_throwruns_k28_whole_rings).toRowW.prog w 5344 ⟨boot_heap w.params,#[],boot_drawn,boot_toks,p⟩).map (λs=>(My.Ws (DV.Yu s.heap My.as)).2)=some My.wants.2:=by
 intro w p
 kernel_rfl
theorem My.hv(w:Le)(os:OsState):(topFrom treeTable (OpenLaw.row PySem.Challenge.rw_throwruns_k28_whole_rings).toRowW.prog w 5344 ⟨boot_heap w.params,#[],boot_drawn,boot_toks,os⟩).map (λs=>My.Ws (DV.Yu s.heap My.as))=some My.wants:=My.h5 (My.h4 24 (My.hv0 w os) (My.hv1 w os)) (My.hvc w os)
theorem My.ht:∀(w:Le) (p:OsState),(topFrom treeTable (OpenLaw.row PySem.Challenge.rw_throwruns_k28_whole_rings).toRowW.prog w 5344 ⟨boot_heap w.params,#[],boot_drawn,boot_toks,p⟩).map (λs=>(openSeen My.qP My.ls (importedModules (OpenLaw.row PySem.Challenge.rw_throwruns_k28_whole_rings).toRowW.prog.main.body) (λs=>xlAt My.qP [] s&&recOk (RowW.records (OpenLaw.row PySem.Challenge.rw_throwruns_k28_whole_rings).toRowW) s) true s,My.Ws (DV.Yu s.heap My.as)))=some (openGood My.qP My.ls,My.wants):=λw p=>My.h2 (My.hu w p) (My.hv w p)
theorem My.ho:opening (OpenLaw.row PySem.Challenge.rw_throwruns_k28_whole_rings).toRowW.prog=plainProg (OpenLaw.row PySem.Challenge.rw_throwruns_k28_whole_rings).toRowW.prog.main.scope.names:=by kernel_rfl
theorem My.hf:∀s,fenceModules? (OpenLaw.row PySem.Challenge.rw_throwruns_k28_whole_rings).toRowW.prog s=some s:=by
 intro s
 kernel_rfl
theorem My.hl:LeftO (OpenLaw.row PySem.Challenge.rw_throwruns_k28_whole_rings).toRowW.prog My.qP My.ls (λs=>xlAt My.qP [] s&&recOk (RowW.records (OpenLaw.row PySem.Challenge.rw_throwruns_k28_whole_rings).toRowW) s) (λs=>My.Ws (DV.Yu s.heap My.as)) (λ_=>My.wants) 5344:=by
 intro w;obtain⟨s,T,hv⟩:=Option.map_eq_some_iff.mp (boot_open My.ho (N:=5344) rfl My.hf w);unfold openEnds;rw[T];obtain⟨h,g,d,t,p⟩:=s;have J:h=boot_heap w.params:=congrArg Prod.fst hv;have h2:g=#[]:=congrArg (λx=>x.2.1) hv;have Q:d=boot_drawn:=congrArg (λx=>x.2.2.1) hv;have h4:t=boot_toks:=congrArg (λx=>x.2.2.2) hv;subst J;subst h2;subst Q;subst h4;exact My.ht w p
end
namespace L2
open PySem PySem.Spec PyProof.Rows
abbrev Key:=Sum Int Str
def keyIs:Key->Lv->Bool
 | .inl k,v=>Value.isInt k v| .inr x,v=>Value.isStrOf x v
def keyH(w:Le):Key->Int
 | .inl k=>hashInt k| .inr x=>hashStr w x
def yL:∀{k:Key} {v:Lv},keyIs k v=true->(∃i t,k=Sum.inl i/\v=Value.int i t)\/(∃x t,k=Sum.inr x/\v=Value.str x t)
 | .inl i,v,h=>by
  obtain⟨t,e⟩:=Value.isInt_shape (k:=i) (v:=v) h;exact .inl ⟨i,t,rfl,e⟩
 | .inr x,v,h=>by
  obtain⟨t,e⟩:=Value.isStrOf_shape (x:=x) (v:=v) h;exact .inr ⟨x,t,rfl,e⟩
def key_ll(a b:Int):decide ((Sum.inl a:Key)=Sum.inl b)=(a==b):=by
 by_cases e:a=b
 ·subst e;simp
 ·have h:¬(Sum.inl a:Key)=Sum.inl b:=λq=>e (Sum.inl.inj q)
  rw[decide_eq_false h];exact(beq_eq_false_iff_ne.mpr e).symm
def key_rr(a b:Str):decide ((Sum.inr a:Key)=Sum.inr b)=decide (a=b):=by
 by_cases e:a=b
 ·subst e;simp
 ·have h:¬(Sum.inr a:Key)=Sum.inr b:=λq=>e (Sum.inr.inj q)
  rw[decide_eq_false h,decide_eq_false e]
def key_lr(a:Int)(b:Str):decide ((Sum.inl a:Key)=Sum.inr b)=false:=decide_eq_false (λq=>nomatch q)
def key_rl(a:Str)(b:Int):decide ((Sum.inr a:Key)=Sum.inl b)=false:=decide_eq_false (λq=>nomatch q)
def zAr(prog:Lc)(w:Le):PySem.KeyKind prog w Key where
 is:=keyIs
 hash:=keyH w
 inj:=λv a b C Z=>by
  rcases yL C with⟨i,t,rfl,rfl⟩|⟨x,t,rfl,rfl⟩
  ·rcases yL Z with⟨j,u,rfl,e⟩|⟨y,u,rfl,e⟩
   ·injection e with e1 _;rw[e1]
   ·exact nomatch e
  ·rcases yL Z with⟨j,u,rfl,e⟩|⟨y,u,rfl,e⟩
   ·exact nomatch e
   ·injection e with e1 _;rw[e1]
 byValue:=λk v h=>by
  rcases yL h with⟨i,t,rfl,rfl⟩|⟨x,t,rfl,rfl⟩<;>rfl
 pyHash:=λhv h=>by
  rcases yL hv with⟨i,t,rfl,rfl⟩|⟨x,t,rfl,rfl⟩
  ·exact wpAny_pyHash_int h
  ·exact wpAny_pyHash_str h
 eqBool:=λhu hv h=>by
  rcases yL hu with⟨i,t,rfl,rfl⟩|⟨x,t,rfl,rfl⟩
  ·rcases yL hv with⟨j,u,rfl,rfl⟩|⟨y,u,rfl,rfl⟩
   ·rw[key_ll]at h;exact wpAny_eqBool_int h
   ·rw[key_lr]at h;exact SeqAt.EqAt.int_str i t y u _ _ _ _ h
  ·rcases yL hv with⟨j,u,rfl,rfl⟩|⟨y,u,rfl,rfl⟩
   ·rw[key_rl]at h;exact SeqAt.EqAt.str_int x t j u _ _ _ _ h
   ·rw[key_rr]at h;exact wpAny_eqBool_str h
 «strs»:=λk x t v h=>by
  rcases yL h with⟨i,u,rfl,e⟩|⟨y,u,rfl,e⟩
  ·exact nomatch e
  ·injection e with e1 _
   subst e1;cases v<;>rfl
set_option genInjectivity true in
inductive V where
 |non|bl (b:Bool)|int (i:Int)|str (x:Str)|byt (b:Array UInt8)|flt (b:UInt64)|ref (a:Lz)|ty (n:String)
 deriving DecidableEq
def yo:V->Lv->Prop
 | .non,u=>u=Value.none| .bl b,u=>u=Value.bool b| .int i,u=>∃t,u=Value.int i t| .str x,u=>∃t,u=Value.str x t| .byt b,u=>∃t,u=Value.bytes b t| .flt b,u=>∃t,u=Value.float b t| .ref a,u=>u=Value.ref a| .ty n,u=>u=Value.type n
abbrev zq:Ls V->Ls Lv->Prop:=Paired yo
theorem zq.length{xs:Ls V}{D:Ls Lv}(r:zq xs D):xs.length=D.length:=Paired.length r
theorem zq.get:∀{Y:Ls V} {D:Ls Lv} {i:Nat} {x:V},zq Y D->Y[i]?=some x->∃u,D[i]?=some u/\yo x u
 |_,_,_,_,.nil,e=>by simp at e|_,_,0,_,.cons r _,e=>by simp at e;subst e;exact⟨_,rfl,r⟩
 |_,_,i+1,x,.cons _ t,e=>by
  obtain⟨u,J,h2⟩:=zq.get (i:=i) (x:=x) t (by exists e);exact⟨u,by simpa using J,h2⟩
theorem zq.set(r:yo x u):∀{Y:Ls V} {D:Ls Lv} (i:Nat),zq Y D->zq (Y.set i x) (D.set i u)
 |_,_,_,.nil=>.nil|_,_,0,.cons _ t=>.cons r t|_,_,i+1,.cons q t=>.cons q (zq.set r i t)
theorem zq.append:∀{Y T:Ls V} {D O:Ls Lv},zq Y D->zq T O->zq (Y++T) (D++O)
 |_,_,_,_,.nil,s=>s|_,_,_,_,.cons r t,s=>.cons r (zq.append t s)
theorem zq.take:∀{Y:Ls V} {D:Ls Lv} (n:Nat),zq Y D->zq (Y.take n) (D.take n)
 |_,_,0,_=>.nil|_,_,_+1,.nil=>.nil|_,_,n+1,.cons r t=>.cons r (zq.take n t)
theorem zq.drop:∀{Y:Ls V} {D:Ls Lv} (n:Nat),zq Y D->zq (Y.drop n) (D.drop n)
 |_,_,0,r=>r|_,_,_+1,.nil=>.nil|_,_,n+1,.cons _ t=>zq.drop n t
def RelO:Lx V->Lx Lv->Prop
 |some v,some u=>yo v u|none,none=>True|_,_=>False
def KV{κ:Type}:Ls (κ×V)->Ls (κ×Lv)->Prop:=Paired λ(p:κ×V) (q:κ×Lv)=>p.1=q.1/\yo p.2 q.2
def kV:Key->V
 | .inl i=>.int i| .inr x=>.str x
inductive HO where
 /-- a list -/
 |l (xs:List V)
 /-- a tuple (never changes) -/
 |t (xs:List V)
 /-- a dict whose keys are ints and texts; one whose keys are tuples of ints and texts (the empty one is both) -/
 |dK (kvs:List (Key×V))|dT (kvs:List (List Key×V))
 /-- a set of ints: its members,its size -/
 |set (S:Int->Bool) (n:Nat)
 /-- an instance of the class at C,its dict at dx,its attributes -/
 |ins (C dx:Lz) (fs:List (Str×V))
 /-- the dict of the instance at x -/
 |w (x:Lz)
 /-- the dict of an exception -/
 |xd (fs:List (Str×V))
 /-- a bound method,f of x -/
 |met (f x:Lz)
 /-- a range object lo,lo+1,.. below hi -/
 |rng (lo hi:Int)
 /-- a thing that is known to the object (the script; a dict while a loop walks it): read,never written while it is so -/
 |frz (o:Obj) (u:HO)
 /-- a code object's table -/
 |tbl (ps:Lg)
 /-- any other thing,by what is true of its one object (a def of one's own: SetO a S n:=HO.ext fun h=>..) -/
 |ext (φ:Heap->Prop)
 |dN (φ:Heap->Prop)
abbrev Hp:=Lz->Lx HO
def upd(H:Hp)(a:Lz)(o:HO):Hp:=λb=>if b=a then some o else H b
def wN{H:Hp}{a:Lz}{o:HO}:upd H a o a=some o:=by unfold upd;rw[if_pos rfl]
def z8{H:Hp}{a b:Lz}{o:HO}(h:b≠a):upd H a o b=H b:=by unfold upd;rw[if_neg h]
def wx{H:Hp}{a b:Lz}{o:HO}(h:H a=some o)(h':H b=none):a≠b:=by
 intro e;subst e;rw[h]at h';cases h'
section
variable(P:Lc)(w:Le)
def JH(H:Hp)(h:Heap)(a:Lz):HO->Prop
 | .l Y=>Y.length<=sizeLine/\∃(g:Ls Lv) (n:Nat),zq Y g/\h.get? a=some {cls:=.type "list",data:=.seq g.toArray n}| .t Y=>Y.length<=sizeLine/\∃g:Ls Lv,zq Y g/\IsTup h a g.toArray| .dK j=>j.length<=sizeLine/\(a==sysModules)=false/\∃L,KV j L/\h.DictOf (zAr P w) a L
 | .dT j=>j.length<=sizeLine/\(a==sysModules)=false/\∃Y:Ls (Ls Key×Lz×Lv),
   Paired (λ(p:Ls Key×V) (q:Ls Key×Lz×Lv)=>p.1=q.1/\H q.2.1=some (.t (p.1.map kV))/\yo p.2 q.2.2) j Y /\
   ∃o E D,h.get? a=some o/\o.ExactDict/\o.data=.dict E D/\E.toList=Y.map (entryOfKey (tupleKind (zAr P w)))/\(Y.map (·.1)).Nodup
 | .set S n=>h.SetOf (intKind P w) a S n
 | .ins C K fs=>H K=some (.w a)/\fs.length<=1000/\K≠a/\h.get? a=some (instObj C K) /\
   ∃I,h.Ns1 K I/\(∀f,RelO (fs.lookup f) (I f))/\PySem.Within I (fs.map (·.1))
 | .w _=>∃o,h.get? a=some o| .xd fs=>∃I,h.Ns1 a I/\∀f,RelO (fs.lookup f) (I f)| .rng z R=>∃t u v,h.get? a=some {cls:=.type "range",data:=.fields #[.int z t,.int R u,.int 1 v]}| .frz o u=>h.get? a=some o/\JH H h a u| .tbl G=>h.get? a=some {cls:=.none,data:=.fields G}| .met f x=>h.get? a=some (methodObj (.ref f) (.ref x))| .ext φ=>φ h/\(∃o,h.get? a=some o)/\∀J h2:Heap,φ J->(∀o,J.get? a=some o->h2.get? a=some o)->φ h2| .dN φ=>φ h/\(∃o,h.get? a=some o)/\∀J h2:Heap,φ J->(∀o,J.get? a=some o->h2.get? a=some o)->φ h2
def HOk(H:Hp)(h:Heap):Prop:=∀a o,H a=some o->JH P w H h a o
end
section
variable{P:Lc}{w:Le}{H H':Hp}{h h':Heap}{a:Lz}{o:HO}
theorem JH.lt(x:JH P w H h a o):a<h.objs.size:=by
 cases o with
 |l Y=>obtain⟨_,_,_,_,e⟩:=x;exact lt_size e|t Y=>obtain⟨_,_,_,p⟩:=x;exact p.lt|dK j=>obtain⟨_,_,_,_,o,_,_,e,_⟩:=x;exact lt_size e|dT j=>obtain⟨_,_,_,_,o,_,_,e,_⟩:=x;exact lt_size e|set S n=>obtain⟨o,_,_,_,e,_⟩:=x;exact lt_size e|ins C K fs=>obtain⟨_,_,_,e,_⟩:=x;exact lt_size e|w y=>obtain⟨_,e⟩:=x;exact lt_size e|xd fs=>obtain⟨_,⟨_,_,_,e,_⟩,_⟩:=x;exact lt_size e|rng z R=>obtain⟨_,_,_,e⟩:=x;exact lt_size e|frz J u=>obtain⟨e,_⟩:=x;exact lt_size e|tbl G=>exact lt_size (show h.get? a=some _ from x)|met f y=>exact lt_size (show h.get? a=some _ from x)|ext φ=>obtain⟨_,⟨_,e⟩,_⟩:=x;exact lt_size e|dN φ=>obtain⟨_,⟨_,e⟩,_⟩:=x;exact lt_size e
theorem Paired.mapP{α β:Type}{F G:α->β->Prop}:∀{l:Ls α} {c:Ls β},Paired F l c->(∀a b,F a b->G a b)->Paired G l c
 |_,_,.nil,_=>.nil|_,_,.cons r t,f=>.cons (f _ _ r) (Paired.mapP t f)
def JH.stay(x:JH P w H h a o)(k:∀b u,(b=a\/H b=some (.w a))->h.get? b=some u->h'.get? b=some u)
  (Q:∀b,H b=some (.w a)->H' b=some (.w a)) (W:∀b Y,H b=some (.t Y)->H' b=some (.t Y)):JH P w H' h' a o:=by
 induction o with
 |l Y=>obtain⟨z,g,n,r,e⟩:=x;exact⟨z,g,n,r,k _ _ (.inl rfl) e⟩|t Y=>obtain⟨z,g,r,J,e,c⟩:=x;exact⟨z,g,r,J,k _ _ (.inl rfl) e,c⟩|dK j=>obtain⟨z,y,L,r,J,E,D,e,c⟩:=x;exact⟨z,y,L,r,J,E,D,k _ _ (.inl rfl) e,c⟩
 |dT j =>
  obtain⟨z,y,Y,r,J,E,D,e,c⟩:=x;exact⟨z,y,Y,Paired.mapP r λp q z=>⟨z.1,W _ _ z.2.1,z.2.2⟩,J,E,D,k _ _ (.inl rfl) e,c⟩
 |set S n=>obtain⟨J,E,D,t,e,c⟩:=x;exact⟨J,E,D,t,k _ _ (.inl rfl) e,c⟩
 |ins C K fs =>
  obtain⟨d,z,T,e,I,⟨i,E,D,O,c⟩,r⟩:=x;exact⟨Q _ d,z,T,k _ _ (.inl rfl) e,I,⟨i,E,D,k _ _ (.inr d) O,c⟩,r⟩
 |w y=>obtain⟨J,e⟩:=x;exact⟨J,k _ _ (.inl rfl) e⟩|xd fs=>obtain⟨I,⟨i,E,D,e,c⟩,r⟩:=x;exact⟨I,⟨i,E,D,k _ _ (.inl rfl) e,c⟩,r⟩|rng X R=>obtain⟨t,u,v,e⟩:=x;exact⟨t,u,v,k _ _ (.inl rfl) e⟩|frz J u M=>obtain⟨e,q⟩:=x;exact⟨k _ _ (.inl rfl) e,M q⟩
 |tbl G =>
  have e:h.get? a=some {cls:=.none,data:=.fields G}:=x;show h'.get? a=some {cls:=.none,data:=.fields G};exact k a _ (.inl rfl) e
 |met f y =>
  have e:h.get? a=some (methodObj (.ref f) (.ref y)):=x;show h'.get? a=some (methodObj (.ref f) (.ref y));exact k a _ (.inl rfl) e
 |ext φ=>obtain⟨p,⟨o,e⟩,V⟩:=x;exact⟨V _ _ p λo q=>k _ _ (.inl rfl) q,⟨o,k _ _ (.inl rfl) e⟩,V⟩|dN φ=>obtain⟨p,⟨o,e⟩,V⟩:=x;exact⟨V _ _ p λo q=>k _ _ (.inl rfl) q,⟨o,k _ _ (.inl rfl) e⟩,V⟩
theorem HOk.lt(x:HOk P w H h)(e:H a=some o):a<h.objs.size:=(x a o e).lt
def HOk.fresh(x:HOk P w H h)(e:h.objs.size<=a):H a=none:=by
 cases q:H a with
 |none=>rfl|some u=>exact absurd (lt_of_lt_of_le (x.lt q) e) (lt_irrefl _)
def HOk.kept(x:HOk P w H h)(k:∀b u,h.get? b=some u->h'.get? b=some u):HOk P w H h':=λa o e =>
 (x a o e).stay (λb u _ q=>k b u q) (λ_ q=>q) λ_ _ q=>q
def HOk.laid(x:HOk P w H h)(k:∀b u,h.get? b=some u->h'.get? b=some u)(L:h.objs.size<=a)(p:JH P w (upd H a o) h' a o):HOk P w (upd H a o) h':=λb u e=>by
 have K:=x.fresh L;by_cases Z:b=a
 ·subst Z;rw[wN]at e;cases e;exact p
 ·rw[z8 Z]at e
  exact(x b u e).stay (λc v _ q=>k c v q) (λc q=>by rw[z8 (wx q K)];exact q) λc Y q=>by rw[z8 (wx q K)];exact q
end
def Rd(H:Hp)(a:Lz)(u:HO):Prop:=H a=some u\/∃o,H a=some (.frz o u)
def Rd.of(h:H a=some u):Rd H a u:=.inl h
def Rd.ok{P:Lc}{w:Le}{H:Hp}{h:Heap}{a:Lz}{u:HO}(r:Rd H a u)(x:HOk P w H h):JH P w H h a u:=by
 rcases r with r|⟨o,r⟩
 ·exact x a u r
 ·obtain⟨_,q⟩:=x a _ r
  exact q
def Mut:Lx HO->Prop
 |some (.l _)=>True|some (.dK _)=>True|some (.dT _)=>True|some (.set _ _)=>True|some (.ins _ _ _)=>True|some (.ext _)=>True|some (.dN _)=>True|_=>False
section
variable{P:Lc}{w:Le}{H:Hp}{h h':Heap}{x e:Lz}{o':HO}
def HOk.write(ok:HOk P w H h)(a:Mut (H x))(l:e=x\/H e=some (.w x))(k:∀b u,b≠e->h.get? b=some u->h'.get? b=some u)(i:∃u,h'.get? e=some u)
  (p:JH P w (upd H x o') h' x o'):HOk P w (upd H x o') h':=λb u q=>by
 have n:∀c y,H c=some (.w y)->c≠x:=λc y r z=>by subst z;rw[r]at a;exact a
 have j:∀c Y,H c=some (.t Y)->c≠x:=λc Y r z=>by subst z;rw[r]at a;exact a
 by_cases Z:b=x
 ·subst Z;rw[wN]at q;cases q;exact p
 ·rw[z8 Z]at q
  by_cases g:b=e
  ·have G:H b=some (.w x):=by
    rcases l with z|z
    ·exact absurd (g.trans z) Z
    ·rw[g];exact z
   rw[q]at G;cases G;obtain⟨v,hv⟩:=i;exact⟨v,by rw[g];exact hv⟩
  ·refine(ok b u q).stay (λc v S r=>k c v ?_ r) (λc r=>by rw[z8 (n c b r)];exact r) λc Y r=>by rw[z8 (j c Y r)];exact r
   rcases S with rfl|S
   ·exact g
   ·rintro rfl
    rcases l with z|z
    ·exact n c b S z
    ·rw[S]at z;cases z;exact Z rfl
end
structure Un(fs ex:List Lz)(H H':Hp)(h h':Heap):Prop where
 keep:∀b o,h.get? b=some o->H b=none->b∉fs->b∉ex->h'.get? b=some o
 slot:∀b o,h.get? b=some o->H b=none->b∈fs->b∉ex->∃sl,h'.get? b=some {o with slots:=sl}
 free:∀b o,h.get? b=some o->H b=none->b∉ex->H' b=none
 there:∀b o,h.get? b=some o->b∉ex->∃o',h'.get? b=some o'
 tups:∀b xs,H b=some (.t xs)->H' b=some (.t xs)
 frzs:∀b o u,H b=some (.frz o u)->H' b=some (.frz o u)
 tbls:∀b ps,H b=some (.tbl ps)->∃more,H' b=some (.tbl (ps++more))
section
variable{fs fs' ex ex':Ls Lz}{H H1 H2:Hp}{h h1 h2 h':Heap}{a x e:Lz}{o:HO}
def Un.any(u:Un fs ex H H1 h h1){b:Lz}{J:Obj}(q:h.get? b=some J)(n:H b=none)(M:b∉ex):∃D,h1.get? b=some {J with slots:=D}:=by
 by_cases Z:b∈fs
 ·exact u.slot b J q n Z M
 ·exact⟨J.slots,u.keep b J q n Z M⟩
def Un.trans(a:Un fs ex H H1 h h1)(b:Un fs ex H1 H2 h1 h2):Un fs ex H H2 h h2 where
 keep:=λc J q n S M=>b.keep c J (a.keep c J q n S M) (a.free c J q n M) S M
 slot:=λc J q n S M=>by
  obtain⟨D,W⟩:=a.slot c J q n S M;obtain⟨Q,P⟩:=b.slot c _ W (a.free c J q n M) S M;exact⟨Q,P⟩
 free:=λc J q n M=>by
  obtain⟨R,W⟩:=a.there c J q M;exact b.free c R W (a.free c J q n M) M
 there:=λc J q M=>by
  obtain⟨R,W⟩:=a.there c J q M;exact b.there c R W M
 tups:=λc Y q=>b.tups c Y (a.tups c Y q)
 frzs:=λc J Y q=>b.frzs c J Y (a.frzs c J Y q)
 tbls:=λc G q=>by
  obtain⟨m1,W⟩:=a.tbls c G q;obtain⟨z,P⟩:=b.tbls c _ W;exact⟨m1++z,by rw[P,Array.append_assoc]⟩
def Un.kept(k:∀b u,h.get? b=some u->h'.get? b=some u):Un fs ex H H h h' :=
 ⟨λb J q _ _ _=>k b J q,λb J q _ _ _=>⟨J.slots,k b J q⟩,λ_ _ _ n _=>n,λb J q _=>⟨J,k b J q⟩,λ_ _ q=>q,λ_ _ _ q=>q,λ_ G q=>⟨#[],by rw[q];simp⟩⟩
def Un.refl:Un fs ex H H h h:=Un.kept λ_ _ q=>q
def Un.laid(k:∀b u,h.get? b=some u->h'.get? b=some u)(L:h.objs.size<=a)(hn:H a=none):Un fs ex H (upd H a o) h h' where
 keep:=λb u q _ _ _=>k b u q
 slot:=λb u q _ _ _=>⟨u.slots,k b u q⟩
 free:=λb u q n _=>by rw[z8 (ne_of_lt (lt_of_lt_of_le (lt_size q) L))];exact n
 there:=λb u q _=>⟨u,k b u q⟩
 tups:=λb Y q=>by rw[z8 (wx q hn)];exact q
 frzs:=λb u Y q=>by rw[z8 (wx q hn)];exact q
 tbls:=λb G q=>⟨#[],by rw[z8 (wx q hn),q];simp⟩
def Un.write(a:Mut (H x))(c:e=x\/H e=some (.w x))(k:∀b u,b≠e->h.get? b=some u->h'.get? b=some u)(i:∃u,h'.get? e=some u):Un fs ex H (upd H x o) h h':=by
 have M:∀b,H b=none->b≠x:=λb n z=>by subst z;rw[n]at a;exact a
 have Z:∀b,H b=none->b≠e:=λb n z=>by
  subst z;rcases c with r|r
  ·exact M b n r
  ·rw[n]at r;cases r
 have Y:∀b u,H b=some u->¬Mut (some u)->b≠x:=λb u q nm z=>by subst z;rw[q]at a;exact nm a
 refine⟨λb u q n _ _=>k b u (Z b n) q,λb u q n _ _=>⟨u.slots,k b u (Z b n) q⟩,λb u q n _=>by rw[z8 (M b n)];exact n,λb u q _=>?_,
  λb j q=>by rw[z8 (Y b _ q λz=>z)];exact q,λb u j q=>by rw[z8 (Y b _ q λz=>z)];exact q,λb G q=>⟨#[],by rw[z8 (Y b _ q λz=>z),q];simp⟩⟩
 by_cases g:b=e
 ·subst g;exact i
 ·exact⟨u,k b u g q⟩
def Un.mono(u:Un fs ex H H1 h h1)(T:∀b∈fs,b∈fs')(M:∀b∈ex,b∈ex'):Un fs' ex' H H1 h h1 :=
 ⟨λb J q n Z c=>u.keep b J q n (λz=>Z (T b z)) λz=>c (M b z),λ_ _ q n _ c=>u.any q n λz=>c (M _ z),λb J q n c=>u.free b J q n λz=>c (M b z),λb J q c=>u.there b J q λz=>c (M b z),u.tups,u.frzs,u.tbls⟩
end
def trk(h:Heap)(H:Hp):Ls Lz:=(List.range h.objs.size).filter λa=>(H a).isSome
def zFs(h:Heap)(H:Hp):Heap:=hideAll h (trk h H)
def zDM(h:Heap)(H:Hp):(zFs h H).objs.size=h.objs.size:=PySem.W.hideAll_size _ _
def zFt(e:h.get? b=some o)(n:H b=none):(zFs h H).get? b=some o :=
 hideAll_get _ e λY=>by
  have q:(H b).isSome=true:=(mem_filter.mp Y).2;rw[n]at q;simp at q
def of_hidT(e:(zFs h H).get? b=some o):h.get? b=some o/\H b=none:=by
 have C:h.get? b=some o:=of_hideAll (trk h H) e;refine⟨C,?_⟩;cases q:H b with
 |none=>rfl
 |some x =>
  have Y:b∈trk h H:=mem_filter.mpr ⟨mem_range.mpr (lt_size C),by simp[q]⟩;have z:(zFs h H).get? b=none:=PySem.W.hideAll_none (trk h H) Y;rw[z]at e;cases e
def allNews(g h:Heap)(L:Lz):Ls (Lz×Obj):=(List.range h.objs.size).filterMap λa=>if a=L\/(g.get? a).isSome=true then none else(h.get? a).map λo=>(a,o)
def jk(g h:Heap)(L d:Lz):Ls (Lz×Obj):=(allNews g h L).filter λp=>decide (p.1≠d)
structure Mod(K:qH)(mg:Str->Lp)(base:Heap):Prop where
 kin:K.In base
 glob:base.Ns mainGlobals mg
 blt:∃mb,base.Ns builtinsNs mb/\∀x:Str,x≠"__name__"->mb x=bootBuiltins x
 nolimit:base.NoLimit
structure Cx where
 prog:Lc
 w:Le
 K:qH
 mg:Str->Lp
 base:Heap
 A:Li
 N:Lo
 s₀:La
 H₀:Hp
 env:Env
 outer:List Env
 stack:List Env
 ex:List Lz
 fn:Str->Bool
 calm:Bool
 pn:List (Lz×Obj)
 xe:Ly
def frs(l:Ls Env):Ls Lz:=l.filterMap (·.frame)
abbrev Cx.fs(X:Cx):Ls Lz:=frs X.outer
def Vis(sc:Scope)(x:Str):Prop:=sc.names.lookup x=some .local\/sc.names.lookup x=some .cell\/sc.names.lookup x=some .free
def Loc(sc:Scope)(x:Str):Prop:=sc.names.lookup x=some .local\/sc.names.lookup x=some .cell
def Look(env:Env)(h:Heap)(m:Str->Lx Lv)(x:Str)(u:Lv):Prop :=
 (env.kindOf x=some .local/\m x=some u)\/((env.kindOf x=some .cell\/env.kindOf x=some .free)/\∃c,env.cells.lookup x=some c/\h.IsCell c (some u))
structure Cx.Ok(X:Cx):Prop where
 mod:Mod X.K X.mg X.base
 kind:X.env.scope.kind=.function
 glob:X.env.globals=mainGlobals
 blt:X.env.builtins=builtinsNs
 above:X.s₀.heap.objs.size<=X.env.locals
 inj:∀x y c,X.env.cells.lookup x=some c->X.env.cells.lookup y=some c->x=y
 has:∀x,(X.env.kindOf x=some .cell\/X.env.kindOf x=some .free)->∃c,X.env.cells.lookup x=some c
 cab:∀x c,X.fn x=true->X.env.cells.lookup x=some c->X.s₀.heap.objs.size<=c
 hd:X.calm=true->X.A.handled=none
 frames:X.A.frames=some X.stack
 stk:X.stack=X.outer\/(X.stack=X.env::X.outer/\X.env.frame=some X.env.locals)
 exf:∀b∈X.ex,b≠X.env.locals/\∀x c,X.env.cells.lookup x=some c->c≠b
 bs:∀b o,X.base.get? b=some o->X.s₀.heap.get? b=some o/\X.H₀ b=none
 bsz:X.base.objs.size<=X.s₀.heap.objs.size
 noex:∀b o,X.base.get? b=some o->b∉X.ex
 exfs:∀b∈X.ex,b∉X.fs
 funs:X.s₀.heap.FunFrames X.base X.outer
 frf:∀b∈X.fs,X.H₀ b=none
structure Inv(X:Cx)(pins:List (Lz×Obj))(O:List (Option V))(H:Hp)(s:La):Prop where
 ok:X.Ok
 os:s.os=X.s₀.os
 bare:AllBare s.gens
 base:Un X.fs X.ex X.H₀ H X.s₀.heap s.heap
 loc:∃m,s.heap.Ns X.env.locals m/\∀(i:Nat) (x:Str) (v:V),X.N[i]?=some x->O[i]?=some (some v)->Vis X.env.scope x->∃u,yo v u/\Look X.env s.heap m x u
 cell:∀x c,X.env.cells.lookup x=some c->∃v,s.heap.IsCell c v
 free:H X.env.locals=none
 freeC:∀x c,X.env.cells.lookup x=some c->H c=none
 pin:∀p∈X.pn++pins,s.heap.get? p.1=some p.2/\H p.1=none/\p.1≠X.env.locals/\p.1∉X.fs/\∀v,p.2.data≠.cell v
 hok:HOk X.prog X.w H s.heap
 len:O.length=X.N.length
section
variable{X:Cx}{pins:Ls (Lz×Obj)}{O:Ls (Lx V)}{H H':Hp}{s:La}{h':Heap}
def Cx.Ok.nofr(ok:X.Ok)(e:X.base.get? b=some o):b∉X.fs:=λZ=>by
 have:=(ok.funs.mem Z).1;rw[e]at this;cases this
theorem Inv.bs(I:Inv X pins O H s):∀b o,X.base.get? b=some o->s.heap.get? b=some o/\H b=none:=λb o e =>
 ⟨I.base.keep b o (I.ok.bs b o e).1 (I.ok.bs b o e).2 (I.ok.nofr e) (I.ok.noex b o e),I.base.free b o (I.ok.bs b o e).1 (I.ok.bs b o e).2 (I.ok.noex b o e)⟩
def Inv.bk(I:Inv X pins O H s):∀b o,X.base.get? b=some o->s.heap.get? b=some o:=λb o e=>(I.bs b o e).1
theorem Inv.mod(I:Inv X pins O H s):Mod X.K X.mg X.base:=I.ok.mod
def Inv.kIn(I:Inv X pins O H s):X.K.In s.heap:=I.ok.mod.kin.keeps I.bk
theorem Inv.nolimit(I:Inv X pins O H s):s.heap.NoLimit:=I.ok.mod.nolimit.keeps I.bk
def Inv.fr(I:Inv X pins O H s):∃m,Fr X.base X.env.locals s.heap m :=
 let ⟨m,hn,_⟩:=I.loc
 ⟨m,hn,I.bk,le_trans I.ok.bsz I.ok.above⟩
theorem Inv.lt(I:Inv X pins O H s):X.env.locals<s.heap.objs.size:=let ⟨_,hn,_⟩:=I.loc;hn.lt
def Inv.sz(I:Inv X pins O H s):X.s₀.heap.objs.size<=s.heap.objs.size:=le_trans I.ok.above (Nat.le_of_lt I.lt)
def Inv.nofs(I:Inv X pins O H s)(h:s.heap.objs.size<=a):a∉X.fs:=λZ=>by
 obtain⟨_,o,ho,_⟩:=I.ok.funs.mem Z;exact absurd (lt_of_lt_of_le (lt_size ho) (le_trans I.sz h)) (lt_irrefl _)
def Inv.cne(I:Inv X pins O H s):∀x c,X.env.cells.lookup x=some c->c≠X.env.locals:=λx c e z=>by
 obtain⟨v,o,ho,C⟩:=I.cell x c e;obtain⟨m,⟨R,E,D,M,h,_⟩,_⟩:=I.loc;rw[z,M]at ho;cases ho;rw[h]at C;cases C
theorem Inv.funs(I:Inv X pins O H s):s.heap.FunFrames X.base X.outer:=by
 have all:∀(l:Ls Env),(∀b∈frs l,b∈X.fs)->X.s₀.heap.FunFrames X.base l->s.heap.FunFrames X.base l:=by
  intro l
  induction l with
  |nil=>intro _ _;trivial
  |cons p r u =>
   intro T hl;obtain⟨V,⟨L,o,hf,K,ho,C⟩,a⟩:=hl;have i:L∈X.fs:=T L (by unfold frs;rw[filterMap_cons,hf];exact qE);obtain⟨D,e⟩:=I.base.slot L o ho (I.ok.frf L i) i λz=>I.ok.exfs L z i
   exact⟨V,⟨L,_,hf,K,e,C⟩,u (λb Z=>T b (by unfold frs;rw[filterMap_cons,hf];exact qD _ Z)) a⟩
 exact all X.outer (λ_ Z=>Z) I.ok.funs
theorem Inv.stack(I:Inv X pins O H s):s.heap.FunFrames X.base X.stack:=by
 rcases I.ok.stk with e|⟨e,hf⟩
 ·rw[e];exact I.funs
 ·rw[e]
  obtain⟨m,K,_⟩:=I.loc;refine .cons (by rw[I.ok.kind];decide) hf K ?_ I.funs;exact Heap.get?_none_of_le (le_trans I.ok.bsz I.ok.above)
def Inv.stkSub(I:Inv X pins O H s):∀b∈frs X.stack,b∈X.env.locals::X.fs:=λb Z=>by
 rcases I.ok.stk with e|⟨e,hf⟩
 ·rw[e]at Z;exact qD _ Z
 ·rw[e]at Z
  unfold frs at Z;rw[filterMap_cons,hf]at Z;exact Z
def Inv.stkFree(I:Inv X pins O H s):∀b∈frs X.stack,H b=none:=λb Z=>by
 rcases mem_cons.mp (I.stkSub b Z)with e|Z
 ·rw[e];exact I.free
 ·obtain⟨_,o,ho,_⟩:=I.ok.funs.mem Z
  exact I.base.free b o ho (I.ok.frf b Z) λz=>I.ok.exfs b z Z
def Inv.step{g':Array GenState}{t':Nat}{d':Drawn}{ch:Ls Lz}(I:Inv X pins O H s)
  (h:∀b∈ch,(b∈X.ex\/X.s₀.heap.objs.size<=b)/\b≠X.env.locals/\(∀x c,X.env.cells.lookup x=some c->c≠b)/\∀p∈X.pn++pins,p.1≠b)
  (E:∀b o,b≠X.env.locals->b∉X.fs->b∉ch->s.heap.get? b=some o->H b=none->h'.get? b=some o)
  (j:∀b o,b≠X.env.locals->b∈X.fs->b∉ch->s.heap.get? b=some o->H b=none->∃D,h'.get? b=some {o with slots:=D}) (J:∀b o,b∉ch->s.heap.get? b=some o->H b=none->H' b=none)
  (t:∀b o,b∉ch->s.heap.get? b=some o->∃R,h'.get? b=some R)
  (V:∀b Y,H b=some (.t Y)->H' b=some (.t Y)) (ab:∀b o u,H b=some (.frz o u)->H' b=some (.frz o u)) (ac:∀b G,H b=some (.tbl G)->∃more,H' b=some (.tbl (G++more)))
  (ns:∀m,s.heap.Ns X.env.locals m->h'.Ns X.env.locals m) (y:HOk X.prog X.w H' h') (hg:AllBare g') :
  Inv X pins O H' {s with heap:=h',gens:=g',drawn:=d',toks:=t'}:=by
 have T:∀b o,X.s₀.heap.get? b=some o->b≠X.env.locals:=λb o e=>ne_of_lt (lt_of_lt_of_le (lt_size e) I.ok.above)
 have w:∀b o,X.s₀.heap.get? b=some o->b∉X.ex->b∉ch:=λb o e M Z=>by
  rcases(h b Z).1 with z|z
  ·exact M z
  ·exact absurd (lt_of_lt_of_le (lt_size e) z) (lt_irrefl _)
 have aa:∀x c,X.env.cells.lookup x=some c->∀v,s.heap.IsCell c v->h'.IsCell c v:=λx c e v ⟨o,ho,C⟩=>by
  have a:c∉ch:=λz=>(h c z).2.2.1 x c e rfl
  by_cases S:c∈X.fs
  ·obtain⟨D,q⟩:=j c o (I.cne x c e) S a ho (I.freeC x c e)
   exact⟨_,q,C⟩
  ·exact⟨o,E c o (I.cne x c e) S a ho (I.freeC x c e),C⟩
 refine⟨I.ok,I.os,hg,⟨λb o e n Z M=>?_,λb o e n Z M=>?_,λb o e n M=>?_,λb o e M=>?_,λb Y e=>V b Y (I.base.tups b Y e),λb o Y e=>ab b o Y (I.base.frzs b o Y e),λb G e=>?_⟩,?_,λx c e=>?_,?_,λx c e=>?_,λp L=>?_,y,I.len⟩
 ·exact E b o (T b o e) Z (w b o e M) (I.base.keep b o e n Z M) (I.base.free b o e n M)
 ·obtain⟨D,W⟩:=I.base.slot b o e n Z M
  obtain⟨Q,P⟩:=j b _ (T b o e) Z (w b o e M) W (I.base.free b o e n M);exact⟨Q,P⟩
 ·obtain⟨R,W⟩:=I.base.there b o e M
  exact J b R (w b o e M) W (I.base.free b o e n M)
 ·obtain⟨R,W⟩:=I.base.there b o e M
  exact t b R (w b o e M) W
 ·obtain⟨m1,W⟩:=I.base.tbls b G e
  obtain⟨m2,P⟩:=ac b _ W;exact⟨m1++m2,by rw[P,Array.append_assoc]⟩
 ·obtain⟨m,K,hl⟩:=I.loc
  refine⟨m,ns m K,λi x v W P e3=>?_⟩;obtain⟨u,r,l⟩:=hl i x v W P e3;refine⟨u,r,?_⟩;rcases l with l|⟨k,c,e,z⟩
  ·exact .inl l
  ·exact .inr ⟨k,c,e,aa x c e _ z⟩
 ·obtain⟨v,z⟩:=I.cell x c e
  exact⟨v,aa x c e v z⟩
 ·obtain⟨m,⟨o,_,_,ho,_⟩,_⟩:=I.loc
  exact J _ o (λz=>(h _ z).2.1 rfl) ho I.free
 ·obtain⟨v,o,ho,C⟩:=I.cell x c e
  exact J c o (λz=>(h c z).2.2.1 x c e rfl) ho (I.freeC x c e)
 ·obtain⟨e,n,g,nf,d⟩:=I.pin p L
  have a:p.1∉ch:=λz=>(h p.1 z).2.2.2 p L rfl
  exact⟨E p.1 p.2 g nf a e n,J p.1 p.2 a e n,g,nf,d⟩
def Inv.un{t':Nat}(I:Inv X pins O H s)(u:Un X.fs [] H H' s.heap h')(y:HOk X.prog X.w H' h'):Inv X pins O H' {s with heap:=h',toks:=t'}:=by
 obtain⟨m,⟨o,E,D,ho,r⟩,_⟩:=id I.loc;obtain⟨c,i⟩:=u.any ho I.free (by simp);exact I.step (g':=s.gens) (d':=s.drawn) (ch:=[]) (λ_ z=>nomatch z) (λb o _ Z _ e n=>u.keep b o e n Z (by simp)) (λb o _ Z _ e n=>u.slot b o e n Z (by simp)) (λb o _ e n=>u.free b o e n (by simp)) (λb o _ e=>u.there b o e (by simp)) u.tups u.frzs u.tbls (λk Y=>by
  obtain⟨R,a,K,M,L⟩:=Y;rw[ho]at M;cases M;exact⟨_,a,K,i,L⟩) y I.bare
def Inv.call{g':Array GenState}{t':Nat}{d':Drawn}{ch:Ls Lz}(I:Inv X pins O H s)(u:Un (frs X.stack) ch H H' s.heap h')(y:HOk X.prog X.w H' h')(t:AllBare g')
  (h:∀b∈ch,(b∈X.ex\/X.s₀.heap.objs.size<=b)/\b≠X.env.locals/\(∀x c,X.env.cells.lookup x=some c->c≠b)/\∀p∈X.pn++pins,p.1≠b) :
  Inv X pins O H' {s with heap:=h',gens:=g',drawn:=d',toks:=t'}:=by
 obtain⟨m,⟨o,E,D,ho,r⟩,_⟩:=id I.loc;obtain⟨g,i⟩:=u.any ho I.free λz=>(h _ z).2.1 rfl
 exact I.step (ch:=ch) h (λb o i Z S e n=>u.keep b o e n (λz=>(mem_cons.mp (I.stkSub b z)).elim i Z) S) (λb o _ _ S e n=>u.any e n S) (λb o S e n=>u.free b o e n S) (λb o S e=>u.there b o e S) u.tups u.frzs u.tbls (λk Y=>by
  obtain⟨R,a,K,M,L⟩:=Y;rw[ho]at M;cases M;exact⟨_,a,K,i,L⟩) y t
def Inv.turned{t':Nat}{it:Lz}(I:Inv X pins O H s)(k:∀b o,b≠it->s.heap.get? b=some o->h'.get? b=some o)(hn:H it=none)(i:it≠X.env.locals)
  (J:it∈X.ex\/X.s₀.heap.objs.size<=it) (Y:∀x c,X.env.cells.lookup x=some c->c≠it) (Q:∀p∈X.pn++pins,p.1≠it):Inv X pins O H {s with heap:=h',toks:=t'}:=by
 have a:∀b u,H b=some u->b≠it:=λb u e z=>by rw[z,hn]at e;cases e
 refine I.step (g':=s.gens) (d':=s.drawn) (ch:=[it]) (λb Z=>?_) (λb o _ _ S e _=>k b o (λz=>S (by simp[z])) e) (λb o _ _ S e _=>⟨o.slots,k b o (λz=>S (by simp[z])) e⟩) (λ_ _ _ _ n=>n)
  (λb o S e=>⟨o,k b o (λz=>S (by simp[z])) e⟩) (λ_ _ e=>e) (λ_ _ _ e=>e) (λb G e=>⟨#[],by rw[e];simp⟩) (λm g=>?_) (λb u e=>?_) I.bare
 ·have e:b=it:=by exists Z
  subst e;exact⟨J,i,Y,Q⟩
 ·obtain⟨o,E,D,ho,r⟩:=g
  exact⟨o,E,D,k _ o (Ne.symm i) ho,r⟩
 ·refine(I.hok b u e).stay (λc v S q=>k c v ?_ q) (λ_ q=>q) λ_ _ q=>q
  rcases S with z|z
  ·rw[z];exact a b u e
  ·exact a c _ z
def Inv.tok(I:Inv X pins O H s)(t:Nat):Inv X pins O H {s with toks:=t}:=I.un (h':=s.heap) (t':=t) Un.refl I.hok
theorem Inv.kept(I:Inv X pins O H s)(k:∀b u,s.heap.get? b=some u->h'.get? b=some u):Inv X pins O H {s with heap:=h',toks:=t'}:=I.un (Un.kept k) (I.hok.kept k)
theorem Inv.laid{a:Lz}{o:HO}{t':Nat}(I:Inv X pins O H s)(k:∀b u,s.heap.get? b=some u->h'.get? b=some u)(L:s.heap.objs.size<=a)(p:JH X.prog X.w (upd H a o) h' a o) :
  Inv X pins O (upd H a o) {s with heap:=h',toks:=t'}:=I.un (Un.laid k L (I.hok.fresh L)) (I.hok.laid k L p)
theorem Inv.write(I:Inv X pins O H s)(a:Mut (H x))(c:e=x\/H e=some (.w x))(k:∀b u,b≠e->s.heap.get? b=some u->h'.get? b=some u)(i:∃u,h'.get? e=some u)
  (p:JH X.prog X.w (upd H x o) h' x o):Inv X pins O (upd H x o) {s with heap:=h',toks:=t'}:=I.un (Un.write a c k i) (I.hok.write a c k i p)
def Inv.weak(I:Inv X pins O H s)(c:O'.length=O.length)(w:∀(i:Nat) v,O'[i]?=some (some v)->O[i]?=some (some v)):Inv X pins O' H s :=
 ⟨I.ok,I.os,I.bare,I.base,let ⟨m,hn,hl'⟩:=I.loc;⟨m,hn,λi x v W P n=>hl' i x v W (w i v P) n⟩,I.cell,I.free,I.freeC,I.pin,I.hok,c.trans I.len⟩
def Inv.pins_of(I:Inv X pins O H s)(h:∀p∈pins',s.heap.get? p.1=some p.2/\H p.1=none/\p.1≠X.env.locals/\p.1∉X.fs/\∀v,p.2.data≠.cell v):Inv X pins' O H s :=
 ⟨I.ok,I.os,I.bare,I.base,I.loc,I.cell,I.free,I.freeC,λp L=>(mem_append.mp L).elim (λz=>I.pin p (mem_append_left _ z)) (h p),I.hok,I.len⟩
def zBe{N:Ls Str}(E:N.Nodup){i j:Nat}{x:Str}(a:N[i]?=some x)(b:N[j]?=some x):i=j:=by
 obtain⟨J,W⟩:=qG.mp a;obtain⟨h2,P⟩:=qG.mp b;exact(List.getElem_inj E).mp (W.trans P.symm)
def Qc{M:Model}{A:Li}{E:Ly}{i:Nat}{x:Str}{v:V}{u:Lv}{Q:Unit->La->Prop}(I:Inv X pins O H s)(hN:X.N.Nodup)(hi:X.N[i]?=some x)(hx:Loc X.env.scope x)(r:yo v u)
  (h:∀s',Inv X pins (O.set i (some v)) H s'->(∃a,Heap.SameBut a s.heap s'.heap/\(a=X.env.locals\/X.env.cells.lookup x=some a))->Q () s') (hf:X.fn x=true\/X.env.scope.names.lookup x=some .local:=by first|exact .inl rfl|exact .inr rfl|assumption):wpAny M A (storeName X.env x u) Q E s:=by
 obtain⟨m,K,hl⟩:=id I.loc;have ad:(X.env.scope.kind==.class||(X.env.scope.kind==.module&&X.env.locals != X.env.globals))=false:=by rw[I.ok.kind];rfl
 have ae:i<O.length:=by rw[I.len];exact(qG.mp hi).1
 have cne:=I.cne;have t:∀{a:Lz} {h':Heap},(∃o,s.heap.get? a=some o/\H a=none)->Heap.SameBut a s.heap h'->HOk X.prog X.w H h':=λ{a h'} ha T b ob e=>by
  obtain⟨_,_,w⟩:=ha;refine(I.hok b ob e).stay (λc w' S q=>(T.2 c ?_).trans q) (λ_ q=>q) λ_ _ q=>q
  rintro rfl
  rcases S with rfl|S
  ·rw[w]at e;cases e
  ·rw[w]at S;cases S
 rcases hx with hk|hk
 ·refine wpAny_storeName_local hk K (λh' af T=>?_) ad
  obtain⟨oL,_,_,ag,_⟩:=id K;refine h _ ⟨I.ok,I.os,I.bare,⟨λb o e n Z hx=>?_,λb o e n Z hx=>?_,I.base.free,λb o e hx=>?_,I.base.tups,I.base.frzs,I.base.tbls⟩,⟨_,af,λj y v' W P e3=>?_⟩,λy c e=>?_,I.free,I.freeC,λp hp=>?_,t ⟨oL,ag,I.free⟩ T,by exists I.len⟩ ⟨_,T,.inl rfl⟩
  ·exact(T.2 b (ne_of_lt (lt_of_lt_of_le (lt_size e) I.ok.above))).trans (I.base.keep b o e n Z hx)
  ·obtain⟨D,W⟩:=I.base.slot b o e n Z hx
   exact⟨D,(T.2 b (ne_of_lt (lt_of_lt_of_le (lt_size e) I.ok.above))).trans W⟩
  ·obtain⟨R,W⟩:=I.base.there b o e hx
   exact⟨R,(T.2 b (ne_of_lt (lt_of_lt_of_le (lt_size e) I.ok.above))).trans W⟩
  ·by_cases l:j=i
   ·subst l
    rw[hi]at W;cases W;rw[getElem?_set_self ae]at P;cases P;exact⟨u,r,.inl ⟨hk,by simp⟩⟩
   ·rw[getElem?_set_ne (Ne.symm l)]at P
    obtain⟨C,L,q⟩:=hl j y v' W P e3;refine⟨C,L,?_⟩;rcases q with⟨k,e⟩|⟨k,c,e,z⟩
    ·refine .inl ⟨k,?_⟩
     have:y≠x:=λe=>l (zBe hN W (e▸hi))
     simp[this,e]
    ·exact .inr ⟨k,c,e,z.sameBut T (cne y c e)⟩
  ·obtain⟨w',z⟩:=I.cell y c e
   exact⟨w',z.sameBut T (cne y c e)⟩
  ·obtain⟨e,n,g,nf,d⟩:=I.pin p hp
   exact⟨(T.2 p.1 g).trans e,n,g,nf,d⟩
 ·have aa:X.fn x=true:=by
   rcases hf with z|z
   ·exact z
   ·rw[z]at hk;cases hk
  obtain⟨c,S⟩:=I.ok.has x (.inl hk);obtain⟨w',z⟩:=I.cell x c S;refine wpAny_storeName_cell I.ok.kind hk S z (λh' Y T=>?_);obtain⟨oc,ac,ab⟩:=id z;refine h {s with heap:=h'} ⟨I.ok,I.os,I.bare,⟨λb o e n Z hx=>?_,λb o e n Z hx=>?_,I.base.free,λb o e hx=>?_,I.base.tups,I.base.frzs,I.base.tbls⟩,⟨m,K.sameBut T (Ne.symm (cne x c S)),λj y v' W P e3=>?_⟩,λy J e=>?_,I.free,I.freeC,λp hp=>?_,t ⟨oc,ac,I.freeC x c S⟩ T,by exists I.len⟩ ⟨c,T,.inr S⟩
  ·exact(T.2 b (ne_of_lt (lt_of_lt_of_le (lt_size e) (I.ok.cab x c aa S)))).trans (I.base.keep b o e n Z hx)
  ·obtain⟨D,W⟩:=I.base.slot b o e n Z hx
   exact⟨D,(T.2 b (ne_of_lt (lt_of_lt_of_le (lt_size e) (I.ok.cab x c aa S)))).trans W⟩
  ·obtain⟨R,W⟩:=I.base.there b o e hx
   exact⟨R,(T.2 b (ne_of_lt (lt_of_lt_of_le (lt_size e) (I.ok.cab x c aa S)))).trans W⟩
  ·by_cases l:j=i
   ·subst l
    rw[hi]at W;cases W;rw[getElem?_set_self ae]at P;cases P;exact⟨u,r,.inr ⟨.inl hk,c,S,Y⟩⟩
   ·rw[getElem?_set_ne (Ne.symm l)]at P
    obtain⟨C,L,q⟩:=hl j y v' W P e3;refine⟨C,L,?_⟩;rcases q with q|⟨k,J,e,z'⟩
    ·exact .inl q
    ·refine .inr ⟨k,J,e,z'.sameBut T ?_⟩
     rintro rfl
     exact l (zBe hN W (I.ok.inj _ _ _ e S▸hi))
  ·by_cases G:J=c
   ·subst G;exact⟨_,Y⟩
   ·obtain⟨w2,z2⟩:=I.cell y J e
    exact⟨w2,z2.sameBut T G⟩
  ·obtain⟨e,n,g,nf,d⟩:=I.pin p hp
   refine⟨(T.2 p.1 ?_).trans e,n,g,nf,d⟩;intro q;rw[q,ac]at e;have q':oc=p.2:=qJ e;exact d w' (by rw[<- q'];exact ab)
def Y0{E:Ly}{Q:Unit->La->Prop}(I:Inv X pins O H s)(c:X.N.Nodup)(hi:X.N[i]?=some x)(a:Loc X.env.scope x)(r:yo v u)
  (h:∀j,Inv X pins (O.set i (some v)) H j->Q () j) (Y:X.fn x=true\/X.env.scope.names.lookup x=some .local:=by first|exact .inl rfl|exact .inr rfl|assumption):wpAny M A (storeName X.env x u) Q E s :=
 Qc I c hi a r (λj I' _=>h j I') Y
def Inv.call'(I:Inv X pins O H s)(J:s'.os=s.os)(u:Un (frs X.stack) ch H H' s.heap s'.heap)(y:HOk X.prog X.w H' s'.heap)(t:AllBare s'.gens)
  (h:∀b∈ch,(b∈X.ex\/X.s₀.heap.objs.size<=b)/\b≠X.env.locals/\(∀x c,X.env.cells.lookup x=some c->c≠b)/\∀p∈X.pn++pins,p.1≠b):Inv X pins O H' s':=by
 obtain⟨a,g',d',t',R⟩:=s';have e:R=s.os:=J;subst e;exact I.call (g':=g') (t':=t') (d':=d') u y t h
end
abbrev XK:=Lv->Lx Lz->Hp->Prop
abbrev St:=Ls (Lx V)
abbrev VK:=V->Hp->Prop
abbrev TE:=St->Hp->VK->Prop
abbrev TT:=St->Hp->(Bool->Hp->Prop)->Prop
abbrev TA:=St->Hp->(Ls V->Hp->Prop)->Prop
structure Ends where
 nx:St->Hp->Prop
 rt:VK
 bk:St->Hp->Prop:=λ_ _=>False
 ct:St->Hp->Prop:=λ_ _=>False
abbrev TS:=Ends->St->Hp->Prop
def EP(X:Cx)(G:Ls (Lz×Obj))(O:St)(Q:VK)(u:Lv)(s':La):Prop:=∃v H',Inv X G O H' s'/\yo v u/\Q v H'
def TP(X:Cx)(G:Ls (Lz×Obj))(O:St)(Q:Bool->Hp->Prop)(b:Bool)(s':La):Prop:=∃H',Inv X G O H' s'/\Q b H'
def AP(X:Cx)(G:Ls (Lz×Obj))(O:St)(Q:Ls V->Hp->Prop)(D:Ls Lv)(s':La):Prop:=∃L H',Inv X G O H' s'/\zq L D/\Q L H'
def SP(X:Cx)(G:Ls (Lz×Obj))(D:Ends)(f:Flow)(s':La):Prop :=
 match f with
 | .next=>∃O' H',Inv X G O' H' s'/\D.nx O' H'| .brk=>∃O' H',Inv X G O' H' s'/\D.bk O' H'| .cont=>∃O' H',Inv X G O' H' s'/\D.ct O' H'| .ret u=>∃v O' H',Inv X G O' H' s'/\yo v u/\D.rt v H'
def PE(X:Cx)(e:Lb)(t:TE):Prop :=
 ∀(G:Ls (Lz×Obj)) (s:La) (O:St) (H:Hp) (Q:VK),Inv X G O H s->t O H Q->wpAny (model X.prog X.w) X.A (eval e X.env) (EP X G O Q) X.xe s
def PT(X:Cx)(e:Lb)(t:TT):Prop :=
 ∀(G:Ls (Lz×Obj)) (s:La) (O:St) (H:Hp) (Q:Bool->Hp->Prop),Inv X G O H s->t O H Q->wpAny (model X.prog X.w) X.A (isTrue e X.env (eval e X.env)) (TP X G O Q) X.xe s
def PW(X:Cx)(e:Lb)(t:TT):Prop :=
 ∀(w:Sem Lv) (G:Ls (Lz×Obj)) (s:La) (O:St) (H:Hp) (Q:Bool->Hp->Prop),Inv X G O H s->t O H Q->wpAny (model X.prog X.w) X.A (isTrue e X.env w) (TP X G O Q) X.xe s
def PW.pt(h:PW X e t):PT X e t:=h _
def PA(X:Cx)(es:Ls Lb)(t:TA):Prop :=
 ∀(g:Pos) (G:Ls (Lz×Obj)) (s:La) (O:St) (H:Hp) (Q:Ls V->Hp->Prop),Inv X G O H s->t O H Q->wpAny (model X.prog X.w) X.A (spliced (backTo g (starEach es X.env))) (AP X G O Q) X.xe s
def PS(X:Cx)(st:Lh)(t:TS):Prop :=
 ∀(G:Ls (Lz×Obj)) (s:La) (O:St) (H:Hp) (D:Ends),Inv X G O H s->t D O H->wpAny (model X.prog X.w) X.A (exec st X.env) (SP X G D) X.xe s
def PSs(X:Cx)(st:Ls Lh)(t:TS):Prop :=
 ∀(G:Ls (Lz×Obj)) (s:La) (O:St) (H:Hp) (D:Ends),Inv X G O H s->t D O H->wpAny (model X.prog X.w) X.A (execs st X.env) (SP X G D) X.xe s
def thn{α:Type}{t:Sem α}{Q c:α->La->Prop}{E:Ly}(h:wpAny M A t Q E s)(z:∀a s,Q a s->c a s):wpAny M A t c E s:=wpAny_mono h z λ_ _ x=>x
section
variable{X:Cx}
def bin(C:PE X a ta)(Z:PE X b tb){R:V->V->Hp->Prop}(I:Inv X pins O H s)(h:ta O H λx H1=>tb O H1 λy H2=>R x y H2)
  {α:Type} {Q:α->La->Prop} {f:Lv->Lv->Sem α}
  (Y:∀v u g x y H2,Inv X pins O H2 g->yo x v->yo y u->R x y H2->wpAny (model X.prog X.w) X.A (f v u) Q X.xe g) :
  wpAny (model X.prog X.w) X.A (eval a X.env) (λv p=>wpAny (model X.prog X.w) X.A (eval b X.env) (λu q=>wpAny (model X.prog X.w) X.A (f v u) Q X.xe q) X.xe p) X.xe s:=by
 refine thn (C pins s O H _ I h) λv c ⟨x,H1,I1,l,K⟩=>?_
 refine thn (Z pins c O H1 _ I1 K) λu g ⟨y,H2,I2,o,S⟩=>?_
 exact Y v u g x y H2 I2 l o S
def zDN(i:Nat):TE:=λO H Q=>∃v,O[i]?=some (some v)/\Q v H
def tC(v:V):TE:=λ_ H Q=>Q v H
def pe_var(E:X.N[i]?=some x)(P:Vis X.env.scope x)(hd:(x==("__debug__":Str))=false:=by decide)(p:(x==("__classdict__":Str))=false:=by decide):PE X (.Name x pos) (zDN i):=by
 intro G s O H Q I h;obtain⟨v,e,h⟩:=h;obtain⟨m,K,hl⟩:=I.loc;obtain⟨u,r,l⟩:=hl i x v E e P;have a:EP X G O Q u s:=⟨v,H,I,r,h⟩;rcases l with⟨V,Y⟩|⟨V,c,S,n⟩
 ·exact wpAny_Name (wpAny_loadName_local I.ok.kind V K Y a) hd
 ·rcases V with V|V
  ·exact wpAny_Name (wpAny_loadName_cell I.ok.kind V S n a) hd
  ·exact wpAny_Name (wpAny_loadName_free I.ok.kind V S n a p) hd
def pe_int{i j pos}:PE X (.Constant (.int i) j pos) (tC (.int i)):=λ_ _ _ H _ I h=>wpAny_Constant_int ⟨.int i,H,I.tok _,⟨_,rfl⟩,h⟩
def pe_bl{b j pos}:PE X (.Constant (.bool b) j pos) (tC (.bl b)):=λ_ _ _ H _ I h=>Constant_bool ⟨.bl b,H,I,rfl,h⟩
def pe_non{j pos}:PE X (.Constant .none j pos) (tC .non):=λ_ _ _ H _ I h=>Constant_none ⟨.non,H,I,rfl,h⟩
def pe_str{x j pos}:PE X (.Constant (.str x) j pos) (tC (.str x)):=λ_ _ _ H _ I h=>Calls.Constant_str ⟨.str x,H,I.tok _,⟨_,rfl⟩,h⟩
def Gl(X:Cx)(x:Str):Prop:=X.env.kindOf x=some .globalImplicit
def zDO{E:Ly}{Q:Ly}(I:Inv X pins O H s)(t:Gl X x)(Y:X.mg x=some u)(h:Q u s)
  (hd:(x==("__debug__":Str))=false:=by decide):wpAny (model X.prog X.w) X.A (eval (.Name x pos) X.env) Q E s :=
 Calls.Name_function_global I.ok.kind t (Calls.loadGlobal_global (by rw[I.ok.glob];exact I.mod.glob.keeps I.bk) Y h) hd
def Y1{E:Ly}{Q:Ly}(I:Inv X pins O H s)(t:Gl X x)(Y:X.mg x=none)(P:bootBuiltins x=some u)(h:Q u s)
  (hn:x≠"__name__":=by decide) (hd:(x==("__debug__":Str))=false:=by decide):wpAny (model X.prog X.w) X.A (eval (.Name x pos) X.env) Q E s:=by
 obtain⟨mb,J,h2⟩:=I.mod.blt;exact Calls.Name_function_global I.ok.kind t (Calls.loadGlobal_builtin (by rw[I.ok.glob];exact I.mod.glob.keeps I.bk) Y (by rw[I.ok.blt];exact J.keeps I.bk) ((h2 x hn).trans P) h) hd
def pe_glob(t:Gl X x)(Y:X.mg x=some u)(r:yo v u)(hd:(x==("__debug__":Str))=false:=by decide):PE X (.Name x pos) (tC v) :=
 λ_ _ _ H _ I h=>zDO I t Y ⟨v,H,I,r,h⟩ hd
def pe_bltn(t:Gl X x)(Y:X.mg x=none)(P:bootBuiltins x=some u)(r:yo v u)(hn:x≠"__name__":=by decide)(hd:(x==("__debug__":Str))=false:=by decide):PE X (.Name x pos) (tC v) :=
 λ_ _ _ H _ I h=>Y1 I t Y P ⟨v,H,I,r,h⟩ hn hd
variable{a b:Lb}{ta tb:TE}{pos:Pos}
def tB(t:TE):TT:=λO H Q=>t O H λx H1=>∃c,x=.bl c/\Q c H1
def pt_val(h:PE X e t)(c:∀w,isTrue e X.env w=(do let v <- w;standAt e.pos;holding [v] (truthy v)):=by intro _;rfl):PT X e (tB t):=by
 intro G s O H Q I C;refine isTrue_plain (thn (h G s O H _ I C) λv R ⟨x,H1,I1,l,K⟩=>?_) (c _);obtain⟨d,rfl,q⟩:=K;cases l;exact wpAny_truthy_bool ⟨H1,I1,q⟩
variable{tA tB':TT}{jk:Ls Lb}
def tAnd(t u:TT):TT:=λO H Q=>t O H λc H1=>if c=true then u O H1 Q else Q false H1
def tOr(t u:TT):TT:=λO H Q=>t O H λc H1=>if c=true then Q true H1 else u O H1 Q
def tNot(t:TT):TT:=λO H Q=>t O H λc H1=>Q (!c) H1
def pw_and1(C:PT X a tA):PW X (.BoolOp .And [a] pos) tA:=by
 intro w G s O H Q I h;refine isTrue_and (thn (C G s O H Q I h) λc R e=>?_);cases c with
 |true=>exact isTrue_and_nil e|false=>exact e
def pw_or1(C:PT X a tA):PW X (.BoolOp .Or [a] pos) tA:=by
 intro w G s O H Q I h;refine isTrue_or (thn (C G s O H Q I h) λc R e=>?_);cases c with
 |false=>exact isTrue_or_nil e|true=>exact e
def pw_and(C:PT X a tA)(Z:PW X (.BoolOp .And (b::jk) pos) tB'):PW X (.BoolOp .And (a::b::jk) pos) (tAnd tA tB'):=by
 intro w G s O H Q I h;refine isTrue_and (thn (C G s O H _ I h) λc R ⟨H1,I1,K⟩=>?_);cases c with
 |true=>exact Z w G R O H1 Q I1 K|false=>exact⟨H1,I1,K⟩
def pw_or(C:PT X a tA)(Z:PW X (.BoolOp .Or (b::jk) pos) tB'):PW X (.BoolOp .Or (a::b::jk) pos) (tOr tA tB'):=by
 intro w G s O H Q I h;refine isTrue_or (thn (C G s O H _ I h) λc R ⟨H1,I1,K⟩=>?_);cases c with
 |true=>exact⟨H1,I1,K⟩|false=>exact Z w G R O H1 Q I1 K
def pt_not(C:PT X a tA):PT X (.UnaryOp .Not a pos) (tNot tA):=by
 intro G s O H Q I h;exact isTrue_not (C G s O H (λc H1=>Q (!c) H1) I h)
def tAndV(w h:TE):TE:=λO H Q=>w O H λx H1=>∃c,x=.bl c/\if c=true then h O H1 Q else Q (.bl false) H1
def tNotV(w:TE):TE:=λO H Q=>w O H λx H1=>∃c,x=.bl c/\Q (.bl (!c)) H1
def pe_one{op}(h:PE X a t):PE X (.BoolOp op [a] pos) t:=λG s O H Q I C=>BoolOp_one (h G s O H Q I C)
def pe_and(C:PE X a ta)(Z:PE X (.BoolOp .And (b::jk) pos) tb):PE X (.BoolOp .And (a::b::jk) pos) (tAndV ta tb):=by
 intro G s O H Q I h;refine BoolOp_and (thn (C G s O H _ I h) λv R ⟨x,H1,I1,l,K⟩=>?_);obtain⟨c,rfl,K⟩:=K;cases l;refine wpAny_truthy_bool ?_;cases c with
 |true=>exact Z G R O H1 Q I1 K|false=>exact⟨.bl false,H1,I1,rfl,K⟩
def pe_not(C:PE X a ta):PE X (.UnaryOp .Not a pos) (tNotV ta):=by
 intro G s O H Q I h;refine UnaryOp_ (thn (C G s O H _ I h) λv R ⟨x,H1,I1,l,K⟩=>?_);obtain⟨c,rfl,K⟩:=K;cases l;exact not_of (wpAny_truthy_bool ⟨.bl (!c),H1,I1,rfl,K⟩)
def tIf(t:TT)(w h:TE):TE:=λO H Q=>t O H λc H1=>if c=true then w O H1 Q else h O H1 Q
def zFu(S:PT X c tA)(C:PE X a ta)(Z:PE X b tb):PE X (.IfExp c a b pos) (tIf tA ta tb):=by
 intro G s O H Q I h;refine wpAny_IfExp (thn (S G s O H _ I h) λd R ⟨H1,I1,K⟩=>?_);cases d with
 |true=>exact C G R O H1 Q I1 K|false=>exact Z G R O H1 Q I1 K
end
def SqL(K:qH)(H:Hp)(a:Lz)(xs:Ls V):Prop :=
 Rd H a (.l xs) \/
  ∃(o:Obj) (g:Lg) (n:Nat),K.lookup a=some o/\o.cls=.type "list"/\o.dict=none/\o.data=.seq g n/\g.size<=sizeLine/\zq xs g.toList
def SqT(K:qH)(H:Hp)(a:Lz)(xs:Ls V):Prop :=
 Rd H a (.t xs) \/
  ∃(o:Obj) (g:Lg) (n:Nat),K.lookup a=some o/\o.cls=.type "tuple"/\o.data=.seq g n/\g.size<=sizeLine/\zq xs g.toList
def absV:Lv->Lx V
 | .none=>some .non| .bool b=>some (.bl b)| .int i _=>some (.int i)| .str x _=>some (.str x)| .bytes b _=>some (.byt b)| .float b _=>some (.flt b)| .ref a=>some (.ref a)| .type n=>some (.ty n)|_=>none
def yo.abs(r:yo x u):absV u=some x:=by
 cases x with
 |non=>cases r;rfl|bl _=>cases r;rfl|int _=>obtain⟨t,rfl⟩:=r;rfl|str _=>obtain⟨t,rfl⟩:=r;rfl|byt _=>obtain⟨t,rfl⟩:=r;rfl|flt _=>obtain⟨t,rfl⟩:=r;rfl|ref _=>cases r;rfl|ty _=>cases r;rfl
theorem yo.inj(r:yo x u)(q:yo y u):x=y:=qJ (r.abs.symm.trans q.abs)
theorem zq.inj:∀{Y T:Ls V} {D:Ls Lv},zq Y D->zq T D->Y=T
 |_,_,_,.nil,.nil=>rfl|_,_,_,.cons r t,.cons r' t'=>by rw[r.inj r',zq.inj t t']
section
variable{X:Cx}{pins:Ls (Lz×Obj)}{O:St}{H:Hp}{s:La}{a:Lz}{xs ys:Ls V}
def SqL.of{K:qH}(h:H a=some (.l xs)):SqL K H a xs:=.inl (.inl h)
def SqT.of{K:qH}(h:H a=some (.t xs)):SqT K H a xs:=.inl (.inl h)
def Inv.list(I:Inv X pins O H s)(h:SqL X.K H a xs):∃g:Ls Lv,zq xs g/\PlainL s.heap a g.toArray/\xs.length<=sizeLine:=by
 rcases h with h|⟨o,g,n,V,S,C,T,hz,r⟩
 ·obtain⟨z,g,n,r,e⟩:=h.ok I.hok
  exact⟨g,r,⟨_,n,e,rfl,rfl,rfl⟩,z⟩
 ·refine⟨g.toList,r,⟨o,n,I.kIn a o V,S,C,by exists T⟩,?_⟩
  have e:=r.length;dsimp[Array.length_toList]at e;lia
def Inv.tuple(I:Inv X pins O H s)(h:SqT X.K H a xs):∃g:Ls Lv,zq xs g/\IsTup s.heap a g.toArray/\xs.length<=sizeLine:=by
 rcases h with h|⟨o,g,n,V,S,T,hz,r⟩
 ·obtain⟨z,g,r,p⟩:=h.ok I.hok
  exact⟨g,r,p,z⟩
 ·refine⟨g.toList,r,⟨o,I.kIn a o V,S,n,by exists T⟩,?_⟩
  have e:=r.length;dsimp[Array.length_toList]at e;lia
def Inv.list_inj(I:Inv X pins O H s)(h:SqL X.K H a xs)(h':SqL X.K H a ys):xs=ys:=by
 obtain⟨g,r,⟨o,n,e,_,_,d⟩,_⟩:=I.list h;obtain⟨its',L,⟨R,E,C,_,_,T⟩,_⟩:=I.list h';rw[e]at C;cases C;rw[d]at T;injection T with d1 _
 have:g=its':=by exists congrArg Array.toList d1
 subst this;exact r.inj L
def Inv.tuple_inj(I:Inv X pins O H s)(h:SqT X.K H a xs)(h':SqT X.K H a ys):xs=ys:=by
 obtain⟨g,r,⟨o,e,_,n,d⟩,_⟩:=I.tuple h;obtain⟨its',L,⟨R,C,_,E,T⟩,_⟩:=I.tuple h';rw[e]at C;cases C;rw[d]at T;injection T with d1 _
 have:g=its':=by exists congrArg Array.toList d1
 subst this;exact r.inj L
end
abbrev Cx.wish(X:Cx)(E:Ly):Cx:={X with xe:=E}
abbrev Cx.nox(X:Cx):Cx:=X.wish λ_ _=>False
theorem Cx.Ok.wish{X:Cx}(ok:X.Ok)(E:Ly):(X.wish E).Ok :=
 ⟨ok.mod,ok.kind,ok.glob,ok.blt,ok.above,ok.inj,ok.has,ok.cab,ok.hd,ok.frames,ok.stk,ok.exf,ok.bs,ok.bsz,ok.noex,ok.exfs,ok.funs,ok.frf⟩
def Cx.Ok.unwish{X:Cx}{E:Ly}(ok:(X.wish E).Ok):X.Ok :=
 ⟨ok.mod,ok.kind,ok.glob,ok.blt,ok.above,ok.inj,ok.has,ok.cab,ok.hd,ok.frames,ok.stk,ok.exf,ok.bs,ok.bsz,ok.noex,ok.exfs,ok.funs,ok.frf⟩
section
variable{X:Cx}{pins:Ls (Lz×Obj)}{O:St}{H:Hp}{s:La}{E:Ly}
theorem Inv.wish(I:Inv X pins O H s)(E:Ly):Inv (X.wish E) pins O H s:=⟨I.ok.wish E,I.os,I.bare,I.base,I.loc,I.cell,I.free,I.freeC,I.pin,I.hok,I.len⟩
theorem Inv.unwish(I:Inv (X.wish E) pins O H s):Inv X pins O H s:=⟨I.ok.unwish,I.os,I.bare,I.base,I.loc,I.cell,I.free,I.freeC,I.pin,I.hok,I.len⟩
theorem SP.unwish{D:Ends}{f:Flow}{s':La}(h:SP (X.wish E) pins D f s'):SP X pins D f s':=by
 cases f with
 |next=>obtain⟨O',H',I,q⟩:=h;exact⟨O',H',I.unwish,q⟩|brk=>obtain⟨O',H',I,q⟩:=h;exact⟨O',H',I.unwish,q⟩|cont=>obtain⟨O',H',I,q⟩:=h;exact⟨O',H',I.unwish,q⟩|ret u=>obtain⟨v,O',H',I,r,q⟩:=h;exact⟨v,O',H',I.unwish,r,q⟩
theorem PE.nox(h:PE X.nox e t):PE X e t:=λG s O H Q I C =>
 wpAny_mono (h G s O H Q (I.wish _) C) (λ_ _ ⟨v,H',I',r,q⟩=>⟨v,H',I'.unwish,r,q⟩) λ_ _ z=>False.elim z
theorem PT.nox(h:PT X.nox e t):PT X e t:=λG s O H Q I C =>
 wpAny_mono (h G s O H Q (I.wish _) C) (λ_ _ ⟨H',I',q⟩=>⟨H',I'.unwish,q⟩) λ_ _ z=>False.elim z
theorem PSs.nox{st:Ls Lh}{t:TS}(h:PSs X.nox st t):PSs X st t:=λG s O H D I C =>
 wpAny_mono (h G s O H D (I.wish _) C) (λ_ _ q=>q.unwish) λ_ _ z=>False.elim z
end
section
variable{X:Cx}{st:Lh}{jk:Ls Lh}{t u:TS}{e:Lb}{te:TE}{pos:Pos}
def tNext:TS:=λD O H=>D.nx O H
def tSeq(t u:TS):TS:=λD O H=>t {D with nx:=u D} O H
def pss_nil:PSs X [] tNext:=λ_ _ O H _ I h=>wpAny_execs_nil ⟨O,H,I,h⟩
def zFv(J:PS X st t)(Y:PSs X jk u):PSs X (st::jk) (tSeq t u):=by
 intro G s O H D I h;refine wpAny_execs_cons (thn (J G s O H {D with nx:=u D} I h) λf R q=>?_)
 cases f with
 |next =>
  obtain⟨O',H',I',q⟩:=q;exact Y G R O' H' D I' q
 |ret v=>exact q|brk=>exact q|cont=>exact q
def pss_one(J:PS X st t):PSs X [st] t:=by
 intro G s O H D I h;refine wpAny_execs_cons (thn (J G s O H D I h) λf R q=>?_);cases f with
 |next=>exact wpAny_execs_nil q|ret v=>exact q|brk=>exact q|cont=>exact q
def Inv.quiet(I:Inv X pins O H s):interactive X.env=false:=by simp[interactive,I.ok.kind]
def tDrop(t:TE):TS:=λD O H=>t O H λ_ H1=>D.nx O H1
def zDP(c:PE X e te)(T:swapsWith e none pos.line X.env=pure false:=by rfl):PS X (.Expr e pos) (tDrop te):=by
 intro G s O H D I h;exact wpAny_Expr_any (thn (c G s O H _ I h) λv R ⟨x,H1,I1,l,K⟩=>⟨O,H1,I1,K⟩) I.quiet T
def tRet(t:TE):TS:=λD O H=>t O H D.rt
def ps_ret(c:PE X e te):PS X (.Return (some e) pos) (tRet te):=by
 intro G s O H D I h;exact wpAny_Return_some (thn (c G s O H _ I h) λv R ⟨x,H1,I1,l,K⟩=>⟨x,O,H1,I1,l,K⟩)
def tIfS(c:TT)(t u:TS):TS:=λD O H=>c O H λb H1=>if b=true then t D O H1 else u D O H1
def ps_if(S:PT X c tc)(C:PSs X a t)(Z:PSs X b u):PS X (.If c a b pos) (tIfS tc t u):=by
 intro G s O H D I h;refine wpAny_If (thn (S G s O H _ I h) λd R ⟨H1,I1,K⟩=>?_);cases d with
 |true=>exact C G R O H1 D I1 K|false=>exact Z G R O H1 D I1 K
def tNever:TS:=λ_ _ _=>False
def zFw:PS X st tNever:=λ_ _ _ _ _ _ h=>h.elim
end
abbrev TG:=V->St->Hp->(St->Hp->Prop)->Prop
abbrev TGs:=Ls V->St->Hp->(St->Hp->Prop)->Prop
def PG(X:Cx)(P:Lb)(t:TG):Prop :=
 ∀(G:Ls (Lz×Obj)) (s:La) (O:St) (H:Hp) (v:V) (u:Lv) (Q:St->Hp->Prop),Inv X G O H s->yo v u->t v O H Q ->
  wpAny (model X.prog X.w) X.A (assign P X.env u) (λ_ j=>∃O' H',Inv X G O' H' j/\Q O' H') X.xe s
def PGs(X:Cx)(ts:Ls Lb)(t:TGs):Prop :=
 ∀(G:Ls (Lz×Obj)) (s:La) (O:St) (H:Hp) (L:Ls V) (D:Ls Lv) (Q:St->Hp->Prop),Inv X G O H s->zq L D->t L O H Q ->
  wpAny (model X.prog X.w) X.A (assignInOrder ((assignEach ts X.env).map (·.2)) D) (λ_ j=>∃O' H',Inv X G O' H' j/\Q O' H') X.xe s
abbrev TSet:=V->V->V->Hp->(Hp->Prop)->Prop
def PSet(X:Cx)(t:TSet):Prop :=
 ∀(G:Ls (Lz×Obj)) (s:La) (O:St) (H:Hp) (o i v:V) (a r u:Lv) (Q:Hp->Prop),Inv X G O H s->yo o a->yo i r->yo v u->t o i v H Q ->
  wpAny (model X.prog X.w) X.A (setItem a r u) (λ_ j=>∃H',Inv X G O H' j/\Q H') X.xe s
abbrev TIp:=V->V->Hp->VK->Prop
def PIp(X:Cx)(op:Operator)(t:TIp):Prop :=
 ∀(G:Ls (Lz×Obj)) (s:La) (O:St) (H:Hp) (x y:V) (v u:Lv) (Q:VK),Inv X G O H s->yo x v->yo y u->t x y H Q ->
  wpAny (model X.prog X.w) X.A (inplaceOp op v u) (EP X G O Q) X.xe s
section
variable{X:Cx}{pos:Pos}
def zAs(i:Nat):TG:=λv O H Q=>Q (O.set i (some v)) H
def zDQ(E:X.N.Nodup)(hi:X.N[i]?=some x)(M:Loc X.env.scope x)(Y:X.fn x=true\/X.env.scope.names.lookup x=some .local:=by first|exact .inl rfl|exact .inr rfl|assumption):PG X (.Name x pos) (zAs i):=by
 intro G s O H v u Q I r h;exact wpAny_assign_Name (Y0 I E hi M r (λj I'=>⟨_,H,I',h⟩) Y)
def gNil:TGs:=λL O H Q=>L=[]/\Q O H
def gCons(t:TG)(u:TGs):TGs:=λL O H Q=>∃v r,L=v::r/\t v O H λO' H'=>u r O' H' Q
def pgs_nil:PGs X [] gNil:=by
 intro G s O H L D Q I r h;obtain⟨e,h⟩:=h;subst e;cases r;exact assignInOrder_nil ⟨O,H,I,h⟩
def zFx(J:PG X e t)(Y:PGs X es u)
  (T:(assignEach (e::es) X.env).map (·.2)=assign e X.env::(assignEach es X.env).map (·.2):=by rfl):PGs X (e::es) (gCons t u):=by
 intro G s O H L D Q I r h;obtain⟨v,a,W,h⟩:=h;subst W;cases r with
 |cons r c =>
  rw[T];refine assignInOrder_cons (thn (J G s O H _ _ _ I r h) λ_ R ⟨O1,H1,I1,K⟩=>?_);exact Y G R O1 H1 _ _ Q I1 c K
def gTup(K:qH)(n:Nat)(t:TGs):TG:=λv O H Q=>∃a Y,v=.ref a/\SqT K H a Y/\Y.length=n/\t Y O H Q
def zHb(S:X.calm=true)(h:PGs X es t)
  (hn:(assignEach es X.env).length=n:=by rfl) (T:(assignEach es X.env).findIdx? (·.1)=none:=by rfl):PG X (.Tuple es k pos) (gTup X.K n t):=by
 intro G s O H v u Q I r C;obtain⟨a,Y,c,W,hl,C⟩:=C;subst c;cases r;obtain⟨g,j,ht,hz⟩:=I.tuple W;refine assign_Tuple_tuple (I.ok.hd S) ht (by simp[hn,<- hl,j.length]) T λy M=>?_
 have I1:Inv X G O H {s with heap:=y}:=I.kept (t':=s.toks) λb o e=>M b o (ne_of_lt (lt_size e)) e
 exact h G _ O H Y _ Q I1 (by exists j) C
def gSub(a e:TE)(t:TSet):TG:=λv O H Q=>a O H λo H1=>e O H1 λi H2=>t o i v H2 λH3=>Q O H3
def pg_sub(J:PE X o to)(hi:PE X i ti)(T:PSet X t)
  (C:∀v,assign (.Subscript o i pos) X.env v=(do
   let ov <- holding [v] (eval o X.env)
   let iv <- holding [v,ov] (eval i X.env)
   standAt pos
   holding [v,ov,iv] (setItem ov iv v)
   release [v,ov,iv] []):=by intro _;rfl):PG X (.Subscript o i pos) (gSub to ti t):=by
 intro G s O H v u Q I r h;rw[C];refine qB (wpAny_holding (thn (J G s O H _ I h) λov R ⟨x,H1,I1,l,K⟩=>?_));refine qB (wpAny_holding (thn (hi G R O H1 _ I1 K) λiv g ⟨y,H2,I2,a,S⟩=>?_));refine qB (wpAny_standAt (qB (wpAny_holding (thn (T G g O H2 x y v ov iv u _ I2 l a r S) λ_ w ⟨H3,I3,W⟩=>?_))));exact wpAny_release ⟨O,H3,I3,W⟩
def tAsg(t:TE)(g:TG):TS:=λD O H=>t O H λx H1=>g x O H1 D.nx
def zDR(c:PE X e te)(t:PG X tg g)(T:swapsWithSole [tg] e pos.line X.env=pure false:=by rfl)(C:swappedStores [tg] e X.env=pure none:=by rfl)
  (J:(assignEach [tg] X.env).map (·.2)=[assign tg X.env]:=by rfl):PS X (.Assign [tg] e pos) (tAsg te g):=by
 intro G s O H D I h;refine wpAny_Assign_stores (thn (c G s O H _ I h) λv R ⟨x,H1,I1,l,K⟩=>?_) T C;rw[J];exact thn (t G R O H1 x v _ I1 l K) λ_ a q=>q
def ps_set(E:X.N.Nodup)(hi:X.N[i]?=some x)(M:Loc X.env.scope x)(c:PE X e te)(T:swapsWith e (some (.Name x pos')) pos.line X.env=pure false:=by rfl)(Y:X.fn x=true\/X.env.scope.names.lookup x=some .local:=by first|exact .inl rfl|exact .inr rfl|assumption) :
  PS X (.Assign [.Name x pos'] e pos) (tAsg te (zAs i)):=by
 intro G s O H D I h;refine wpAny_Assign_Name (thn (c G s O H _ I h) λv R ⟨y,H1,I1,l,K⟩=>?_) T;exact Y0 I1 E hi M l (λg I2=>⟨_,H1,I2,K⟩) Y
def tPar(i j:Nat)(a:TA):TS:=λD O H=>a O H λL H1=>∃v w,L=[v,w]/\D.nx ((O.set i (some v)).set j (some w)) H1
def ps_par{kt k2 pt2}(S:X.calm=true)(E:X.N.Nodup)(hi:X.N[i]?=some x)(n:X.N[j]?=some y)(Y:i≠j)
  (M:X.env.scope.names.lookup x=some .local) (Q:X.env.scope.names.lookup y=some .local) (C:PA X [a,b] ta)
  (z:swappedStores [.Tuple [.Name x px,.Name y py] kt pt] (.Tuple [a,b] k2 pt2) X.env=pure (some [x,y]))
  (T:swapsWithSole [.Tuple [.Name x px,.Name y py] kt pt] (.Tuple [a,b] k2 pt2) pos.line X.env=pure false:=by rfl) :
  PS X (.Assign [.Tuple [.Name x px,.Name y py] kt pt] (.Tuple [a,b] k2 pt2) pos) (tPar i j ta):=by
 intro G s O H D I h;rw[exec_Assign_arm];refine qB (wpAny_standAt ?_);rw[T];refine qB (qC ?_);rw[if_neg (by decide)];refine qB (Tuple_ (thn (C _ G s O H _ I h) λr R ⟨J,H1,I1,l,K⟩=>?_));obtain⟨v,w,W,K⟩:=K;subst W;obtain⟨u,u2,rfl,k,L⟩:∃u u2,r=[u,u2]/\yo v u/\yo w u2:=by
  cases l with
  |cons p q =>
   cases q with
   |cons V c =>
    cases c;exact⟨_,_,rfl,p,V⟩
 refine wpAny_newObj_type ?_ (by show 2<=sizeLine;decide);have I2:Inv X G O H1 {R with heap:=R.heap.push {cls:=.type "tuple",data:=.seq [u,u2].toArray}}:=I1.kept (t':=R.toks) λb o e=>qA _ e
 rw[z];refine qB (qC ?_);show wpAny (model X.prog X.w) X.A (do rule "assign.swapped-stores";let items <- unpackItems (.ref R.heap.objs.size) 2 none;assignInOrder [λv=>bindName X.env y v,λv=>bindName X.env x v] items.reverse;pure Flow.next) _ _ _;refine qB (wpAny_rule (qB (unpackItems_tuple (items:=#[u,u2]) (I.ok.hd S) (IsTup.new R.heap _) λh' t=>?_)));have I3:=I2.kept (h':=h') (t':=R.toks) λb o e=>t b o (ne_of_lt (lt_size e)) e
 show wpAny _ _ (assignInOrder [λv=>bindName X.env y v,λv=>bindName X.env x v] [u2,u] >>= λ_=>pure Flow.next) _ _ _
 refine qB (assignInOrder_cons (wpAny_bindName (Y0 I3 E n (.inl Q) L (λg I4=>?_) (.inr Q))));refine assignInOrder_cons (wpAny_bindName (Y0 I4 E hi (.inl M) k (λP I5=>assignInOrder_nil (qC ?_)) (.inr M)));rw[List.set_comm _ _ (Ne.symm Y)]at I5;exact⟨_,H1,I5,K⟩
def tAug(i:Nat)(t:TE)(e:TIp):TS:=λD O H=>∃x,O[i]?=some (some x)/\t O H λy H1=>e x y H1 λz H2=>D.nx (O.set i (some z)) H2
def zDS(E:X.N.Nodup)(hi:X.N[i]?=some x)(M:Loc X.env.scope x)(t:PE X e te)(J:PIp X op ti)(L:X.fn x=true\/X.env.scope.names.lookup x=some .local:=by first|exact .inl rfl|exact .inr rfl|assumption) :
  PS X (.AugAssign (.Name x pos') op e pos) (tAug i te ti):=by
 intro G s O H D I h;obtain⟨v,W,h⟩:=h;obtain⟨m,K,hl⟩:=I.loc;have vis:Vis X.env.scope x:=by rcases M with k|k;exact .inl k;exact .inr (.inl k)
 obtain⟨u,r,l⟩:=hl i x v hi W vis;refine wpAny_AugAssign_Name ?_;have a:wpAny (model X.prog X.w) X.A (eval e X.env) (λw q=>wpAny (model X.prog X.w) X.A (inplaceOp op u w) (λr j=>wpAny (model X.prog X.w) X.A (storeName X.env x r) (λ_=>SP X G D .next) X.xe j) X.xe q) X.xe s:=by
  refine thn (t G s O H _ I h) λw R ⟨y,H1,I1,C,P⟩=>?_
  refine thn (J G R O H1 v y u w _ I1 r C P) λz g ⟨p,H2,I2,o,Q⟩=>?_
  exact Y0 I2 E hi M o (λT I3=>⟨_,H2,I3,Q⟩) L
 rcases l with⟨V,Y⟩|⟨V,c,S,n⟩
 ·exact wpAny_loadName_local I.ok.kind V K Y a
 ·rcases V with V|V
  ·exact wpAny_loadName_cell I.ok.kind V S n a
  ·rcases M with k|k
   ·have:X.env.scope.names.lookup x=some .free:=V
    rw[k]at this;cases this
   ·have:X.env.scope.names.lookup x=some .free:=V
    rw[k]at this;cases this
def ipI(f:Int->Int->Int):TIp:=λx y H Q=>∃i j,x=.int i/\y=.int j/\Q (.int (f i j)) H
def ip_add:PIp X .Add (ipI λi j=>i+j):=by
 intro G s O H x y v u Q I l o h;obtain⟨i,j,W,P,q⟩:=h;subst W;subst P;obtain⟨t,rfl⟩:=l;obtain⟨V,rfl⟩:=o;exact iadd_int ⟨.int _,H,I.tok _,⟨_,rfl⟩,q⟩
def ip_sub:PIp X .Sub (ipI λi j=>i-j):=by
 intro G s O H x y v u Q I l o h;obtain⟨i,j,W,P,q⟩:=h;subst W;subst P;obtain⟨t,rfl⟩:=l;obtain⟨V,rfl⟩:=o;exact isub_int ⟨.int _,H,I.tok _,⟨_,rfl⟩,q⟩
end
section
variable{X:Cx}{pos:Pos}
def zHc(c:TT)(h:TS):TS:=λD O H=>∃W:Nat->St->Hp->Prop,(∃m,W m O H)/\∀m O H,W m O H ->
 c O H λb H1=>if b=true then ∃N:St->Hp->Prop,(∀O' H',N O' H'->∃k,k<m/\W k O' H')/\h {D with nx:=N,ct:=N,bk:=D.nx} O H1 else D.nx O H1
def zFy(L:PassesOwn (model X.prog X.w) X.A X.env X.xe)(i:PT X c tc)(Z:PSs X body tb):PS X (.While c body [] pos) (zHc tc tb):=by
 intro G s O H D I h;obtain⟨W,⟨m0,y⟩,C⟩:=h;refine wpAny_While (codeAny_whileLoop (λn j=>∃O' H',Inv X G O' H' j/\W n O' H') ?_ m0 ⟨O,H,I,y⟩)
 rintro n R ⟨O1,H1,I1,V⟩
 refine wpAny_passesOwn L (thn (i G R O1 H1 _ I1 (C n O1 H1 V)) λb g ⟨H2,I2,S⟩=>?_);cases b with
 |true =>
  obtain⟨N,hN,S⟩:=S;rw[if_pos rfl];refine wpAny_passesOwn L (thn (Z G g O1 H2 _ I2 S) λf w e=>?_);cases f with
  |next =>
   obtain⟨O3,H3,I3,a⟩:=e;obtain⟨k,Y,l⟩:=hN O3 H3 a;exact⟨k,Y,O3,H3,I3,l⟩
  |cont =>
   obtain⟨O3,H3,I3,a⟩:=e;obtain⟨k,Y,l⟩:=hN O3 H3 a;exact⟨k,Y,O3,H3,I3,l⟩
  |brk=>exact e|ret v=>exact e
 |false =>
  rw[if_neg qF];exact wpAny_execs_nil ⟨O1,H2,I2,S⟩
end
structure It where
 go:Nat->Hp->Prop
 yld:Nat->Hp->V->Hp->Prop
 stop:Nat->Hp->Prop
def zCe(X:Cx)(G:Ls (Lz×Obj))(H:Hp)(b:Lz):Prop :=
 H b=none/\b≠X.env.locals/\b∉X.fs/\(b∈X.ex\/X.s₀.heap.objs.size<=b)/\(∀x c,X.env.cells.lookup x=some c->c≠b)/\∀p∈X.pn++G,p.1≠b
def Inv.fpOk(I:Inv X pins O H s)(Z:s.heap.objs.size<=b)(hn:H' b=none):zCe X pins H' b:=by
 refine⟨hn,ne_of_gt (lt_of_lt_of_le I.lt Z),I.nofs Z,.inr (le_trans I.sz Z),λx c e z=>?_,λp L z=>?_⟩
 ·obtain⟨v,q⟩:=I.cell x c e
  exact absurd (lt_of_lt_of_le q.lt (by rw[z];exact Z)) (lt_irrefl _)
 ·exact absurd (lt_of_lt_of_le (lt_size (I.pin p L).1) (by rw[z];exact Z)) (lt_irrefl _)
structure Turn(P:Lc)(w:Le)(K:qH)(tg:Lb)(J:It)(fp:List Lz)(it:Lz)(tn:Lm):Prop where
 mem:it∈fp
 obj:∀i h,tn i h->∀b∈fp,∃o,h.get? b=some o/\∀v,o.data≠.cell v
 keep:∀i h h',tn i h->(∀b∈fp,∀o,h.get? b=some o->h'.get? b=some o)->tn i h'
 item:∀(X:Cx),X.prog=P->X.w=w->X.K=K->X.calm=true->∀(i:Nat) (pins:List (Lz×Obj)) (s:La) (O:St) (H:Hp) (E:Ly),Inv X pins O H s->(∀b∈fp,zCe X pins H b)->tn i s.heap->J.go i H ->
  wpAny (model P w) X.A (pyNext (.ref it)) (λr s1=>∃u,r=some u /\
   wpAny (model P w) X.A (letOwnedTupleGo tg (.ref it) u) (λ_ s2=>∃x H',Inv X pins O H' s2/\yo x u/\J.yld i H x H'/\tn (i+1) s2.heap/\∀b∈fp,H' b=none) E s1) E s
 done:∀(X:Cx),X.prog=P->X.w=w->X.K=K->X.calm=true->∀(i:Nat) (pins:List (Lz×Obj)) (s:La) (O:St) (H:Hp) (E:Ly),Inv X pins O H s->(∀b∈fp,zCe X pins H b)->tn i s.heap->J.stop i H ->
  wpAny (model P w) X.A (pyNext (.ref it)) (λr s1=>r=none/\Inv X pins O H s1) E s
 self:∀(A:Li) (i:Nat) (s:La) (Q:Ly) (E:Ly),tn i s.heap->Q (.ref it) s->wpAny (model P w) A (pyIter (.ref it)) Q E s
abbrev TI:=St->Hp->(It->Hp->Prop)->Prop
def PIE(X:Cx)(G:Ls (Lz×Obj))(O:St)(tg:Lb)(R:It->Hp->Prop)(i:Lv)(g:La):Prop :=
 ∃(it:Lz) (a:Ls Lz) (P:Lm) (J:It) (H':Hp),i=.ref it/\Inv X G O H' g/\Turn X.prog X.w X.K tg J a it P/\P 0 g.heap/\(∀b∈a,zCe X G H' b)/\R J H'
def PI(X:Cx)(tg a:Lb)(c:TI):Prop :=
 ∀(G:Ls (Lz×Obj)) (s:La) (O:St) (H:Hp) (R:It->Hp->Prop),Inv X G O H s->c O H R ->
  wpAny (model X.prog X.w) X.A (eval a X.env) (λv e=>wpAny (model X.prog X.w) X.A (pyIter v) (PIE X G O tg R) X.xe e) X.xe s
def Y2{E:Ly}{Q:Unit->La->Prop}(J:s.heap.get? it=some o)(S:o.cls=.type n)(hd:o.data=.fields vs)
  (hn:["enumerate","zip","dict_itemiterator","dict_reverseitemiterator","odict_iterator","itertools.zip_longest","itertools.pairwise"].contains n=false) (z:Q () s):wpAny M A (letOwnedTupleGo tg (.ref it) u) Q E s:=by
 unfold letOwnedTupleGo
 cases tg<;>first
  |exact qC z
  | (cases u<;>first
    |exact qC z
    | (refine qB (wpAny_load J ?_)
       rw[S,hd];show wpAny M A (if(["enumerate","zip","dict_itemiterator","dict_reverseitemiterator","odict_iterator","itertools.zip_longest","itertools.pairwise"].contains n&&vs[0]?==some (rawInt _))=true then _ else _) Q E s;rw[if_neg (by intro h;rw[hn,Bool.false_and]at h;cases h)];exact qC z))
def Itl(K:qH)(a:Lz):It :=
 ⟨λi H=>∃Y x,SqL K H a Y/\Y[i]?=some x,λi H x H'=>H'=H/\∀Y,SqL K H a Y->Y[i]?=some x,λi H=>∃Y,SqL K H a Y/\Y.length<=i⟩
def Itt(K:qH)(a:Lz):It :=
 ⟨λi H=>∃Y x,SqT K H a Y/\Y[i]?=some x,λi H x H'=>H'=H/\∀Y,SqT K H a Y->Y[i]?=some x,λi H=>∃Y,SqT K H a Y/\Y.length<=i⟩
def Itr(lo:Int)(n:Nat):It:=⟨λi _=>i<n,λi H x H'=>H'=H/\x=.int (lo+i),λi _=>n<=i⟩
def zDT{P:Lc}{w:Le}{K:qH}{tg:Lb}(a it:Lz):Turn P w K tg (Itl K a) [it] it (λi h=>h.IsListIter it a i) where
 mem:=by simp
 obj:=λi h V b Z=>by
  have e:b=it:=by exists Z
  subst e;obtain⟨o,e,c,d⟩:=V;exact⟨o,e,λv z=>by rw[d]at z;cases z⟩
 keep:=λi h y V k=>V.at λo e=>k it (by simp) o e
 item:=by
  intro X r C D S i G s O H E I hf V t;subst r C D;obtain⟨Y,x,W,M⟩:=t;obtain⟨g,j,p,hz⟩:=I.list W;obtain⟨u,hu,ru⟩:=j.get M;obtain⟨q,l,n,J,L,R⟩:=hf it (by simp);refine wpAny_pyNext_list_item V p.isList (x:=u) (by exists hu) λy T sb=>?_
  have I1:Inv X G O H {s with heap:=y}:=I.turned (t':=s.toks) (λb o Z e=>(sb.2 b Z).trans e) q l J L R
  obtain⟨o,e,c,d⟩:=id T;exact⟨u,rfl,Y2 (s:={s with heap:=y}) e c d (by decide) ⟨x,H,I1,ru,⟨rfl,λys Q=>by rw[I.list_inj Q W];exact M⟩,T,λb Z=>(hf b Z).1⟩⟩
 done:=by
  intro X r C D S i G s O H E I hf V t;subst r C D;obtain⟨Y,W,M⟩:=t;obtain⟨g,j,p,hz⟩:=I.list W;obtain⟨q,l,n,J,L,R⟩:=hf it (by simp);have hl:=j.length;exact wpAny_pyNext_list_end (I.ok.hd S) V p.isList (by simp;lia) λy eb=>⟨rfl,I.turned (t':=s.toks) (λb o Z e=>eb b o Z e) q l J L R⟩
 self:=λ_ _ _ _ _ V h=>wpAny_pyIter_listiter V h
def zCf{P:Lc}{w:Le}{K:qH}{tg:Lb}(a it:Lz):Turn P w K tg (Itt K a) [it] it (λi h=>h.IsTupleIter it a i) where
 mem:=by simp
 obj:=λi h V b Z=>by
  have e:b=it:=by exists Z
  subst e;obtain⟨o,e,c,d⟩:=V;exact⟨o,e,λv z=>by rw[d]at z;cases z⟩
 keep:=λi h y V k=>V.at λo e=>k it (by simp) o e
 item:=by
  intro X r C D S i G s O H E I hf V t;subst r C D;obtain⟨Y,x,W,M⟩:=t;obtain⟨g,j,p,hz⟩:=I.tuple W;obtain⟨u,hu,ru⟩:=j.get M;obtain⟨q,l,n,J,L,R⟩:=hf it (by simp);refine wpAny_pyNext_tuple_item V (show s.heap.IsTuple a g.toArray from p) (x:=u) (by exists hu) λy T sb=>?_
  have I1:Inv X G O H {s with heap:=y}:=I.turned (t':=s.toks) (λb o Z e=>(sb.2 b Z).trans e) q l J L R
  obtain⟨o,e,c,d⟩:=id T;exact⟨u,rfl,Y2 (s:={s with heap:=y}) e c d (by decide) ⟨x,H,I1,ru,⟨rfl,λys Q=>by rw[I.tuple_inj Q W];exact M⟩,T,λb Z=>(hf b Z).1⟩⟩
 done:=by
  intro X r C D S i G s O H E I hf V t;subst r C D;obtain⟨Y,W,M⟩:=t;obtain⟨g,j,p,hz⟩:=I.tuple W;obtain⟨q,l,n,J,L,R⟩:=hf it (by simp);have hl:=j.length;exact wpAny_pyNext_tuple_end (I.ok.hd S) V (show s.heap.IsTuple a g.toArray from p) (by simp;lia) λy eb=>⟨rfl,I.turned (t':=s.toks) (λb o Z e=>eb b o Z e) q l J L R⟩
 self:=λ_ _ _ _ _ V h=>wpAny_pyIter_tupleiter V h
def zCg{P:Lc}{w:Le}{K:qH}{tg:Lb}(it:Lz)(lo:Int)(n:Nat):Turn P w K tg (Itr lo n) [it] it (λi h=>IsRangeIter h it (lo+(i:Nat)*1) ((n:Int)-(i:Nat)) 1) where
 mem:=by simp
 obj:=λi h V b Z=>by
  have e:b=it:=by exists Z
  subst e;exact⟨_,V,λv z=>by
   have Q:Data.fields _=Data.cell v:=z;cases Q⟩
 keep:=λi h y V k=>k it (by simp) _ V
 item:=by
  intro X r C D S i G s O H E I hf V a;subst r C D;obtain⟨q,l,c,J,L,R⟩:=hf it (by simp);have W:=Walks.range (prog:=X.prog) (w:=X.w) (I.ok.hd S) it lo 1 n;refine W.item i s _ _ a V λv y M hv T j=>?_
  obtain⟨t,rfl⟩:=hv;have I1:Inv X G O H {s with heap:=y,toks:=M}:=I.turned (λb o Z e=>j b o (by exists Z) e) q l J L R
  refine⟨_,rfl,Y2 (s:={s with heap:=y,toks:=M}) (n:="range_iterator") T rfl rfl (by decide) ⟨.int (lo+i),H,I1,⟨t,?_⟩,⟨rfl,rfl⟩,T,λb Z=>(hf b Z).1⟩⟩
  rw[Int.mul_one]
 done:=by
  intro X r C D S i G s O H E I hf V a;subst r C D;obtain⟨q,l,c,J,L,R⟩:=hf it (by simp);exact wpAny_pyNext_range_end (I.ok.hd S) V (by have:n<=i:=a;lia) λy g=>⟨rfl,I.turned (t':=s.toks) (λb o Z e=>g b o Z e) q l J L R⟩
 self:=λ_ _ _ _ _ V h=>wpAny_pyIter_rangeiter V h
section
variable{X:Cx}{tg:Lb}
def iList(K:qH)(k:TE):TI:=λO H R=>k O H λx H1=>∃a,x=.ref a/\(∃Y,SqL K H1 a Y)/\R (Itl K a) H1
def iTup(K:qH)(k:TE):TI:=λO H R=>k O H λx H1=>∃a,x=.ref a/\(∃Y,SqT K H1 a Y)/\R (Itt K a) H1
def zDU{l:Lb}{k:TE}(c:PE X l k):PI X tg l (iList X.K k):=by
 intro G s O H R I h;refine thn (c G s O H _ I h) λv i ⟨x,H1,I1,n,K⟩=>?_
 obtain⟨a,e,⟨Y,W⟩,q⟩:=K;subst e;cases n;obtain⟨g,j,p,hz⟩:=I1.list W;refine wpAny_pyIter_list p.isList ?_;refine⟨i.heap.objs.size,[i.heap.objs.size],_,_,H1,rfl,I1.kept (t':=i.toks) λb o e=>qA _ e,zDT a _,⟨_,get?_push_size _ rfl,rfl,rfl⟩,λb Z=>?_,q⟩;have e:b=i.heap.objs.size:=by exists Z
 subst e;exact I1.fpOk (le_refl _) (I1.hok.fresh (le_refl _))
def pi_tup{l:Lb}{k:TE}(c:PE X l k):PI X tg l (iTup X.K k):=by
 intro G s O H R I h;refine thn (c G s O H _ I h) λv i ⟨x,H1,I1,n,K⟩=>?_
 obtain⟨a,e,⟨Y,W⟩,q⟩:=K;subst e;cases n;obtain⟨g,j,p,hz⟩:=I1.tuple W;refine wpAny_pyIter_tuple (show i.heap.IsTuple a g.toArray from p) ?_;refine⟨i.heap.objs.size,[i.heap.objs.size],_,_,H1,rfl,I1.kept (t':=i.toks) λb o e=>qA _ e,zCf a _,⟨_,get?_push_size _ rfl,rfl,rfl⟩,λb Z=>?_,q⟩;have e:b=i.heap.objs.size:=by exists Z
 subst e;exact I1.fpOk (le_refl _) (I1.hok.fresh (le_refl _))
def zBf{G:Ls (Lz×Obj)}{O:St}{H:Hp}{s:La}{R:It->Hp->Prop}{E:Ly}{lo hi:Int}{t u v:Tok}{M:Nat}(I:Inv X G O H s)(J:-(2^62)<=lo)(Y:lo<2^62)(Q:-(2^62)<=hi)(h:hi<2^62)
  (q:R (Itr lo (hi-lo).toNat) H):wpAny (model X.prog X.w) X.A (pyIter (.ref s.heap.objs.size)) (PIE X G O tg R) E {s with heap:=s.heap.push {cls:=.type "range",data:=.fields #[.int lo t,.int hi u,.int 1 v]},toks:=M}:=by
 refine wpAny_pyIter_range (IsRange.new ..) (small_one J Y Q h) ?_;have I1:Inv X G O H {s with heap:=s.heap.push {cls:=.type "range",data:=.fields #[.int lo t,.int hi u,.int 1 v]},toks:=M}:=I.kept λb o e=>qA _ e
 refine⟨(s.heap.push {cls:=.type "range",data:=.fields #[.int lo t,.int hi u,.int 1 v]}).objs.size,[(s.heap.push {cls:=.type "range",data:=.fields #[.int lo t,.int hi u,.int 1 v]}).objs.size],_,_,H,rfl,
  I1.kept (t':=M) λb o e=>qA _ e,zCg _ lo (hi-lo).toNat,?_,λb Z=>?_,q⟩
 ·have W:lo+((0:Nat):Int)*1=lo:=by simp
  have P:(((hi-lo).toNat:Nat):Int)-((0:Nat):Int)=Builtin.Range.rangeSize lo hi 1:=by rw[rangeSize_one];split<;>lia
  show IsRangeIter _ _ (lo+((0:Nat):Int)*1) ((((hi-lo).toNat:Nat):Int)-((0:Nat):Int)) 1
  rw[W,P];exact get?_push_size _ rfl
 ·have e:b=(s.heap.push {cls:=.type "range",data:=.fields #[.int lo t,.int hi u,.int 1 v]}).objs.size:=by exists Z
  subst e;exact I1.fpOk (le_refl _) (I1.hok.fresh (le_refl _))
def iRng1(w:TA):TI:=λO H R=>w O H λL H1=>∃j:Int,L=[.int j]/\-(2^62)<=j/\j<2^62/\R (Itr 0 j.toNat) H1
def iRng2(w:TA):TI:=λO H R=>w O H λL H1=>∃i j:Int,L=[.int i,.int j]/\(-(2^62)<=i/\i<2^62/\-(2^62)<=j/\j<2^62)/\R (Itr i (j-i).toNat) H1
def Qd{a:Lb}{w:TA}{p g:Pos}(i:Gl X "range")(Y:X.mg "range"=none)(C:PA X [a] w)(T:starEach [a] X.env=[(false,eval a X.env)]:=by rfl):PI X tg (.Call (.Name "range" p) [a] [] g) (iRng1 w):=by
 intro G s O H R I h;refine Call_ (Y1 I i Y boot_range (PyProof.Rows.callWith_type1 (thn (C g G s O H _ I h) λD k ⟨L,H1,I1,l,K⟩=>?_) T rfl));obtain⟨j,e,K,S,q⟩:=K;subst e;cases l with
 |cons r c =>
  cases c;obtain⟨t,rfl⟩:=r;exact call_range_1 (zBf I1 (by lia) (by lia) K S (by exists q))
def Qe(g:Gl X "range")(Y:X.mg "range"=none)(C:PA X [a,b] ta)(T:starEach [a,b] X.env=[(false,eval a X.env),(false,eval b X.env)]:=by rfl)(w:starEach [b] X.env=[(false,eval b X.env)]:=by rfl) :
  PI X tg (.Call (.Name "range" p) [a,b] [] pos) (iRng2 ta):=by
 intro G s O H R I h;refine Call_ (Y1 I g Y boot_range (PyProof.Rows.callWith_type1 (thn (C pos G s O H _ I h) λD n ⟨k,H1,I1,l,K⟩=>?_) (by rw[T,w]) (by rw[w];rfl)));obtain⟨i,j,e,⟨K,S,W,E⟩,q⟩:=K;subst e;cases l with
 |cons r c =>
  cases c with
  |cons L c =>
   cases c;obtain⟨t,rfl⟩:=r;obtain⟨V,rfl⟩:=L;exact call_range_2 (zBf I1 K S W E q)
def tFor(c:TI)(g:TG)(h:TS):TS:=λD O H=>c O H λJ H1=>∃W:Nat->Nat->St->Hp->Prop,(∃m,W 0 m O H1)/\∀i m O H,W i m O H ->
 (J.stop i H/\D.nx O H)\/(J.go i H/\∃N:St->Hp->Prop,(∀O' H',N O' H'->∃k,k<m/\W (i+1) k O' H')/\∀x H',J.yld i H x H'->g x O H' λO2 H2=>h {D with nx:=N,ct:=N,bk:=D.nx} O2 H2)
def Qf(fp:Ls Lz)(h:Heap):Ls (Lz×Obj):=fp.filterMap λb=>(h.get? b).map λo=>(b,o)
def J6(Z:b∈fp)(e:h.get? b=some o):(b,o)∈Qf fp h:=mem_filterMap.mpr ⟨b,Z,by rw[e];rfl⟩
def zDV(L:p∈Qf fp h):p.1∈fp/\h.get? p.1=some p.2:=by
 obtain⟨b,Z,e⟩:=mem_filterMap.mp L;exists q,h.get? b,e,o;have C:(b,o)=p:=qJ e;subst C;exact⟨Z,q⟩
def Inv.pinned(I:Inv X pins O H s)(Y:∀b∈fp,zCe X pins H b)(J:∀b∈fp,∃o,s.heap.get? b=some o/\∀v,o.data≠.cell v):Inv X (pins++Qf fp s.heap) O H s :=
 I.pins_of λp L=>(mem_append.mp L).elim (λz=>I.pin p (qK _ z)) λz=>by
  obtain⟨Z,e⟩:=zDV z;obtain⟨q,l,n,_⟩:=Y p.1 Z;obtain⟨o,C,d⟩:=J p.1 Z;rw[e]at C;cases C;exact⟨e,q,l,n,d⟩
def Inv.unpinned(I:Inv X (pins++pl) O H s):Inv X pins O H s:=I.pins_of λp L=>I.pin p (qK _ (mem_append_left _ L))
def zBg(L:PassesOwn (model X.prog X.w) X.A X.env X.xe)(S:X.calm=true)(hi:PI X tg iter wi)(t:PG X tg g)(Z:PSs X body tb)
  (hs:∀x,foldedSetIterable iter X.env x=pure x:=by intro _;rfl):PS X (.For tg iter body [] pos) (tFor wi g tb):=by
 intro G s O H D I h;refine wpAny_For (thn (hi G s O H _ I h) λv s1 h1=>thn h1 λad s2 h2=>?_) hs;obtain⟨it,a,P,J,H2,e,I2,T,q,f2,W,⟨m0,y⟩,C⟩:=h2;subst e
 -- what stays true of the iterator's objects through the loop
 have R:∀{H':Hp},(∀b∈a,H' b=none)->∀b∈a,zCe X G H' b:=λhn b Z=>⟨hn b Z,(f2 b Z).2⟩
 refine codeAny_forLoop_any (λn j=>∃i O' H',Inv X G O' H' j/\P i j.heap/\(∀b∈a,H' b=none)/\W i n O' H') ?_ m0 ⟨0,O,H2,I2,q,λb Z=>(f2 b Z).1,y⟩
 rintro n w ⟨i,O3,H3,I3,aa,k,w3⟩
 rcases C i n O3 H3 w3 with⟨ab,M⟩|⟨go,N,hN,step⟩
 ·refine wpAny_passesOwn L (thn (T.done X rfl rfl rfl S i G w O3 H3 X.xe I3 (R k) aa ab) λr p ⟨z,I4⟩=>?_)
  subst z;exact wpAny_execs_nil ⟨O3,H3,I4,M⟩
 ·refine wpAny_passesOwn L (thn (T.item X rfl rfl rfl S i G w O3 H3 X.xe I3 (R k) aa go) λr p ⟨u,z,h4⟩=>?_)
  subst z;refine wpAny_passesOwn L (thn h4 λ_ K ⟨x,H5,I5,V,y5,E,ac⟩=>?_);have I5':=I5.pinned (R ac) (T.obj _ _ E);refine wpAny_passesOwn L (thn (t _ K O3 H5 x u _ I5' V (step x H5 y5)) λ_ s6 ⟨O6,H6,I6,q6⟩=>?_);refine wpAny_passesOwn L (thn (Z _ s6 O6 H6 _ I6 q6) λf s7 c=>?_);have l:∀{O7:St} {H7:Hp},Inv X (G++Qf a K.heap) O7 H7 s7->N O7 H7->∃m,m<n/\∃i O' H',Inv X G O' H' s7/\P i s7.heap/\(∀b∈a,H' b=none)/\W i m O' H':=λ{O7 H7} I7 Q=>by
   obtain⟨m',Y,w7⟩:=hN O7 H7 Q;refine⟨m',Y,i+1,O7,H7,I7.unpinned,T.keep _ _ _ E λb Z o e=>(I7.pin (b,o) (qK _ (qK _ (J6 Z e)))).1,λb Z=>?_,w7⟩;obtain⟨o,e,d⟩:=T.obj _ _ E b Z;exact(I7.pin (b,o) (qK _ (qK _ (J6 Z e)))).2.1
  cases f with
  |next=>obtain⟨O7,H7,I7,Q⟩:=c;exact l I7 Q|cont=>obtain⟨O7,H7,I7,Q⟩:=c;exact l I7 Q|brk=>obtain⟨O7,H7,I7,c⟩:=c;exact⟨O7,H7,I7.unpinned,c⟩|ret v=>obtain⟨x7,O7,H7,I7,r7,c⟩:=c;exact⟨x7,O7,H7,I7.unpinned,r7,c⟩
end
def zFz{K:qH}{a:Lz}{xs:Ls V}{g:TG}{h:TS}{D:Ends}{O:St}{H:Hp}(j:Nat->St->Hp->Prop)(P:j 0 O H)(c:∀i O H,i<=xs.length->j i O H->SqL K H a xs)
  (T:∀i x O H,xs[i]?=some x->j i O H->g x O H λO2 H2=>h {D with nx:=j (i+1),ct:=j (i+1),bk:=D.nx} O2 H2) (hd:∀O H,j xs.length O H->D.nx O H) :
  ∃W:Nat->Nat->St->Hp->Prop,(∃m,W 0 m O H)/\∀i m O H,W i m O H ->
   ((Itl K a).stop i H/\D.nx O H)\/((Itl K a).go i H/\∃N:St->Hp->Prop,(∀O' H',N O' H'->∃k,k<m/\W (i+1) k O' H')/\∀x H',(Itl K a).yld i H x H'->g x O H' λO2 H2=>h {D with nx:=N,ct:=N,bk:=D.nx} O2 H2):=by
 refine⟨λi m O H=>m=xs.length-i/\i<=xs.length/\j i O H,⟨xs.length,by simp,zero_le _,P⟩,?_⟩
 rintro i m O H ⟨rfl,R,p⟩
 have q:=c i O H R p;by_cases I:i<xs.length
 ·refine .inr ⟨⟨xs,xs[i],q,by simp[I]⟩,j (i+1),λO' H' l=>⟨xs.length-(i+1),by lia,rfl,I,l⟩,λx H' y=>?_⟩
  obtain⟨e,y⟩:=y;subst e;exact T i x O _ (y xs q) p
 ·have e:i=xs.length:=by lia
  subst e;exact .inl ⟨⟨xs,q,le_refl _⟩,hd O H p⟩
def zDW{lo:Int}{n:Nat}{g:TG}{h:TS}{D:Ends}{O:St}{H:Hp}(j:Nat->St->Hp->Prop)(P:j 0 O H)
  (T:∀i O H,i<n->j i O H->g (.int (lo+i)) O H λO2 H2=>h {D with nx:=j (i+1),ct:=j (i+1),bk:=D.nx} O2 H2) (hd:∀O H,j n O H->D.nx O H) :
  ∃W:Nat->Nat->St->Hp->Prop,(∃m,W 0 m O H)/\∀i m O H,W i m O H ->
   ((Itr lo n).stop i H/\D.nx O H)\/((Itr lo n).go i H/\∃N:St->Hp->Prop,(∀O' H',N O' H'->∃k,k<m/\W (i+1) k O' H')/\∀x H',(Itr lo n).yld i H x H'->g x O H' λO2 H2=>h {D with nx:=N,ct:=N,bk:=D.nx} O2 H2):=by
 refine⟨λi m O H=>m=n-i/\i<=n/\j i O H,⟨n,by simp,zero_le _,P⟩,?_⟩
 rintro i m O H ⟨rfl,R,p⟩
 by_cases I:i<n
 ·refine .inr ⟨I,j (i+1),λO' H' V=>⟨n-(i+1),by lia,rfl,I,V⟩,λx H' y=>?_⟩
  obtain⟨e,y⟩:=y;subst e y;exact T i O _ I p
 ·have e:i=n:=by lia
  subst e;exact .inl ⟨le_refl _,hd O H p⟩
abbrev R2:=V->V->Hp->VK->Prop
def OpR(X:Cx)(f:Lv->Lv->Sem Lv)(r:R2):Prop :=
 ∀(G:Ls (Lz×Obj)) (s:La) (O:St) (H:Hp) (x y:V) (v u:Lv) (Q:VK),Inv X G O H s->yo x v->yo y u->r x y H Q ->
  wpAny (model X.prog X.w) X.A (f v u) (EP X G O Q) X.xe s
def UnR(X:Cx)(f:Lv->Sem Lv)(r:V->Hp->VK->Prop):Prop :=
 ∀(G:Ls (Lz×Obj)) (s:La) (O:St) (H:Hp) (x:V) (v:Lv) (Q:VK),Inv X G O H s->yo x v->r x H Q ->
  wpAny (model X.prog X.w) X.A (f v) (EP X G O Q) X.xe s
def jb(X:Cx)(f:Lv)(r:Ls V->Hp->VK->Prop):Prop :=
 ∀(G:Ls (Lz×Obj)) (s:La) (O:St) (H:Hp) (Y:Ls V) (D:Ls Lv) (Q:VK),Inv X G O H s->zq Y D->r Y H Q ->
  wpAny (model X.prog X.w) X.A (call f D) (EP X G O Q) X.xe s
def tOp(r:R2)(w h:TE):TE:=λO H Q=>w O H λx H1=>h O H1 λy H2=>r x y H2 Q
def tUn(r:V->Hp->VK->Prop)(w:TE):TE:=λO H Q=>w O H λx H1=>r x H1 Q
def rI(C:Int->Int->Prop)(g:Int->Int->V):R2:=λx y H Q=>∃i j,x=.int i/\y=.int j/\C i j/\Q (g i j) H
def rI0(g:Int->Int->V):R2:=λx y H Q=>∃i j,x=.int i/\y=.int j/\Q (g i j) H
def rU(g:Int->V):V->Hp->VK->Prop:=λx H Q=>∃i,x=.int i/\Q (g i) H
section
variable{X:Cx}{a b c:Lb}{ta tb tc:TE}{pos:Pos}
def binT(C:PE X a ta)(Z:PE X b tb){R:V->V->Hp->Prop}(I:Inv X pins O H s)
  (h:ta O H λx H1=>tb O H1 λy H2=>R x y H2) {Q:Ly} {f:Lv->Lv->Sem Lv}
  (Y:∀v u g x y H2,Inv X pins O H2 g->yo x v->yo y u->R x y H2->wpAny (model X.prog X.w) X.A (f v u) Q X.xe g) :
  wpAny (model X.prog X.w) X.A (eval a X.env) (λv p=>wpAny (model X.prog X.w) X.A (eval b X.env) (λu q=>wpAny (model X.prog X.w) X.A (f v u) Q X.xe q) X.xe p) X.xe s:=by
 refine thn (C pins s O H _ I h) λv c ⟨x,H1,I1,l,K⟩=>?_
 refine thn (Z pins c O H1 _ I1 K) λu g ⟨y,H2,I2,o,S⟩=>?_
 exact Y v u g x y H2 I2 l o S
def pe_op(J:OpR X (binaryOp op) r)(C:PE X a ta)(Z:PE X b tb):PE X (.BinOp a op b pos) (tOp r ta tb):=by
 intro G s O H Q I h;exact wpAny_BinOp (binT C Z I h λv u g x y H2 I2 w P q=>J G g O H2 x y v u Q I2 w P q)
def pe_un{r:V->Hp->VK->Prop}(J:UnR X (unaryOp op) r)(C:PE X a ta):PE X (.UnaryOp op a pos) (tUn r ta):=by
 intro G s O H Q I h;exact UnaryOp_ (thn (C G s O H _ I h) λv R ⟨x,H1,I1,l,K⟩=>J G R O H1 x v Q I1 l K)
def opI{f:Lv->Lv->Sem Lv}{C:Int->Int->Prop}{g:Int->Int->Int}
  (r:∀(i j:Int) (t u:Tok) (s:La) (Q:Ly) (E:Ly),C i j->Q (.int (g i j) s.toks) {s with toks:=s.toks+1}->wpAny (model X.prog X.w) X.A (f (.int i t) (.int j u)) Q E s) :
  OpR X f (rI C λi j=>.int (g i j)):=by
 intro G s O H x y v u Q I w P h;obtain⟨i,j,rfl,rfl,S,q⟩:=h;obtain⟨t,rfl⟩:=w;obtain⟨V,rfl⟩:=P;exact r i j t V s _ _ S ⟨.int (g i j),H,I.tok _,⟨_,rfl⟩,q⟩
def opI0{f:Lv->Lv->Sem Lv}{g:Int->Int->Int}
  (r:∀(i j:Int) (t u:Tok) (s:La) (Q:Ly) (E:Ly),Q (.int (g i j) s.toks) {s with toks:=s.toks+1}->wpAny (model X.prog X.w) X.A (f (.int i t) (.int j u)) Q E s) :
  OpR X f (rI0 λi j=>.int (g i j)):=by
 intro G s O H x y v u Q I w P h;obtain⟨i,j,rfl,rfl,q⟩:=h;obtain⟨t,rfl⟩:=w;obtain⟨V,rfl⟩:=P;exact r i j t V s _ _ ⟨.int (g i j),H,I.tok _,⟨_,rfl⟩,q⟩
def opB0{f:Lv->Lv->Sem Lv}{g:Ll}
  (r:∀(i j:Int) (t u:Tok) (s:La) (Q:Ly) (E:Ly),Q (.bool (g i j)) s->wpAny (model X.prog X.w) X.A (f (.int i t) (.int j u)) Q E s) :
  OpR X f (rI0 λi j=>.bl (g i j)):=by
 intro G s O H x y v u Q I w P h;obtain⟨i,j,rfl,rfl,q⟩:=h;obtain⟨t,rfl⟩:=w;obtain⟨V,rfl⟩:=P;exact r i j t V s _ _ ⟨.bl (g i j),H,I,rfl,q⟩
def CPow(i j:Int):Prop:=0<=j/\j<=1000000/\i.natAbs<2^64
def CMul(i j:Int):Prop:=(-(2^64)<i/\i<2^64)\/(-(2^64)<j/\j<2^64)
def CMul.ok{i j:Int}(h:CMul i j):IntMulOk i j:=by
 rcases h with⟨J,h2⟩|⟨J,h2⟩
 ·exact .of_left (intBits_le_64 J h2)
 ·exact .of_right (intBits_le_64 J h2)
def op_add:OpR X (binaryOp .Add) (rI0 λi j=>.int (i+j)):=opI0 λ_ _ _ _ _ _ _ q=>add_int q
def op_sub:OpR X (binaryOp .Sub) (rI0 λi j=>.int (i-j)):=opI0 λ_ _ _ _ _ _ _ q=>sub_int q
def op_mod:OpR X (binaryOp .Mod) (rI (λ_ j=>0<j) λi j=>.int (i%j)):=opI λi j _ _ _ _ _ S q=>by
 have J:(0:Int)<j:=S;exact mod_int' (by lia) (by rw[Int.fmod_eq_emod_of_nonneg i (by lia)];exact q)
def op_pow:OpR X (binaryOp .Pow) (rI CPow λi j=>.int (i^j.toNat)):=opI λ_ _ _ _ _ _ _ S q=>pow_int_small S.1 S.2.1 S.2.2 q
def unI{f:Lv->Sem Lv}{g:Int->Int}
  (r:∀(i:Int) (t:Tok) (s:La) (Q:Ly) (E:Ly),Q (.int (g i) s.toks) {s with toks:=s.toks+1}->wpAny (model X.prog X.w) X.A (f (.int i t)) Q E s) :
  UnR X f (rU λi=>.int (g i)):=by
 intro G s O H x v Q I w h;obtain⟨i,rfl,q⟩:=h;obtain⟨t,rfl⟩:=w;exact r i t s _ _ ⟨.int (g i),H,I.tok _,⟨_,rfl⟩,q⟩
def un_neg:UnR X (unaryOp .USub) (rU λi=>.int (-i)):=unI λ_ _ _ _ _ q=>neg_int q
end
def scal:V->V->Bool
 | .non,.non=>true | .non,.int _=>true | .int _,.non=>true | .non,.bl _=>true | .bl _,.non=>true | .non,.str _=>true | .str _,.non=>true
 | .int _,.int _=>true | .bl _,.bl _=>true | .str _,.str _=>true | .byt _,.byt _=>true
 | .int _,.str _=>true | .str _,.int _=>true | .bl _,.str _=>true | .str _,.bl _=>true
 |_,_=>false
def rEq:R2:=λx y H Q=>scal x y=true/\Q (.bl (decide (x=y))) H
def rNe:R2:=λx y H Q=>scal x y=true/\Q (.bl (!decide (x=y))) H
def zDX:decide (V.int i=V.int j)=(i==j):=by
 rw[Bool.eq_iff_iff];simp
def zHd:decide (V.bl i=V.bl j)=(i==j):=by
 rw[Bool.eq_iff_iff];simp
def zDY:decide (V.str i=V.str j)=(i==j):=by
 rw[Bool.eq_iff_iff];simp
def zDZ:decide (V.byt i=V.byt j)=(i.toList==j.toList):=by
 rw[Bool.eq_iff_iff];cases i;cases j;simp
section
variable{X:Cx}{a b c:Lb}{ta tb tc:TE}{pos:Pos}
def z6(I:Inv X pins O H s)(q:Q (.bl k) H)(e:k=k'):EP X pins O Q (.bool k') s:=by
 subst e;exact⟨.bl k,H,I,rfl,q⟩
def op_eq:OpR X (compareOp .Eq) rEq:=by
 intro G s O H x y v u Q I w P h;obtain⟨T,q⟩:=h;cases x with
 |non =>
  cases w;cases y with
  |non=>cases P;exact PySem.EqNone.eq_none_none (z6 I q (by simp))|bl j=>cases P;exact PySem.EqNone.eq_none_bool (z6 I q (by simp))|int j=>obtain⟨V,rfl⟩:=P;exact PySem.EqNone.eq_none_int (z6 I q (by simp))|str j=>obtain⟨V,rfl⟩:=P;exact PySem.EqNone.eq_none_str (z6 I q (by simp))|_=>exact absurd (show false=true from T) qF
 |bl i =>
  cases w;cases y with
  |non=>cases P;exact PySem.EqNone.eq_bool_none (z6 I q (by simp))|bl j=>cases P;exact eq_bool (z6 I q zHd)|str j=>obtain⟨V,rfl⟩:=P;exact PySem.EqMixed.eq_bool_str (z6 I q (by simp))|_=>exact absurd (show false=true from T) qF
 |int i =>
  obtain⟨t,rfl⟩:=w;cases y with
  |non=>cases P;exact PySem.EqNone.eq_int_none (z6 I q (by simp))|int j=>obtain⟨V,rfl⟩:=P;exact eq_int (z6 I q zDX)|str j=>obtain⟨V,rfl⟩:=P;exact PySem.EqMixed.eq_int_str (z6 I q (by simp))|_=>exact absurd (show false=true from T) qF
 |str i =>
  obtain⟨t,rfl⟩:=w;cases y with
  |non=>cases P;exact PySem.EqNone.eq_str_none (z6 I q (by simp))|bl j=>cases P;exact PySem.EqMixed.eq_str_bool (z6 I q (by simp))|int j=>obtain⟨V,rfl⟩:=P;exact PySem.EqMixed.eq_str_int (z6 I q (by simp))|str j=>obtain⟨V,rfl⟩:=P;exact eq_str (z6 I q zDY)|_=>exact absurd (show false=true from T) qF
 |byt i =>
  obtain⟨t,rfl⟩:=w;cases y with
  |byt j=>obtain⟨V,rfl⟩:=P;exact PySem.W.eq_bytes (z6 I q zDZ)|_=>exact absurd (show false=true from T) qF
 |_=>cases y<;>exact absurd (show false=true from T) qF
def op_ne:OpR X (compareOp .NotEq) rNe:=by
 intro G s O H x y v u Q I w P h;obtain⟨T,q⟩:=h;cases x with
 |non =>
  cases w;cases y with
  |non=>cases P;exact PySem.EqNone.ne_none_none (z6 I q (by simp))|bl j=>cases P;exact PySem.EqNone.ne_none_bool (z6 I q (by simp))|int j=>obtain⟨V,rfl⟩:=P;exact PySem.EqNone.ne_none_int (z6 I q (by simp))|str j=>obtain⟨V,rfl⟩:=P;exact PySem.EqNone.ne_none_str (z6 I q (by simp))|_=>exact absurd (show false=true from T) qF
 |bl i =>
  cases w;cases y with
  |non=>cases P;exact PySem.EqNone.ne_bool_none (z6 I q (by simp))|bl j=>cases P;exact ne_bool (z6 I q (congrArg not zHd))|str j=>obtain⟨V,rfl⟩:=P;exact PySem.EqMixed.ne_bool_str (z6 I q (by simp))|_=>exact absurd (show false=true from T) qF
 |int i =>
  obtain⟨t,rfl⟩:=w;cases y with
  |non=>cases P;exact PySem.EqNone.ne_int_none (z6 I q (by simp))|int j=>obtain⟨V,rfl⟩:=P;exact ne_int (z6 I q (congrArg not zDX))|str j=>obtain⟨V,rfl⟩:=P;exact PySem.EqMixed.ne_int_str (z6 I q (by simp))|_=>exact absurd (show false=true from T) qF
 |str i =>
  obtain⟨t,rfl⟩:=w;cases y with
  |non=>cases P;exact PySem.EqNone.ne_str_none (z6 I q (by simp))|bl j=>cases P;exact PySem.EqMixed.ne_str_bool (z6 I q (by simp))|int j=>obtain⟨V,rfl⟩:=P;exact PySem.EqMixed.ne_str_int (z6 I q (by simp))|str j=>obtain⟨V,rfl⟩:=P;exact ne_str (z6 I q (congrArg not zDY))|_=>exact absurd (show false=true from T) qF
 |byt i =>
  obtain⟨t,rfl⟩:=w;cases y with
  |byt j=>obtain⟨V,rfl⟩:=P;exact PySem.W.ne_bytes (z6 I q (congrArg not zDZ))|_=>exact absurd (show false=true from T) qF
 |_=>cases y<;>exact absurd (show false=true from T) qF
def op_lt:OpR X (compareOp .Lt) (rI0 λi j=>.bl (decide (i<j))):=opB0 λ_ _ _ _ _ _ _ q=>lt_int q
def op_le:OpR X (compareOp .LtE) (rI0 λi j=>.bl (decide (i<=j))):=opB0 λ_ _ _ _ _ _ _ q=>le_int q
def op_gt:OpR X (compareOp .Gt) (rI0 λi j=>.bl (decide (j<i))):=opB0 λ_ _ _ _ _ _ _ q=>gt_int q
def op_ge:OpR X (compareOp .GtE) (rI0 λi j=>.bl (decide (j<=i))):=opB0 λ_ _ _ _ _ _ _ q=>ge_int q
def OpR.or{f:Lv->Lv->Sem Lv}(h:OpR X f r)(h':OpR X f r'):OpR X f (λx y H Q=>r x y H Q\/r' x y H Q):=by
 intro G s O H x y v u Q I w P q;rcases q with q|q
 ·exact h G s O H x y v u Q I w P q
 ·exact h' G s O H x y v u Q I w P q
def pe_cmpR(J:OpR X (compareOp op) r)(C:PE X a ta)(Z:PE X b tb)(Y:behindInMarks op b=false):PE X (.Compare a [op] [b] pos) (tOp r ta tb):=by
 intro G s O H Q I h;exact wpAny_Compare1 (binT C Z I h λv u g x y H2 I2 w P q=>J G g O H2 x y v u Q I2 w P q) Y
def tTest(t:TE):TT:=λO H Q=>t O H λx H'=>∃k,x=.bl k/\Q k H'
def pt_cmpR(J:OpR X (compareOp op) r)(C:PE X a ta)(Z:PE X b tb)(Y:behindInMarks op b=false):PT X (.Compare a [op] [b] pos) (tTest (tOp r ta tb)):=by
 intro G s O H Q I h;refine wpAny_isTrue_Compare1 (thn (C G s O H _ I h) λv R ⟨x,H1,I1,l,K⟩=>thn (Z G R O H1 _ I1 K) λu g ⟨y,H2,I2,o,S⟩ =>
  thn (J G g O H2 x y v u _ I2 l o S) λc w ⟨z,H3,I3,t,k,e,W⟩=>?_) Y
 subst e;cases t;exact wpAny_truthy_bool ⟨H3,I3,W⟩
def zDa(r L:R2)(w h t:TE):TE:=λO H Q=>w O H λx H1=>h O H1 λy H2=>r x y H2 λz H3=>∃k,z=.bl k /\
 (if k=true then t O H3 λv H4=>L y v H4 Q else Q (.bl false) H3)
def zF0(J:OpR X (compareOp op) r)(M:OpR X (compareOp op') r')(C:PE X a ta)(Z:PE X b tb)(S:PE X c tc)
  (Y:lastMarks [op,op'] [b,c]=false:=by with_unfolding_all rfl):PE X (.Compare a [op,op'] [b,c] pos) (zDa r r' ta tb tc):=by
 intro G s O H Q I h;refine Compare_chain (thn (C G s O H _ I h) λv R ⟨x,H1,I1,l,K⟩=>chain_link (thn (Z G R O H1 _ I1 K) λu g ⟨y,H2,I2,o,n⟩ =>
  thn (J G g O H2 x y v u _ I2 l o n) λd w ⟨z,H3,I3,t,k,e,W⟩=>?_)) Y
 subst e;cases t;refine wpAny_truthy_bool ?_;cases k with
 |false=>exact ite_ff ⟨.bl false,H3,I3,rfl,W⟩|true=>exact ite_tt (chain_last (thn (S G w O H3 _ I3 W) λi p ⟨j,H4,I4,q,E⟩=>M G p O H4 y j u i Q I4 o q E))
def zF1(J:OpR X (compareOp op) r)(M:OpR X (compareOp op') r')(ha:PE X a ta)(Z:PE X b tb)(S:PE X c tc)
  (Y:lastMarks [op,op'] [b,c]=false:=by with_unfolding_all rfl):PT X (.Compare a [op,op'] [b,c] pos) (tTest (zDa r r' ta tb tc)):=by
 intro G s O H Q I h;refine isTrue_chain (thn (ha G s O H _ I h) λv R ⟨x,H1,I1,l,K⟩=>test_link (thn (Z G R O H1 _ I1 K) λu g ⟨y,H2,I2,o,q2⟩ =>
  thn (J G g O H2 x y v u _ I2 l o q2) λd w ⟨z,H3,I3,t,k,e,W⟩=>?_)) Y
 subst e;cases t;refine wpAny_truthy_bool ?_;cases k with
 |false =>
  obtain⟨n,C,j⟩:=W;cases C;exact ite_ff ⟨H3,I3,j⟩
 |true =>
  refine ite_tt (test_last (thn (S G w O H3 _ I3 W) λL p ⟨z',H4,I4,q,E⟩=>thn (M G p O H4 y z' u L _ I4 o q E) λT s5 ⟨i,H5,I5,V,k2,P,D⟩=>?_));subst P;cases V;exact wpAny_truthy_bool ⟨H5,I5,D⟩
def zBh:(sizeLine:Nat)<2^63:=by rw[sizeLine_eq];decide
def ZT(r:zq [x] us):∃u,us=[u]/\yo x u:=by
 cases r with
 |cons l o=>cases o;exact⟨_,rfl,l⟩
def vals2(r:zq [x,y] us):∃u w',us=[u,w']/\yo x u/\yo y w':=by
 cases r with
 |cons l o =>
  cases o with
  |cons t q=>cases q;exact⟨_,_,rfl,l,t⟩
def zF2:jb X (.builtin "abs") (λY H Q=>∃i,Y=[.int i]/\Q (.int (if i<0 then -i else i)) H):=by
 intro G s O H Y D Q I r h;obtain⟨i,rfl,q⟩:=h;obtain⟨u,rfl,t,rfl⟩:=ZT r;exact call_abs_int λu M=>⟨.int (if i<0 then -i else i),H,I.tok _,⟨_,rfl⟩,q⟩
def zDb(S:X.calm=true):jb X (.builtin "max") (λY H Q=>∃i j,Y=[.int i,.int j]/\Q (.int (if j > i then j else i)) H):=by
 intro G s O H Y D Q I r h;obtain⟨i,j,rfl,q⟩:=h;obtain⟨u,v,rfl,⟨t,rfl⟩,⟨V,rfl⟩⟩:=vals2 r;refine max_two_ints (I.ok.hd S) λy M k=>⟨_,H,I.kept k,?_,q⟩
 by_cases l:j > i
 ·rw[if_pos l,if_pos l];exact⟨_,rfl⟩
 ·rw[if_neg l,if_neg l];exact⟨_,rfl⟩
def zDc(S:X.calm=true):jb X (.builtin "min") (λY H Q=>∃i j,Y=[.int i,.int j]/\Q (.int (if j<i then j else i)) H):=by
 intro G s O H Y D Q I r h;obtain⟨i,j,rfl,q⟩:=h;obtain⟨u,v,rfl,⟨t,rfl⟩,⟨V,rfl⟩⟩:=vals2 r;refine min_two_ints (I.ok.hd S) λy M k=>⟨_,H,I.kept k,?_,q⟩
 by_cases l:j<i
 ·rw[if_pos l,if_pos l];exact⟨_,rfl⟩
 ·rw[if_neg l,if_neg l];exact⟨_,rfl⟩
def zDd:jb X (.type "int") (λY H Q=>(∃i,Y=[.int i]/\Q (.int i) H)\/∃k,Y=[.bl k]/\Q (.int (if k then 1 else 0)) H):=by
 intro G s O H Y D Q I r h;rcases h with⟨i,rfl,q⟩|⟨k,rfl,q⟩
 ·obtain⟨u,rfl,t,rfl⟩:=ZT r
  exact call_int_int ⟨.int i,H,I,⟨_,rfl⟩,q⟩
 ·obtain⟨u,rfl,l⟩:=ZT r
  cases l;exact call_int_bool ⟨.int (if k then 1 else 0),H,I.tok _,⟨_,rfl⟩,q⟩
end
structure ObjM(h:Heap)(x dx C:Lz)(mA:Str->Lp):Prop where
 obj:h.get? x=some (instObj C dx)
 ns:h.Ns1 dx mA
 ne:dx≠x
structure Cls(K:qH)(C:Lz):Prop where
 pg:plainGet K C Str.empty=true
 hd:PySem.W.hasDictIn K C=true
 po:PySem.W.plainOver K C=true
 sa:findIn K (.ref C) "__setattr__"=some (some (.builtin "object.__setattr__"))
def Cls.get{K:qH}{C:Lz}(c:Cls K C)(f:Str):plainGet K C f=true:=c.pg
structure Con(K:qH)(C:Lz)(f:Str)(v:V)(u:Lv):Prop where
 at_:findIn K (.ref C) f=some (some u)
 rel:yo v u
 get:specialIn K u "__get__"=some none
 cp:PySem.W.copiedNames.contains f=false
structure Meth(K:qH)(C:Lz)(m:Str)(f:Lz):Prop where
 at_:findIn K (.ref C) m=some (some (.ref f))
 fn:PySem.W.isFn K (.ref f)=true
 kp:keepIn K (.ref f)=true
section
variable{X:Cx}{pins:Ls (Lz×Obj)}{O:St}{H:Hp}{s:La}{a C dx:Lz}{fs:Ls (Str×V)}{f:Str}{v:V}{A:Li}{E:Ly}
def Inv.made(I:Inv X pins O H s):Inv X pins O (upd (upd H s.heap.objs.size (.w (s.heap.objs.size+1))) (s.heap.objs.size+1) (.ins C s.heap.objs.size []))
  {s with heap:=(s.heap.push emptyDict).push (instObj C s.heap.objs.size)}:=by
 have W:(s.heap.push emptyDict).get? s.heap.objs.size=some emptyDict:=get?_push_size s.heap rfl;have P:((s.heap.push emptyDict).push (instObj C s.heap.objs.size)).get? (s.heap.objs.size+1)=some (instObj C s.heap.objs.size):=by
  have:=get?_push_size (s.heap.push emptyDict) (o:=instObj C s.heap.objs.size) rfl
  rwa [size_push]at this
 have n:(s.heap.push emptyDict).Ns s.heap.objs.size (λ_=>none):=⟨emptyDict,#[],_,W,rfl,(λe c=>absurd c (by simp)),λ_=>rfl⟩;have I1:=I.laid (a:=s.heap.objs.size) (o:=.w (s.heap.objs.size+1)) (h':=s.heap.push emptyDict) (t':=s.toks) (λb u q=>qA _ q) (le_refl _) ⟨_,W⟩;refine I1.laid (a:=s.heap.objs.size+1) (o:=.ins C s.heap.objs.size []) (t':=s.toks) (λb u q=>qA _ q) (Nat.le_of_eq (size_push _ _)) ?_;have g:s.heap.objs.size≠s.heap.objs.size+1:=ne_of_lt (lt_succ_self _);refine⟨by rw[z8 g,wN],zero_le _,g,P,λ_=>none,(Heap.Ns1.of_empty n).at λo q=>qA _ q,λ_=>True.intro,λy Q=>absurd rfl Q⟩
end
section
variable{X:Cx}{pins:Ls (Lz×Obj)}{O:St}{H:Hp}{s:La}{A:Li}{E:Ly}{Q:Ly}{c:Lv}{b:Bool}
inductive TyOf(K:qH)(H:Hp):V->Lv->Prop where
 |non:TyOf K H .non (.type "NoneType")
 |bl (x:Bool):TyOf K H (.bl x) (.type "bool")
 |int (i:Int):TyOf K H (.int i) (.type "int")
 |str (x:Str):TyOf K H (.str x) (.type "str")
 |flt (x:UInt64):TyOf K H (.flt x) (.type "float")
 |l {a:Lz} {xs:List V} (e:H a=some (.l xs)):TyOf K H (.ref a) (.type "list")
 |frz {a:Lz} {o:Obj} {xs:List V} (e:H a=some (.frz o (.l xs))):TyOf K H (.ref a) (.type "list")
 |t {a:Lz} {xs:List V} (e:H a=some (.t xs)):TyOf K H (.ref a) (.type "tuple")
 |dK {a:Lz} {kvs:List (Key×V)} (e:H a=some (.dK kvs)):TyOf K H (.ref a) (.type "dict")
 |dT {a:Lz} {kvs:List (List Key×V)} (e:H a=some (.dT kvs)):TyOf K H (.ref a) (.type "dict")
 |ins {a C dx:Lz} {fs:List (Str×V)} (e:H a=some (.ins C dx fs)) (cl:Cls K C) (ha:findIn K (.ref C) "__class__"=some (some (.builtin "object.__class__")))
   (hn:specialIn K (.builtin "object.__class__") "__get__"=some (some (.builtin "getset_descriptor.__get__"))) (htk:takesIn K (.builtin "object.__class__")=some true)
   (hm:mroIn K C (.type "object")=some true):TyOf K H (.ref a) (.ref C)
end
structure Room(k:Nat)(A:Li):Prop where
 hd:A.handled=none
 gd:A.guards=some []
 dp:A.depth+3*k+5<recursionLimit
 un:A.units+16*k+200<cLine
def Room.mono(r:Room k A)(h:j<=k):Room j A:=⟨r.hd,r.gd,by have:=r.dp;lia,by have:=r.un;lia⟩
theorem Room.deeper(r:Room (k+1) A)(env:Env):Room k (A.deeper env) :=
 ⟨r.hd,r.gd,by have:=r.dp;show A.depth+1+3*k+5<_;lia,by have:=r.un;show A.units+3+16*k+200<_;lia⟩
theorem Room.in1(r:Room (k+1) A):Room k A.in1 :=
 ⟨r.hd,r.gd,by have:=r.dp;show A.depth+3*k+5<_;lia,by have:=r.un;show A.units+1+16*k+200<_;lia⟩
theorem Room.depth(r:Room k A):A.depth<recursionLimit:=by have:=r.dp;lia
theorem Room.units(r:Room k A):A.units+64<cLine:=by have:=r.un;lia
def tNil:TA:=λ_ H Q=>Q [] H
def tCons(w:TE)(y:TA):TA:=λO H Q=>w O H λx H1=>y O H1 λY H2=>Q (x::Y) H2
section
variable{X:Cx}{e:Lb}{es:Ls Lb}{te:TE}{t:TA}{pos:Pos}
def Qg:PA X [] tNil:=λ_ _ _ _ H Q I h=>Calls.spliced_nil ⟨[],H,I,.nil,h⟩
def Ye(C:PE X e te)(z:PA X es t)(T:starEach (e::es) X.env=(false,eval e X.env)::starEach es X.env:=by rfl):PA X (e::es) (tCons te t):=by
 intro g G s O H Q I h;rw[T];show wpAny _ _ (spliced ((false,eval e X.env)::backTo g (starEach es X.env))) _ _ s;refine Calls.spliced_cons (thn (C G s O H _ I h) λu R ⟨x,H1,I1,l,K⟩=>?_);exact thn (z g G R O H1 _ I1 K) λD a ⟨Y,H2,I2,o,S⟩=>⟨x::Y,H2,I2,.cons l o,S⟩
def tTup(t:TA):TE:=λO H Q=>t O H λY H1=>Y.length<=sizeLine/\∀p,H1 p=none->Q (.ref p) (upd H1 p (.t Y))
def tLst(t:TA):TE:=λO H Q=>t O H λY H1=>Y.length<=sizeLine/\∀p,H1 p=none->Q (.ref p) (upd H1 p (.l Y))
def pe_tup{x1}(h:PA X es t):PE X (.Tuple es x1 pos) (tTup t):=by
 intro G s O H Q I W;refine wpAny_Tuple_spliced (thn (h pos G s O H _ I W) λD R ⟨Y,H1,I1,r,z,q⟩=>⟨by rw[<- r.length];exact z,?_⟩);have hf:H1 R.heap.objs.size=none:=I1.hok.fresh (le_refl _);refine⟨.ref R.heap.objs.size,upd H1 R.heap.objs.size (.t Y),I1.laid (t':=R.toks) (λb u e=>qA _ e) (le_refl _) ?_,rfl,q _ hf⟩;exact⟨z,D,r,⟨_,get?_push_size _ rfl,rfl,_,rfl⟩⟩
def pe_lst(h:PA X es t):PE X (.List es pos) (tLst t):=by
 intro G s O H Q I W;refine wpAny_List_spliced (thn (h pos G s O H _ I W) λD R ⟨Y,H1,I1,r,z,q⟩=>⟨by rw[<- r.length];exact z,?_⟩);have hf:H1 R.heap.objs.size=none:=I1.hok.fresh (le_refl _);refine⟨.ref R.heap.objs.size,upd H1 R.heap.objs.size (.l Y),I1.laid (t':=R.toks) (λb u e=>qA _ e) (le_refl _) ?_,rfl,q _ hf⟩;exact⟨z,D,0,r,get?_push_size _ rfl⟩
end
abbrev Sp:=Ls V->Hp->VK->XK->Prop
abbrev CXT:=Ls Env->Hp->La->XK->Ly
structure Env0(P:Lc)(w:Le)(K:qH)(mg:Str->Lp)(base:Heap)(A:Li)(outer:List Env)(s:La)(H:Hp):Prop where
 frames:A.frames=some outer
 mod:Mod K mg base
 bs:∀b o,base.get? b=some o->s.heap.get? b=some o/\H b=none
 bsz:base.objs.size<=s.heap.objs.size
 funs:s.heap.FunFrames base outer
 frf:∀b∈frs outer,H b=none
 hok:HOk P w H s.heap
 bare:AllBare s.gens
def CE(outer:Ls Env)(P:Lc)(w:Le)(H:Hp)(s:La)(Q:VK)(u:Lv)(s':La):Prop :=
 ∃v H',s'.os=s.os/\AllBare s'.gens/\Un (frs outer) [] H H' s.heap s'.heap/\HOk P w H' s'.heap/\yo v u/\Q v H'
def CR(l:CXT)(outer:Ls Env)(P:Lc)(w:Le)(H:Hp)(s:La)(Q:VK)(E:XK)(r:Result)(s':La):Prop :=
 match r with
 | .ok (.ret u)=>CE outer P w H s Q u s'| .ok _=>False| .error e=>l outer H s E e s'
structure FnOk(P:Lc)(w:Le)(K:qH)(mg:Str->Lp)(base:Heap)(CX:CXT)(k:Nat)(f:Lz)(fd:FuncData)(ps:Lo)(sp:Sp):Prop where
 len:∀vs H Q E,sp vs H Q E->vs.length=ps.length
 run:∀(A:Li) (outer:List Env) (s:La) (H:Hp) (args:Args) (us:List Lv) (vs:List V) (Q:VK) (E:XK),Room k A->Env0 P w K mg base A outer s H->BindsTo s fd args (ps.zip us)->zq vs us->sp vs H Q E ->
  codeAny (model P w) A (.call (.ref f) args) (CR CX outer P w H s Q E) s
theorem FnOk.mono{P:Lc}{w:Le}{K:qH}{g:Str->Lx Lv}{base:Heap}{l:CXT}{j k:Nat}{f:Lz}{M:FuncData}{G:Ls Str}{sp:Sp}(F:FnOk P w K g base l j f M G sp)(h:j<=k) :
  FnOk P w K g base l k f M G sp:=⟨F.len,λA outer s H e D L Q E z=>F.run A outer s H e D L Q E (z.mono h)⟩
def FnOk.imp{P:Lc}{w:Le}{K:qH}{g:Str->Lx Lv}{base:Heap}{l:CXT}{k:Nat}{f:Lz}{M:FuncData}{G:Ls Str}{sp sp':Sp}(F:FnOk P w K g base l k f M G sp)
  (h:∀L H Q E,sp' L H Q E->sp L H Q E):FnOk P w K g base l k f M G sp' :=
 ⟨λL H Q E q=>F.len L H Q E (h _ _ _ _ q),λA outer s H e D L Q E z c Z hv T=>F.run A outer s H e D L Q E z c Z hv (h _ _ _ _ T)⟩
theorem Env0.in1{P:Lc}{w:Le}{K:qH}{g:Str->Lx Lv}{base:Heap}{A:Li}{outer:Ls Env}{s:La}{H:Hp}(e:Env0 P w K g base A outer s H) :
  Env0 P w K g base A.in1 outer s H:=⟨e.frames,e.mod,e.bs,e.bsz,e.funs,e.frf,e.hok,e.bare⟩
section
variable{X:Cx}{pins:Ls (Lz×Obj)}{O:St}{H:Hp}{s s':La}
def Inv.env0(I:Inv X pins O H s):Env0 X.prog X.w X.K X.mg X.base X.A X.stack s H :=
 ⟨I.ok.frames,I.ok.mod,I.bs,le_trans I.ok.bsz I.sz,I.stack,I.stkFree,I.hok,I.bare⟩
def Inv.after(I:Inv X pins O H s)(h:CE X.stack X.prog X.w H s Q u s'):EP X pins O Q u s':=by
 obtain⟨v,H',os,S,un,y,r,q⟩:=h;obtain⟨P,g,d,t,o⟩:=s';obtain rfl:o=s.os:=os;exact⟨v,H',I.call (h':=P) (g':=g) (d':=d) (t':=t) (ch:=[]) un y S (λb z=>absurd z (by simp)),r,q⟩
end
def ZU(K:qH)(M:FuncData)(G:Ls Str)(ds:Ls Lv):Prop :=
 ∀(s:La) (D:Ls Lv),K.In s.heap->(D++ds).length=G.length->BindsTo s M ⟨D,[]⟩ (G.zip (D++ds))
def ZU.all{K:qH}{M:FuncData}{G:Ls Str}(h:∀D:Ls Lv,D.length=G.length->bindArgs M ⟨D,[]⟩=pure (G.zip D)):ZU K M G []:=λs D _ hl=>by
 rw[append_nil]at hl ⊢;exact .of_eq (h D hl)
section
variable{X:Cx}{CX:CXT}{k:Nat}{f C:Lz}{fd:FuncData}{ps:Ls Str}{sp:Sp}{dvs:Ls V}{ds:Ls Lv}{E:XK}{x m:Str}{p pos apos:Pos}{e o:Lb}{es:Ls Lb}{ta:TE}{t:TA}
structure Mk(K:qH)(C f:Lz):Prop where
 makes:PySem.W.makesIn K C=true
 init:findIn K (.ref C) "__init__"=some (some (.ref f))
 fn:PySem.W.isFn K (.ref f)=true
 kp:keepIn K (.ref C)=true
end
section
variable{X:Cx}{CX:CXT}{k:Nat}{f C:Lz}{fd:FuncData}{ps ks:Ls Str}{sp:Sp}{E:XK}{x m:Str}{p pos apos kpos:Pos}{e o:Lb}{es:Ls Lb}{kws:Ls Keyword}{te ta:TE}{t tk:TA}{nm:Lx Str}
structure KBinds(K:qH)(fd:FuncData)(ps ks:Lo)(g:List Lv->List Lv->List Lv)(gV:List V->List V->List V):Prop where
 to:∀(s:La) (us ws:List Lv),K.In s.heap->(g us ws).length=ps.length->BindsTo s fd ⟨us,ks.zip ws⟩ (ps.zip (g us ws))
 rel:∀{vs:List V} {us:List Lv} {zs:List V} {ws:List Lv},zq vs us->zq zs ws->zq (gV vs zs) (g us ws)
variable{g:Ls Lv->Ls Lv->Ls Lv}{gV:Ls V->Ls V->Ls V}
end
structure FnScope(N P:Lo)(sc:Scope):Prop where
 kind:sc.kind=.function
 co:sc.isCoroutine=false
 gen:sc.isGenerator=false
 nd:N.Nodup
 pre:N.take P.length=P
 par:∀x∈P,sc.names.lookup x=some .local\/sc.names.lookup x=some .cell
 nofree:∀y∈sc.names,y.2≠.free
theorem Qh{a:Str->Lx NameKind}:∀{binds:Ls (Str×Lv)} {m:Str->Lx Lv},(∀v,(x,v)∉binds)->bindL a binds m x=m x
 | [],_,_=>rfl
 | (n,v)::r,m,h=>by
  unfold bindL;rw[Qh λw C=>h w (qD _ C)];split
  ·have:x≠n:=by rintro rfl;exact h v qE
   simp[this]
  ·rfl
theorem Qi{a:Str->Lx NameKind}:∀{binds:Ls (Str×Lv)} {m:Str->Lx Lv},(∀v,(x,v)∉binds)->bindC a binds m x=m x
 | [],_,_=>rfl
 | (n,v)::r,m,h=>by
  unfold bindC;rw[Qi λw C=>h w (qD _ C)];split
  ·rfl
  ·have:x≠n:=by rintro rfl;exact h v qE
   simp[this]
theorem Qj{a:Str->Lx NameKind}:∀{P:Ls Str} {L:Ls Lv} {i:Nat} {m:Str->Lx Lv},P.Nodup->P[i]?=some x->L[i]?=some v->a x=some .local ->
  bindL a (P.zip L) m x=some v
 | [],_,_,_,_,h,_,_=>by simp at h|_::_,[],_,_,_,_,h,_=>by simp at h
 |p::P,w::L,0,m,k,J,h2,V=>by
  simp at J h2;subst J;subst h2
  show bindL a ((p,w)::P.zip L) m p=_
  unfold bindL;rw[Qh λv hv=>(nodup_cons.mp k).1 (of_mem_zip hv).1,if_pos V];simp
 |p::P,w::L,i+1,m,k,J,h2,V=>by
  show bindL a ((p,w)::P.zip L) m x=_
  unfold bindL;exact Qj (i:=i) (nodup_cons.mp k).2 (by exists J) (by exists h2) V
theorem Qk{a:Str->Lx NameKind}:∀{P:Ls Str} {L:Ls Lv} {i:Nat} {m:Str->Lx Lv},P.Nodup->P[i]?=some x->L[i]?=some v->a x≠some .local ->
  bindC a (P.zip L) m x=some v
 | [],_,_,_,_,h,_,_=>by simp at h|_::_,[],_,_,_,_,h,_=>by simp at h
 |p::P,w::L,0,m,k,J,h2,V=>by
  simp at J h2;subst J;subst h2
  show bindC a ((p,w)::P.zip L) m p=_
  unfold bindC;rw[Qi λv hv=>(nodup_cons.mp k).1 (of_mem_zip hv).1,if_neg V];simp
 |p::P,w::L,i+1,m,k,J,h2,V=>by
  show bindC a ((p,w)::P.zip L) m x=_
  unfold bindC;exact Qk (i:=i) (nodup_cons.mp k).2 (by exists J) (by exists h2) V
def j5(N:Ls Str)(vs:Ls V):St:=vs.map some++replicate (N.length-vs.length) none
def zHe(l:CXT)(P:Lc)(w:Le)(K:qH)(mg:Str->Lx Lv)(base:Heap)(N:Ls Str)(X:Str)(Y:Scope)(f:Lz)(Z:Lv)(A:Li)(outer:Ls Env)(s:La)(H:Hp)(E:XK):Cx where
 prog:=P
 w:=w
 K:=K
 mg:=mg
 base:=base
 A:=A.deeper (envOfC X Y s.heap.objs.size f Z)
 N:=N
 s₀:=s
 H₀:=H
 env:=envOfC X Y s.heap.objs.size f Z
 outer:=outer
 stack:=envOfC X Y s.heap.objs.size f Z::outer
 ex:=[]
 calm:=true
 fn:=λ_=>true
 pn:=[]
 xe:=λe j=>wpAny (model P w) (A.deeper (envOfC X Y s.heap.objs.size f Z)) (leaving (envOfC X Y s.heap.objs.size f Z) e) (λ_ a=>l outer H s E e a) (λC a=>l outer H s E C a) j
def zBi{sc:Scope}{n:Nat}{x:Str}(h:sc.names.lookup x=some .cell):∃c,(cellsFrom n sc.names []).lookup x=some c:=by
 have q:=cellsFrom_some sc.names n [] (.inl h);exact Option.isSome_iff_exists.mp q
def Ql{l:CXT}{P:Lc}{w:Le}{K:qH}{g:Str->Lx Lv}{base:Heap}{N G:Ls Str}{X:Str}{Y:Scope}{f:Lz}{Z:Lv}{A:Li}{outer:Ls Env}{s s1:La}{H:Hp}{E:XK}{D:Ls Lv}{vs:Ls V}
  (S:FnScope N G Y) (hd:A.handled=none) (O:Env0 P w K g base A outer s H) (hl:vs.length=G.length) (r:zq vs D)
  (x:InCallC s s.heap.objs.size (bindL (envOfC X Y s.heap.objs.size f Z).kindOf (G.zip D) λ_=>none) (cellsFrom (s.heap.objs.size+1) Y.names []) (bindC (envOfC X Y s.heap.objs.size f Z).kindOf (G.zip D) λ_=>none) s1) :
  Inv (zHe l P w K g base N X Y f Z A outer s H E) [] (j5 N vs) H s1:=by
 have o:G.length<=N.length:=by have:=congrArg length S.pre;rw[length_take]at this;lia
 obtain⟨J,M,rfl,T⟩:=x.done;have t:∀b:Lz,b∉(zHe l P w K g base N X Y f Z A outer s H E).ex:=λb z=>absurd (show b∈([]:Ls Lz)from z) (by simp)
 refine⟨⟨O.mod,S.kind,rfl,rfl,le_refl _,λy z c J h2=>?_,λy Q=>?_,λy c _ h=>?_,λ_=>hd,Around.frames_deeper O.frames,.inr ⟨rfl,rfl⟩,λb z=>absurd z (t b),O.bs,O.bsz,λb _ _=>t b,λb z=>absurd z (t b),O.funs,O.frf⟩,
  rfl,O.bare,Un.kept T,⟨_,x.toInCall.ns,λi y v J h2 W=>?_⟩,λy c h=>⟨_,x.cell y c h⟩,O.hok.fresh (le_refl _),λy c h=>?_,λp L=>absurd (show p∈([]:Ls (Lz×Obj))from L) (by simp),O.hok.kept T,?_⟩
 ·exact name_of_addr x.apart (PySem.mem_of_lookup J) (PySem.mem_of_lookup h2)
 ·have Q:Y.names.lookup y=some .cell\/Y.names.lookup y=some .free:=Q
  rcases Q with Q|Q
  ·exact zBi Q
  ·exact absurd rfl (S.nofree _ (PySem.mem_of_lookup Q))
 ·exact Nat.le_of_lt (x.above y c (PySem.mem_of_lookup h))
 ·have R:i<vs.length:=by
   unfold j5 at h2;by_cases R:i<vs.length
   ·exact R
   ·rw[List.getElem?_append_right (by exists R)]at h2
    rw[List.getElem?_replicate]at h2;split at h2<;>cases h2
  have C:vs[i]?=some v:=by
   unfold j5 at h2;rw[List.getElem?_append_left (by exists R),getElem?_map]at h2;cases e:vs[i]? with
   |none=>rw[e]at h2;cases h2|some a=>rw[e]at h2;cases h2;rfl
  obtain⟨u,hu,j⟩:=r.get C;have L:G[i]?=some y:=by
   rw[<- S.pre,List.getElem?_take_of_lt (by lia)];exact J
  have I:G.Nodup:=by rw[<- S.pre];exact S.nd.sublist (List.take_sublist _ _)
  refine⟨u,j,?_⟩;rcases S.par y (mem_of_getElem? L)with k|k
  ·exact .inl ⟨k,Qj I L hu k⟩
  ·obtain⟨c,e⟩:=zBi (n:=s.heap.objs.size+1) k
   refine .inr ⟨.inl k,c,e,?_⟩;have q:=x.cell y c e;rw[Qk I L hu (by show Y.names.lookup y≠_;rw[k];decide)]at q;exact q
 ·exact O.hok.fresh (Nat.le_of_lt (x.above y c (PySem.mem_of_lookup h)))
 ·unfold j5
  show _=N.length
  rw[length_append,length_map,List.length_replicate];lia
def fn_of{CX:CXT}{P:Lc}{w:Le}{K:qH}{mg:Str->Lx Lv}{base:Heap}{k:Nat}{f:Lz}{name X:Str}{C:Arguments}{body:Ls Lh}{Y:Scope}{i M ac pm R ct oc:Lv}{an od:Lx Lz}
  {ad:Lj} {N G:Ls Str} {sp:Sp} (lk:K.lookup f=some ⟨oc,od,.func (fnOf name X C body Y i M ac pm an R ct),ad⟩) (p:codeIn K R X=true) (S:FnScope N G Y)
  (ab:∀L H Q E,sp L H Q E->L.length=G.length)
  (g:∀(A:Li) (outer:Ls Env) (s:La) (H:Hp) (L:Ls V) (Q:VK) (E:XK),Room k (A.deeper (envOfC X Y s.heap.objs.size f R))->sp L H Q E ->
   ∃t,PSs (zHe CX P w K mg base N X Y f R A outer s H E) body t/\t {nx:=λ_ H'=>Q .non H',rt:=Q} (j5 N L) H) :
  FnOk P w K mg base CX (k+1) f (fnOf name X C body Y i M ac pm an R ct) G sp:=by
 refine⟨ab,λA outer s H ae D L Q E z O Z r aa=>?_⟩;have hl:=ab _ _ _ _ aa;have KX:K.In s.heap:=O.mod.kin.keeps λb o e=>(O.bs b o e).1
 have a:s.heap.NoLimit:=O.mod.nolimit.keeps λb o e=>(O.bs b o e).1
 have h:∀y∈G.zip D,Y.names.lookup y.1=some .local\/(Y.names.lookup y.1=some .cell/\((cellsFrom (s.heap.objs.size+1) Y.names []).lookup y.1).isSome=true):=λ⟨n,v⟩ hy=>by
  rcases S.par n (of_mem_zip hy).1 with q|q
  ·exact .inl q
  ·exact .inr ⟨q,cellsFrom_some _ _ _ (.inl q)⟩
 refine codeAny_call_function z.depth (KX _ _ lk) rfl S.co S.gen rfl (codeRec_of KX p) (Z _ _ _ _ ?_);refine wpAny_newFunctionEnv_cells S.kind h λaf c s1 x=>?_
 subst c;refine⟨a.keeps x.toInCall.keep,codeAny_func ?_⟩;obtain⟨t,ht,W⟩:=g A outer s H L Q E (z.deeper _) aa;have I:Inv (zHe CX P w K mg base N X Y f R A outer s H E) [] (j5 N L) H s1:=Ql S z.hd O hl r x;refine wpAny_mono (ht [] s1 (j5 N L) H _ I W) (λfl s' T=>?_) λe s' T=>T
 have l:∀{O':St} {H':Hp} {v:V} {u:Lv},Inv (zHe CX P w K mg base N X Y f R A outer s H E) [] O' H' s'->yo v u->Q v H'->CE outer P w H s Q u s' :=
  λ{O' H' v u} J j q=>⟨v,H',J.os,J.bare,J.base,J.hok,j,q⟩
 cases fl with
 |ret u =>
  obtain⟨v,O',H',J,j,q⟩:=T;exact l J j q
 |next =>
  obtain⟨O',H',J,q⟩:=T;exact l (v:=V.non) (u:=Value.none) J rfl q
 |brk =>
  obtain⟨_,_,_,q⟩:=T;exact False.elim q
 |cont =>
  obtain⟨_,_,_,q⟩:=T;exact False.elim q
section
variable{X:Cx}{x:Str}{p pos:Pos}{e:Lb}{es:Ls Lb}{t:TA}{id T:String}{r:Ls V->Hp->VK->Prop}
def tCB(r:Ls V->Hp->VK->Prop)(t:TA):TE:=λO H Q=>t O H λL H1=>r L H1 Q
def zBj(S:jb X (.builtin id) r)(g:Gl X x)(Y:X.mg x=none)(P:bootBuiltins x=some (.builtin id))(C:PA X (e::es) t)(hn:x≠"__name__":=by decide)(a:(x==("__debug__":Str))=false:=by decide)
  (c:starEach (e::es) X.env=(false,eval e X.env)::starEach es X.env:=by rfl) (o:(backTo pos (starEach es X.env)).any (·.1)=false:=by rfl):PE X (.Call (.Name x p) (e::es) [] pos) (tCB r t):=by
 intro G s O H Q I h;refine wpAny_Call_Name_kw (Y1 I g Y P ?_ hn a);exact PyProof.Rows.callWith_builtin1 (thn (C pos G s O H _ I h) λD R ⟨L,H1,I1,l,K⟩=>S G R O H1 L D Q I1 l K) c o
def zDe(S:jb X (.type T) r)(g:Gl X x)(Y:X.mg x=none)(P:bootBuiltins x=some (.type T))(C:PA X (e::es) t)(hn:x≠"__name__":=by decide)(a:(x==("__debug__":Str))=false:=by decide)
  (c:starEach (e::es) X.env=(false,eval e X.env)::starEach es X.env:=by rfl) (o:(backTo pos (starEach es X.env)).any (·.1)=false:=by rfl):PE X (.Call (.Name x p) (e::es) [] pos) (tCB r t):=by
 intro G s O H Q I h;refine wpAny_Call_Name_kw (Y1 I g Y P ?_ hn a);exact PyProof.Rows.callWith_type1 (thn (C pos G s O H _ I h) λD R ⟨L,H1,I1,l,K⟩=>S G R O H1 L D Q I1 l K) c o
end
end L2
namespace HT
open PySem PyProof.Rows
def lexLt:Ls Int->Ls Int->Bool
 | [],[]=>false| [],_::_=>true|_::_,[]=>false|x::xs,y::ys=>if x=y then lexLt xs ys else decide (x<y)
def zCh(x y:Int)(xs ys:Ls Int):lexLt (x::xs) (y::ys)=if x=y then lexLt xs ys else decide (x<y):=rfl
def GJ:lexLt [] []=false:=rfl
def uB(y:Int)(ys:Ls Int):lexLt [] (y::ys)=true:=rfl
def uC(x:Int)(xs:Ls Int):lexLt (x::xs) []=false:=rfl
def zF3(A:Li)(s:La)(a:Int)(t:Tok)(c:Int)(u:Tok):∃e,SeqAt.EqAt A s (.int a t) (.int c u) e/\(e=true↔a=c) :=
 ⟨(a==c),SeqAt.EqAt.int_int a t c u,by simp⟩
def zF4(A:Li)(s:La)(a:Int)(t:Tok)(c:Int)(u:Tok)(prog:Lc)(w:Le)(E:Ly)(Q:Ly)(h:Q (.bool (decide (a<c))) s) :
  wpAny (model prog w) A (richCompare .Lt (.int a t) (.int c u)) Q E s :=
 (PyProof.Rows.lt_int h:wpAny (model prog w) A (compareOp .Lt (.int a t) (.int c u)) Q E s)
section
open PySem.SeqAt
open PySem.AutoSeq1 (wpAny_loadPart')
open PySem.MeetsSeq PySem.MeetsSeq2 PySem.MeetsSeq3
def GK(l b:Lz)(items k:Lg)(n H:Nat)(o W:Lx Lz)(D V:Lj)(ns Q:Ls Int)(hi:IntsAre items.toList ns)(hj:IntsAre k.toList Q) :
  Meets (Builtin.«tuple.__lt__» ⟨[.ref l,.ref b],[]⟩)
   (λ_ R s=>s.heap.get? l=some {cls:=.type "tuple",dict:=o,data:=.seq items n,slots:=D}/\s.heap.get? b=some {cls:=.type "tuple",dict:=W,data:=.seq k H,slots:=V} /\
    R (.ok (.ret (.bool (lexLt ns Q)))) s) :=
 .of_wp λG w A R s h=>by
  obtain⟨hp,g,d,M,p⟩:=s;obtain⟨hl,Z,h⟩:=h;have f2:=AutoSeq1.sub_tuple_tuple;have v:items.size=ns.length:=by rw[<- hi.length];simp
  have i:k.size=Q.length:=by rw[<- hj.length];simp
  wp_walk using wpAny_loadPart' hl,wpAny_loadPart' Z,wpAny_forIn_list _ (λjk b j=>b.1=none/\j=⟨hp,g,d,M,p⟩/\∃(L O:Ls Lv) (J K:Ls Int),jk=L.zip O /\
   IntsAre L J/\IntsAre O K/\J.length+k.size=K.length+items.size/\R (.ok (.ret (.bool (lexLt J K)))) ⟨hp,g,d,M,p⟩) _
  case turn =>
   rintro ⟨y,x⟩ jk b j ⟨z,rfl,L,O,J,K,hz,S,P,aa,C⟩
   cases S with
   |nil=>rw[List.zip_nil_left]at hz;cases hz
   |cons a t X =>
    cases P with
    |nil=>rw[List.zip_nil_right]at hz;cases hz
    |cons c u Y =>
     rw[zip_cons_cons]at hz;injection hz with hyx hrest
     injection hyx with hy hx
     subst hy hx;rw[zCh]at C;dsimp[length_cons]at aa;obtain⟨e,he,T⟩:=zF3 A.in1 ⟨hp,g,d,M,p⟩ a t c u;refine qB (he G w _ _ ?_);cases e with
     |true =>
      rw[if_pos (T.mp rfl)]at C
      wp_walk
      exact⟨rfl,rfl,_,_,_,_,hrest,X,Y,by lia,C⟩
     |false =>
      rw[if_neg (λq=>absurd (T.mpr q) qF)]at C;have I:=zF4 A.in1 ⟨hp,g,d,M,p⟩ a t c u G w
      wp_walk using I
      exact⟨_,rfl,by exists C⟩
  case fin =>
   rintro ⟨r,E⟩ j ⟨z,rfl,L,O,J,K,hz,S,P,aa,C⟩
   simp only at z;subst z;have hv:lexLt J K=decide (items.size<k.size):=by
    cases S with
    |nil =>
     cases P with
     |nil =>
      dsimp[length_nil]at aa;rw[GJ];exact(decide_eq_false (by lia)).symm
     |cons c u hw =>
      dsimp[length_nil,length_cons]at aa;rw[uB];exact(decide_eq_true (by lia)).symm
    |cons a t hv =>
     cases P with
     |nil =>
      dsimp[length_nil,length_cons]at aa;rw[uC];exact(decide_eq_false (by lia)).symm
     |cons c u hw =>
      rw[zip_cons_cons]at hz;cases hz
   rw[hv]at C
   wp_walk
   exact⟨_,rfl,by simpa[Builtin.Tuple.tupleCompareSizes]using C⟩
  case h =>
   exact⟨rfl,rfl,items.toList,k.toList,ns,Q,rfl,hi,hj,by lia,h⟩
end
section
variable{prog:Lc}{w:Le}{A:Li}{E:Ly}{s:La}
def lt_tupInts{Q:Ly}(c:IsTup s.heap l items)(Z:IsTup s.heap b items2)(hi:IntsAre items.toList ns)(g:IntsAre items2.toList ms)
  (k:A.units<cLine) (h:Q (.bool (lexLt ns ms)) s):wpAny (model prog w) A (compareOp .Lt (.ref l) (.ref b)) Q E s:=by
 obtain⟨⟨p,dd,e,D⟩,ho,S,n,C⟩:=id c;obtain⟨⟨a,W,L,V⟩,i,j,H,z⟩:=id Z;simp only at S C j z;subst S C j z;exact richCompare_meets_room (op:=.Lt) ⟨_,ho,rfl⟩ ⟨_,i,rfl⟩ PySem.F.slot_tuple_lt PySem.F.entry_tuple_lt (PySem.F.args_tuple_lt_2 _ _) (GK l b items items2 n H dd W D V ns ms hi g)
  ⟨ho,i,show Value.bool (lexLt ns ms)≠Value.notImplemented/\Q (.bool (lexLt ns ms)) s from⟨(λx=>nomatch x),h⟩⟩ k
def cat_tup{Q:Ly}(r:IsTup s.heap t vs.toArray)(Z:IsTup s.heap b ws.toArray)(P:vs≠[])
  (J:ws=[]->Q (.ref t) s) (Y:ws≠[]->Q (.ref s.heap.objs.size) {s with heap:=s.heap.push {cls:=.type "tuple",data:=.seq (vs++ws).toArray}})
  (G:vs.length+ws.length<=sizeLine):wpAny (model prog w) A (binaryOp .Add (.ref t) (.ref b)) Q E s:=by
 obtain⟨⟨cls,dd,data,D⟩,ho,S,n,c⟩:=id r;obtain⟨⟨a,W,L,V⟩,i,j,H,z⟩:=id Z;simp only at S c j z;subst S c j z;have e:vs.toArray++ws.toArray=(vs++ws).toArray:=by simp
 by_cases C:ws=[]
 ·exact concat_meets ⟨_,ho,rfl⟩ ⟨_,i,rfl⟩ noFill_tuple_add seq_tuple_add PySem.F.slot_tuple_add PySem.F.entry_tuple_add (PySem.F.args_tuple_add_2 _ _)
   (tuple_addW1 t b vs.toArray ws.toArray n H dd W D V (by exists P) (by simp[C])) ⟨ho,i,J C⟩
 ·refine concat_meets ⟨_,ho,rfl⟩ ⟨_,i,rfl⟩ noFill_tuple_add seq_tuple_add PySem.F.slot_tuple_add PySem.F.entry_tuple_add (PySem.F.args_tuple_add_2 _ _)
   (tuple_addW2 t b vs.toArray ws.toArray n H dd W D V (by exists P) (by exists C) (by rw[size_toArray,size_toArray];exact G)) ⟨ho,i,?_⟩
  rw[e];exact Y C
def sIx(n d:Nat):Lx Int->Nat
 |none=>d|some v=>if v<0 then(v+(n:Int)).toNat else min v.toNat n
def sIx_nat(n d k:Nat):sIx n d (some (k:Int))=min k n:=by
 show(if(k:Int)<0 then((k:Int)+(n:Int)).toNat else min (k:Int).toNat n)=min k n
 rw[if_neg (by lia),Int.toNat_natCast]
def sIx_le(n d:Nat)(hd:d<=n)(o:Lx Int):sIx n d o<=n:=by
 cases o with
 |none=>exact hd
 |some v =>
  show(if v<0 then(v+(n:Int)).toNat else min v.toNat n)<=n
  by_cases hv:v<0
  ·rw[if_pos hv];lia
  ·rw[if_neg hv];exact Nat.min_le_right _ _
def zDf(v:Int)(n d:Nat):(if v<0 then max (v+(n:Int)) 0 else min v (n:Int))=((sIx n d (some v):Nat):Int):=by
 show(if v<0 then max (v+(n:Int)) 0 else min v (n:Int))=(((if v<0 then(v+(n:Int)).toNat else min v.toNat n):Nat):Int)
 by_cases hv:v<0
 ·dsimp[if_pos hv];lia
 ·dsimp[if_neg hv];lia
def zCi(lo hi:Lx Int)(n:Nat):Builtin.Slice.sliceAdjust lo hi 1 (n:Int)=(((sIx n 0 lo:Nat):Int),((sIx n n hi:Nat):Int)):=by
 have J:¬((1:Int)<0):=by lia
 unfold Builtin.Slice.sliceAdjust;dsimp[J,if_false];refine Prod.ext ?_ ?_
 ·cases lo with
  |none=>rfl|some v=>exact zDf v n 0
 ·cases hi with
  |none=>rfl|some v=>exact zDf v n n
def zCj(i j:Nat):Builtin.Slice.slicePlaces (i:Int) (j:Int) 1=j-i:=by
 unfold Builtin.Slice.slicePlaces;have J:(1:Int) > 0:=by lia
 dsimp[J,if_true,Int.ediv_one];split<;>lia
def ud{Q:Lx Int->La->Prop}(p:IsPart v o)(h:Q o s):wpAny (model prog w) A (Builtin.Slice.slicePartIndex v) Q E s:=by
 cases p with
 |none=>exact slicePart_none h|int i t=>exact slicePart_int h
def sliceApplied_gen{D:Lz}{j i:Lv}{lo hi:Lx Int}{n:Nat}{Q:Int×Int×Nat->La->Prop}(T:s.heap.IsSliceOf D j i .none)(k:IsPart j lo)(P:IsPart i hi)
  (h:Q (((sIx n 0 lo:Nat):Int),1,sIx n n hi-sIx n 0 lo) s):wpAny (model prog w) A (Builtin.Slice.sliceApplied (.ref D) (pure (n:Int))) Q E s:=by
 obtain⟨p,a,o,y⟩:=id T;unfold Builtin.Slice.sliceApplied Builtin.Slice.sliceFields;refine qB (qB (wpAny_field a y (x:=j) rfl (qB (wpAny_field a y (x:=i) rfl (qB (wpAny_field a y (x:=.none) rfl (qC ?_)))))));refine qB (slicePart_none ?_);show wpAny _ _ (if((1:Int)==0)=true then _ else _) _ _ s;rw[if_neg (by decide)];refine qB (ud k (qB (ud P (qB (qC ?_)))));show wpAny _ _ (match Builtin.Slice.sliceAdjust lo hi 1 (n:Int)with|(lo,hi)=>pure (lo,(1:Int),Builtin.Slice.slicePlaces lo hi 1)) _ _ s
 rw[zCi lo hi n];show wpAny _ _ (pure (((sIx n 0 lo:Nat):Int),(1:Int),Builtin.Slice.slicePlaces ((sIx n 0 lo:Nat):Int) ((sIx n n hi:Nat):Int) 1)) _ _ s;rw[zCj];exact qC h
def zF5(xs:Lg)(i k:Nat):((List.range k).filterMap λ(m:Nat)=>xs[((i:Int)+(m:Int)*1).toNat]?).toArray=((xs.toList.drop i).take k).toArray:=by
 have e:(λ(m:Nat)=>xs[((i:Int)+(m:Int)*1).toNat]?)=λm=>xs[i+m]?:=by
  funext m
  have:((i:Int)+(m:Int)*1).toNat=i+m:=by lia
  rw[this]
 rw[e];have:=pick_run xs i k;rw[List.filterMap_map]at this;have P:((λx=>xs[x]?) ∘ λx=>i+x)=λm=>xs[i+m]?:=rfl
 rw[P]at this;rw[this]
def getItem_tuple_cut{t D:Lz}{items:Lg}{j i:Lv}{lo hi:Lx Int}{Q:Ly}(r:IsTup s.heap t items)(T:s.heap.IsSliceOf D j i .none)(k:IsPart j lo)(P:IsPart i hi)
  (C:¬(sIx items.size 0 lo=0/\sIx items.size items.size hi=items.size))
  (h:Q (.ref s.heap.objs.size) {s with heap:=s.heap.push {cls:=.type "tuple",data:=.seq ((items.toList.drop (sIx items.size 0 lo)).take (sIx items.size items.size hi-sIx items.size 0 lo)).toArray}})
  (G:items.size<=sizeLine):wpAny (model prog w) A (getItem (.ref t) (.ref D)) Q E s:=by
 have c:sizeOk (.seq ((items.toList.drop (sIx items.size 0 lo)).take (sIx items.size items.size hi-sIx items.size 0 lo)).toArray):=by
  show((items.toList.drop (sIx items.size 0 lo)).take (sIx items.size items.size hi-sIx items.size 0 lo)).toArray.size<=sizeLine
  rw[size_toArray,length_take,length_drop,Array.length_toList];lia
 have l:sIx items.size items.size hi<=items.size:=sIx_le _ _ (le_refl _) hi;obtain⟨p,a,o,y⟩:=id T;have g:s.TypeIs (.ref D) "slice":=⟨p,a,o⟩;unfold getItem
 try with_reducible refine wpAny_holding ?_
 first|refine qB (qC ?_)|skip
 refine qB (wpAny_sequenceKey r.typeIs (by decide) ?_);refine qB (wpAny_callSpecial?_slot (name:=Str.ofString "__getitem__") r.typeIs PyProof.Rows.slot_tuple_getitem
  (wpAny_call_entry PyProof.Rows.slot_tuple_getitem r.typeIs entry_tuple_getitem ?_ (args_tuple_getitem _ _)))
 show wpAny _ _ (Builtin.Tuple.tupleItemsOf (.ref t) >>= _) _ _ s
 refine qB (tupleItemsOf_ r ?_);refine qB (wpAny_typeOf g ?_);rw[if_pos (by decide)];refine qB (sliceApplied_gen T k P ?_);have O:¬((((sIx items.size 0 lo:Nat):Int)==0&&(1:Int)==1&&(sIx items.size items.size hi-sIx items.size 0 lo)==items.size)=true):=by
  intro q;rw[Bool.and_eq_true,Bool.and_eq_true]at q;have K:((sIx items.size 0 lo:Nat):Int)=0:=eq_of_beq q.1.1;have S:sIx items.size items.size hi-sIx items.size 0 lo=items.size:=eq_of_beq q.2;exact C ⟨by lia,by lia⟩
 show wpAny _ _ (if(((sIx items.size 0 lo:Nat):Int)==0&&(1:Int)==1&&(sIx items.size items.size hi-sIx items.size 0 lo)==items.size)=true then _ else _) _ _ s
 rw[if_neg O,zF5]
 first
  |exact qB (m:=Builtin.Tuple.tupleExact _) (wpAny_newObj_type (qC ⟨_,rfl,qC h⟩) c)
  |exact qB (m:=Builtin.Tuple.tupleExact _) (wpAny_newObj_type (qB (qC (qC ⟨_,rfl,qC h⟩))) c)
  |exact qB (qB (m:=Builtin.Tuple.tupleExact _) (wpAny_newObj_type (qC (qC ⟨_,rfl,qC h⟩)) c))
  |exact qB (qB (m:=Builtin.Tuple.tupleExact _) (wpAny_newObj_type (qC ⟨_,rfl,qC h⟩) c))
end
end HT
namespace L2
open PySem PySem.Spec PyProof.Rows
abbrev TO:=St->Hp->(Lx Int->Hp->Prop)->Prop
def PO(X:Cx)(e:Lx Lb)(t:TO):Prop :=
 ∀(G:Ls (Lz×Obj)) (s:La) (O:St) (H:Hp) (Q:Lx Int->Hp->Prop),Inv X G O H s->t O H Q ->
  wpAny (model X.prog X.w) X.A (evalPart e X.env) (λu j=>∃o H',Inv X G O H' j/\IsPart u o/\Q o H') X.xe s
def tNoPart:TO:=λ_ H Q=>Q none H
def tPart(t:TE):TO:=λO H Q=>t O H λx H1=>∃i,x=.int i/\Q (some i) H1
def zCk:∀{D:Ls Lv},zq (ns.map V.int) D->IntsAre D ns:=by
 induction ns with
 |nil=>intro D r;rw[map_nil]at r;cases r;exact .nil
 |cons n ns u =>
  intro D r;rw[map_cons]at r;cases r with
  |cons l o =>
   obtain⟨t,e⟩:=l;subst e;exact .cons n t (u o)
section
variable{X:Cx}{e:Lb}{te:TE}{lo hi:Lx Lb}{tl th:TO}{pos p2:Pos}
def po_none:PO X none tNoPart:=by
 intro G s O H Q I h;rw[evalPart_none];exact qC ⟨none,H,I,.none,h⟩
def po_some(h:PE X e te):PO X (some e) (tPart te):=by
 intro G s O H Q I C;rw[evalPart_some];refine thn (h G s O H _ I C) λu R ⟨x,H1,I1,l,K⟩=>?_
 obtain⟨i,rfl,q⟩:=K;obtain⟨t,rfl⟩:=l;exact⟨some i,H1,I1,.int i t,q⟩
def SlR(X:Cx)(r:V->Lx Int->Lx Int->Hp->VK->Prop):Prop :=
 ∀(G:Ls (Lz×Obj)) (s:La) (O:St) (H:Hp) (x:V) (v j i:Lv) (z R:Lx Int) (D:Lz) (Q:VK),Inv X G O H s->yo x v->s.heap.IsSliceOf D j i .none->IsPart j z->IsPart i R->r x z R H Q ->
  ∃T id,typeLookup (.type T) "__getitem__"=pure (some (.builtin id))/\s.TypeIs v T/\wpAny (model X.prog X.w) X.A (getItem v (.ref D)) (EP X G O Q) X.xe s
def SlR.or{r L:V->Lx Int->Lx Int->Hp->VK->Prop}(h:SlR X r)(h':SlR X L):SlR X (λx z R H Q=>r x z R H Q\/L x z R H Q):=by
 intro G s O H x v j i z R D Q I w T k P q;rcases q with q|q
 ·exact h G s O H x v j i z R D Q I w T k P q
 ·exact h' G s O H x v j i z R D Q I w T k P q
def tSl(r:V->Lx Int->Lx Int->Hp->VK->Prop)(t:TE)(k a:TO):TE:=λO H Q=>t O H λx H1=>k O H1 λl H2=>a O H2 λu H3=>r x l u H3 Q
def zF6{r:V->Lx Int->Lx Int->Hp->VK->Prop}(z:SlR X r)(c:PE X e te)(n:PO X lo tl)(p:PO X hi th):PE X (.Subscript e (.Slice lo hi none p2) pos) (tSl r te tl th):=by
 intro G s O H Q I h;refine Subscript_ (thn (c G s O H _ I h) λv R ⟨x,H1,I1,a,K⟩=>?_);refine wpAny_Slice (thn (n G R O H1 _ I1 K) λj g ⟨l,H2,I2,k,S⟩=>thn (p G g O H2 _ I2 S) λi w ⟨u,H3,I3,P,W⟩=>?_);rw[evalPart_none];refine qC ?_;have I4:Inv X G O H3 {w with heap:=w.heap.push {cls:=.type "slice",data:=.fields #[j,i,.none]}}:=I3.kept (t':=w.toks) λb J q=>qA _ q
 obtain⟨T,id,hT,ht,t⟩:=z G {w with heap:=w.heap.push {cls:=.type "slice",data:=.fields #[j,i,.none]}} O H3 x v j i l u w.heap.objs.size Q I4 a (Heap.IsSliceOf.new ..) k P W
 show wpAny (model X.prog X.w) X.A (subscriptTail e (.Slice lo hi none p2) v (.ref w.heap.objs.size)) (EP X G O Q) X.xe {w with heap:=w.heap.push {cls:=.type "slice",data:=.fields #[j,i,.none]}}
 exact tail_any (ops:=[.ref w.heap.objs.size,v]) ht hT t (by with_unfolding_all rfl)
def zF7(xs:Ls V)(lo hi:Lx Int):Ls V:=(xs.drop (HT.sIx xs.length 0 lo)).take (HT.sIx xs.length xs.length hi-HT.sIx xs.length 0 lo)
def Wt(xs:Ls V)(lo hi:Lx Int):(zF7 xs lo hi).length<=xs.length:=by
 unfold zF7;rw[length_take,length_drop];lia
def rSlT(K:qH):V->Lx Int->Lx Int->Hp->VK->Prop:=λx z R H Q=>∃a Y,x=.ref a/\SqT K H a Y /\
 ¬(HT.sIx Y.length 0 z=0/\HT.sIx Y.length Y.length R=Y.length)/\∀p,H p=none->Q (.ref p) (upd H p (.t (zF7 Y z R)))
def sl_tup:SlR X (rSlT X.K):=by
 intro G s O H x v j i z R D Q I w T k P h;obtain⟨a,Y,rfl,M,C,q⟩:=h;cases w;obtain⟨g,r,ht,hz⟩:=I.tuple M;have y:g.toArray.size=Y.length:=by rw[size_toArray];exact r.length.symm
 refine⟨"tuple",_,PyProof.Rows.slot_tuple_getitem.lookup,ht.typeIs,?_⟩;refine HT.getItem_tuple_cut ht T k P (by rw[y];exact C) ?_ (by rw[y];exact hz);rw[y];refine⟨.ref s.heap.objs.size,_,I.laid (t':=s.toks) (o:=.t (zF7 Y z R)) (λb J q=>qA _ q) (le_refl _) ?_,rfl,q _ (I.hok.fresh (le_refl _))⟩;exact⟨le_trans (Wt Y z R) hz,_,(r.drop (HT.sIx Y.length 0 z)).take (HT.sIx Y.length Y.length R-HT.sIx Y.length 0 z),IsTup.new _ _⟩
def rCatT(K:qH):R2:=λx y H Q=>∃a b Y T,x=.ref a/\y=.ref b/\SqT K H a Y/\SqT K H b T/\Y≠[]/\Y.length+T.length<=sizeLine /\
 (T=[]->Q (.ref a) H)/\(T≠[]->∀p,H p=none->Q (.ref p) (upd H p (.t (Y++T))))
def zq.nil_iff(r:zq xs us):us=[]↔xs=[]:=by
 cases r with
 |nil=>simp|cons _ _=>simp
def op_catT:OpR X (binaryOp .Add) (rCatT X.K):=by
 intro G s O H x y v u Q I j P h;obtain⟨a,b,Y,T,rfl,rfl,C,Z,M,hz,K,S⟩:=h;cases j;cases P;obtain⟨g,l,i,_⟩:=I.tuple C;obtain⟨c,e,t,_⟩:=I.tuple Z;refine HT.cat_tup i t (λz=>M (l.nil_iff.mp z)) (λz=>⟨.ref a,H,I,rfl,K (e.nil_iff.mp z)⟩) (λz=>?_) (by rw[<- l.length,<- e.length];exact hz);refine⟨.ref s.heap.objs.size,_,I.laid (t':=s.toks) (o:=.t (Y++T)) (λb J q=>qA _ q) (le_refl _) ?_,rfl,S (λw=>z (e.nil_iff.mpr w)) _ (I.hok.fresh (le_refl _))⟩;exact⟨by rw[length_append];exact hz,_,l.append e,IsTup.new _ _⟩
end
def ixN(n:Nat)(i:Int):Lx Nat:=if 0<=i then(if i<n then some i.toNat else none)else if -(n:Int)<=i then some (i+n).toNat else none
def atI{α:Type}(xs:Ls α)(i:Int):Lx α:=(ixN xs.length i).bind λj=>xs[j]?
def zDg(h:ixN n i=some j):seqIndex? i n=some j/\j<n/\-(n:Int)<=i/\i<n:=by
 unfold ixN at h;by_cases P:0<=i
 ·rw[if_pos P]at h
  by_cases J:i<n
  ·rw[if_pos J]at h
   have e:i.toNat=j:=qJ h;exact⟨by rw[seqIndex_of P J,e],by lia,by lia,J⟩
  ·rw[if_neg J]at h;cases h
 ·rw[if_neg P]at h
  by_cases J:-(n:Int)<=i
  ·rw[if_pos J]at h
   have e:(i+n).toNat=j:=qJ h;exact⟨by rw[seqIndex_neg (by lia) J,e],by lia,J,by lia⟩
  ·rw[if_neg J]at h;cases h
def zDh{α:Type}{xs:Ls α}{v:α}(h:atI xs i=some v):∃j,seqIndex? i xs.length=some j/\xs[j]?=some v/\j<xs.length/\-(xs.length:Int)<=i/\i<xs.length:=by
 unfold atI at h;exists e,ixN xs.length i,h,j;obtain⟨J,h2,Q,h4⟩:=zDg e;exact⟨j,J,h,h2,Q,h4⟩
def GL(b:Lb):Prop:=∀o i,subscripted b false o i=operate [o,i] (getItem o i)
def IxR(X:Cx)(r:R2):Prop :=
 ∀(e a:Lb) (G:Ls (Lz×Obj)) (s:La) (O:St) (H:Hp) (x y:V) (v u:Lv) (Q:VK),Inv X G O H s->yo x v->yo y u->r x y H Q ->
  subscripted a false v u=operate [v,u] (getItem v u)->wpAny (model X.prog X.w) X.A (subscriptTail e a v u) (EP X G O Q) X.xe s
def MtR(X:Cx)(id:String)(r:V->Ls V->Hp->VK->Prop):Prop :=
 ∀(G:Ls (Lz×Obj)) (s:La) (O:St) (H:Hp) (x:V) (Y:Ls V) (v:Lv) (D:Ls Lv) (Q:VK),Inv X G O H s->yo x v->zq Y D->r x Y H Q ->
  wpAny (model X.prog X.w) X.A (call (.builtin id) (v::D)) (EP X G O Q) X.xe s
section
variable{X:Cx}{a b:Lb}{ta tb:TE}{pos:Pos}
def IxR.or(h:IxR X r)(h':IxR X r'):IxR X (λx y H Q=>r x y H Q\/r' x y H Q):=by
 intro e a G s O H x y v u Q I w P q T;rcases q with q|q
 ·exact h e a G s O H x y v u Q I w P q T
 ·exact h' e a G s O H x y v u Q I w P q T
def MtR.or{id:String}{r L:V->Ls V->Hp->VK->Prop}(h:MtR X id r)(h':MtR X id L):MtR X id (λx Y H Q=>r x Y H Q\/L x Y H Q):=by
 intro G s O H x Y v D Q I w u q;rcases q with q|q
 ·exact h G s O H x Y v D Q I w u q
 ·exact h' G s O H x Y v D Q I w u q
def pe_ix(z:IxR X r)(C:PE X a ta)(Z:PE X b tb)(T:GL b):PE X (.Subscript a b pos) (tOp r ta tb):=by
 intro G s O H Q I h;exact Subscript_ (binT C Z I h λv u g x y H2 I2 w P q=>z a b G g O H2 x y v u Q I2 w P q (T _ _))
def rIxL(K:qH):R2:=λx y H Q=>∃p Y i v,x=.ref p/\y=.int i/\SqL K H p Y/\atI Y i=some v/\Q v H
def rIxT(K:qH):R2:=λx y H Q=>∃p Y i v,x=.ref p/\y=.int i/\SqT K H p Y/\atI Y i=some v/\Q v H
def zDi:IxR X (rIxL X.K):=by
 intro e a G s O H x y v u Q I E D h T;obtain⟨p,Y,i,z,rfl,rfl,W,c,q⟩:=h;cases E;obtain⟨t,rfl⟩:=D;obtain⟨g,r,k,hz⟩:=I.list W;obtain⟨j,J,h2,M,h4,h5⟩:=zDh c;obtain⟨w,n,L⟩:=r.get h2;have hl:=r.length;have K:=zBh;have l:EP X G O Q w s:=⟨z,H,I,L,q⟩;by_cases P:0<=i
 ·have o:i.toNat=j:=by
   rw[seqIndex_of P h5]at J;exact qJ J
  exact item_listR k.isList P (by lia) (by rw[o];exists n) l T
 ·have o:(i+(g.toArray.size:Int)).toNat=j:=by
   rw[seqIndex_neg (by lia) h4]at J;rw[size_toArray,<- hl];exact qJ J
  exact subscriptTail_builtinR (x:=w) k.isList.typeIs slot_list_getitem.lookup
   (wpAny_getItem_list_neg (Q:=λr C=>r=w/\EP X G O Q r C) k.isList (by lia) (by rw[size_toArray]<;>lia) (by lia) (by rw[o];exists n) ⟨rfl,l⟩) T
def zHf:IxR X (rIxT X.K):=by
 intro e a G s O H x y v u Q I C P h T;obtain⟨p,Y,i,z,rfl,rfl,W,c,q⟩:=h;cases C;obtain⟨t,rfl⟩:=P;obtain⟨g,r,k,hz⟩:=I.tuple W;obtain⟨j,J,h2,D,h4,h5⟩:=zDh c;obtain⟨w,n,L⟩:=r.get h2;have hl:=r.length;have K:=zBh;have l:EP X G O Q w s:=⟨z,H,I,L,q⟩;exact subscriptTail_builtinR (x:=w) k.typeIs slot_tuple_getitem.lookup
  (getItem_tuple (j:=j) (Q:=λr o=>r=w/\EP X G O Q r o) k (by lia) (by lia) (by rw[size_toArray,<- hl];exact J) (by exists n) ⟨rfl,l⟩) T
def zCl(g:Ls Lv)(n j:Nat)(u:Lv):Obj.mapSeq (·.setIfInBounds j u) {cls:=.type "list",data:=.seq g.toArray n}={cls:=.type "list",data:=.seq (g.set j u).toArray n}:=by
 simp[Obj.mapSeq]
theorem Inv.lst{G:Ls (Lz×Obj)}{O:St}{H:Hp}{s:La}{p:Lz}{xs:Ls V}(I:Inv X G O H s)(h:H p=some (.l xs)) :
  ∃(g:Ls Lv) (n:Nat),zq xs g/\s.heap.get? p=some {cls:=.type "list",data:=.seq g.toArray n}/\xs.length<=sizeLine:=by
 obtain⟨z,g,n,r,e⟩:=I.hok p _ h;exact⟨g,n,r,e,z⟩
def Inv.lstUpd{G:Ls (Lz×Obj)}{O:St}{H:Hp}{s:La}{p:Lz}{xs ys:Ls V}{g its':Ls Lv}{n E:Nat}{f:Obj->Obj}(I:Inv X G O H s)(h:H p=some (.l xs))
  (J:s.heap.get? p=some {cls:=.type "list",data:=.seq g.toArray n}) (Y:f {cls:=.type "list",data:=.seq g.toArray n}={cls:=.type "list",data:=.seq its'.toArray E}) (r:zq ys its') (j:ys.length<=sizeLine) (t:Nat) :
  Inv X G O (upd H p (.l ys)) {s with heap:=s.heap.update p f,toks:=t}:=by
 have e:(s.heap.update p f).get? p=some {cls:=.type "list",data:=.seq its'.toArray E}:=by
  rw[get?_update_self f J (by rw[Y]<;>rfl),Y]
 refine I.write (x:=p) (e:=p) (by rw[h];trivial) (.inl rfl) (λb u Z q=>(get?_update_other _ _ (Ne.symm Z)).trans q) ⟨_,e⟩ ?_;exact⟨j,its',E,r,e⟩
def rSetL:V->V->V->Hp->(Hp->Prop)->Prop:=λo i v H Q=>∃p Y k j,o=.ref p/\i=.int k/\H p=some (.l Y)/\ixN Y.length k=some j/\Q (upd H p (.l (Y.set j v)))
def zF8:PSet X rSetL:=by
 intro G s O H o i v a y u Q I c e x h;obtain⟨p,Y,k,j,rfl,rfl,L,l,q⟩:=h;cases c;obtain⟨t,rfl⟩:=e;obtain⟨g,n,r,ho,hz⟩:=I.lst L;obtain⟨J,h2,w,h4⟩:=zDg l;have hl:=r.length;have K:=zBh;have I':Inv X G O (upd H p (.l (Y.set j v))) {s with heap:=s.heap.update p (Obj.mapSeq (·.setIfInBounds j u))} :=
  I.lstUpd L ho (zCl g n j u) (r.set x j) (by rw[List.length_set];exact hz) s.toks
 by_cases P:0<=k
 ·have V:k.toNat=j:=by
   rw[seqIndex_of P h4]at J;exact qJ J
  exact PySem.W.ki_setAt ho P (by lia) (by rw[size_toArray,<- hl];exact h4) (by rw[V];exact⟨_,I',q⟩)
 ·have V:(k+(g.toArray.size:Int)).toNat=j:=by
   rw[seqIndex_neg (by lia) w]at J;rw[size_toArray,<- hl];exact qJ J
  exact PySem.W.ki_setBack ho (by lia) (by rw[size_toArray,<- hl];exact w) (by lia) (by rw[V];exact⟨_,I',q⟩)
def Qm(lo hi:Lx Int)(n:Nat):(sliceBounds lo hi none n).1=((HT.sIx n 0 lo:Nat):Int)/\(sliceBounds lo hi none n).2.1=((HT.sIx n n hi:Nat):Int)/\(sliceBounds lo hi none n).2.2=1:=by
 refine⟨?_,?_,rfl⟩
 ·cases lo with
  |none=>simp[sliceBounds,HT.sIx]
  |some i =>
   dsimp[sliceBounds,HT.sIx,Option.getD_none,show(1:Int) > 0 by decide,if_true];by_cases h:i<0
   ·dsimp[h,if_true]<;>lia
   ·dsimp[h,if_false]<;>lia
 ·cases hi with
  |none=>simp[sliceBounds,HT.sIx]
  |some i =>
   dsimp[sliceBounds,HT.sIx,Option.getD_none,show(1:Int) > 0 by decide,if_true];by_cases h:i<0
   ·dsimp[h,if_true]<;>lia
   ·dsimp[h,if_false]<;>lia
def GM(g:Ls Lv)(lo hi:Lx Int):slicePick g.toArray lo hi none=((g.drop (HT.sIx g.length 0 lo)).take (HT.sIx g.length g.length hi-HT.sIx g.length 0 lo)).toArray:=by
 obtain⟨J,h2,Q⟩:=Qm lo hi g.toArray.size;unfold slicePick;rw[J,h2,Q];dsimp[sliceRange_one,pick_run,size_toArray]<;>rfl
def rSlL(K:qH):V->Lx Int->Lx Int->Hp->VK->Prop:=λx z R H Q=>∃a Y,x=.ref a/\SqL K H a Y/\∀p,H p=none->Q (.ref p) (upd H p (.l (zF7 Y z R)))
def sl_list:SlR X (rSlL X.K):=by
 intro G s O H x v j i z R D Q I w T k P h;obtain⟨a,Y,rfl,M,q⟩:=h;cases w;obtain⟨g,r,ht,hz⟩:=I.list M;have y:=r.length;refine⟨"list",_,slot_list_getitem.lookup,ht.isList.typeIs,?_⟩;refine wpAny_getItem_list_slice ht.isList T k P .none (by simp) ?_ (by rw[size_toArray]<;>lia);rw[GM,<- y];refine⟨.ref s.heap.objs.size,_,I.laid (t':=s.toks) (o:=.l (zF7 Y z R)) (λb J q=>qA _ q) (le_refl _) ?_,rfl,q _ (I.hok.fresh (le_refl _))⟩;exact⟨le_trans (Wt Y z R) hz,_,0,(r.drop (HT.sIx Y.length 0 z)).take (HT.sIx Y.length Y.length R-HT.sIx Y.length 0 z),get?_push_size _ rfl⟩
def zDj:V->Bool
 | .non=>true| .bl _=>true| .int _=>true| .str _=>true|_=>false
def eqV:V->V->Bool
 | .non,.non=>true| .bl a,.bl b=>a==b| .bl a,.int b=>(if a then 1 else 0)==b| .int a,.bl b=>a==(if b then 1 else 0)| .int a,.int b=>a==b| .str a,.str b=>a==b|_,_=>false
def zHg(P:yo y u)(w:yo x v)(e:zDj y=true)(c:zDj x=true):SeqAt.EqAt A s u v (eqV y x):=by
 cases y with
 |non =>
  cases P;cases x with
  |non=>cases w;exact SeqAt.EqAt.same _|bl b=>cases w;exact SeqAt.EqAt.none_bool b|int b=>obtain⟨t,rfl⟩:=w;exact SeqAt.EqAt.none_int b t|str b=>obtain⟨t,rfl⟩:=w;exact SeqAt.EqAt.none_str b t|_=>exact absurd (show false=true from c) qF
 |bl a =>
  cases P;cases x with
  |non=>cases w;exact SeqAt.EqAt.bool_none a|bl b=>cases w;exact SeqAt.EqAt.bool_bool a b|int b=>obtain⟨t,rfl⟩:=w;exact SeqAt.EqAt.bool_int a b t|str b=>obtain⟨t,rfl⟩:=w;exact SeqAt.EqAt.bool_str a b t|_=>exact absurd (show false=true from c) qF
 |int a =>
  obtain⟨V,rfl⟩:=P;cases x with
  |non=>cases w;exact SeqAt.EqAt.int_none a V|bl b=>cases w;exact SeqAt.EqAt.int_bool a V b|int b=>obtain⟨t,rfl⟩:=w;exact SeqAt.EqAt.int_int a V b t|str b=>obtain⟨t,rfl⟩:=w;exact SeqAt.EqAt.int_str a V b t|_=>exact absurd (show false=true from c) qF
 |str a =>
  obtain⟨V,rfl⟩:=P;cases x with
  |non=>cases w;exact SeqAt.EqAt.str_none a V|bl b=>cases w;exact SeqAt.EqAt.str_bool a V b|int b=>obtain⟨t,rfl⟩:=w;exact SeqAt.EqAt.str_int a V b t|str b=>obtain⟨t,rfl⟩:=w;exact SeqAt.EqAt.str_str a V b t|_=>exact absurd (show false=true from c) qF
 |_=>exact absurd (show false=true from e) qF
def Qn:jb X (.builtin "len") (λY H Q=>∃p T,Y=[.ref p]/\(SqL X.K H p T\/SqT X.K H p T)/\Q (.int T.length) H):=by
 intro G s O H Y D Q I r h;obtain⟨p,T,rfl,W,q⟩:=h;obtain⟨u,rfl,w⟩:=ZT r;cases w;have K:=zBh;rcases W with W|W
 ·obtain⟨g,L,k,hz⟩:=I.list W
  have y:=L.length;exact Calls.call_len_list k.isList (by dsimp[size_toArray]<;>lia) ⟨.int T.length,H,I.tok _,⟨s.toks+1,by rw[size_toArray,y]⟩,q⟩
 ·obtain⟨g,L,k,hz⟩:=I.tuple W
  have y:=L.length;exact len_tuple k (by dsimp[size_toArray]<;>lia) ⟨.int T.length,H,I.tok _,⟨s.toks+1,by rw[size_toArray,y]⟩,q⟩
def jb.or{r L:Ls V->Hp->VK->Prop}(h:jb X f r)(h':jb X f L):jb X f (λY H Q=>r Y H Q\/L Y H Q):=by
 intro G s O H Y D Q I u q;rcases q with q|q
 ·exact h G s O H Y D Q I u q
 ·exact h' G s O H Y D Q I u q
def GN:jb X (.type "tuple") (λY H Q=>∃p T,Y=[.ref p]/\((SqL X.K H p T/\∀l,H l=none->Q (.ref l) (upd H l (.t T)))\/(SqT X.K H p T/\Q (.ref p) H))):=by
 intro G s O H Y D Q I r h;obtain⟨p,T,rfl,h⟩:=h;obtain⟨u,rfl,w⟩:=ZT r;cases w;rcases h with⟨W,q⟩|⟨W,q⟩
 ·obtain⟨g,L,k,hz⟩:=I.list W
  have a:=L.length;refine call_tuple_list k.isList (λy kp=>?_) (by dsimp[size_toArray]<;>lia);have I1:Inv X G O H {s with heap:=y}:=I.kept (t':=s.toks) kp
  have I2:Inv X G O (upd H y.objs.size (.t T)) {s with heap:=y.push {cls:=.type "tuple",data:=.seq g.toArray}} :=
   I1.laid (t':=s.toks) (λb o e=>qA _ e) (le_refl _) (show JH X.prog X.w _ _ _ (.t T)from⟨hz,g,L,IsTup.new _ _⟩)
  exact⟨.ref y.objs.size,_,I2,rfl,q _ (I1.hok.fresh (le_refl _))⟩
 ·obtain⟨g,L,k,hz⟩:=I.tuple W
  exact call_tuple_same k ⟨.ref p,H,I,rfl,q⟩
def tyV(K:qH)(T:String)(x:V)(H:Hp):Prop:=match x with
 | .str _=>T="str"| .int _=>T="int"
 | .ref p=>(T="list"/\∃Y,SqL K H p Y)\/(T="tuple"/\∃o,K.lookup p=some o/\o.cls=.type "tuple"/\o.dict=none) \/
   (T="dict"/\((∃j,H p=some (.dK j))\/∃j,H p=some (.dT j)))\/(T="set"/\∃S n,H p=some (.set S n))
 |_=>False
def tyV_is(I:Inv X pins O H s)(r:yo x v)(h:tyV X.K T x H) :
  s.TypeIs v T/\∀a,v=.ref a->∃J,s.heap.get? a=some J/\J.dict=none:=by
 cases x with
 |str z =>
  obtain⟨t,rfl⟩:=r;cases (show T="str" from h);exact⟨typeIs_str s z t,λ_ e=>nomatch e⟩
 |int i =>
  obtain⟨t,rfl⟩:=r;cases (show T="int" from h);exact⟨typeIs_int s i t,λ_ e=>nomatch e⟩
 |ref p =>
  cases r;rcases h with⟨rfl,Y,W⟩|⟨rfl,o,V,l,C⟩|⟨rfl,V⟩|⟨rfl,S,n,V⟩
  ·obtain⟨g,_,k,_⟩:=I.list W
   refine⟨k.isList.typeIs,λa e=>?_⟩;cases e;obtain⟨o,n,e,c,C,_⟩:=k;exact⟨o,e,C⟩
  ·refine⟨⟨o,I.kIn p o V,l⟩,λa e=>?_⟩
   cases e;exact⟨o,I.kIn _ o V,C⟩
  ·have z:∃o,s.heap.get? p=some o/\o.ExactDict:=by
    rcases V with⟨j,V⟩|⟨j,V⟩
    ·obtain⟨_,_,_,_,o,_,_,e,w,_⟩:=I.hok p _ V
     exact⟨o,e,w⟩
    ·obtain⟨_,_,_,_,o,_,_,e,w,_⟩:=I.hok p _ V
     exact⟨o,e,w⟩
   obtain⟨o,e,w⟩:=z;refine⟨⟨o,e,w.1⟩,λa P=>?_⟩;cases P;exact⟨o,e,w.2.1⟩
  ·obtain⟨o,_,_,_,e,w,_⟩:=I.hok p _ V
   refine⟨⟨o,e,w.1⟩,λa P=>?_⟩;cases P;exact⟨o,e,w.2.1⟩
 |_=>exact False.elim h
def tBM(K:qH)(T:String)(r:V->Ls V->Hp->VK->Prop)(a:TE)(t:TA):TE:=λO H Q=>a O H λx H1=>tyV K T x H1/\t O H1 λY H2=>r x Y H2 Q
variable{o e:Lb}{es:Ls Lb}{to:TE}{t:TA}{name:Str}{apos cpos:Pos}{T id:String}{r:V->Ls V->Hp->VK->Prop}
def pe_bm(p:PlainAttrs T)(j:Slot T name id)(c:typeOf (.builtin id)=pure (.type "method_descriptor"))(Y:MtR X id r)(w:PE X o to)(C:PA X (e::es) t)
  (u:attributeBase o name X.env (eval o X.env)=eval o X.env:=by rfl)
  (E:((backTo cpos (starEach (e::es) X.env)).all (λx=>!x.1)&&(backToKw cpos (keywordEach [] X.env)).all (λx=>x.1.isSome)
   && decide ((e::es).length+([]:Ls Keyword).length+(if([]:Ls Keyword).isEmpty then 0 else 1)<30))=true:=by rfl)
  (a:(apos.endLine==cpos.line)=true:=by rfl) (k:starEach (e::es) X.env=(false,eval e X.env)::starEach es X.env:=by rfl) (q:(backTo cpos (starEach es X.env)).any (·.1)=false:=by rfl) :
  PE X (.Call (.Attribute o name apos) (e::es) [] cpos) (tBM X.K T r to t):=by
 intro G s O H Q I h;refine wpAny_Call_method_late u E a rfl (thn (w G s O H _ I h) λv R ⟨x,H1,I1,l,ty,K⟩=>?_);obtain⟨J,h2⟩:=tyV_is I1 l ty;refine⟨T,id,p,j,c,J,h2,?_⟩;have n:=C cpos G R O H1 _ I1 K;rw[k]at n ⊢;refine Calls.callWith_builtin (by show(false||(backTo cpos (starEach es X.env)).any (·.1))=false;rw[q]<;>rfl) (Calls.evalArgs_plain ?_);exact thn n λD g ⟨L,H2,I2,i,S⟩=>Y G g O H2 x L v D Q I2 l i S
end
def MtM(X:Cx)(id:String)(r:V->Ls V->Hp->VK->Prop):Prop :=
 ∀(G:Ls (Lz×Obj)) (s:La) (O:St) (H:Hp) (x:V) (Y:Ls V) (v:Lv) (D:Ls Lv) (Q:VK),Inv X G O H s->yo x v->zq Y D->r x Y H Q ->
  wpAny (model X.prog X.w) X.A (call (.builtin id) (v::D)) (EP X G O Q) X.xe s
def zq.one:∀{x:V} {D:Ls Lv},zq [x] D->∃u,D=[u]/\yo x u
 |_,_,.cons r .nil=>⟨_,rfl,r⟩
def zq.zero:∀{D:Ls Lv},zq [] D->D=[]
 |_,.nil=>rfl
theorem zq.dropLast{xs:Ls V}{D:Ls Lv}(h:zq xs D):zq xs.dropLast D.dropLast:=by
 induction h with
 |nil=>exact .nil
 |cons r t u =>
  cases t with
  |nil=>exact .nil|cons q a=>exact .cons r u
theorem zq.eraseIdx:∀{Y:Ls V} {D:Ls Lv} (i:Nat),zq Y D->zq (Y.eraseIdx i) (D.eraseIdx i)
 |_,_,_,.nil=>.nil|_,_,0,.cons _ t=>t|_,_,i+1,.cons r t=>.cons r (zq.eraseIdx i t)
theorem zq.reverse{xs:Ls V}{D:Ls Lv}(h:zq xs D):zq xs.reverse D.reverse:=by
 induction h with
 |nil=>exact .nil|cons r t u=>rw[reverse_cons,reverse_cons];exact zq.append u (.cons r .nil)
theorem zq.rep(h:zq xs us):∀k:Nat,zq (replicate k xs).flatten (replicate k us).flatten
 |0=>.nil
 |k+1=>by
  rw[replicate_succ,replicate_succ,flatten_cons,flatten_cons];exact zq.append h (zq.rep h k)
theorem Wu(g:Ls Lv):∀(k:Nat) (L:Ls Lv),
  foldl (λQ R=>Q++R) L.toArray (replicate k g.toArray)=(L++(replicate k g).flatten).toArray
 |0,L=>by simp
 |k+1,L=>by
  have e:L.toArray++g.toArray=(L++g).toArray:=by simp
  have P:(L++g)++(replicate k g).flatten=L++(replicate (k+1) g).flatten:=by
   rw[replicate_succ,flatten_cons,append_assoc]
  rw[<- P,<- Wu g k (L++g),<- e,replicate_succ,foldl_cons]
section
variable{X:Cx}{pins:Ls (Lz×Obj)}{O:St}{H:Hp}{s:La}{l b:Lz}{xs ys zs:Ls V}
def Inv.lset{g its':Ls Lv}{n:Nat}{f:Lg->Lg}{t':Nat}(I:Inv X pins O H s)(E:H l=some (.l xs))
  (e:s.heap.get? l=some {cls:=.type "list",data:=.seq g.toArray n}) (Y:f g.toArray=its'.toArray) (P:zq ys its') (j:ys.length<=sizeLine) :
  Inv X pins O (upd H l (.l ys)) {s with heap:=s.heap.update l (Obj.mapSeq f),toks:=t'}:=by
 have q:=PySem.IsL.update e f;rw[Y]at q;refine I.write (x:=l) (e:=l) (by rw[E];exact trivial) (.inl rfl) (λa u Z hu=>(get?_update_other s.heap (Obj.mapSeq f) (Ne.symm Z)).trans hu) ⟨_,q⟩ ?_;exact⟨j,its',_,P,q⟩
def Inv.lnew(I:Inv X pins O H s)(P:zq ys its)(j:ys.length<=sizeLine) :
  Inv X pins O (upd H s.heap.objs.size (.l ys)) {s with heap:=s.heap.push {cls:=.type "list",data:=.seq its.toArray},toks:=t'} :=
 I.laid (λ_ _ q=>qA _ q) (le_refl _) ⟨j,its,0,P,get?_push_size _ rfl⟩
theorem Inv.fresh(I:Inv X pins O H s):H s.heap.objs.size=none:=I.hok.fresh (le_refl _)
def Inv.lstM(I:Inv X pins O H s)(E:H l=some (.l xs)):xs.length<=sizeLine/\∃(g:Ls Lv) (n:Nat),zq xs g/\xs.length=g.length/\s.heap.get? l=some {cls:=.type "list",data:=.seq g.toArray n}:=by
 obtain⟨z,g,n,r,e⟩:=I.hok l _ E;exact⟨z,g,n,r,r.length,e⟩
def zF9{n:Nat}(h:n<=sizeLine):Builtin.List.listTooLong n=false:=by
 unfold Builtin.List.listTooLong;exact decide_eq_false (by lia)
end
section
variable{X:Cx}
def zDk:V->Ls V->Hp->VK->Prop:=λx L H Q=>∃l Y y,x=.ref l/\L=[y]/\H l=some (.l Y)/\Y.length<sizeLine/\Q .non (upd H l (.l (Y++[y])))
def Qo:MtM X "list.append" zDk:=by
 intro G s O H x L v D Q I w j h;obtain⟨l,Y,y,rfl,rfl,E,hz,q⟩:=h;cases w;obtain⟨u,rfl,a⟩:=j.one;obtain⟨z,g,n,r,hl,e⟩:=I.lstM E;refine call_meets F.slot_list_append ⟨_,e,rfl⟩ F.entry_list_append (F.args_list_append_2 _ _) (PySem.list_append l g.toArray n u (by rw[size_toArray];lia)) ⟨e,?_⟩;refine⟨.non,_,I.lset (its':=g++[u]) E e (by simp) (r.append (.cons a .nil)) ?_,rfl,q⟩;rw[length_append,List.length_singleton];lia
def zAt{α:Type}(xs:Ls α)(k:Nat):(replicate k xs).flatten.length=k*xs.length:=by
 induction k with
 |zero=>simp|succ k u=>rw[replicate_succ,flatten_cons,length_append,u,Nat.succ_mul,Nat.add_comm]
end
end L2
namespace Att
open PySem PySem.W PySem.Calls PyProof.Rows
def Wv:∀(ns:Ls Int) (L:Ls Lv),WellAll P h L (ns.map WData.int)->IntsAre L ns:=by
 intro ns
 induction ns with
 |nil =>
  intro L w;rw[map_nil]at w;cases w;exact .nil
 |cons n ns u =>
  intro L w;rw[map_cons]at w;cases w with
  |cons a b =>
   cases a;exact .cons _ _ (u _ b)
def zDl{l:OpenLaw}{n:Nat}(hn:l.most=some n){P:Params}{h:Heap}{args:Ls WData}{v:Ls Lv}
  (k:l.row.toRowW.claim.pre args=true) (z:WellAll P h v args) :
  ∃a L E,v=[Value.ref a]/\args=[WData.list (E.map WData.int)]/\h.get? a=some {cls:=.type "list",data:=.seq L.toArray}/\IntsAre L E/\E.length<=n:=by
 have c:WShape.hasAll [] args [.list .int]=true:=(pre_splitW k).1;have S:l.pre.holds [] {args:=args}=true:=(pre_splitW k).2;obtain⟨d,r,rfl,J,h2⟩:=hasAllW_cons c;obtain rfl:=hasAllW_nil h2;obtain⟨Y,rfl,Q⟩:=hasW_list J;obtain⟨E,rfl⟩:=items_int Q;have y:E.length<=n:=by
  unfold OpenLaw.pre at S;have h4:(WTm.not (.lt (.lit (.int (n:Int))) (.len (.arg 0)))).holds [] {args:=[.list (E.map .int)]}=true:=by
   have h4:=(holds_andW S).1;rw[hn]at h4;exact h4
  have h5:=condW_of h4 (w_not (w_lt w_lit (w_len_list (w_arg rfl))));rw[length_map]at h5;refine Nat.le_of_not_lt λq=>?_
  have G:(n:Int)<((E.length:Nat):Int):=by lia
  first
   | (rw[decide_eq_true G]at h5;exact absurd h5 (by decide))
   | (simp at h5;lia)
 cases z with
 |cons V u =>
  cases u;cases V with
  |list ho g=>exact⟨_,_,E,rfl,rfl,ho,Wv E _ g,y⟩
def zDm(l:OpenLaw)(args:Ls WData):l.row.toRowW.claim.post args (.bool true) args=true :=
 postW_of (r:=l.row.toRowW) (X:=(true==true))
  (show WShape.has [] (.bool true) .bool=true by first|rfl|decide|simp[WShape.has,WShape.arms,WShape.armsAll])
  (show(WTm.eq .res (.lit (.bool true))).value [] {args:=args,res:=some (.bool true),after:=args}=some (.bool (true==true))from w_eq_bool (w_res rfl) w_lit) rfl
def attach_call{l:OpenLaw}{n:Nat}{q:Lc}{loose:Ls Str}{XP:(Str->Lx Lv)->Heap->Prop}{YP:Le->Heap->Prop}{d:DefRec}
  (hn:l.most=some n) (T:d.params.defaults=[])
  (h:∀(w:Le) (P p:La) (g mb:Str->Lx Lv) (R:Lz) (o:Obj) (J Z I:Lv) (a:Lz) (L:Ls Lv) (E:Ls Int),
   Ground q loose [] XP w P g mb p.heap->YP w p.heap ->
   p.heap.get? R=some o->o.data=.func (docDef d.name d.params d.body d.scope J Z I)->p.heap.CodeRec Z d.name->g d.name=some (.ref R) ->
   p.heap.get? a=some {cls:=.type "list",data:=.seq L.toArray}->IntsAre L E->E.length<=n->p.gens=#[] ->
   codeAny (model l.prog w) callerA (.call (.ref R) ⟨[.ref a],[]⟩) (λr j=>r=.ok (.ret (.bool true))/\OldK p.heap j.heap/\j.os=p.os/\AllBare j.gens) p) :
  WalkO q loose XP YP l.row.toRowW d [] (λf L=>PySem.call f L):=by
 intro w P p g mb G Y R o J Z I i kV ho C K x c t e v as k H D z u;obtain rfl:i=.none:=Dflts.none x T;obtain rfl:kV=.none:=Dflts.noKw x;obtain⟨a,L,E,rfl,rfl,O,V,y⟩:=zDl hn k z;refine enter_call (codeAny_mono (h w P p g mb R o J Z I a L E G Y ho (fd_plain C) K c O V y t) λr j W=>?_);obtain⟨rfl,h2,Q,h4⟩:=W;exact⟨.inl ⟨.bool true,.bool true,[],rfl,λ_=>rfl,.bool true,zDm l _,λ_=>⟨List.Pairwise.nil,λ_ M=>(nomatch M)⟩⟩,h2,Q,h4⟩
end Att
namespace L2
open PySem PySem.Spec PyProof.Rows
theorem Jn:∀{L:Ls Lv} {E:Ls Int},IntsAre L E->zq (E.map V.int) L
 |_,_,.nil=>.nil|_,_,.cons n t h=>.cons ⟨t,rfl⟩ (Jn h)
def Only(H:Hp):Prop:=∀b,H b=none\/∃o Y,H b=some (.frz o (.l Y))
def zGA{P:Lc}{w:Le}{K:qH}{g i:Str->Lx Lv}{l:CXT}{k:Nat}{R a:Lz}{M:FuncData}{x:Str}{sp:Sp}{p:La}{vs:Ls Lv}{ns:Ls Int}
  (J:K.In p.heap) (O:p.heap.Ns mainGlobals g) (Z:p.heap.Ns builtinsNs i) (af:∀x:Str,x≠"__name__"->i x=bootBuiltins x) (ab:p.heap.NoLimit) (hg:p.gens=#[])
  (C:p.heap.get? a=some {cls:=.type "list",data:=.seq vs.toArray}) (hi:IntsAre vs ns) (hl:ns.length<=sizeLine) (hr:Room k callerA)
  (F:∀I:Heap,K.In I->I.Ns mainGlobals g->FnOk P w K g I l k R M [x] sp) (c:∀(s:La) (u:Lv),BindsTo s M ⟨[u],[]⟩ [(x,u)])
  (ae:∀H:Hp,Only H->SqL K H a (ns.map V.int)->sp [.ref a] H (λv _=>v=.bl true) λ_ _ _=>False)
  (ag:∀H e j,l [] H p (λ_ _ _=>False) e j->False) :
  codeAny (model P w) callerA (.call (.ref R) ⟨[.ref a],[]⟩) (λr j=>r=.ok (.ret (.bool true))/\OldK p.heap j.heap/\j.os=p.os/\AllBare j.gens) p:=by
 have rv:=Jn hi;have ad:=hi.length
 -- from an abstract heap in which nothing but the script may be tracked
 have G:∀H:Hp,Only H->SqL K H a (ns.map V.int)->HOk P w H p.heap->(∀b,H b≠none->b=a)->(H a≠none->K.lookup a=none) ->
   codeAny (model P w) callerA (.call (.ref R) ⟨[.ref a],[]⟩) (λr j=>r=.ok (.ret (.bool true))/\OldK p.heap j.heap/\j.os=p.os/\AllBare j.gens) p:=by
  intro H hO X y hA hK;have D:∀{b:Lz} {o:Obj},p.heap.get? b=some o->H b=none->(zFs p.heap H).get? b=some o:=λe n=>zFt e n
  have t:∀{b:Lz} {o:Obj} {E:Array DictEntry} {ep:Nat},p.heap.get? b=some o->o.data=.dict E ep->H b=none:=λ{b o E ep} e d=>by
   cases q:H b with
   |none=>rfl
   |some u =>
    have e':b=a:=hA b (by rw[q];simp);subst e';rw[C]at e;cases e;have T:Data.seq vs.toArray _=Data.dict E ep:=d;cases T
  have Y:∀{b:Lz} {m:Str->Lx Lv},p.heap.Ns b m->(zFs p.heap H).Ns b m:=λ{b m} ⟨o,E,ep,e,d,r⟩=>⟨o,E,ep,D e (t e d),d,r⟩
  have ac:K.In (zFs p.heap H):=λb o e=>D (J b o e) (by
   cases q:H b with
   |none=>rfl
   |some u =>
    have e':b=a:=hA b (by rw[q];simp);subst e';rw[hK (by rw[q];simp)]at e;cases e)
  have hM:Mod K g (zFs p.heap H):=⟨ac,Y O,⟨i,Y Z,af⟩,let ⟨mc,h1,h2⟩:=ab;⟨mc,Y h1,h2⟩⟩;have e0:Env0 P w K g (zFs p.heap H) callerA [] p H:=⟨rfl,hM,λb o e=>of_hidT e,Nat.le_of_eq (zDM _ _),trivial,λb Z=>absurd (show b∈([]:Ls Lz)from Z) (by simp),y,.of_eq hg⟩;refine codeAny_mono ((F _ ac (Y O)).run callerA [] p H ⟨[.ref a],[]⟩ [.ref a] [.ref a] _ _ hr e0 (c p (.ref a)) (.cons rfl .nil) (ae H hO X)) λr j h=>?_
  cases r with
  |error e=>exact(ag H e j h).elim
  |ok fl =>
   cases fl with
   |next=>exact False.elim h|brk=>exact False.elim h|cont=>exact False.elim h
   |ret u =>
    obtain⟨v,H',os,S,un,aa,L,q⟩:=h;have q':v=.bl true:=q;subst q';obtain rfl:u=Value.bool true:=L;refine⟨rfl,OldK.of_keep λb o e=>?_,os,S⟩;cases q:H b with
    |none=>exact un.keep b o e q (by intro z;exact absurd (show b∈([]:Ls Lz)from z) (by simp)) (by simp)
    |some u =>
     rcases hO b with z|⟨ob,xs,z⟩
     ·rw[q]at z;cases z
     ·have z2:=un.frzs b ob _ z
      obtain⟨W,_⟩:=y b _ z;obtain⟨e2,_⟩:=aa b _ z2;rw[e]at W;cases W;exact e2
 cases hk:K.lookup a with
 |some o =>
  -- the script is one of the module's own objects
  have e:=J a o hk;rw[C]at e;cases e;refine G (λ_=>none) (λ_=>.inl rfl) (.inr ⟨_,vs.toArray,_,hk,rfl,rfl,rfl,by rw[size_toArray,ad];exact hl,by exists rv⟩) (λb u z=>by have Q:(none:Lx HO)=some u:=z;cases Q) (λb z=>absurd rfl z) λz=>absurd rfl z
 |none =>
  refine G (λb=>if b=a then some (.frz {cls:=.type "list",data:=.seq vs.toArray} (.l (ns.map V.int)))else none) (λb=>?_) (.inl (.inr ⟨{cls:=.type "list",data:=.seq vs.toArray},if_pos rfl⟩)) (λb u z=>?_) (λb z=>?_) λ_=>hk
  ·by_cases Z:b=a
   ·exact .inr ⟨_,_,if_pos Z⟩
   ·exact .inl (if_neg Z)
  ·by_cases Z:b=a
   ·have Q:=(if_pos Z).symm.trans z
    cases Q;subst Z;exact⟨C,by rw[length_map];exact hl,vs,_,rv,C⟩
   ·have Q:=(if_neg Z).symm.trans z
    cases Q
  ·by_cases Z:b=a
   ·exact Z
   ·exact absurd (if_neg Z) z
abbrev CX0:CXT:=λ_ _ _ _ _ _=>False
abbrev E0:XK:=λ_ _ _=>False
structure Fun(K:qH)(x qual:Str)(st:Lh)(f:Lz)(fd:FuncData):Prop where
 ex:∃(oc:Lv) (od:Option Lz) (kV doc pm:Lv) (an:Option Lz) (cdv ct:Lv) (osl:Array (Lp)),
  fd=fnOf x qual (Yd st) (jL st) (zc st) .none kV doc pm an cdv ct/\K.lookup f=some ⟨oc,od,.func fd,osl⟩/\codeIn K cdv qual=true
 kp:keepIn K (.ref f)=true
section
variable{P:Lc}{w:Le}{K:qH}{mg:Str->Lx Lv}{base:Heap}
def Fun.ok{x X:Str}{st:Lh}{f:Lz}{M:FuncData}{N G:Ls Str}{k:Nat}{sp:Sp}(F:Fun K x X st f M)(S:FnScope N G (zc st))(r:∀L H Q E,sp L H Q E->L.length=G.length)
  (g:∀(R:Lv) (A:Li) (outer:Ls Env) (s:La) (H:Hp) (L:Ls V) (Q:VK) (E:XK),Room k (A.deeper (envOfC X (zc st) s.heap.objs.size f R))->sp L H Q E ->
   ∃t,PSs (zHe CX0 P w K mg base N X (zc st) f R A outer s H E).nox (jL st) t/\t {nx:=λ_ H'=>Q .non H',rt:=Q} (j5 N L) H):FnOk P w K mg base CX0 (k+1) f M G sp:=by
 obtain⟨e,i,kV,I,J,a,R,o,u,rfl,y,p⟩:=F.ex;refine fn_of y p S r λA outer s H L Q E z c=>?_
 obtain⟨t,h,q⟩:=g R A outer s H L Q E z c;exact⟨t,h.nox,q⟩
def Fun.binds{x X:Str}{st:Lh}{f:Lz}{M:FuncData}{G:Ls Str}(F:Fun K x X st f M)
  (h:∀(kV I J:Lv) (a:Lx Lz) (R o:Lv) (D:Ls Lv),D.length=G.length->bindArgs (fnOf x X (Yd st) (jL st) (zc st) .none kV I J a R o) ⟨D,[]⟩=pure (G.zip D)):ZU K M G []:=by
 obtain⟨w,i,kV,I,J,a,R,o,u,rfl,y,p⟩:=F.ex;exact .all (h kV I J a R o)
def zHh{x X:Str}{st:Lh}{f:Lz}{oc:Lv}{i a:Lx Lz}{u:Lj}{M I J R ct:Lv}(l:K.lookup f=some ⟨oc,i,.func (fnOf x X (Yd st) (jL st) (zc st) .none M I J a R ct),u⟩)
  (c:codeIn K R X=true) (k:keepIn K (.ref f)=true):Fun K x X st f (fnOf x X (Yd st) (jL st) (zc st) .none M I J a R ct):=⟨⟨oc,i,M,I,J,a,R,ct,u,rfl,l,c⟩,k⟩
end
def zHi{A B:Prop}(h:B):if false=true then A else B:=by
 rw[if_neg qF];exact h
def zHj{A B:Prop}(h:A):if true=true then A else B:=by
 rw[if_pos rfl];exact h
def Yr(H k:Hp):Prop:=∀b o,H b=some o->k b=some o
def Yr.refl(H:Hp):Yr H H:=λ_ _ h=>h
def Yr.trans(a:Yr H H1)(b:Yr H1 H2):Yr H H2:=λc o h=>b c o (a c o h)
def Yr.free{H k:Hp}(e:Yr H k){l:Lz}(h:k l=Option.none):H l=Option.none:=by
 cases q:H l with
 |none=>rfl
 |some o =>
  rw[e l o q]at h;cases h
def Yr.seq{K:qH}{H k:Hp}{a:Lz}{xs:Ls V}(e:Yr H k)(h:SqL K H a xs):SqL K k a xs:=by
 rcases h with(h|⟨o,h⟩)|h
 ·exact .inl (.inl (e _ _ h))
 ·exact .inl (.inr ⟨o,e _ _ h⟩)
 ·exact .inr h
end L2
namespace DV
open PySem
@[elab_as_elim] def qAnd{M:BoolOp->Type}[∀e,Inhabited (M e)](e:BoolOp)(f:M .And):M e:=match e with
 | .And=>f|_=>default
@[elab_as_elim] def qAssign{M:Lh->Type}[∀e,Inhabited (M e)](e:Lh)(f:∀a b c,M (.Assign a b c)):M e:=match e with
 | .Assign a b c=>f a b c|_=>default
@[elab_as_elim] def qAttribute{M:Lb->Type}[∀e,Inhabited (M e)](e:Lb)(f:∀a b c,M (.Attribute a b c)):M e:=match e with
 | .Attribute a b c=>f a b c|_=>default
@[elab_as_elim] def qAugAssign{M:Lh->Type}[∀e,Inhabited (M e)](e:Lh)(f:∀a b c d,M (.AugAssign a b c d)):M e:=match e with
 | .AugAssign a b c d=>f a b c d|_=>default
@[elab_as_elim] def qBinOp{M:Lb->Type}[∀e,Inhabited (M e)](e:Lb)(f:∀a b c d,M (.BinOp a b c d)):M e:=match e with
 | .BinOp a b c d=>f a b c d|_=>default
@[elab_as_elim] def qBoolOp{M:Lb->Type}[∀e,Inhabited (M e)](e:Lb)(f:∀a b c,M (.BoolOp a b c)):M e:=match e with
 | .BoolOp a b c=>f a b c|_=>default
@[elab_as_elim] def qCall{M:Lb->Type}[∀e,Inhabited (M e)](e:Lb)(f:∀a b c d,M (.Call a b c d)):M e:=match e with
 | .Call a b c d=>f a b c d|_=>default
@[elab_as_elim] def qCompare{M:Lb->Type}[∀e,Inhabited (M e)](e:Lb)(f:∀a b c d,M (.Compare a b c d)):M e:=match e with
 | .Compare a b c d=>f a b c d|_=>default
@[elab_as_elim] def qConstant{M:Lb->Type}[∀e,Inhabited (M e)](e:Lb)(f:∀a b c,M (.Constant a b c)):M e:=match e with
 | .Constant a b c=>f a b c|_=>default
@[elab_as_elim] def qDict{M:Lb->Type}[∀e,Inhabited (M e)](e:Lb)(f:∀a b c,M (.Dict a b c)):M e:=match e with
 | .Dict a b c=>f a b c|_=>default
@[elab_as_elim] def qDictComp{M:Lb->Type}[∀e,Inhabited (M e)](e:Lb)(f:∀a b c d e,M (.DictComp a b c d e)):M e:=match e with
 | .DictComp a b c d e=>f a b c d e|_=>default
@[elab_as_elim] def qExceptHandler{M:ExceptHandler->Type}[∀e,Inhabited (M e)](e:ExceptHandler)(f:∀a b c d,M (.ExceptHandler a b c d)):M e:=match e with
 | .ExceptHandler a b c d=>f a b c d
@[elab_as_elim] def qExpr{M:Lh->Type}[∀e,Inhabited (M e)](e:Lh)(f:∀a b,M (.Expr a b)):M e:=match e with
 | .Expr a b=>f a b|_=>default
@[elab_as_elim] def qFor{M:Lh->Type}[∀e,Inhabited (M e)](e:Lh)(f:∀a b c d e,M (.For a b c d e)):M e:=match e with
 | .For a b c d e=>f a b c d e|_=>default
@[elab_as_elim] def qIf{M:Lh->Type}[∀e,Inhabited (M e)](e:Lh)(f:∀a b c d,M (.If a b c d)):M e:=match e with
 | .If a b c d=>f a b c d|_=>default
@[elab_as_elim] def qIfExp{M:Lb->Type}[∀e,Inhabited (M e)](e:Lb)(f:∀a b c d,M (.IfExp a b c d)):M e:=match e with
 | .IfExp a b c d=>f a b c d|_=>default
@[elab_as_elim] def qList{M:Lb->Type}[∀e,Inhabited (M e)](e:Lb)(f:∀a b,M (.List a b)):M e:=match e with
 | .List a b=>f a b|_=>default
@[elab_as_elim] def qListComp{M:Lb->Type}[∀e,Inhabited (M e)](e:Lb)(f:∀a b c d,M (.ListComp a b c d)):M e:=match e with
 | .ListComp a b c d=>f a b c d|_=>default
@[elab_as_elim] def qName{M:Lb->Type}[∀e,Inhabited (M e)](e:Lb)(f:∀a b,M (.Name a b)):M e:=match e with
 | .Name a b=>f a b|_=>default
@[elab_as_elim] def qNot{M:UnaryOp->Type}[∀e,Inhabited (M e)](e:UnaryOp)(f:M .Not):M e:=match e with
 | .Not=>f|_=>default
@[elab_as_elim] def qOr{M:BoolOp->Type}[∀e,Inhabited (M e)](e:BoolOp)(f:M .Or):M e:=match e with
 | .Or=>f|_=>default
@[elab_as_elim] def qRaise{M:Lh->Type}[∀e,Inhabited (M e)](e:Lh)(f:∀a b c,M (.Raise a b c)):M e:=match e with
 | .Raise a b c=>f a b c|_=>default
@[elab_as_elim] def qReturn{M:Lh->Type}[∀e,Inhabited (M e)](e:Lh)(f:∀a b,M (.Return a b)):M e:=match e with
 | .Return a b=>f a b|_=>default
@[elab_as_elim] def qSlice{M:Lb->Type}[∀e,Inhabited (M e)](e:Lb)(f:∀a b c d,M (.Slice a b c d)):M e:=match e with
 | .Slice a b c d=>f a b c d|_=>default
@[elab_as_elim] def qStarred{M:Lb->Type}[∀e,Inhabited (M e)](e:Lb)(f:∀a b,M (.Starred a b)):M e:=match e with
 | .Starred a b=>f a b|_=>default
@[elab_as_elim] def qSubscript{M:Lb->Type}[∀e,Inhabited (M e)](e:Lb)(f:∀a b c,M (.Subscript a b c)):M e:=match e with
 | .Subscript a b c=>f a b c|_=>default
@[elab_as_elim] def qTry{M:Lh->Type}[∀e,Inhabited (M e)](e:Lh)(f:∀a b c d e,M (.Try a b c d e)):M e:=match e with
 | .Try a b c d e=>f a b c d e|_=>default
@[elab_as_elim] def qTuple{M:Lb->Type}[∀e,Inhabited (M e)](e:Lb)(f:∀a b c,M (.Tuple a b c)):M e:=match e with
 | .Tuple a b c=>f a b c|_=>default
@[elab_as_elim] def qUSub{M:UnaryOp->Type}[∀e,Inhabited (M e)](e:UnaryOp)(f:M .USub):M e:=match e with
 | .USub=>f|_=>default
@[elab_as_elim] def qUnaryOp{M:Lb->Type}[∀e,Inhabited (M e)](e:Lb)(f:∀a b c,M (.UnaryOp a b c)):M e:=match e with
 | .UnaryOp a b c=>f a b c|_=>default
@[elab_as_elim] def qWhile{M:Lh->Type}[∀e,Inhabited (M e)](e:Lh)(f:∀a b c d,M (.While a b c d)):M e:=match e with
 | .While a b c d=>f a b c d|_=>default
@[elab_as_elim] def qint{M:Const->Type}[∀e,Inhabited (M e)](e:Const)(f:∀a,M (.int a)):M e:=match e with
 | .int a=>f a|_=>default
@[elab_as_elim] def qstr{M:Const->Type}[∀e,Inhabited (M e)](e:Const)(f:∀a,M (.str a)):M e:=match e with
 | .str a=>f a|_=>default
@[elab_as_elim] def qNone{α:Type}{M:Lx α->Type}[∀e,Inhabited (M e)](e:Lx α)(f:M none):M e:=match e with
 |none=>f|some _=>default
@[elab_as_elim] def qCm{M:Comprehension->Type}[∀e,Inhabited (M e)](e:Comprehension)(f:∀a b c,M ⟨a,b,c,0⟩):M e:=match e with
 |⟨a,b,c,0⟩=>f a b c|_=>default
@[elab_as_elim] def qKw{M:Keyword->Type}[∀e,Inhabited (M e)]:(e:Keyword)->(f:∀a b c,M ⟨a,b,c⟩)->M e
 |⟨a,b,c⟩,f=>f a b c
@[elab_as_elim] def qJoinedStr{M:Lb->Type}[∀e,Inhabited (M e)](e:Lb)(f:∀a b,M (.JoinedStr a b)):M e:=match e with
 | .JoinedStr a b=>f a b|_=>default
end DV
namespace DV
open PySem L2
abbrev KN:=Lx Int
def oV:KN->V
 |none=>.non|some i=>.int i
def hN:KN->Int
 |none=>0xFCA86420|some i=>hashInt i
def hT(a:Ls KN):Int:=reduceHash (Builtin.Tuple.tupleHashOf (a.map hN))
abbrev DE:=Ls KN×Lz×V
abbrev DX:=Ls KN×Lz×Lv
def entN(x:DX):DictEntry:=⟨hT x.1,.ref x.2.1,x.2.2⟩
abbrev ZV:Ls DE->Ls DX->Prop:=Paired λe x=>x.1=e.1/\x.2.1=e.2.1/\yo e.2.2 x.2.2
def dicP(a:Lz)(es:Ls DE)(h:Heap):Prop:=(a==sysModules)=false/\es.length<=sizeLine/\(es.map (·.1)).Nodup/\∃(o:Obj) (e:Array DictEntry) (D:Nat) (Y:Ls DX),h.get? a=some o/\o.ExactDict/\o.data=.dict e D/\ZV es Y/\e.toList=Y.map entN
def DicO(a:Lz)(es:Ls DE)(J:Obj):HO:=.dN λh=>dicP a es h/\h.get? a=some J
def zGB(H:Hp)(a:Lz)(es:Ls DE):Prop:=∃J,H a=some (DicO a es J)
def zGB.mono{H k:Hp}{a:Lz}{es:Ls DE}(h:zGB H a es)(e:Yr H k):zGB k a es:=let ⟨ob,q⟩:=h;⟨ob,e _ _ q⟩
def OwnK(o:HO):Prop:=(∃Y,o=.l Y)\/∃φ,o=.dN φ
section
variable{P:Lc}{w:Le}{h:Heap}{a:Lz}{es:Ls DE}{xs:Ls DX}
theorem ZV.keys:∀{E:Ls DE} {Y:Ls DX},ZV E Y->Y.map (·.1)=E.map (·.1)
 |_,_,.nil=>rfl|_,_,.cons r t=>by dsimp[map_cons];rw[r.1,ZV.keys t]
theorem ZV.mem:∀{E:Ls DE} {Y:Ls DX} {x:DX},ZV E Y->x∈Y->∃e∈E,x.1=e.1/\x.2.1=e.2.1/\yo e.2.2 x.2.2
 |_,_,_,.nil,h=>by cases h
 |_,_,_,.cons r t,h=>by
  rcases mem_cons.mp h with rfl|h
  ·exact⟨_,qE,r⟩
  ·obtain⟨e,c,q⟩:=ZV.mem t h
   exact⟨e,qD _ c,q⟩
def atE(es:Ls DE)(k:Ls KN):Lx V:=(es.find? λe=>decide (e.1=k)).map (·.2.2)
theorem ZV.at:∀{E:Ls DE} {Y:Ls DX} {k:Ls KN} {v:V},ZV E Y->atE E k=some v->∃p,atKey Y k=some p/\yo v p.2
 |_,_,_,_,.nil,h=>by cases h
 |e::E,x::Y,k,v,.cons r t,h=>by
  unfold atE atKey at *;rw[List.find?_cons]at h ⊢;by_cases q:e.1=k
  ·rw[decide_eq_true q]at h
   rw[decide_eq_true (r.1.trans q)];dsimp[Option.map_some,Option.some.injEq]at h;subst h;exact⟨x.2,rfl,r.2.2⟩
  ·rw[decide_eq_false q]at h
   rw[decide_eq_false (λz=>q (r.1.symm.trans z))];exact ZV.at t h
theorem ZV.none:∀{E:Ls DE} {Y:Ls DX} {k:Ls KN},ZV E Y->atE E k=none->atKey Y k=none
 |_,_,_,.nil,_=>rfl
 |e::E,x::Y,k,.cons r t,h=>by
  unfold atE atKey at *;rw[List.find?_cons]at h ⊢;by_cases q:e.1=k
  ·rw[decide_eq_true q]at h;cases h
  ·rw[decide_eq_false q]at h
   rw[decide_eq_false (λz=>q (r.1.symm.trans z))];exact ZV.none t h
def putE(es:Ls DE)(k:Ls KN)(a:Lz)(v:V):Ls DE:=if(atE es k).isSome then es.map (λe=>if e.1=k then(e.1,e.2.1,v)else e)else es++[(k,a,v)]
theorem ZV.mapP:∀{E:Ls DE} {Y:Ls DX} {k:Ls KN} {v:V} {u:Lv},ZV E Y->yo v u->ZV (E.map λe=>if e.1=k then(e.1,e.2.1,v)else e) (Y.map (putAt k u))
 |_,_,_,_,_,.nil,_=>.nil
 |e::E,x::Y,k,v,u,.cons r t,j=>by
  dsimp[map_cons];refine .cons ?_ (ZV.mapP t j);unfold putAt;by_cases q:e.1=k
  ·rw[if_pos q,if_pos (r.1.trans q)];exact⟨r.1,r.2.1,j⟩
  ·rw[if_neg q,if_neg (λz=>q (r.1.symm.trans z))];exact r
theorem ZV.app:∀{E fs:Ls DE} {Y T:Ls DX},ZV E Y->ZV fs T->ZV (E++fs) (Y++T)
 |_,_,_,_,.nil,g=>g|_,_,_,_,.cons r t,g=>.cons r (ZV.app t g)
def ZV.put{k:Ls KN}{a:Lz}{v:V}{u:Lv}(h:ZV es xs)(j:yo v u):ZV (putE es k a v) (storedH xs k a u):=by
 unfold putE storedH;cases q:atE es k with
 |none=>rw[ZV.none h q];exact h.app (.cons ⟨rfl,rfl,j⟩ .nil)
 |some y =>
  obtain⟨p,e,_⟩:=ZV.at h q;rw[e];exact h.mapP j
end
def JI(h h':Heap):Prop:=∀b o,h.get? b=some o->∃R,h'.get? b=some R/\R.dict=o.dict
def JI.refl(h:Heap):JI h h:=λ_ o e=>⟨o,e,rfl⟩
theorem JI.trans(a:JI h1 h2)(b:JI h2 h3):JI h1 h3:=λc o e=>by
 obtain⟨h,W,w⟩:=a c o e;obtain⟨q,P,O⟩:=b c h W;exact⟨q,P,O.trans w⟩
def JI.of_keeps(k:∀b o,h.get? b=some o->h'.get? b=some o):JI h h':=λb o e=>⟨o,k b o e,rfl⟩
def JI.upd{f:Obj->Obj}(Y:∀o,(f o).dict=o.dict/\(o.isFreed=false->(f o).isFreed=false)):JI h (h.update a f):=λb o e=>by
 by_cases Z:a=b
 ·subst Z
  exact⟨f o,get?_update_self _ e ((Y o).2 (Heap.get?_some_iff.mp e).2),(Y o).1⟩
 ·exact⟨o,(get?_update_other _ _ Z).trans e,rfl⟩
def jl{α:Type}:Sem α->Prop
 | .pure _=>True| .raise _=>True| .unsupported _=>True| .finish _=>True| .rule _ k=>jl (k ())| .at _ k=>jl (k ())| .load _ _ k=>∀o,jl (k o)| .update _ _ f k=>(∀o,(f o).dict=o.dict/\(o.isFreed=false->(f o).isFreed=false))/\jl (k ())| .alloc _ k=>∀a,jl (k a)| .stack k=>∀l,jl (k l)|_=>False
theorem jl.bind{α β:Type}{f:α->Sem β}(Y:∀a,jl (f a)){t:Sem α}(r:jl t):jl (t >>= f):=by
 show jl (t.bind f)
 induction t with
 |pure a=>exact Y a|raise _=>trivial|unsupported _=>trivial|finish _=>trivial|rule _ k u=>exact u () r| «at» _ k u=>exact u () r|load _ _ k u=>exact λo=>u o (r o)|update _ _ _ k u=>exact⟨r.1,u () r.2⟩|alloc _ k u=>exact λa=>u a (r a)|stack k u=>exact λl=>u l (r l)|_=>exact False.elim r
def tame_wp{α:Type}(M:Model)(Γ:Ctx)(P:Heap)(Q:α->Pos->La->Prop)(E:Lv->Pos->La->Prop)(t:Sem α):∀(p:Pos) (s:La),jl t->JI P s.heap->Sem.wp M Γ t Q E p s ->
  Sem.wp M Γ t (λa V j=>Q a V j/\JI P j.heap) (λe V j=>E e V j/\JI P j.heap) p s:=by
 induction t with
 |pure a=>intro p s _ k h;rw[Sem.wp]at h ⊢;exact⟨h,k⟩|raise a=>intro p s _ k h;rw[Sem.wp]at h ⊢;exact⟨h,k⟩|unsupported _=>intro p s _ k h;rw[Sem.wp]at h;exact h.elim|finish _=>intro p s _ k h;rw[Sem.wp]at h;exact h.elim|rule _ f u=>intro p s t k h;rw[Sem.wp]at h ⊢;exact u () p s t k h| «at» _ f u=>intro p s t k h;rw[Sem.wp]at h ⊢;exact u () _ s t k h
 |load a _ f u =>
  intro p s t k h;rw[Sem.wp]at h ⊢;obtain⟨o,e,h⟩:=h;exact⟨o,e,u o p s (t o) k h⟩
 |update a _ g f u =>
  intro p s t k h;rw[Sem.wp]at h ⊢;exact⟨h.1,u () p _ t.2 (k.trans (JI.upd t.1)) h.2⟩
 |alloc o f u =>
  intro p s t k h;rw[Sem.wp]at h ⊢;exact u _ p _ (t _) (k.trans (JI.of_keeps λb o e=>qA _ e)) h
 |stack f u=>intro p s t k h;rw[Sem.wp]at h ⊢;exact u _ p s (t _) k h|_=>intro p s t;exact False.elim t
def ue{α:Type}{t:Sem α}{Q:α->La->Prop}{E:Ly}(r:jl t)(h:wpAny M A t Q E s) :
  wpAny M A t (λa j=>Q a j/\JI s.heap j.heap) (λe j=>E e j/\JI s.heap j.heap) s:=λΓ p hΓ =>
 tame_wp M Γ s.heap _ _ t p s r (JI.refl _) (h Γ p hΓ)
def jm{α:Type}{c:Prop}[Decidable c]{a b:Sem α}(ha:jl a)(hb:jl b):jl (if c then a else b):=by split<;>assumption
def mapF_ok(f:Lg->Lg)(o:Obj):(Obj.mapFields f o).dict=o.dict/\(o.isFreed=false->(Obj.mapFields f o).isFreed=false):=by
 obtain⟨c,d,x,D⟩:=o;cases x<;>exact⟨rfl,λh=>h⟩
def Ww(a:Lz):jl (load a):=λ_=>trivial
def zBk{f:Obj->Obj}(h:∀o,(f o).dict=o.dict/\(o.isFreed=false->(f o).isFreed=false)):jl (update a f):=⟨h,trivial⟩
def J7(v:Lv)(i:Nat):jl (field v i):=by
 unfold field fieldsOf;refine jl.bind (λa=>?_) ?_
 ·cases a[i]?<;>trivial
 ·cases v<;>first|trivial|skip
  refine jl.bind (λo=>?_) (Ww _);cases o.data<;>trivial
def JJ(v:Lv)(i:Nat)(x:Lv):jl (setField v i x):=by
 unfold setField updateField;cases v with
 |ref a =>
  refine jl.bind (λo=>?_) (Ww _);cases o.data<;>first|trivial|skip;exact jm (zBk (mapF_ok _)) trivial
 |_=>trivial
def ZW:jl stack:=λ_=>trivial
def uD(v:Lv)(f:Lx Lz):jl (setFlight v f):=by
 unfold setFlight;refine jl.bind (λtb=>jm (JJ _ _ _) ?_) (J7 v 1);exact trivial
theorem uf:∀l:Ls Env,jl (readyFrames l)
 | []=>trivial
 |p::outer=>by
  unfold readyFrames;cases p.frame with
  |none=>trivial
  |some f =>
   refine jl.bind (λo=>jm ?_ ?_) (Ww f)
   ·exact trivial
   refine jl.bind (λi=>?_) ?_
   ·refine jl.bind (λbk=>?_) ?_
    ·refine jl.bind (λ_=>uf outer) (zBk λo=>⟨rfl,?_⟩)
     obtain⟨c,d,x,D⟩:=o;cases x<;>exact λh=>h
    ·cases outer with
     |nil =>
      refine jm ?_ (jl.bind (λb=>?_) (jl.bind (λ_=>?_) ZW))
      all_goals exact trivial
     |cons c r=>exact trivial
   ·unfold behindIsImport
    refine jm ?_ (jm ?_ (jl.bind (λ_=>?_) (J7 _ _)))
    all_goals exact trivial
def zDn(v:Lv)(env:Env):jl (noteFrame v env):=by
 unfold noteFrame;cases env.frame with
 |none=>trivial
 |some f =>
  have hN:∀h:Lv,jl (do setField v 1 (<- EntryCells.newEntry h (<- frameOf env) .none (rawInt f) .none (<- entryPlaceOf f (h != .none)))):=λh=>by
   refine jl.bind (λfr=>?_) ?_
   ·refine jl.bind (λk=>?_) ?_
    ·refine jl.bind (λx=>JJ _ _ _) ?_
     unfold EntryCells.newEntry newFields newObj;refine jm ?_ ?_
     ·exact trivial
     ·exact λa=>trivial
    ·unfold entryPlaceOf
     refine jl.bind (λc=>?_) ZW;split<;>exact trivial
   ·unfold frameOf frameObject
    refine jl.bind (λe=>?_) (jl.bind (λ_=>?_) ZW)
    ·refine jl.bind (λo=>?_) ?_
     ·cases o<;>exact trivial
     ·split
      ·exact trivial
      ·refine jl.bind (λ_=>?_) (uf _)
       exact trivial
    ·exact trivial
  refine jl.bind (λh=>jm ?_ (hN h)) (J7 v 1);refine jl.bind (λx=>jm ?_ ?_) (J7 _ _)
  ·exact trivial
  ·exact jl.bind (λ_=>hN h) (JJ _ _ _)
def Zx(env:Env)(v:Lv):jl (leaving env v):=jl.bind (λ_=>uD v none) (zDn v env)
end DV
namespace DV
open PySem L2 PyProof.Rows
def ExO(C a:Lz):HO:=.ext λh=>∃o,h.get? a=some o/\o.cls=.ref C
def ExA(C d a:Lz):HO:=.ext λh=>∃o,h.get? a=some o/\o.cls=.ref C/\o.dict=some d/\∃L,o.data=.fields L
def XD(d:Lz)(fs:Ls (Str×V)):HO:=.ext λh=>∃I,h.Ns1 d I/\∀f,RelO (fs.lookup f) (I f)
def GO(a:Lz)(i:Lx Lz)(h:Heap):Prop:=∀d,i=some d->∃o,h.get? a=some o/\o.dict=some d
def GO.on(l:GO a od h)(k:JI h h'):GO a od h':=λd e=>by
 obtain⟨o,W,w⟩:=l d e;obtain⟨R,P,O⟩:=k a o W;exact⟨R,P,O.trans w⟩
theorem GO.none:GO a none h:=λ_ e=>by cases e
structure MadeD(h h':Heap)(a:Lz)(C:Lv)(od:Option Lz):Prop where
 keeps:∀b o,h.get? b=some o->h'.get? b=some o
 new:h.get? a=none
 there:∃oe vs t,h'.get? a=some oe/\oe.cls=C/\(∀d,od=some d->oe.dict=some d)/\oe.data=.fields vs/\vs[1]?=some .none/\vs[0]?=some (.ref t)
def MadeD.of(x:Heap.MadeExcOf h h' a C args):MadeD h h' a C none :=
 ⟨x.keeps,x.new,let ⟨t,e,_⟩:=x.there;⟨_,_,t,e,rfl,λ_ z=>(by cases z),rfl,rfl,rfl⟩⟩
def MadeD.link(x:MadeD h h' a C od):GO a od h':=λd e=>by
 obtain⟨v,_,_,J,_,h2,_⟩:=x.there;exact⟨v,J,h2 d e⟩
def zGC(x:JH P w H h a o):∃u,h.get? a=some u:=by
 cases o with
 |l Y=>obtain⟨_,_,_,_,e⟩:=x;exact⟨_,e⟩|t Y=>obtain⟨_,_,_,o,e,_⟩:=x;exact⟨_,e⟩|dK j=>obtain⟨_,_,_,_,o,_,_,e,_⟩:=x;exact⟨_,e⟩|dT j=>obtain⟨_,_,_,_,o,_,_,e,_⟩:=x;exact⟨_,e⟩|set S n=>obtain⟨o,_,_,_,e,_⟩:=x;exact⟨_,e⟩|ins C K fs=>obtain⟨_,_,_,e,_⟩:=x;exact⟨_,e⟩|w y=>exact x|xd fs=>obtain⟨_,⟨_,_,_,e,_⟩,_⟩:=x;exact⟨_,e⟩|rng z R=>obtain⟨_,_,_,e⟩:=x;exact⟨_,e⟩|frz J u=>obtain⟨e,_⟩:=x;exact⟨_,e⟩|tbl G=>exact⟨_,(show h.get? a=some _ from x)⟩|met f y=>exact⟨_,(show h.get? a=some _ from x)⟩|ext φ=>obtain⟨_,e,_⟩:=x;exact e|dN φ=>obtain⟨_,e,_⟩:=x;exact e
def zHk(B:Heap)(H:Hp)(g:Heap)(fs:Ls Lz)(h:Heap):Prop:=∀b o,h.get? b=some o->((∃R,g.get? b=some R)\/H b≠none)->b∉fs->B.get? b=some o
def Flies(l:Ls Env)(H:Hp)(g:Heap)(a C:Lz)(h:Heap):Prop:=∃B t,Heap.FlyingW B l a (.ref C) (.ref t) h/\zHk B H g (frs l) h
def CXx(P:Lc)(w:Le):CXT:=λouter H s E e j=>∃a C i H',e=.ref a/\j.os=s.os/\AllBare j.gens/\Un (frs outer) [] H H' s.heap j.heap/\HOk P w H' j.heap/\H' a=none/\Flies outer H' s.heap a C j.heap/\GO a i j.heap/\E (.ref C) i H'
section
variable{P:Lc}{w:Le}{fs:Ls Lz}{H H':Hp}{g h h' B:Heap}{L:Lz}
def un_on(u:Un fs [] H H' g h)(ok:HOk P w H' h)(j:zHk B H' g (L::fs) h)(st:B.StaysIn h')(i:g.get? L=none)(Y:∀b∈fs,∀o,h.get? b=some o->∃D,h'.get? b=some {o with slots:=D}):Un fs [] H H' g h' where
 keep:=λb o e n Z M=>st b o (j b o (u.keep b o e n Z M) (.inl ⟨o,e⟩) λz=>by
  rcases mem_cons.mp z with rfl|z
  ·rw[i]at e;cases e
  ·exact Z z)
 slot:=λb o e n Z M=>by
  obtain⟨D,q⟩:=u.slot b o e n Z M;obtain⟨Q,G⟩:=Y b Z _ q;exact⟨Q,G⟩
 free:=u.free
 there:=λb o e M=>by
  obtain⟨R,q⟩:=u.there b o e M;by_cases Z:b∈fs
  ·obtain⟨D,G⟩:=Y b Z _ q;exact⟨_,G⟩
  ·exact⟨R,st b R (j b R q (.inl ⟨o,e⟩) λz=>by
    rcases mem_cons.mp z with rfl|z
    ·rw[i]at e;cases e
    ·exact Z z)⟩
 tups:=u.tups
 frzs:=u.frzs
 tbls:=u.tbls
def zHl(ok:HOk P w H' h)(j:zHk B H' g (L::fs) h)(st:B.StaysIn h')(hn:∀b∈L::fs,H' b=none):HOk P w H' h':=λa o e=>by
 refine(ok a o e).stay (λb u Z q=>?_) (λ_ q=>q) λ_ _ q=>q
 have ht:H' b≠none:=by
  rcases Z with rfl|Z
  ·rw[e];exact λz=>by cases z
  ·rw[Z];exact λz=>by cases z
 exact st b u (j b u q (.inr ht) λz=>ht (hn b z))
def zDo(u:Un fs [] H H' g h)(ok:HOk P w H' h)(j:zHk B H' g (L::fs) h)(st:B.StaysIn h')(i:g.get? L=none)(hn:∀b∈L::fs,H' b=none):zHk B H' g fs h':=λb o e Z nf=>by
 have n:b∉L::fs:=λz=>by
  rcases mem_cons.mp z with rfl|z
  ·rcases Z with⟨R,q⟩|q
   ·rw[i]at q;cases q
   ·exact q (hn _ (qE))
  ·exact nf z
 have:∃o1,h.get? b=some o1:=by
  rcases Z with⟨R,q⟩|q
  ·exact u.there b R q (by simp)
  ·obtain⟨x,M⟩:=Option.ne_none_iff_exists'.mp q
   exact zGC (ok b x M)
 obtain⟨o1,K⟩:=this;have S:=j b o1 K Z n;have W:=st b o1 S;rw[e]at W;cases W;exact S
end
section
variable{P:Lc}{w:Le}{K:qH}{mg:Str->Lx Lv}{base:Heap}{N:Ls Str}{qual:Str}{scope:Scope}{f:Lz}{cd:Lv}{A:Li}{outer:Ls Env}{s:La}{H:Hp}{E:XK}
abbrev cxC(c:Bool)(P:Lc)(w:Le)(K:qH)(g:Str->Lx Lv)(base:Heap)(N:Ls Str)(X:Str)(Y:Scope)(f:Lz)(Z:Lv)(A:Li)(outer:Ls Env)(s:La)(H:Hp)(E:XK):Cx :=
 {zHe (CXx P w) P w K g base N X Y f Z A outer s H E with calm:=c}
variable{c:Bool}
variable{pins:Ls (Lz×Obj)}{O:L2.St}{H':Hp}{s' s1:La}{a C:Lz}
def zDp:frs (envOfC qual scope s.heap.objs.size f cd::outer)=s.heap.objs.size::frs outer:=rfl
def zCm(I:Inv (cxC c P w K mg base N qual scope f cd A outer s H E) pins O H' s')(u:Un (frs outer) [] H H' s.heap s'.heap)(hn:H' a=none)
  (Y:∃B t,Heap.FlyingW B (cxC c P w K mg base N qual scope f cd A outer s H E).stack a (.ref C) (.ref t) s'.heap/\zHk B H' s.heap (frs (cxC c P w K mg base N qual scope f cd A outer s H E).stack) s'.heap) (r:GO a od s'.heap) (G:E (.ref C) od H') :
  (cxC c P w K mg base N qual scope f cd A outer s H E).xe (.ref a) s':=by
 obtain⟨B,t,L,j⟩:=Y;have i:s.heap.get? s.heap.objs.size=none:=Heap.get?_none_of_le (le_refl _);have hN:∀b∈s.heap.objs.size::frs outer,H' b=none:=λb Z=>I.stkFree b (by show b∈frs (envOfC qual scope s.heap.objs.size f cd::outer);rw[zDp];exact Z)
 have n:zHk B H' s.heap (s.heap.objs.size::frs outer) s'.heap:=j;refine wpAny_mono (ue (Zx _ _) (wpAny_leaves_onW (base:=B) (E:=λ_ _=>False) (Q:=λ_ z=>∃h',z={s' with heap:=h'}/\Heap.FlyingW B outer a (.ref C) (.ref t) h'/\s'.heap.UpToSlots h') I.ok.frames rfl L λh' g D=>⟨h',rfl,g,D⟩)) (λ_ z ⟨⟨h',y,g,D⟩,h⟩=>?_) λ_ _ z=>z.1.elim
 subst y;have V:B.StaysIn h':=g.1;have l:∀b∈frs outer,∀o,s'.heap.get? b=some o->∃D,h'.get? b=some {o with slots:=D}:=λb Z o e=>by
  obtain⟨_,R,q,k⟩:=I.funs.mem Z;rw[e]at q;cases q;exact D b o e k
 exact⟨a,C,od,H',rfl,I.os,I.bare,un_on u I.hok n V i l,zHl I.hok n V hN,hn,⟨B,t,g,zDo u I.hok n V i hN⟩,r.on h,G⟩
def zAu(I:Inv (cxC c P w K mg base N qual scope f cd A outer s H E) pins O H' s1)(M:MadeD s1.heap s'.heap a (.ref C) od)(T:s'={s1 with heap:=s'.heap})(hn:H' a=none)(G:E (.ref C) od H') :
  (cxC c P w K mg base N qual scope f cd A outer s H E).xe (.ref a) s':=by
 have u:Un (frs outer) [] H H' s.heap s1.heap:=I.base;have i:s.heap.get? s.heap.objs.size=none:=Heap.get?_none_of_le (le_refl _);have hN:∀b∈s.heap.objs.size::frs outer,H' b=none:=λb Z=>I.stkFree b (by show b∈frs (envOfC qual scope s.heap.objs.size f cd::outer);rw[zDp];exact Z)
 have j:zHk (hideAll s1.heap (s.heap.objs.size::frs outer)) H' s.heap (s.heap.objs.size::frs outer) s1.heap:=λb o e _ nf=>hideAll_get _ e nf
 have L:∀p∈(envOfC qual scope s.heap.objs.size f cd::outer),∀b,p.frame=some b->b∈s.heap.objs.size::frs outer:=λp he b Z=>by
  exact mem_filterMap.mpr ⟨p,he,Z⟩
 have S:s1.heap.FunFrames base (envOfC qual scope s.heap.objs.size f cd::outer):=I.stack;obtain⟨v,vs,t,W,e2,e3,e4,e5,X⟩:=M.there;have fresh:(hideAll s1.heap (s.heap.objs.size::frs outer)).get? a=none:=by
  cases q:(hideAll s1.heap (s.heap.objs.size::frs outer)).get? a with
  |none=>rfl|some R=>have:=of_hideAll _ q;rw[M.new]at this;cases this
 have J:s'.heap.FunFrames (hideAll s1.heap (s.heap.objs.size::frs outer)) (envOfC qual scope s.heap.objs.size f cd::outer):=(PySem.W.funFrames_hide S L).of_keeps λb o Z _=>⟨o,M.keeps b o Z,rfl⟩
 refine wpAny_mono (ue (Zx _ _) (wpAny_leaving_firstW (base:=hideAll s1.heap (s.heap.objs.size::frs outer)) (a0:=.ref t) (E:=λ_ _=>False) (Q:=λ_ z=>∃h',z={s' with heap:=h'}/\Heap.LeftW (hideAll s1.heap (s.heap.objs.size::frs outer)) (envOfC qual scope s.heap.objs.size f cd::outer) a v.cls (.ref t) s'.heap h') I.ok.frames J rfl W (λb o q=>M.keeps b o (of_hideAll _ q)) fresh e4 e5 X λh' i=>⟨h',rfl,i⟩)) (λ_ z ⟨⟨h',y,k1,⟨_,_,r⟩,n,x⟩,h⟩=>?_) λ_ _ z=>z.1.elim
 subst y;rw[e2]at n;have Y:Heap.FlyingW (hideAll s1.heap (s.heap.objs.size::frs outer)) outer a (.ref C) (.ref t) h':=⟨k1,fresh,r,n⟩;have V:=Y.1;have l:∀b∈frs outer,∀o,s1.heap.get? b=some o->∃D,h'.get? b=some {o with slots:=D}:=λb Z o e=>by
  obtain⟨_,R,q,k⟩:=I.funs.mem Z;rw[e]at q;cases q;exact x b o (M.keeps b o e) k
 have os:s'.os=s1.os:=by rw[T]
 have g:s'.gens=s1.gens:=by rw[T]
 refine⟨a,C,od,H',rfl,os.trans I.os,?_,un_on u I.hok j V i l,zHl I.hok j V hN,hn,⟨_,t,Y,zDo u I.hok j V i hN⟩,M.link.on h,G⟩;rw[g];exact I.bare
end
structure RoomN(k:Nat)(A:Li):Prop where
 gd:A.guards=some []
 dp:A.depth+3*k+5<recursionLimit
 un:A.units+16*k+200<cLine
def RoomN.mono(r:RoomN k A)(h:j<=k):RoomN j A:=⟨r.gd,by have:=r.dp;lia,by have:=r.un;lia⟩
theorem RoomN.deeper(r:RoomN (k+1) A)(env:Env):RoomN k (A.deeper env) :=
 ⟨r.gd,by have:=r.dp;show A.depth+1+3*k+5<_;lia,by have:=r.un;show A.units+3+16*k+200<_;lia⟩
theorem RoomN.depth(r:RoomN k A):A.depth<recursionLimit:=by have:=r.dp;lia
def RoomN.room(r:RoomN k A)(h:A.handled=none):Room k A:=⟨h,r.gd,r.dp,r.un⟩
def zGD(r:Room k A):RoomN k A:=⟨r.gd,r.dp,r.un⟩
section
variable{X:Cx}{pins:Ls (Lz×Obj)}{O:L2.St}{H:Hp}{s:La}
def zCn(I:Inv X pins O H s)(a:Li)(c:Bool)(E:Ly)(hd:c=true->a.handled=none)(h:a.frames=some X.stack):Inv {X with A:=a,calm:=c,xe:=E} pins O H s :=
 ⟨⟨I.ok.mod,I.ok.kind,I.ok.glob,I.ok.blt,I.ok.above,I.ok.inj,I.ok.has,I.ok.cab,hd,h,I.ok.stk,I.ok.exf,I.ok.bs,I.ok.bsz,I.ok.noex,I.ok.exfs,I.ok.funs,I.ok.frf⟩,I.os,I.bare,I.base,I.loc,I.cell,I.free,I.freeC,I.pin,I.hok,I.len⟩
end
abbrev cxN(c:Bool)(P:Lc)(w:Le)(K:qH)(g:Str->Lx Lv)(base:Heap)(N:Ls Str)(X:Str)(Y:Scope)(f:Lz)(Z:Lv)(A:Li)(outer:Ls Env)(s:La)(H:Hp)(E:XK):Cx :=
 cxC c P w K g base N X Y f Z A outer s H E
structure FnOkN(c:Bool)(P:Lc)(w:Le)(K:qH)(mg:Str->Lp)(base:Heap)(k:Nat)(f:Lz)(fd:FuncData)(ps:Lo)(sp:Sp):Prop where
 len:∀vs H Q E,sp vs H Q E->vs.length=ps.length
 run:∀(A:Li) (outer:List Env) (s:La) (H:Hp) (args:Args) (us:List Lv) (vs:List V) (Q:VK) (E:XK),(c=true->A.handled=none)->RoomN k A->Env0 P w K mg base A outer s H->BindsTo s fd args (ps.zip us)->zq vs us->sp vs H Q E ->
  codeAny (model P w) A (.call (.ref f) args) (CR (CXx P w) outer P w H s Q E) s
section
variable{c:Bool}{P:Lc}{w:Le}{K:qH}{mg:Str->Lx Lv}{base:Heap}
theorem FnOkN.mono(F:FnOkN c P w K mg base j f fd ps sp)(h:j<=k):FnOkN c P w K mg base k f fd ps sp :=
 ⟨F.len,λA outer s H e D L Q E C z=>F.run A outer s H e D L Q E C (z.mono h)⟩
def FnOkN.fn(F:FnOkN c P w K mg base k f fd ps sp):FnOk P w K mg base (CXx P w) k f fd ps sp :=
 ⟨F.len,λA outer s H e D L Q E z=>F.run A outer s H e D L Q E (λ_=>z.hd) (zGD z)⟩
def fn_ofN{k:Nat}{f:Lz}{name X:Str}{C:Arguments}{body:Ls Lh}{Y:Scope}{i M ac pm R ct oc:Lv}{an od:Lx Lz}
  {ad:Lj} {N G:Ls Str} {sp:Sp} (lk:K.lookup f=some ⟨oc,od,.func (fnOf name X C body Y i M ac pm an R ct),ad⟩) (p:codeIn K R X=true) (S:FnScope N G Y)
  (ab:∀L H Q E,sp L H Q E->L.length=G.length)
  (g:∀(A:Li) (outer:Ls Env) (s:La) (H:Hp) (L:Ls V) (Q:VK) (E:XK),(c=true->A.handled=none)->RoomN k (A.deeper (envOfC X Y s.heap.objs.size f R))->sp L H Q E ->
   ∃t,PSs (cxN c P w K mg base N X Y f R A outer s H E) body t/\t {nx:=λ_ H'=>Q .non H',rt:=Q} (j5 N L) H) :
  FnOkN c P w K mg base (k+1) f (fnOf name X C body Y i M ac pm an R ct) G sp:=by
 refine⟨ab,λA outer s H ae D L Q E hd z O Z r aa=>?_⟩;have hl:=ab _ _ _ _ aa;have KX:K.In s.heap:=O.mod.kin.keeps λb o e=>(O.bs b o e).1
 have a:s.heap.NoLimit:=O.mod.nolimit.keeps λb o e=>(O.bs b o e).1
 have h:∀y∈G.zip D,Y.names.lookup y.1=some .local\/(Y.names.lookup y.1=some .cell/\((cellsFrom (s.heap.objs.size+1) Y.names []).lookup y.1).isSome=true):=λ⟨n,v⟩ hy=>by
  rcases S.par n (of_mem_zip hy).1 with q|q
  ·exact .inl q
  ·exact .inr ⟨q,cellsFrom_some _ _ _ (.inl q)⟩
 refine codeAny_call_function z.depth (KX _ _ lk) rfl S.co S.gen rfl (codeRec_of KX p) (Z _ _ _ _ ?_);refine wpAny_newFunctionEnv_cells S.kind h λaf he s1 x=>?_
 subst he;refine⟨a.keeps x.toInCall.keep,codeAny_func ?_⟩;obtain⟨t,ht,W⟩:=g A outer s H L Q E hd (z.deeper _) aa;have e1:Env0 P w K mg base {A with handled:=none} outer s H:=⟨O.frames,O.mod,O.bs,O.bsz,O.funs,O.frf,O.hok,O.bare⟩
 have I0:Inv (zHe (CXx P w) P w K mg base N X Y f R {A with handled:=none} outer s H E) [] (j5 N L) H s1:=Ql S rfl e1 hl r x
 have I:Inv (cxN c P w K mg base N X Y f R A outer s H E) [] (j5 N L) H s1:=zCn I0 (A.deeper (envOfC X Y s.heap.objs.size f R)) c _ hd (Around.frames_deeper O.frames);refine wpAny_mono (ht [] s1 (j5 N L) H _ I W) (λfl s' T=>?_) λe s' T=>T
 have l:∀{O':L2.St} {H':Hp} {v:V} {u:Lv},Inv (cxN c P w K mg base N X Y f R A outer s H E) [] O' H' s'->yo v u->Q v H'->CE outer P w H s Q u s' :=
  λ{O' H' v u} J j q=>⟨v,H',J.os,J.bare,J.base,J.hok,j,q⟩
 cases fl with
 |ret u =>
  obtain⟨v,O',H',J,j,q⟩:=T;exact l J j q
 |next =>
  obtain⟨O',H',J,q⟩:=T;exact l (v:=V.non) (u:=Value.none) J rfl q
 |brk =>
  obtain⟨_,_,_,q⟩:=T;exact False.elim q
 |cont =>
  obtain⟨_,_,_,q⟩:=T;exact False.elim q
end
structure Exn where
 cls:Str
 made:Bool
 vs:List Int
 deriving Inhabited
def zAv(c:Str):Ls Str:=if c == "TooGreat" then ["many","most"]else if c == "NoText" then ["row"]else []
def fsV(c:Str)(vs:Ls Int):Ls (Str×V):=(zAv c).zip (vs.map V.int)
def Fs(i:Lx Lz)(H:Hp)(c:Str)(vs:Ls Int):Prop:=vs=[]\/∃d,i=some d/\H d=some (XD d (fsV c vs))
def RelX(X:Cx)(G:Ls (Lz×Obj))(O:L2.St)(x:Exn)(H:Hp)(e:Lv)(s:La):Prop:=∃a C i,e=.ref a/\X.mg x.cls=some (.ref C)/\H a=none/\Fs i H x.cls x.vs /\
 ((x.made=true/\∃R,Inv X G O H R/\s={R with heap:=s.heap}/\MadeD R.heap s.heap a (.ref C) i) \/
  (x.made=false/\∃p Hc,Inv X G O Hc p/\Un (frs X.stack) [] Hc H p.heap s.heap/\Flies X.stack H p.heap a C s.heap/\GO a i s.heap))
def XE(X:Cx)(O:L2.St)(H:Hp)(x:Exn):Prop:=∀(G:Ls (Lz×Obj)) (s:La) (e:Lv),Inv X G O H s->RelX X G O x H e s->X.xe e s
def EX(X:Cx)(O:L2.St):XK:=λc i H'=>∃x C,c=.ref C/\X.mg x.cls=some (.ref C)/\x.made=false/\Fs i H' x.cls x.vs/\XE X O H' x
section
variable{X:Cx}{pins:Ls (Lz×Obj)}{O:L2.St}{H:Hp}{s s':La}{e:Lv}
def pass_x(I:Inv X pins O H s)(h:CXx X.prog X.w X.stack H s (EX X O) e s'):X.xe e s':=by
 obtain⟨a,C,i,H',rfl,p,S,un,y,K,L,r,x,C',P,Y,c,hf,k⟩:=h;cases P;have I':Inv X pins O H' s':=I.call' (ch:=[]) p un y S (λb z=>absurd z (by simp));exact k pins s' _ I' ⟨a,C,i,rfl,Y,K,hf,.inr ⟨c,s,H,I,un,L,r⟩⟩
def run_fnN(F:FnOkN c X.prog X.w X.K X.mg X.base k f fd ps sp)(hd:c=true->X.A.handled=none)(z:RoomN k X.A)(Z:ZU X.K fd ps [])
  (I:Inv X pins O H s) (r:zq vs us) (h:sp vs H Q (EX X O)):wpAny (model X.prog X.w) X.A (call (.ref f) us) (EP X pins O Q) X.xe s:=by
 have hl:us.length=ps.length:=by rw[<- r.length];exact F.len _ _ _ _ h
 have a:=Z s us I.kIn (by rw[append_nil];exact hl);rw[append_nil]at a;refine wpAny_call (codeAny_mono (F.run X.A X.stack s H ⟨us,[]⟩ us vs Q (EX X O) hd z I.env0 a r h) λr j W=>?_);cases r with
 |error e=>exact pass_x I W
 |ok L =>
  cases L with
  |ret u=>exact I.after W|next=>exact False.elim W|brk=>exact False.elim W|cont=>exact False.elim W
end
section
variable{X:Cx}{c:Bool}{k:Nat}{f:Lz}{fd:FuncData}{ps:Ls Str}{sp:Sp}{x:Str}{p pos:Pos}{e:Lb}{es:Ls Lb}{t:TA}
def zGE(F:FnOkN c X.prog X.w X.K X.mg X.base k f fd ps sp)(g:c=true->X.A.handled=none)(z:RoomN k X.A)(j:Gl X x)(Y:X.mg x=some (.ref f))(V:keepIn X.K (.ref f)=true)(Z:ZU X.K fd ps [])
  (C:PA X (e::es) t) (a:(x==("__debug__":Str))=false:=by decide) (i:starEach (e::es) X.env=(false,eval e X.env)::starEach es X.env:=by rfl) (o:(backTo pos (starEach es X.env)).any (·.1)=false:=by rfl) :
  PE X (.Call (.Name x p) (e::es) [] pos) (λO H Q=>t O H λL H1=>sp L H1 Q (EX X O)):=by
 intro G s O H Q I h;refine wpAny_Call_Name_kw (zDO I j Y ?_ a);refine PySem.W.callWith_K (h₀:=X.base) I.ok.mod.kin V (thn (C pos G s O H _ I h) λD R ⟨L,H1,I1,r,q⟩=>⟨I1.kIn,?_⟩) i o;exact run_fnN F g z Z I1 r q
end
def zGF{c:Bool}{P:Lc}{w:Le}{K:qH}{g:Str->Lx Lv}{base:Heap}{N:Ls Str}{X:Str}{Y:Scope}{f:Lz}{Z:Lv}{A:Li}{outer:Ls Env}{s:La}{H k:Hp}{E:XK}{O:L2.St}{x:Exn}
  (G:∀C i,g x.cls=some (.ref C)->Fs i k x.cls x.vs->E (.ref C) i k):XE (cxN c P w K g base N X Y f Z A outer s H E) O k x:=by
 intro u j e I ⟨a,C,i,he,hm,hn,hf,h⟩;subst he;rcases h with⟨_,v,I1,T,M⟩|⟨_,p,Hc,Ic,un,L,r⟩
 ·exact zAu I1 M T hn (G C i hm hf)
 ·obtain⟨B,t,l,n⟩:=L
  refine zCm I I.base hn ⟨B,t,l,λb o q z nf=>n b o q ?_ nf⟩ r (G C i hm hf);rcases z with⟨R,z⟩|z
  ·exact .inl (Ic.base.there b R z (by show b∉([]:Ls Lz);simp))
  ·exact .inr z
end DV
namespace DV
open PySem L2 PyProof.Rows PySem.Spec
open PySem.W (Frag Looks)
structure XCls(K:Frag)(c:Str)(C T:Lz):Prop where
 cd:∃cd,clsIn K C=some cd/\cd.name=c/\cd.mro=[.ref C,.ref T,.type "ValueError",.type "Exception",.type "BaseException",.type "object"]
 ty:typeIn K (.ref C)=some (.type "type")
 ga:findIn K (.ref C) "__getattribute__"=some (some (.builtin "BaseException.__getattribute__"))
 gn:findIn K (.ref C) "__getattr__"=some none
 gc:findIn K (.ref C) "__class__"=some (some (.builtin "object.__class__"))
 sp:specialIn K (.builtin "object.__class__") "__get__"=some (some (.builtin "getset_descriptor.__get__"))
 tk:takesIn K (.builtin "object.__class__")=some true
section
open Builtin Builtin.ObjectAttr Builtin.Getset_descriptor
variable{K:Frag}{c:Str}{C T x:Lz}{h:Heap}{ox:Obj}{M:Model}
def XCls.mro(F:XCls K c C T)(b:Lv):mroIn K C b=some ([Value.ref C,.ref T,.type "ValueError",.type "Exception",.type "BaseException",.type "object"].contains b):=by
 obtain⟨Z,J,_,Q⟩:=F.cd;unfold mroIn;rw[J,Option.bind_some,Q];rfl
end
structure TCls(K:Frag)(T:Lz):Prop where
 cd:∃cd,clsIn K T=some cd/\cd.mro=.ref T::VB
 ty:typeIn K (.ref T)=some (.type "type")
section
variable{K:Frag}{c y:Str}{C Y T x:Lz}{h:Heap}{ox:Obj}{M:Model}
def TCls.mro(F:TCls K T)(b:Lv):mroIn K T b=some ((Value.ref T::VB).contains b):=by
 obtain⟨Z,J,Q⟩:=F.cd;unfold mroIn;rw[J,Option.bind_some,Q];rfl
end
end DV
namespace DV
open PySem L2 PyProof.Rows PySem.Spec
open PySem.W (Looks)
structure XSet(K:qH)(C T:Lz):Prop where
 cd:∃cd,clsIn K C=some cd/\cd.mro=.ref C::.ref T::VB/\cd.hasDict=true
 sa:findIn K (.ref C) "__setattr__"=some (some (.builtin "object.__setattr__"))
end DV
namespace DV
open PySem L2
set_option genInjectivity true in
inductive D where
 |non
 |bl (b:Bool)
 |int (i:Int)
 |str (x:Str)
 |t (ds:List D)
 |l (ds:List D)
 |fn (x:Str)
 |dic
 |exn (c:Str) (vs:List Int)
 |m (ks:List (List KN)) (vs:List D)
 deriving Inhabited
def oD:KN->D
 |none=>.non|some i=>.int i
def kD(a:Ls KN):D:=.t (a.map oD)
mutual
def Rep(K:qH)(g:Str->Lx Lv)(H:Hp):D->V->Prop
 | .non,v=>v=.non| .bl b,v=>v=.bl b| .int i,v=>v=.int i| .str x,v=>v=.str x| .t ds,v=>∃a Y,v=.ref a/\SqT K H a Y/\Reps K g H ds Y| .l ds,v=>∃a Y,v=.ref a/\SqL K H a Y/\Reps K g H ds Y| .fn x,v=>∃f,v=.ref f/\g x=some (.ref f)| .dic,v=>∃a,v=.ref a/\H a=some (.dK [])| .exn c vs,v=>∃a C,v=.ref a/\g c=some (.ref C)/\((vs=[]/\H a=some (ExO C a))\/∃d,H a=some (ExA C d a)/\H d=some (XD d (fsV c vs)))| .m ks vs,v=>∃a E,v=.ref a/\zGB H a E/\ks=E.map (·.1)/\(∀e∈E,SqT K H e.2.1 (e.1.map oV))/\Reps K g H vs (E.map (·.2.2))
def Reps(K:qH)(g:Str->Lx Lv)(H:Hp):Ls D->Ls V->Prop
 | [],L=>L=[]|d::ds,L=>∃v r,L=v::r/\Rep K g H d v/\Reps K g H ds r
end
section
variable{K:qH}{mg:Str->Lx Lv}{H H':Hp}
def zm{a:Lz}{xs:Ls V}(e:Yr H H')(h:SqT K H a xs):SqT K H' a xs:=by
 rcases h with(h|⟨o,h⟩)|h
 ·exact .inl (.inl (e _ _ h))
 ·exact .inl (.inr ⟨o,e _ _ h⟩)
 ·exact .inr h
mutual
theorem Rep.mono(e:Yr H H'):∀{d:D} {v:V},Rep K mg H d v->Rep K mg H' d v
 | .non,_,h=>by simpa only[Rep]using h| .bl _,_,h=>by simpa only[Rep]using h| .int _,_,h=>by simpa only[Rep]using h| .str _,_,h=>by simpa only[Rep]using h
 | .t G,_,h=>by
  obtain⟨a,Y,J,h2,Q⟩:=h;exact⟨a,Y,J,zm e h2,Reps.mono e Q⟩
 | .l G,_,h=>by
  obtain⟨a,Y,J,h2,Q⟩:=h;exact⟨a,Y,J,e.seq h2,Reps.mono e Q⟩
 | .fn _,_,h=>by simpa only[Rep]using h
 | .dic,_,h=>by
  obtain⟨a,J,h2⟩:=h;exact⟨a,J,e _ _ h2⟩
 | .exn _ _,_,h=>by
  obtain⟨a,C,J,h2,Q⟩:=h;refine⟨a,C,J,h2,?_⟩;rcases Q with⟨hv,Q⟩|⟨d,Q,h4⟩
  ·exact .inl ⟨hv,e _ _ Q⟩
  ·exact .inr ⟨d,e _ _ Q,e _ _ h4⟩
 | .m ks L,_,h=>by
  obtain⟨a,E,J,h2,Q,h4,h5⟩:=h;exact⟨a,E,J,h2.mono e,Q,λx M=>zm e (h4 x M),Reps.mono e h5⟩
theorem Reps.mono(e:Yr H H'):∀{G:Ls D} {L:Ls V},Reps K mg H G L->Reps K mg H' G L
 | [],_,h=>by simpa only[Reps]using h
 |d::G,_,h=>by
  obtain⟨v,r,J,h2,Q⟩:=h;exact⟨v,r,J,Rep.mono e h2,Reps.mono e Q⟩
end
theorem Reps.length:∀{G:Ls D} {L:Ls V},Reps K mg H G L->L.length=G.length
 | [],_,h=>by dsimp[Reps]at h;subst h;rfl
 |d::G,_,h=>by
  obtain⟨v,r,rfl,h2,Q⟩:=h;simp[Reps.length Q]
def Reps.nil:Reps K mg H [] []:=by dsimp[Reps]
def Reps.cons{d:D}{v:V}{ds:Ls D}{vs:Ls V}(h:Rep K mg H d v)(t:Reps K mg H ds vs):Reps K mg H (d::ds) (v::vs):=by
 dsimp[Reps];exact⟨v,vs,rfl,h,t⟩
theorem Reps.get:∀{G:Ls D} {L:Ls V} {i:Nat} {v:V},Reps K mg H G L->L[i]?=some v->∃d,G[i]?=some d/\Rep K mg H d v
 | [],_,_,_,h,e=>by dsimp[Reps]at h;subst h;simp at e
 |d::G,_,i,v,h,e=>by
  obtain⟨t,r,rfl,h2,Q⟩:=h;cases i with
  |zero=>simp at e;subst e;exact⟨d,rfl,h2⟩|succ i=>simp at e;obtain⟨T,a,S⟩:=Reps.get Q e;exact⟨T,by simpa using a,S⟩
theorem Reps.get':∀{G:Ls D} {L:Ls V} {i:Nat} {d:D},Reps K mg H G L->G[i]?=some d->∃v,L[i]?=some v/\Rep K mg H d v
 | [],_,_,_,h,e=>by simp at e
 |d::G,_,i,T,h,e=>by
  obtain⟨t,r,rfl,h2,Q⟩:=h;cases i with
  |zero=>simp at e;subst e;exact⟨t,rfl,h2⟩|succ i=>simp at e;obtain⟨v,a,S⟩:=Reps.get' Q e;exact⟨v,by simpa using a,S⟩
theorem Reps.append:∀{G E:Ls D} {L O:Ls V},Reps K mg H G L->Reps K mg H E O->Reps K mg H (G++E) (L++O)
 | [],_,_,_,h,g=>by dsimp[Reps]at h;subst h;exact g
 |d::G,_,_,_,h,g=>by
  obtain⟨t,r,rfl,h2,Q⟩:=h;exact Reps.cons h2 (Reps.append Q g)
theorem Reps.set:∀{G:Ls D} {L:Ls V} (i:Nat) {d:D} {v:V},Reps K mg H G L->Rep K mg H d v->Reps K mg H (G.set i d) (L.set i v)
 | [],_,_,_,_,h,g=>by dsimp[Reps]at h;subst h;exact Reps.nil
 |d::G,_,i,_,_,h,g=>by
  obtain⟨t,r,rfl,h2,Q⟩:=h;cases i with
  |zero=>exact Reps.cons g Q|succ i=>exact Reps.cons h2 (Reps.set i Q g)
theorem Reps.take:∀{G:Ls D} {L:Ls V} (n:Nat),Reps K mg H G L->Reps K mg H (G.take n) (L.take n)
 | [],_,_,h=>by dsimp[Reps]at h;subst h;simp[Reps.nil]
 |d::G,_,n,h=>by
  obtain⟨t,r,rfl,h2,Q⟩:=h;cases n with
  |zero=>exact Reps.nil|succ n=>exact Reps.cons h2 (Reps.take n Q)
theorem Reps.drop:∀{G:Ls D} {L:Ls V} (n:Nat),Reps K mg H G L->Reps K mg H (G.drop n) (L.drop n)
 | [],_,_,h=>by dsimp[Reps]at h;subst h;simp[Reps.nil]
 |d::G,_,n,h=>by
  obtain⟨t,r,rfl,h2,Q⟩:=h;cases n with
  |zero=>exact Reps.cons h2 Q|succ n=>exact Reps.drop n Q
theorem Reps.flatten{ds:Ls D}{vs:Ls V}(h:Reps K mg H ds vs):∀n:Nat,Reps K mg H (replicate n ds).flatten (replicate n vs).flatten
 |0=>Reps.nil|n+1=>by dsimp[replicate_succ,flatten_cons];exact h.append (Reps.flatten h n)
end
open Classical in
def Hm(M:Lf)(H:Hp):Hp:=λb=>if M b then none else H b
section
variable{M M':Lf}{H H':Hp}{b:Lz}{o:HO}
def zP:Hm M H b=some o↔¬M b/\H b=some o:=by
 unfold Hm;by_cases h:M b
 ·simp[h]
 ·simp[h]
def zM:Yr (Hm M H) H:=λb o h=>(zP.mp h).2
def j6(h:∀b,M' b->M b):Yr (Hm M H) (Hm M' H):=λb o e=>zP.mpr ⟨λx=>(zP.mp e).1 (h b x),(zP.mp e).2⟩
end
inductive Slot where
 |e
 |v (d:D)
 |w (ds:List D)
 |p (ds:List D)
 |m (ks:List (List KN)) (vs:List D)
 deriving Inhabited
abbrev zS:=Ls Slot
set_option genInjectivity true in
inductive R where
 |v (d:D)
 |w (ds:List D)
 |m (ks:List (List KN)) (vs:List D)
 deriving Inhabited
def R.slot:R->Slot
 | .v d=>.v d| .w ds=>.w ds| .m ks vs=>.m ks vs
def R.d:R->D
 | .v d=>d| .w ds=>.l ds| .m ks vs=>.m ks vs
inductive Ct where
 |l (ds:List D)
 |d (ks:List (List KN)) (vs:List D)
def Slot.ct?:Slot->Lx Ct
 | .w ds=>some (.l ds)| .p ds=>some (.l ds)| .m ks vs=>some (.d ks vs)|_=>none
def CRep(K:qH)(g:Str->Lx Lv)(H:Hp)(a:Lz):Ct->HO->Prop
 | .l G,o=>∃Y,o=.l Y/\Reps K g H G Y| .d ks vs,o=>∃E,(∃J,o=DicO a E J)/\ks=E.map (·.1)/\(∀e∈E,SqT K H e.2.1 (e.1.map oV))/\Reps K g H vs (E.map (·.2.2))
theorem CRep.mono{K:qH}{g:Str->Lx Lv}{H k:Hp}(e:Yr H k){a:Lz}{o:HO}:∀{c:Ct},CRep K g H a c o->CRep K g k a c o
 | .l G,⟨Y,J,h2⟩=>⟨Y,J,h2.mono e⟩| .d ks vs,⟨es,J,h2,h3,h4⟩=>⟨es,J,h2,λx M=>zm e (h3 x M),h4.mono e⟩
def Slot.list?:Slot->Lx (Ls D)
 | .w ds=>some ds| .p ds=>some ds|_=>none
abbrev Fz:=Ls (Lx V×Slot)
def zAo:Lx V×Slot->Lx Lz
 | (some (.ref a),.w _)=>some a| (some (.ref a),.p _)=>some a| (some (.ref a),.m _ _)=>some a|_=>none
def yH(Z:Fz):Ls Lz:=Z.filterMap zAo
def Mo(M:Lf)(Z:Fz):Lf:=λb=>M b\/b∈yH Z
def zX(Z T:Fz):yH (Z++T)=yH Z++yH T:=List.filterMap_append
def zV(o:Lx V)(d:D)(Z:Fz):yH ((o,.v d)::Z)=yH Z:=by
 unfold yH;cases o with
 |none=>rfl
 |some v=>cases v<;>rfl
def GP(a:Lz)(ds:Ls D)(Z:Fz):yH ((some (.ref a),.w ds)::Z)=a::yH Z:=rfl
def yp(o:Lx V)(Z:Fz):yH ((o,.e)::Z)=yH Z:=by
 unfold yH;cases o with
 |none=>rfl
 |some v=>cases v<;>rfl
def jB(M:Lf)(T Z:Fz):Mo M (T++Z)=Mo (Mo M T) Z:=by
 funext b
 apply propext;dsimp[Mo,zX,mem_append];constructor
 ·rintro (h|h|h)
  ·exact .inl (.inl h)
  ·exact .inl (.inr h)
  ·exact .inr h
 ·rintro ((h|h)|h)
  ·exact .inl h
  ·exact .inr (.inl h)
  ·exact .inr (.inr h)
def GQ{M:Lf}{T Z:Fz}(p:T.Perm Z):Mo M T=Mo M Z:=by
 funext b
 apply propext;dsimp[Mo,yH];rw[(p.filterMap zAo).mem_iff]
def Wx(M:Lf)(o:Lx V)(d:D)(Z:Fz):Mo M ((o,.v d)::Z)=Mo M Z:=by unfold Mo;rw[zV]
def Mo_emp(M:Lf)(o:Lx V)(Z:Fz):Mo M ((o,.e)::Z)=Mo M Z:=by unfold Mo;rw[yp]
structure FR(K:qH)(mg:Str->Lp)(M:Lf)(H:Hp)(Z:Fz):Prop where
 val:∀o d,(o,Slot.v d)∈Z->∃v,o=some v/\Rep K mg (Hm (Mo M Z) H) d v
 own:∀o s c,(o,s)∈Z->s.ct?=some c->∃a ho,o=some (.ref a)/\H a=some ho/\¬M a/\CRep K mg (Hm (Mo M Z) H) a c ho
 nd:(yH Z).Nodup
 mal:∀b,M b->∃o,H b=some o/\OwnK o
structure Step(M:Lf)(H:Hp)(Z:Fz)(H':Hp)(Z':Fz):Prop where
 same:Yr (Hm (Mo M Z) H) (Hm (Mo M Z') H')
 keep:∀b o,M b->H b=some o->H' b=some o
section
variable{K:qH}{mg:Str->Lx Lv}{M:Lf}{H H' H1 H2:Hp}{Z Z' T Z1 Z2:Fz}
theorem Step.refl:Step M H Z H Z:=⟨Yr.refl _,λ_ _ _ h=>h⟩
theorem Step.trans(a:Step M H Z H1 Z1)(b:Step M H1 Z1 H2 Z2):Step M H Z H2 Z2 :=
 ⟨a.same.trans b.same,λx o m h=>b.keep x o m (a.keep x o m h)⟩
def YS(h:∀b,b∈yH Z->b∈yH Z'):∀b,Mo M Z b->Mo M Z' b:=λb q=>q.elim .inl λq=>.inr (h b q)
def Step.weak(a:Step M H Z H' Z')(h:∀b,b∈yH T->b∈yH Z'):Step M H Z H' T :=
 ⟨a.same.trans (j6 (YS h)),a.keep⟩
def Step.left(a:Step M H Z H' Z')(h:∀b,b∈yH Z->b∈yH T):Step M H T H' Z' :=
 ⟨(j6 (YS h)).trans a.same,a.keep⟩
def zD(h:T.Sublist Z):∀b,b∈yH T->b∈yH Z:=λb q=>(h.filterMap zAo).subset q
def zB(h:T.Perm Z):∀b,b∈yH T->b∈yH Z:=λb q=>(h.filterMap zAo).subset q
def FR.perm(h:FR K mg M H Z)(p:Z.Perm T):FR K mg M H T where
 val:=λo d q=>by rw[<- GQ p];exact h.val o d (p.mem_iff.mpr q)
 own:=λo s G q e=>by rw[<- GQ p];exact h.own o s G (p.mem_iff.mpr q) e
 nd:=(p.filterMap zAo).nodup_iff.mp h.nd
 mal:=h.mal
def FR.sub(h:FR K mg M H Z)(p:T.Sublist Z):FR K mg M H T where
 val:=λo d q=>by
  obtain⟨v,e,r⟩:=h.val o d (p.subset q);exact⟨v,e,r.mono (j6 (YS (zD p)))⟩
 own:=λo s G q e=>by
  obtain⟨a,Y,W,P,n,r⟩:=h.own o s G (p.subset q) e;exact⟨a,Y,W,P,n,r.mono (j6 (YS (zD p)))⟩
 nd:=h.nd.sublist (p.filterMap zAo)
 mal:=h.mal
def FR.tail{x:Lx V×Slot}(h:FR K mg M H (x::Z)):FR K mg M H Z:=h.sub (sublist_cons_self _ _)
def zDq{s:Slot}{ds:Ls D}(e:s.list?=some ds):s.ct?=some (.l ds):=by
 cases s<;>first|(cases e;rfl)|(cases e)
def FR.ownL(h:FR K mg M H Z)(o:Lx V)(s:Slot)(ds:Ls D)(m:(o,s)∈Z)(e:s.list?=some ds):∃a xs,o=some (.ref a)/\H a=some (.l xs)/\¬M a/\Reps K mg (Hm (Mo M Z) H) ds xs:=by
 obtain⟨a,ho,W,P,n,xs,rfl,r⟩:=h.own o s _ m (zDq e);exact⟨a,xs,W,P,n,r⟩
def JK{o:Lx V}{s:Slot}{c:Ct}{a:Lz}(h:(o,s)∈Z)(e:s.ct?=some c)(J:o=some (.ref a)):a∈yH Z:=by
 subst J;refine mem_filterMap.mpr ⟨_,h,?_⟩;cases s<;>simp[Slot.ct?]at e<;>rfl
def Wy{o:Lx V}{s:Slot}{ds:Ls D}{a:Lz}(h:(o,s)∈Z)(e:s.list?=some ds)(J:o=some (.ref a)):a∈yH Z:=JK h (zDq e) J
def zAw{a:Lz}(h:a∈yH Z):∃s c,(some (V.ref a),s)∈Z/\Slot.ct? s=some c:=by
 obtain⟨⟨o,s⟩,J,h2⟩:=mem_filterMap.mp h;unfold zAo at h2;split at h2
 ·rename_i e;cases e;cases h2;exact⟨_,_,J,rfl⟩
 ·rename_i e;cases e;cases h2;exact⟨_,_,J,rfl⟩
 ·rename_i e;cases e;cases h2;exact⟨_,_,J,rfl⟩
 ·cases h2
def CRep.own{K:qH}{g:Str->Lx Lv}{H:Hp}{a:Lz}{o:HO}:∀{c:Ct},CRep K g H a c o->OwnK o
 | .l _,⟨Y,h,_⟩=>.inl ⟨Y,h⟩| .d _ _,⟨es,⟨_,h⟩,_⟩=>.inr ⟨_,h⟩
def FR.ownAt(h:FR K mg M H Z){a:Lz}(e:a∈yH Z):∃o,H a=some o/\¬M a/\OwnK o:=by
 obtain⟨s,c,J,h2⟩:=zAw e;obtain⟨t,o,W,P,n,r⟩:=h.own _ s c J h2;cases W;exact⟨o,P,n,r.own⟩
def FR.moAl(h:FR K mg M H Z)(b:Lz)(e:Mo M Z b):∃o,H b=some o/\OwnK o:=by
 rcases e with e|e
 ·exact h.mal b e
 ·obtain⟨Y,q,_,z⟩:=h.ownAt e
  exact⟨_,q,z⟩
def FR.inner(h:FR K mg M H (T++Z)):FR K mg (Mo M T) H Z where
 val:=λo d q=>by rw[<- jB];exact h.val o d (qK _ q)
 own:=λo s G q e=>by
  obtain⟨a,Y,W,P,n,r⟩:=h.own o s G (qK _ q) e;refine⟨a,Y,W,P,λm=>?_,by rw[<- jB];exact r⟩;rcases m with m|m
  ·exact n m
  ·have nd:=h.nd
   rw[zX]at nd;exact(nodup_append.mp nd).2.2 a m a (JK q e W) rfl
 nd:=by
  have nd:=h.nd;rw[zX]at nd;exact(nodup_append.mp nd).2.1
 mal:=λb q=>by
  rcases q with q|q
  ·exact h.mal b q
  ·obtain⟨Y,q,_,z⟩:=h.ownAt (a:=b) (by rw[zX];exact mem_append_left _ q)
   exact⟨_,q,z⟩
def FR.outer(h:FR K mg M H (T++Z))(g:FR K mg (Mo M T) H' Z')(st:Step (Mo M T) H Z H' Z'):FR K mg M H' (T++Z') where
 val:=λo d q=>by
  rw[jB];rcases mem_append.mp q with q|q
  ·obtain⟨v,e,r⟩:=h.val o d (mem_append_left _ q)
   rw[jB]at r;exact⟨v,e,r.mono st.same⟩
  ·exact g.val o d q
 own:=λo s G q e=>by
  rw[jB];rcases mem_append.mp q with q|q
  ·obtain⟨a,Y,W,P,n,r⟩:=h.own o s G (mem_append_left _ q) e
   rw[jB]at r;exact⟨a,Y,W,st.keep a _ (.inr (JK q e W)) P,n,r.mono st.same⟩
  ·obtain⟨a,Y,W,P,n,r⟩:=g.own o s G q e
   exact⟨a,Y,W,P,λm=>n (.inl m),r⟩
 nd:=by
  rw[zX];have nd:=h.nd;rw[zX]at nd;refine nodup_append.mpr ⟨(nodup_append.mp nd).1,g.nd,λa C b c e=>?_⟩;subst e;obtain⟨Y,_,q,_⟩:=g.ownAt c;exact q (.inr C)
 mal:=λb q=>g.mal b (.inl q)
def Step.outer(st:Step (Mo M T) H Z H' Z'):Step M H (T++Z) H' (T++Z') :=
 ⟨by rw[jB,jB];exact st.same,λb o m h=>st.keep b o (.inl m) h⟩
def jC{p:Lz}{o:HO}(L:H p=none):Yr H (upd H p o):=λb u e=>by
 rw[z8 (λq=>by subst q;rw[L]at e;cases e)];exact e
def FR.grow(h:FR K mg M H Z){p:Lz}{o:HO}(L:H p=none):FR K mg M (upd H p o) Z where
 val:=λR d q=>by
  obtain⟨v,e,r⟩:=h.val R d q;exact⟨v,e,r.mono λb u x=>zP.mpr ⟨(zP.mp x).1,jC L b u (zP.mp x).2⟩⟩
 own:=λR s G q e=>by
  obtain⟨a,Y,W,P,n,r⟩:=h.own R s G q e;exact⟨a,Y,W,jC L _ _ P,n,r.mono λb u x=>zP.mpr ⟨(zP.mp x).1,jC L b u (zP.mp x).2⟩⟩
 nd:=h.nd
 mal:=λb q=>by obtain⟨u,e,z⟩:=h.mal b q;exact⟨u,jC L _ _ e,z⟩
def Step.grow{p:Lz}{o:HO}(L:H p=none):Step M H Z (upd H p o) Z :=
 ⟨λb u x=>zP.mpr ⟨(zP.mp x).1,jC L b u (zP.mp x).2⟩,λb u _ e=>jC L b u e⟩
def FR.add(h:FR K mg M H Z){v:V}{d:D}(r:Rep K mg (Hm (Mo M Z) H) d v):FR K mg M H ((some v,.v d)::Z) where
 val:=λo T q=>by
  rw[Wx];rcases mem_cons.mp q with q|q
  ·cases q;exact⟨v,rfl,r⟩
  ·exact h.val o T q
 own:=λo s G q e=>by
  rw[Wx];rcases mem_cons.mp q with q|q
  ·cases q;cases e
  ·exact h.own o s G q e
 nd:=by rw[zV];exact h.nd
 mal:=h.mal
def Step.add{v:Lx V}{d:D}(st:Step M H Z H' Z'):Step M H Z H' ((v,.v d)::Z'):=by
 refine⟨?_,st.keep⟩;rw[Wx];exact st.same
def GR(h:FR K mg M H Z){p:Lz}(L:H p=none):¬Mo M Z p:=λq=>by
 obtain⟨o,e,_⟩:=h.moAl p q;rw[L]at e;cases e
def JL(h:FR K mg M H Z){p:Lz}{ds:Ls D}{xs:Ls V}(L:H p=none):Yr (Hm (Mo M Z) H) (Hm (Mo M ((some (.ref p),.w ds)::Z)) (upd H p (.l xs))):=λb u x=>by
 obtain⟨J,h2⟩:=zP.mp x;refine zP.mpr ⟨λq=>?_,jC L _ _ h2⟩;rcases q with q|q
 ·exact J (.inl q)
 ·rw[GP]at q
  rcases mem_cons.mp q with q|q
  ·subst q;rw[L]at h2;cases h2
  ·exact J (.inr q)
def FR.newOwn(h:FR K mg M H Z){p:Lz}{ds:Ls D}{xs:Ls V}(L:H p=none)(r:Reps K mg (Hm (Mo M Z) H) ds xs):FR K mg M (upd H p (.l xs)) ((some (.ref p),.w ds)::Z) where
 val:=λo d q=>by
  rcases mem_cons.mp q with q|q
  ·cases q
  ·obtain⟨v,e,r⟩:=h.val o d q
   exact⟨v,e,r.mono (JL h L)⟩
 own:=λo s w q e=>by
  rcases mem_cons.mp q with q|q
  ·cases q;cases e
   exact⟨p,_,rfl,wN,λm=>GR h L (.inl m),xs,rfl,r.mono (JL h L)⟩
  ·obtain⟨a,T,W,P,n,r⟩:=h.own o s w q e
   exact⟨a,T,W,jC L _ _ P,n,r.mono (JL h L)⟩
 nd:=by
  exact nodup_cons.mpr ⟨λq=>GR h L (.inr q),h.nd⟩
 mal:=λb q=>by obtain⟨u,e,z⟩:=h.mal b q;exact⟨u,jC L _ _ e,z⟩
def Step.newOwn(h:FR K mg M H Z){p:Lz}{ds:Ls D}{xs:Ls V}(L:H p=none):Step M H Z (upd H p (.l xs)) ((some (.ref p),.w ds)::Z) :=
 ⟨JL h L,λb u _ e=>jC L b u e⟩
def FR.newTup(h:FR K mg M H Z){p:Lz}{ds:Ls D}{xs:Ls V}(L:H p=none)(r:Reps K mg (Hm (Mo M Z) H) ds xs):FR K mg M (upd H p (.t xs)) ((some (.ref p),.v (.t ds))::Z):=by
 refine(h.grow L).add ?_;refine⟨p,xs,rfl,SqT.of (zP.mpr ⟨GR h L,wN⟩),r.mono λb u x=>zP.mpr ⟨(zP.mp x).1,jC L b u (zP.mp x).2⟩⟩
def Step.newVal{p:Lz}{o:HO}{v:Lx V}{d:D}(L:H p=none):Step M H Z (upd H p o) ((v,.v d)::Z):=(Step.grow L).add
def FR.frz{o:Lx V}{r:R}(h:FR K mg M H ((o,r.slot)::Z)):FR K mg M H ((o,.v r.d)::Z):=by
 cases r with
 |v d=>exact h
 |w G =>
  obtain⟨a,Y,W,P,n,c⟩:=h.ownL o (.w G) G qE rfl;subst W;have e:¬Mo M Z a:=λq=>by
   rcases q with q|q
   ·exact n q
   ·exact(nodup_cons.mp h.nd).1 q
  refine h.tail.add ?_;exact⟨a,Y,rfl,SqL.of (zP.mpr ⟨e,P⟩),c.mono (j6 (YS (zD (sublist_cons_self _ _))))⟩
 |m ks L =>
  obtain⟨a,ho,W,P,n,E,⟨J,rfl⟩,l,i,t⟩:=h.own o (.m ks L) (.d ks L) qE rfl;subst W;have e:¬Mo M Z a:=λq=>by
   rcases q with q|q
   ·exact n q
   ·exact(nodup_cons.mp h.nd).1 q
  refine h.tail.add ?_;have z:=j6 (H:=H) (YS (M:=M) (zD (sublist_cons_self ((some (V.ref a),Slot.m ks L)) Z)));exact⟨a,E,rfl,⟨J,zP.mpr ⟨e,P⟩⟩,l,λx g=>zm z (i x g),t.mono z⟩
def Step.frz{o:Lx V}{r:R}(h:Step M H Z H' ((o,r.slot)::Z')):Step M H Z H' ((o,.v r.d)::Z'):=by
 cases r with
 |v d=>exact h
 |w G =>
  refine h.weak λb q=>?_
  rw[zV]at q;exact(zD (sublist_cons_self _ _)) b q
 |m ks L =>
  refine h.weak λb q=>?_
  rw[zV]at q;exact(zD (sublist_cons_self _ _)) b q
theorem GS:∀(O:St) (E:zS) (i:Nat) (o:Lx V) (s:Slot),(O.set i o).zip (E.set i s)=(O.zip E).set i (o,s)
 | [],_,_,_,_=>by simp|_::_,[],_,_,_=>by simp|x::O,y::E,0,o,s=>by simp|x::O,y::E,i+1,o,s=>by simp[GS O E i o s]
theorem zQ{α:Type}(x:α):∀(l:Ls α) (i:Nat),i<l.length->(l.set i x).Perm (x::l.eraseIdx i)
 | [],_,h=>by simp at h|y::l,0,_=>List.Perm.refl _
 |y::l,i+1,h=>by
  have u:=zQ x l i (by exists h);exact(u.cons y).trans (List.Perm.swap x y _)
def FR.put(h:FR K mg M H (((o:Lx V),s)::Z)){i:Nat}(hi:i<Z.length):FR K mg M H (Z.set i (o,s)) :=
 (h.sub ((List.eraseIdx_sublist Z i).cons_cons (o,s))).perm (zQ _ _ _ hi).symm
def Step.put{o:Lx V}{s:Slot}(h:Step M H Z H' ((o,s)::Z')){i:Nat}(hi:i<Z'.length):Step M H Z H' (Z'.set i (o,s)):=by
 refine h.weak λb q=>?_
 exact zD ((List.eraseIdx_sublist Z' i).cons_cons (o,s)) b (zB (zQ _ _ _ hi) b q)
end
inductive Out(α:Type) where
 |z
 |ok (a:α)
 |y (x:Exn) (E:zS)
 deriving Inhabited
abbrev ME:=zS->Out (R×zS)
abbrev MA:=zS->Out (Ls R×zS)
abbrev MT:=zS->Out (Bool×zS)
def PKp(O:St)(E:zS)(c:St)(E':zS):Prop:=∀(i:Nat) G,E[i]?=some (.p G)->(∃w,E'[i]?=some (.p w))/\c[i]?=O[i]?
def PKp.refl{O:St}{E:zS}:PKp O E O E:=λi G h=>⟨⟨G,h⟩,rfl⟩
theorem PKp.trans{O O1 c:St}{E E1 E2:zS}(a:PKp O E O1 E1)(b:PKp O1 E1 c E2):PKp O E c E2:=λi G h=>by
 obtain⟨⟨e,J⟩,W⟩:=a i G h;obtain⟨h2,P⟩:=b i e J;exact⟨h2,P.trans W⟩
structure Got(K:qH)(mg:Str->Lp)(M:Lf)(O:St)(E:zS)(H:Hp)(T0:Fz)(O':St)(E':zS)(H':Hp)(T:Fz):Prop where
 len:E'.length=O'.length
 fr:FR K mg M H' (T++(T0++O'.zip E'))
 st:Step M H (T0++O.zip E) H' (T++(T0++O'.zip E'))
 pk:PKp O E O' E'
def zDr(vs:Ls V)(rs:Ls R):Fz:=(vs.zip rs).map λp=>(some p.1,p.2.slot)
def KM(X:Cx)(M:Lf)(O:St)(E:zS)(H:Hp)(T0:Fz)(Q:VK):Out (R×zS)->Prop
 | .z=>False| .ok (r,E')=>∀v H',Got X.K X.mg M O E H T0 O E' H' [(some v,r.slot)]->Q v H'| .y x E'=>∀H',Got X.K X.mg M O E H T0 O E' H' []->XE X O H' x
def KT(X:Cx)(M:Lf)(O:St)(E:zS)(H:Hp)(T0:Fz)(Q:Bool->Hp->Prop):Out (Bool×zS)->Prop
 | .z=>False| .ok (b,E')=>∀H',Got X.K X.mg M O E H T0 O E' H' []->Q b H'| .y x E'=>∀H',Got X.K X.mg M O E H T0 O E' H' []->XE X O H' x
def KA(X:Cx)(M:Lf)(O:St)(E:zS)(H:Hp)(T0:Fz)(Q:Ls V->Hp->Prop):Out (Ls R×zS)->Prop
 | .z=>False| .ok (rs,E')=>∀L H',L.length=rs.length->Got X.K X.mg M O E H T0 O E' H' (zDr L rs)->Q L H'| .y x E'=>∀H',Got X.K X.mg M O E H T0 O E' H' []->XE X O H' x
def tM(X:Cx)(m:ME):TE:=λO H Q=>∃M E,E.length=O.length/\FR X.K X.mg M H (O.zip E)/\KM X M O E H [] Q (m E)
def tMT(X:Cx)(m:MT):TT:=λO H Q=>∃M E,E.length=O.length/\FR X.K X.mg M H (O.zip E)/\KT X M O E H [] Q (m E)
def tMA(X:Cx)(m:MA):TA:=λO H Q=>∃M E,E.length=O.length/\FR X.K X.mg M H (O.zip E)/\KA X M O E H [] Q (m E)
abbrev EOk(X:Cx)(e:Lb)(m:ME):Prop:=PE X e (tM X m)
abbrev TOk(X:Cx)(e:Lb)(m:MT):Prop:=PT X e (tMT X m)
abbrev AOk(X:Cx)(es:Ls Lb)(m:MA):Prop:=PA X es (tMA X m)
def yW{X:Cx}{e:Lb}{t t':TE}(h:PE X e t)(i:∀O H Q,t' O H Q->t O H Q):PE X e t':=λG s O H Q I q=>h G s O H Q I (i O H Q q)
def Qp{X:Cx}{e:Lb}{t t':TT}(h:PT X e t)(i:∀O H Q,t' O H Q->t O H Q):PT X e t':=λG s O H Q I q=>h G s O H Q I (i O H Q q)
def zHm{X:Cx}{e:Lb}{t t':TT}(h:PW X e t)(i:∀O H Q,t' O H Q->t O H Q):PW X e t':=λw G s O H Q I q=>h w G s O H Q I (i O H Q q)
def Qq{X:Cx}{e:Ls Lb}{t t':TA}(h:PA X e t)(i:∀O H Q,t' O H Q->t O H Q):PA X e t':=λp G s O H Q I q=>h p G s O H Q I (i O H Q q)
def jD{X:Cx}{e:Lh}{t t':TS}(h:PS X e t)(i:∀D O H,t' D O H->t D O H):PS X e t':=λG s O H D I q=>h G s O H D I (i D O H q)
def zDs{X:Cx}{e:Ls Lh}{t t':TS}(h:PSs X e t)(i:∀D O H,t' D O H->t D O H):PSs X e t':=λG s O H D I q=>h G s O H D I (i D O H q)
section
variable{X:Cx}{K:qH}{mg:Str->Lx Lv}{M:Lf}{O O' O1 O2:St}{E E' E1 E2:zS}{H H' H1 H2:Hp}{T0 T T1 T2:Fz}{Q:VK}
def swapP{α:Type}(A B C:Ls α):(A++(B++([]++C))).Perm (B++(A++C)):=by
 rw[nil_append,<- append_assoc,<- append_assoc];exact(perm_append_comm).append_right _
def JM{α:Type}{l:Ls α}{i:Nat}{x:α}(h:l[i]?=some x):l.set i x=l:=by
 obtain⟨R,rfl⟩:=qG.mp h;exact List.set_getElem_self R
theorem Got.outer(h:FR K mg M H (T0++O.zip E))(g:Got K mg (Mo M T0) O E H [] O' E' H' T):Got K mg M O E H T0 O' E' H' T where
 len:=g.len
 fr:=by
  have q:=FR.outer h g.fr g.st;exact q.perm (swapP _ _ _)
 st:=by
  have q:=Step.outer g.st;refine q.weak λb Z=>?_
  exact zB (swapP _ _ _).symm b Z
 pk:=g.pk
theorem Got.trans(a:Got K mg M O E H T0 O1 E1 H1 T1)(b:Got K mg M O1 E1 H1 (T1++T0) O2 E2 H2 T2):Got K mg M O E H T0 O2 E2 H2 (T2++T1) where
 len:=b.len
 fr:=by
  have q:=b.fr;rw[append_assoc]at q;rw[append_assoc];exact q
 st:=by
  have q:=b.st;rw[append_assoc,append_assoc]at q;rw[append_assoc];exact a.st.trans q
 pk:=a.pk.trans b.pk
def Got.drop(a:Got K mg M O E H T0 O1 E1 H1 (T2++T1)):Got K mg M O E H T0 O1 E1 H1 T1 where
 len:=a.len
 fr:=a.fr.sub (by rw[append_assoc];exact sublist_append_right _ _)
 st:=a.st.weak (zD (by rw[append_assoc];exact sublist_append_right _ _))
 pk:=a.pk
def Got.dropAll(a:Got K mg M O E H T0 O1 E1 H1 T1):Got K mg M O E H T0 O1 E1 H1 [] where
 len:=a.len
 fr:=a.fr.sub (sublist_append_right _ _)
 st:=a.st.weak (zD (sublist_append_right _ _))
 pk:=a.pk
def Got.trans'(a:Got K mg M O E H [] O1 E1 H1 T1)(b:Got K mg M O1 E1 H1 T1 O2 E2 H2 T2):Got K mg M O E H [] O2 E2 H2 (T2++T1):=a.trans (by rw[append_nil];exact b)
theorem Got.refl(c:E.length=O.length)(h:FR K mg M H (T0++O.zip E)):Got K mg M O E H T0 O E H []:=⟨c,h,Step.refl,PKp.refl⟩
def Got.more(a:Got K mg M O E H [] O1 E1 H1 T1)(f:FR K mg M H2 (T++O1.zip E1))(s:Step M H1 (O1.zip E1) H2 (T++O1.zip E1)):Got K mg M O E H [] O1 E1 H2 T where
 len:=a.len
 fr:=f
 st:=(a.st.weak (zD (sublist_append_right _ _))).trans s
 pk:=a.pk
def Got.frame(a:Got K mg M O E H [] O1 E1 H1 T1):FR K mg M H1 (O1.zip E1):=a.fr.sub (sublist_append_right _ _)
def zCo(v:V)(r:R)(vs:Ls V)(rs:Ls R):zDr (v::vs) (r::rs)=(some v,r.slot)::zDr vs rs:=rfl
theorem zDt:∀{L:Ls V} {u:Ls R} {Z:Fz},L.length=u.length->FR K mg M H (zDr L u++Z)->Reps K mg (Hm (Mo M Z) H) (u.map R.d) L
 | [],[],Z,_,h=>Reps.nil
 |v::L,r::u,Z,hl,h=>by
  rw[zCo,cons_append]at h;refine Reps.cons ?_ (zDt (by exists hl) h.tail);obtain⟨t,e,q⟩:=h.frz.val (some v) r.d qE;cases e;refine q.mono (j6 (YS λb a=>?_));rw[zV,zX];exact qK _ a
def Got.reps{vs:Ls V}{rs:Ls R}(c:vs.length=rs.length)(a:Got K mg M O E H [] O1 E1 H1 (zDr vs rs)):Reps K mg (Hm (Mo M (O1.zip E1)) H1) (rs.map R.d) vs:=zDt c a.fr
def Got.rep{v:V}{r:R}(a:Got K mg M O E H [] O1 E1 H1 [(some v,r.slot)]):Rep K mg (Hm (Mo M (O1.zip E1)) H1) r.d v:=by
 have q:=Got.reps (vs:=[v]) (rs:=[r]) rfl a;obtain⟨t,L,e,h,_⟩:=q;cases e;exact h
def z9{m:ME}(c:E.length=O.length)(h:FR X.K X.mg M H (T0++O.zip E))
  (k:KM X M O E H T0 Q (m E)):tM X m O H Q:=by
 refine⟨Mo M T0,E,c,h.inner,?_⟩;cases e:m E with
 |z=>rw[e]at k;exact k|ok a=>rw[e]at k;exact λv H' g=>k v H' (g.outer h)|y x E'=>rw[e]at k;exact λH' g=>k H' (g.outer h)
def Jo{m:MT}{Q:Bool->Hp->Prop}(c:E.length=O.length)(h:FR X.K X.mg M H (T0++O.zip E))
  (k:KT X M O E H T0 Q (m E)):tMT X m O H Q:=by
 refine⟨Mo M T0,E,c,h.inner,?_⟩;cases e:m E with
 |z=>rw[e]at k;exact k|ok a=>rw[e]at k;exact λH' g=>k H' (g.outer h)|y x E'=>rw[e]at k;exact λH' g=>k H' (g.outer h)
def Jp{m:MA}{Q:Ls V->Hp->Prop}(c:E.length=O.length)(h:FR X.K X.mg M H (T0++O.zip E))
  (k:KA X M O E H T0 Q (m E)):tMA X m O H Q:=by
 refine⟨Mo M T0,E,c,h.inner,?_⟩;cases e:m E with
 |z=>rw[e]at k;exact k|ok a=>rw[e]at k;exact λL H' hv g=>k L H' hv (g.outer h)|y x E'=>rw[e]at k;exact λH' g=>k H' (g.outer h)
def eC(d:D):ME:=λE=>.ok (.v d,E)
def flat:D->Bool
 | .non | .bl _ | .int _ | .str _=>true
 |_=>false
def flV:D->V
 | .bl b=>.bl b| .int i=>.int i| .str x=>.str x|_=>.non
def zBl{d:D}(h:flat d=true):Rep K mg H d (flV d):=by
 cases d<;>simp[flat]at h<;>simp[Rep,flV]
theorem Got.flat(a:Got K mg M O E H [] O1 E1 H1 T1){d:D}(h:flat d=true):Got K mg M O E H [] O1 E1 H1 [(some (flV d),.v d)] :=
 a.more (a.frame.add (zBl h)) Step.refl.add
def ok_c{e:Lb}{d:D}(h:PE X e (tC (flV d)))(Y:flat d=true:=by rfl):EOk X e (eC d):=yW h λO H Q ⟨M,E,hl,f,k⟩ =>
 k (flV d) H ((Got.refl (T0:=[]) hl f).flat Y)
def ok_int{i j pos}:EOk X (.Constant (.int i) j pos) (eC (.int i)):=ok_c pe_int
def ok_bl{b j pos}:EOk X (.Constant (.bool b) j pos) (eC (.bl b)):=ok_c pe_bl
def ok_non{j pos}:EOk X (.Constant .none j pos) (eC .non):=ok_c pe_non
def ok_str{x j pos}:EOk X (.Constant (.str x) j pos) (eC (.str x)):=ok_c pe_str
def Ys(i:Nat):ME:=λE=>match E[i]? with
 |some (.v d)=>.ok (.v d,E)|some (.w ds)=>.ok (.v (.l ds),E.set i (.v (.l ds)))|some (.m ks vs)=>.ok (.v (.m ks vs),E.set i (.v (.m ks vs)))|_=>.z
def JN{i:Nat}{s:Slot}(c:E.length=O.length)(h:E[i]?=some s):∃o,O[i]?=some o/\(O.zip E)[i]?=some (o,s):=by
 have R:i<E.length:=(qG.mp h).1;have:i<O.length:=c▸R;refine⟨O[i],by simp[this],?_⟩;rw[getElem?_zip_eq_some];exact⟨by simp[this],h⟩
def JO{i:Nat}{s:Slot}(c:E.length=O.length)(h:E[i]?=some s):∃o,O[i]?=some o/\(o,s)∈O.zip E:=by
 obtain⟨o,J,h2⟩:=JN c h;exact⟨o,J,mem_of_getElem? h2⟩
def zg{i:Nat}{o:Lx V}(s:Slot)(h:O[i]?=some o):O.zip (E.set i s)=(O.zip E).set i (o,s):=by
 rw[<- GS];congr 1;have R:i<O.length:=(qG.mp h).1;apply List.ext_getElem?;intro j;by_cases e:i=j
 ·subst e;rw[getElem?_set_self R,h]
 ·rw[getElem?_set_ne e]
def zBm{i:Nat}{s:Slot}{ds0:Ls D}(h:E[i]?=some s)(T:∀G,s≠.p G)(o:Slot):PKp O E O (E.set i o):=λj G e=>by
 have g:i≠j:=λq=>by subst q;rw[h]at e;exact T G (qJ e)
 exact⟨⟨G,by rw[getElem?_set_ne g];exact e⟩,rfl⟩
def ok_var(i:Nat){x:Str}{g:Pos}(h:PE X (.Name x g) (zDN i)):EOk X (.Name x g) (Ys i):=yW h λO H Q ⟨M,E,hl,f,k⟩=>by
 unfold Ys at k;cases e:E[i]? with
 |none=>rw[e]at k;exact k.elim
 |some D =>
 rw[e]at k;cases D with
 |e=>exact k.elim|p G=>exact k.elim
 |v d =>
  obtain⟨o,J,h2⟩:=JO hl e;obtain⟨v,rfl,r⟩:=f.val o d h2;exact⟨v,J,k v H ⟨hl,f.add r,Step.refl.add,PKp.refl⟩⟩
 |w G =>
  obtain⟨o,J,h2⟩:=JN hl e;obtain⟨a,Y,rfl,K,S,W⟩:=f.ownL o (.w G) G (mem_of_getElem? h2) rfl;refine⟨.ref a,J,k _ H ?_⟩;have I:i<(O.zip E).length:=(qG.mp h2).1;have p:(O.zip E).Perm ((some (.ref a),R.slot (.w G))::(O.zip E).eraseIdx i):=by
   have:=zQ (some (V.ref a),Slot.w G) (O.zip E) i I;rw[JM h2]at this;exact this
  have l:=(f.perm p).frz;have n:FR X.K X.mg M H ((O.zip E).set i (some (.ref a),.v (.l G))):=l.perm (zQ _ _ _ I).symm;rw[<- zg (.v (.l G)) J]at n;have r:=l.val _ _ qE;obtain⟨v,ev,c⟩:=r;cases ev;have u:Mo M ((some (V.ref a),Slot.v (R.w G).d)::(O.zip E).eraseIdx i)=Mo M (O.zip (E.set i (.v (.l G)))):=by
   rw[zg (.v (.l G)) J];exact(GQ (zQ _ _ _ I)).symm
  rw[u]at c;refine⟨by simp[hl],n.add c,?_,?_⟩
  ·refine Step.add ?_
   refine Step.weak Step.refl λb Z=>?_
   refine zB p.symm b ?_;rw[nil_append,zg (.v (.l G)) J]at Z;have z:=zB (zQ _ _ _ I) b Z;exact zD (sublist_cons_self _ _) b z
  ·exact zBm (ds0:=[]) e (λj q=>by cases q) _
 |m ks L =>
  obtain⟨o,J,h2⟩:=JN hl e;obtain⟨a,ho,rfl,K,S,W⟩:=f.own o (.m ks L) (.d ks L) (mem_of_getElem? h2) rfl;refine⟨.ref a,J,k _ H ?_⟩;have I:i<(O.zip E).length:=(qG.mp h2).1;have p:(O.zip E).Perm ((some (.ref a),R.slot (.m ks L))::(O.zip E).eraseIdx i):=by
   have:=zQ (some (V.ref a),Slot.m ks L) (O.zip E) i I;rw[JM h2]at this;exact this
  have l:=(f.perm p).frz;have n:FR X.K X.mg M H ((O.zip E).set i (some (.ref a),.v (.m ks L))):=l.perm (zQ _ _ _ I).symm;rw[<- zg (.v (.m ks L)) J]at n;have r:=l.val _ _ qE;obtain⟨v,ev,c⟩:=r;cases ev;have u:Mo M ((some (V.ref a),Slot.v (R.m ks L).d)::(O.zip E).eraseIdx i)=Mo M (O.zip (E.set i (.v (.m ks L)))):=by
   rw[zg (.v (.m ks L)) J];exact(GQ (zQ _ _ _ I)).symm
  rw[u]at c;refine⟨by simp[hl],n.add c,?_,?_⟩
  ·refine Step.add ?_
   refine Step.weak Step.refl λb Z=>?_
   refine zB p.symm b ?_;rw[nil_append,zg (.v (.m ks L)) J]at Z;have z:=zB (zQ _ _ _ I) b Z;exact zD (sublist_cons_self _ _) b z
  ·exact zBm (ds0:=[]) e (λj q=>by cases q) _
end
def za:Lb->Bool
 | .Starred _ _=>true|_=>false
def j7:Ls Lb->Bool
 | []=>true|e::es=>!za e&&j7 es
def zw{e:Lb}{es:Ls Lb}{env:Env}(h:za e=false):starEach (e::es) env=(false,eval e env)::starEach es env:=by
 cases e<;>first|rfl|(cases h)
def star2{a b:Lb}{env:Env}(C:za a=false)(Z:za b=false):starEach [a,b] env=[(false,eval a env),(false,eval b env)]:=by
 rw[zw C,zw Z];rfl
def zAx{a:Lb}{env:Env}(C:za a=false):starEach [a] env=[(false,eval a env)]:=by
 rw[zw C];rfl
def jX:Lb->Bool
 | .Set _ _ _=>false|_=>true
def yj{e:Lb}{env:Env}(h:jX e=true):∀x,foldedSetIterable e env x=pure x:=by
 intro x;cases e<;>first|rfl|(cases h)
def Wz:Lb->Bool
 | .ListComp _ _ _ _=>false| .SetComp _ _ _ _=>false| .DictComp _ _ _ _ _=>false|_=>true
def GT{e:Lb}{t:Lx Lb}{l:Nat}{env:Env}(h:Wz e=true):swapsWith e t l env=pure false:=by
 cases e<;>first|rfl|(cases h)
def zHn:Lb->Bool
 | .UnaryOp .Not _ _=>false| .BoolOp _ _ _=>false| .IfExp _ _ _ _=>false| .Compare _ _ _ _=>false|_=>true
def test_of{e:Lb}{env:Env}(h:zHn e=true):∀w,isTrue e env w=(do let v <- w;standAt e.pos;holding [v] (truthy v)):=by
 intro x;cases e<;>first|rfl|(cases h)|skip;rename_i op _ _;cases op<;>first|rfl|(cases h)
def zDu:Lb->Bool
 | .Slice _ _ _ _=>false|_=>true
theorem Qr{env:Env}:∀{E:Ls Lb},j7 E=true->(starEach E env).any (·.1)=false
 | [],_=>rfl
 |e::E,h=>by
  dsimp[j7,Bool.and_eq_true,Bool.not_eq_true']at h;rw[zw h.1];simp[Qr h.2]
def zGG(g:Pos)(l:Ls (Bool×Sem Lv)):(backTo g l).any (·.1)=l.any (·.1):=by
 unfold backTo;rw[List.any_map];rfl
def Y3{env:Env}{es:Ls Lb}{g:Pos}(h:j7 es=true):(backTo g (starEach es env)).any (·.1)=false:=by
 rw[zGG,Qr h]
end DV
namespace L2
open PySem PySem.Spec PyProof.Rows
section
variable{X:Cx}
def zHo(K:qH):R2:=λx y H Q=>∃a b Y T,x=.ref a/\y=.ref b/\SqT K H a Y/\SqT K H b T/\Y.length+T.length<=sizeLine /\
 (Y=[]->Q (.ref b) H)/\(Y≠[]->T=[]->Q (.ref a) H)/\(Y≠[]->T≠[]->∀p,H p=none->Q (.ref p) (upd H p (.t (Y++T))))
def zGH:OpR X (binaryOp .Add) (zHo X.K):=by
 intro G s O H x y v u Q I w P h;obtain⟨a,b,Y,T,rfl,rfl,C,Z,hz,q0,K,J⟩:=h;cases w;cases P;obtain⟨g,l,r,_⟩:=I.tuple C;obtain⟨c,o,t,_⟩:=I.tuple Z;by_cases M:Y=[]
 ·have R:g=[]:=l.nil_iff.mpr M
  obtain⟨⟨p,dd,e,D⟩,ho,S,n,q⟩:=id r;obtain⟨⟨k,W,L,V⟩,i,j,E,z⟩:=id t;subst S q j z;exact concat_meets ⟨_,ho,rfl⟩ ⟨_,i,rfl⟩ noFill_tuple_add seq_tuple_add PySem.F.slot_tuple_add PySem.F.entry_tuple_add (PySem.F.args_tuple_add_2 _ _)
   (tuple_addW0 a b g.toArray c.toArray n E dd W D V (by simp[R])) ⟨ho,i,⟨.ref b,H,I,rfl,q0 M⟩⟩
 ·exact op_catT G s O H (.ref a) (.ref b) (.ref a) (.ref b) Q I rfl rfl ⟨a,b,Y,T,rfl,rfl,C,Z,M,hz,K M,J M⟩
def rCatL(K:qH):R2:=λx y H Q=>∃l b Y zs,x=.ref l/\y=.ref b/\SqL K H l Y/\SqL K H b zs/\Y.length+zs.length<=sizeLine/\∀p,H p=none->Q (.ref p) (upd H p (.l (Y++zs)))
def op_catL:OpR X (binaryOp .Add) (rCatL X.K):=by
 intro G s O H x y v u Q I w P h;obtain⟨l,b,Y,zs,rfl,rfl,E,J,hz,q⟩:=h;cases w;cases P;obtain⟨g,r,k,_⟩:=I.list E;obtain⟨c,o,Z,_⟩:=I.list J;have hl:=r.length;have K:=o.length;obtain⟨⟨p,dd,e,D⟩,n,ho,S,M,C⟩:=k;obtain⟨⟨a,W,L,V⟩,T,i,j,t,z⟩:=Z;subst S C j z;refine concat_meets ⟨_,ho,rfl⟩ ⟨_,i,rfl⟩ noFill_list_add seq_list_add PySem.F.slot_list_add PySem.F.entry_list_add (PySem.F.args_list_add_2 _ _) (list_addW l b g.toArray c.toArray n T dd W D V (by rw[size_toArray,size_toArray];lia)) ⟨ho,i,?_⟩;have R:g.toArray++c.toArray=(g++c).toArray:=by simp
 rw[R];exact⟨.ref _,_,I.lnew (t':=s.toks) (r.append o) (by rw[length_append];lia),rfl,q _ I.fresh⟩
def Yg{prog:Lc}{w:Le}{A:Li}{E:Ly}{s:La}{t D:Lz}{items:Lg}{j i:Lv}{lo hi:Lx Int}{Q:Ly}(r:IsTup s.heap t items)(T:s.heap.IsSliceOf D j i .none)(k:IsPart j lo)(P:IsPart i hi)
  (J:HT.sIx items.size 0 lo=0) (Y:HT.sIx items.size items.size hi=items.size)
  (h:Q (.ref t) s):wpAny (model prog w) A (getItem (.ref t) (.ref D)) Q E s:=by
 obtain⟨p,a,o,y⟩:=id T;have g:s.TypeIs (.ref D) "slice":=⟨p,a,o⟩;unfold getItem
 try with_reducible refine wpAny_holding ?_
 first|refine qB (qC ?_)|skip
 refine qB (wpAny_sequenceKey r.typeIs (by decide) ?_);refine qB (wpAny_callSpecial?_slot (name:=Str.ofString "__getitem__") r.typeIs PyProof.Rows.slot_tuple_getitem
  (wpAny_call_entry PyProof.Rows.slot_tuple_getitem r.typeIs entry_tuple_getitem ?_ (args_tuple_getitem _ _)))
 show wpAny _ _ (Builtin.Tuple.tupleItemsOf (.ref t) >>= _) _ _ s
 refine qB (tupleItemsOf_ r ?_);refine qB (wpAny_typeOf g ?_);refine qB (HT.sliceApplied_gen T k P ?_);have c:(((HT.sIx items.size 0 lo:Nat):Int)==0&&(1:Int)==1&&(HT.sIx items.size items.size hi-HT.sIx items.size 0 lo)==items.size)=true:=by
  rw[J,Y];simp
 show wpAny _ _ (if(((HT.sIx items.size 0 lo:Nat):Int)==0&&(1:Int)==1&&(HT.sIx items.size items.size hi-HT.sIx items.size 0 lo)==items.size)=true then _ else _) _ _ s
 rw[if_pos c];refine qB (qB (wpAny_typeOf r.typeIs (qC ?_)));exact qB (wpAny_rule (qC ⟨_,rfl,qC h⟩))
def rSlTT(K:qH):V->Lx Int->Lx Int->Hp->VK->Prop:=λx z R H Q=>∃a Y,x=.ref a/\SqT K H a Y /\
 ((HT.sIx Y.length 0 z=0/\HT.sIx Y.length Y.length R=Y.length)->Q (.ref a) H) /\
 (¬(HT.sIx Y.length 0 z=0/\HT.sIx Y.length Y.length R=Y.length)->∀p,H p=none->Q (.ref p) (upd H p (.t (zF7 Y z R))))
def sl_tupT:SlR X (rSlTT X.K):=by
 intro G s O H x v j i z R D Q I w T k P h;obtain⟨a,Y,rfl,M,K,S⟩:=h;by_cases C:HT.sIx Y.length 0 z=0/\HT.sIx Y.length Y.length R=Y.length
 ·cases w
  obtain⟨g,r,ht,hz⟩:=I.tuple M;have y:g.toArray.size=Y.length:=by rw[size_toArray];exact r.length.symm
  refine⟨"tuple",_,PyProof.Rows.slot_tuple_getitem.lookup,ht.typeIs,?_⟩;exact Yg ht T k P (by rw[y];exact C.1) (by rw[y];exact C.2) ⟨.ref a,H,I,rfl,K C⟩
 ·exact sl_tup G s O H (.ref a) v j i z R D Q I w T k P ⟨a,Y,rfl,M,C,S C⟩
theorem Qs:∀bs:Ls Bool,(List.range bs.length).all (λi=>bs.getD i false)=bs.all id
 | []=>rfl
 |b::bs=>by
  rw[length_cons,range_succ_eq_map,all_cons,all_cons,List.all_map,<- Qs bs];rfl
def zGI(S:X.calm=true):jb X (.builtin "all") (λY H Q=>∃(p:Lz) (bs:Ls Bool),Y=[.ref p]/\SqL X.K H p (bs.map V.bl)/\Q (.bl (bs.all id)) H):=by
 intro G s O H Y D Q I r h;obtain⟨p,bs,rfl,J,q⟩:=h;obtain⟨u,rfl,w⟩:=ZT r;cases w;obtain⟨g,j,k,hz⟩:=I.list J;have y:=j.length;refine call_all_walk (wpAny_pyIter_list k.isList ?_);have L:p<s.heap.objs.size:=by obtain⟨o,n,e,_⟩:=k;exact lt_size e
 have t:∀b o,s.heap.get? b=some o->(s.heap.push {cls:=.type "list_iterator",data:=.fields #[.ref p,.int 0 0]}).get? b=some o:=λb o e=>qA _ e
 have l:∀(i:Nat) (v:Lv),g.toArray[i]?=some v->v=Value.bool (bs.getD i false):=λi v hv=>by
  have a:g[i]?=some v:=by exists hv
  have R:i<g.length:=(qG.mp a).1;have M:i<(bs.map V.bl).length:=by rw[y];exact R
  obtain⟨C,W,P⟩:=j.get (i:=i) (x:=(bs.map V.bl)[i]) (by simp[M]);rw[a]at W;cases W;rw[length_map]at M;rw[List.getElem_map]at P;have:v=.bool (bs[i]):=P;rw[this];simp[M]
 refine⟨s.heap.objs.size,[s.heap.objs.size,p],[s.heap.objs.size],g.toArray.size,_,_,λi=>bs.getD i false,rfl,
  Walks.list (by show X.A.handled=none;exact I.ok.hd S) _ p (ne_of_lt L) g.toArray,⟨⟨_,get?_push_size _ rfl,rfl,rfl⟩,?_⟩,?_,?_⟩
 ·obtain⟨o,e,c⟩:=k.isList
  exact⟨o,t _ _ e,c⟩
 ·intro i v T Q' E' hv z
  rw[l i v hv];exact wpAny_truthy_bool z
 ·intro Z E kp
  have e:(List.range g.toArray.size).all (λi=>bs.getD i false)=bs.all id:=by
   rw[size_toArray,<- y,length_map,Qs]
  rw[e];exact⟨.bl (bs.all id),H,I.kept (t':=E) λb o K=>kp b o (λm=>by
   have:b=s.heap.objs.size:=by exists m
   subst this;exact absurd (lt_size K) (lt_irrefl _)) (t b o K),rfl,q⟩
def WP:fillsNumberSlot (.type "tuple") "mul"=pure false :=
 PySem.fillsNumberSlot_seq (id:="tuple.__mul__") (r:=some (.builtin "tuple.__rmul__")) F.slot_tuple_mul.lookup (by left) F.slot_tuple_rmul.lookup (by left)
def Qt:seqRepeat? (.type "tuple")=pure (some (.builtin "tuple.__mul__")):=by
 unfold seqRepeat?;rfl
def uE(a:Int)(t:Tok)(l:Lz)(items:Lg)(n:Nat)(o:Lx Lz)(D:Lj) :
  Meets (Builtin.«int.__rmul__» ⟨[.int a t,.ref l],[]⟩) (λ_ R s=>s.heap.get? l=some {cls:=.type "tuple",dict:=o,data:=.seq items n,slots:=D}/\R (.ok (.ret Value.notImplemented)) s) :=
 .of_wp λG w A R s h=>by obtain⟨L,g,d,M,p⟩:=s;obtain⟨hl,h⟩:=h;wp_walk;exact⟨_,rfl,h⟩
def uF{E:Ly}{Q:Ly}(c:IsTup s.heap l items)(J:-(2^63)<=k)(Y:k<2^63)
  (j:(items.size:Int)*k<=sizeLine) (q:items.isEmpty=true\/k=1->Q (.ref l) s)
  (K:k<=0->Q (.ref s.heap.objs.size) {s with heap:=s.heap.push {cls:=.type "tuple",data:=.seq #[]}})
  (S:Q (.ref s.heap.objs.size) {s with heap:=s.heap.push {cls:=.type "tuple",data:=.seq ((replicate k.toNat items).foldl (·++·) #[])}})
  (h:sizeOk (.seq ((replicate k.toNat items).foldl (·++·) #[]))) :
  wpAny (model prog w) A (call (.builtin "tuple.__mul__") [.ref l,.int k t]) Q E s:=by
 refine wpAny_call_entry F.slot_tuple_mul c.typeIs F.entry_tuple_mul ?_ (F.args_tuple_mul_2 _ _);show wpAny _ _ (asIndex (.int k t) >>= _) _ _ s;refine qB (wpAny_of_eq (a:=k) rfl ?_);dsimp;rw[if_neg (by dsimp[Bool.or_eq_true,decide_eq_true_eq];lia)];refine qB (tupleItemsOf_ c ?_);by_cases W:(items.isEmpty||k==1)=true
 ·rw[if_pos W]
  unfold Builtin.Tuple.tupleIsExact;refine qB (qB (wpAny_typeOf c.typeIs (qC ?_)));rw[if_pos (by decide)];refine qB (wpAny_rule (qC ⟨_,rfl,q ?_⟩));rw[Bool.or_eq_true,beq_iff_eq]at W;exact W
 ·rw[if_neg W]
  by_cases P:(decide (k<=0)||items.isEmpty)=true
  ·rw[if_pos P]
   have V:k<=0:=by
    dsimp[Bool.or_eq_true,decide_eq_true_eq,beq_iff_eq,not_or]at W P;rcases P with P|P
    ·exact P
    ·exact absurd P W.1
   exact qB (m:=Builtin.Tuple.tupleExact _) (wpAny_newObj_type (qC ⟨_,rfl,K V⟩) (by show(#[]:Lg).size<=sizeLine;simp))
  ·rw[if_neg P]
   have T:sizeLine=16777216:=sizeLine_eq;rw[if_neg (by rw[T]at j;lia),if_neg (by unfold Builtin.Tuple.tupleTooMany;dsimp[decide_eq_true_eq];lia)];exact qB (m:=Builtin.Tuple.tupleExact _) (wpAny_newObj_type (qC ⟨_,rfl,S⟩) h)
def rRepT(K:qH):R2:=λx y H Q=>∃l k Y,x=.ref l/\y=.int k/\SqT K H l Y/\-(2^63)<=k/\k<2^63/\Y.length*k.toNat<=sizeLine /\
 (Y=[]\/k=1->Q (.ref l) H)/\(∀p,H p=none->Q (.ref p) (upd H p (.t (replicate k.toNat Y).flatten)))
def op_repT:OpR X (binaryOp .Mult) (rRepT X.K):=by
 intro i s O H x y v u Q I w P h;obtain⟨l,k,Y,rfl,rfl,E,L,h2,hz,q0,q⟩:=h;cases w;obtain⟨t,rfl⟩:=P;obtain⟨g,r,pt,_⟩:=I.tuple E;have hl:=r.length;obtain⟨⟨p,dd,z,D⟩,ho,S,n,C⟩:=id pt;subst S C;have W:foldl (λK R=>K++R) #[] (replicate k.toNat g.toArray)=(replicate k.toNat g).flatten.toArray:=by
  have:=Wu g k.toNat [];exact this
 have c:(replicate k.toNat g).flatten.length<=sizeLine:=by rw[zAt,mul_comm,<- hl];exact hz
 have a:((g.toArray.size:Nat):Int)*k<=(sizeLine:Nat):=by
  rw[size_toArray,<- hl];by_cases V:0<=k
  ·obtain⟨m,rfl⟩:=Int.eq_ofNat_of_zero_le V
   have:Y.length*m<=sizeLine:=by exists hz
   exact_mod_cast this
  ·have:(Y.length:Int)*k<=0:=Int.mul_nonpos_of_nonneg_of_nonpos (Int.natCast_nonneg _) (by lia)
   lia
 refine wpAny_binaryOp_repeat_ref (T:="tuple") (U:="int") (by decide) ⟨_,ho,rfl⟩ (λj=>typeIs_int j k t) WP F.fills_int_mul F.slot_int_rmul Qt F.slot_int_index.lookup
  (call_meets F.slot_int_rmul (typeIs_int s k t) F.entry_int_rmul (F.args_int_rmul_2 _ _) (uE k t l g.toArray n dd D) ⟨ho,rfl,⟨_,ho,rfl⟩,?_⟩)
 refine uF pt L h2 a (λe=>⟨.ref l,H,I,rfl,q0 ?_⟩) (λe=>?_) ?_ ?_
 ·rcases e with e|e
  ·apply Or.inl
   have:g=[]:=by exists e
   exact r.nil_iff.mp this
  ·right;exact e
 ·have M:k.toNat=0:=by lia
  have G:=q s.heap.objs.size I.fresh;rw[M]at G;exact⟨.ref s.heap.objs.size,_,I.laid (t':=s.toks) (o:=.t []) (λb J q=>qA _ q) (le_refl _) ⟨zero_le _,[],.nil,IsTup.new _ _⟩,rfl,G⟩
 ·rw[W]
  exact⟨.ref s.heap.objs.size,_,I.laid (t':=s.toks) (o:=.t (replicate k.toNat Y).flatten) (λb J q=>qA _ q) (le_refl _) ⟨by rw[zAt,mul_comm];exact hz,_,r.rep k.toNat,IsTup.new _ _⟩,rfl,q _ I.fresh⟩
 ·rw[W]
  show(replicate k.toNat g).flatten.toArray.size<=sizeLine
  rw[size_toArray];exact c
end
end L2
namespace DV
open PySem L2
def cap:Nat:=1000000
def Zy(h:n<=cap):n<=sizeLine:=le_trans h (by rw[sizeLine_eq];decide)
abbrev Kt(K:qH)(g:Str->Lx Lv)(M:Lf)(H:Hp)(Z:Fz)(res:R)(Q:VK):Prop :=
 ∀v H',FR K g M H' ((some v,res.slot)::Z)->Step M H Z H' ((some v,res.slot)::Z)->Q v H'
def ROk(K:qH)(g:Str->Lx Lv)(rel:R2)(f:D->D->Lx R):Prop :=
 ∀(M:Lf) (H:Hp) (Z:Fz) (x y:V) (w O:D) (a:R) (Q:VK),FR K g M H Z->Rep K g (Hm (Mo M Z) H) w x->Rep K g (Hm (Mo M Z) H) O y->f w O=some a->Kt K g M H Z a Q->rel x y H Q
def COk(K:qH)(g:Str->Lx Lv)(rel:Ls V->Hp->VK->Prop)(f:Ls D->Lx R):Prop :=
 ∀(M:Lf) (H:Hp) (Z:Fz) (Y:Ls V) (G:Ls D) (a:R) (Q:VK),FR K g M H Z->Reps K g (Hm (Mo M Z) H) G Y->f G=some a->Kt K g M H Z a Q->rel Y H Q
section
variable{X:Cx}{K:qH}{mg:Str->Lx Lv}{M:Lf}{H H':Hp}{Z:Fz}{Q:VK}{O:St}
theorem Kt.flat(k:Kt K mg M H Z (.v d) Q)(f:FR K mg M H Z)(h:flat d=true):Q (flV d) H:=k _ _ (f.add (zBl h)) Step.refl.add
def Kt.rep(k:Kt K mg M H Z (.v d) Q)(f:FR K mg M H Z)(h:Rep K mg (Hm (Mo M Z) H) d v):Q v H:=k _ _ (f.add h) Step.refl.add
theorem Kt.tup{ds:Ls D}{xs:Ls V}{p:Lz}(k:Kt K mg M H Z (.v (.t ds)) Q)(f:FR K mg M H Z)(L:H p=none)(h:Reps K mg (Hm (Mo M Z) H) ds xs):Q (.ref p) (upd H p (.t xs)):=k _ _ (f.newTup L h) (Step.newVal L)
theorem Kt.own(k:Kt K mg M H Z (.w ds) Q)(f:FR K mg M H Z)(L:H p=none)(h:Reps K mg (Hm (Mo M Z) H) ds xs):Q (.ref p) (upd H p (.l xs)):=k _ _ (f.newOwn L h) (Step.newOwn f L)
def wy(f:D->D->Lx R)(a b:ME):ME:=λE=>match a E with
 | .z=>.z| .y x E1=>.y x E1
 | .ok (l,E1)=>match b E1 with
  | .z=>.z| .y x E2=>.y x E2
  | .ok (o,E2)=>match f l.d o.d with
   |some r=>.ok (r,E2)|none=>.z
def W0{f:D->D->Lx R}(q:ROk X.K X.mg rel f)(h:tM X (wy f a b) O H Q):tOp rel (tM X a) (tM X b) O H Q:=by
 obtain⟨M,E,hl,fr,k⟩:=h;unfold wy at k;refine z9 (T0:=[]) hl fr ?_;cases n:a E with
 |z=>rw[n]at k;exact k|y x E1=>rw[n]at k;exact λH' g=>k H' g
 |ok p =>
  obtain⟨l,E1⟩:=p;rw[n]at k;intro x H1 I;refine z9 (T0:=[(some x,l.slot)]) I.len I.fr ?_;dsimp at k;cases K:b E1 with
  |z=>rw[K]at k;exact k|y x E2=>rw[K]at k;exact λH' g=>k H' (I.trans' g).dropAll
  |ok p =>
   obtain⟨o,E2⟩:=p;rw[K]at k;intro y H2 Z;have g:=I.trans' Z;have e:=Got.reps (vs:=[y,x]) (rs:=[o,l]) rfl g;obtain⟨c,_,W,P,u,_,t,w,_⟩:=e;cases W;cases t;dsimp at k;exists ef,f l.d o.d,k,r;exact q M H2 _ x y l.d o.d r Q g.frame w P ef λv H' i j=>k v H' (g.more (T:=[(some v,r.slot)]) i j)
def zCp{f:D->D->Lx R}(J:OpR X (binaryOp op) rel)(z:ROk X.K X.mg rel f)(C:EOk X a ma)(Z:EOk X b mb):EOk X (.BinOp a op b pos) (wy f ma mb) :=
 yW (pe_op J C Z) λO H Q h=>W0 z h
def W1{f:D->D->Lx R}(J:OpR X (compareOp op) rel)(z:ROk X.K X.mg rel f)(Y:behindInMarks op b=false)(C:EOk X a ma)(Z:EOk X b mb):EOk X (.Compare a [op] [b] pos) (wy f ma mb) :=
 yW (pe_cmpR J C Z Y) λO H Q h=>W0 z h
def ok_ix{f:D->D->Lx R}(J:IxR X rel)(z:ROk X.K X.mg rel f)(T:GL b)(C:EOk X a ma)(Z:EOk X b mb):EOk X (.Subscript a b pos) (wy f ma mb) :=
 yW (pe_ix J C Z T) λO H Q h=>W0 z h
def tT(m:ME):MT:=λE=>match m E with
 | .z=>.z| .y x E1=>.y x E1| .ok (.v (.bl b),E1)=>.ok (b,E1)|_=>.z
def zDv{Q:Bool->Hp->Prop}(h:tMT X (tT m) O H Q):tM X m O H λx H'=>∃k,x=.bl k/\Q k H':=by
 obtain⟨M,E,hl,fr,k⟩:=h;refine⟨M,E,hl,fr,?_⟩;unfold tT at k;exists e,m E,k,r,E1;cases r with
 |w G=>exact k.elim|m _ _=>exact k.elim
 |v d =>
  cases d with
  |bl b =>
   intro v H' g;have a:=g.rep;exact⟨b,a,k H' g.dropAll⟩
  |_=>exact k.elim
def ok_test(h:EOk X e m)(c:∀w,isTrue e X.env w=(do let v <- w;standAt e.pos;holding [v] (truthy v)):=by intro _;rfl):TOk X e (tT m) :=
 Qp (pt_val h c) λO H Q q=>zDv q
def Yh{f:D->D->Lx R}(J:OpR X (compareOp op) rel)(z:ROk X.K X.mg rel f)(Y:behindInMarks op b=false)(C:EOk X a ma)(Z:EOk X b mb):TOk X (.Compare a [op] [b] pos) (tT (wy f ma mb)) :=
 Qp (pt_cmpR J C Z Y) λO H Q h=>W0 z (zDv h)
def jc(a b:MT):MT:=λE=>match a E with
 | .ok (true,E1)=>b E1|o=>o
def WQ(a b:MT):MT:=λE=>match a E with
 | .ok (false,E1)=>b E1|o=>o
def jn(a:MT):MT:=λE=>match a E with
 | .z=>.z| .y x E1=>.y x E1| .ok (b,E1)=>.ok (!b,E1)
def and_run{Q:Bool->Hp->Prop}(h:tMT X (jc a b) O H Q):tAnd (tMT X a) (tMT X b) O H Q:=by
 obtain⟨M,E,hl,fr,k⟩:=h;unfold jc at k;refine Jo (T0:=[]) hl fr ?_;exists ea,a E,k,c,E1;intro H1 I;cases c with
 |false=>exact zHi (k H1 I)
 |true =>
  refine zHj ?_;refine Jo (T0:=[]) I.len I.fr ?_;dsimp at k;cases K:b E1 with
  |z=>rw[K]at k;exact k|y x E2=>rw[K]at k;exact λH' g=>k H' (I.trans' g)|ok p=>rw[K]at k;exact λH' g=>k H' (I.trans' g)
def or_run{Q:Bool->Hp->Prop}(h:tMT X (WQ a b) O H Q):tOr (tMT X a) (tMT X b) O H Q:=by
 obtain⟨M,E,hl,fr,k⟩:=h;unfold WQ at k;refine Jo (T0:=[]) hl fr ?_;exists ea,a E,k,c,E1;intro H1 I;cases c with
 |true=>exact zHj (k H1 I)
 |false =>
  refine zHi ?_;refine Jo (T0:=[]) I.len I.fr ?_;dsimp at k;cases K:b E1 with
  |z=>rw[K]at k;exact k|y x E2=>rw[K]at k;exact λH' g=>k H' (I.trans' g)|ok p=>rw[K]at k;exact λH' g=>k H' (I.trans' g)
def not_run{Q:Bool->Hp->Prop}(h:tMT X (jn a) O H Q):tNot (tMT X a) O H Q:=by
 obtain⟨M,E,hl,fr,k⟩:=h;unfold jn at k;refine Jo (T0:=[]) hl fr ?_;cases R:a E with
 |z=>rw[R]at k;exact k|y x E1=>rw[R]at k;exact k|ok p=>rw[R]at k;exact k
abbrev WOk(X:Cx)(e:Lb)(m:MT):Prop:=PW X e (tMT X m)
def wk_and1(h:TOk X a m):WOk X (.BoolOp .And [a] pos) m:=pw_and1 h
def wk_or1(h:TOk X a m):WOk X (.BoolOp .Or [a] pos) m:=pw_or1 h
def zHp{a b:Lb}{c:Ls Lb}{t i:MT}{g:Pos}(C:TOk X a t)(Z:WOk X (.BoolOp .And (b::c) g) i):WOk X (.BoolOp .And (a::b::c) g) (jc t i):=zHm (pw_and C Z) λO H Q=>and_run
def wk_or{a b:Lb}{c:Ls Lb}{t i:MT}{g:Pos}(C:TOk X a t)(Z:WOk X (.BoolOp .Or (b::c) g) i):WOk X (.BoolOp .Or (a::b::c) g) (WQ t i):=zHm (pw_or C Z) λO H Q=>or_run
def tk_w(h:WOk X e m):TOk X e m:=h.pt
def tk_not(h:TOk X a m):TOk X (.UnaryOp .Not a pos) (jn m):=Qp (pt_not h) λO H Q=>not_run
def v5(a:ME):ME:=λE=>match a E with
 | .ok (.v (.bl b),E1)=>.ok (.v (.bl (!b)),E1)| .y x E1=>.y x E1|_=>.z
def W2(a b:ME):ME:=λE=>match a E with
 | .ok (.v (.bl true),E1)=>b E1| .ok (.v (.bl false),E1)=>.ok (.v (.bl false),E1)| .y x E1=>.y x E1|_=>.z
def eOr(a b:ME):ME:=λE=>match a E with
 | .ok (.v (.bl false),E1)=>b E1| .ok (.v (.bl true),E1)=>.ok (.v (.bl true),E1)| .y x E1=>.y x E1|_=>.z
def zGJ(h:tM X (v5 a) O H Q):tNotV (tM X a) O H Q:=by
 obtain⟨M,E,hl,fr,k⟩:=h;unfold v5 at k;refine z9 (T0:=[]) hl fr ?_;exists ea,a E,k,r,E1;cases r with
 |w G=>exact k.elim|m _ _=>exact k.elim
 |v d =>
  cases d with
  |bl b =>
   intro v H' g;have e:=g.rep;exact⟨b,e,k _ H' (g.flat (d:=.bl (!b)) rfl)⟩
  |_=>exact k.elim
def zGK(h:tM X (W2 a b) O H Q):tAndV (tM X a) (tM X b) O H Q:=by
 obtain⟨M,E,hl,fr,k⟩:=h;unfold W2 at k;refine z9 (T0:=[]) hl fr ?_;exists ea,a E,k,r,E1;cases r with
 |w G=>exact k.elim|m _ _=>exact k.elim
 |v d =>
  cases d with
  |bl c =>
   intro v H' g;have e:=g.rep;refine⟨c,e,?_⟩;cases c with
   |false=>exact zHi (k _ H' (g.flat (d:=.bl false) rfl))
   |true =>
    refine zHj (z9 (T0:=[]) g.len g.frame ?_);dsimp at k;cases K:b E1 with
    |z=>rw[K]at k;exact k|y x E2=>rw[K]at k;exact λH'' u=>k H'' (g.dropAll.trans' u)|ok p=>rw[K]at k;exact λi H'' u=>k i H'' (g.dropAll.trans' u)
  |_=>exact k.elim
def ok_not(h:EOk X a m):EOk X (.UnaryOp .Not a pos) (v5 m):=yW (pe_not h) λO H Q=>zGJ
def zHq{a b:Lb}{c:Ls Lb}{t i:ME}{g:Pos}(C:EOk X a t)(Z:EOk X (.BoolOp .And (b::c) g) i):EOk X (.BoolOp .And (a::b::c) g) (W2 t i):=yW (pe_and C Z) λO H Q=>zGK
def ok_one(h:EOk X a m):EOk X (.BoolOp op [a] pos) m:=pe_one h
def eIf(c:MT)(a b:ME):ME:=λE=>match c E with
 | .ok (true,E1)=>a E1| .ok (false,E1)=>b E1| .y x E1=>.y x E1| .z=>.z
def if_run(h:tM X (eIf c a b) O H Q):tIf (tMT X c) (tM X a) (tM X b) O H Q:=by
 obtain⟨M,E,hl,fr,k⟩:=h;unfold eIf at k;refine Jo (T0:=[]) hl fr ?_;exists ea,c E,k,t,E1;intro H1 I;cases t with
 |true =>
  refine zHj (z9 (T0:=[]) I.len I.fr ?_);dsimp at k;cases K:a E1 with
  |z=>rw[K]at k;exact k|y x E2=>rw[K]at k;exact λH' g=>k H' (I.trans' g)|ok p=>rw[K]at k;exact λv H' g=>k v H' (I.trans' g)
 |false =>
  refine zHi (z9 (T0:=[]) I.len I.fr ?_);dsimp at k;cases K:b E1 with
  |z=>rw[K]at k;exact k|y x E2=>rw[K]at k;exact λH' g=>k H' (I.trans' g)|ok p=>rw[K]at k;exact λv H' g=>k v H' (I.trans' g)
def ok_if(S:TOk X c mc)(C:EOk X a ma)(Z:EOk X b mb):EOk X (.IfExp c a b pos) (eIf mc ma mb):=yW (zFu S C Z) λO H Q=>if_run
def v6:MA:=λE=>.ok ([],E)
def jo(a:ME)(m:MA):MA:=λE=>match a E with
 | .z=>.z| .y x E1=>.y x E1
 | .ok (r,E1)=>match m E1 with
  | .z=>.z| .y x E2=>.y x E2| .ok (rs,E2)=>.ok (r::rs,E2)
def ak_nil:AOk X [] v6:=Qq Qg λO H Q ⟨M,E,hl,fr,k⟩=>k [] H rfl (Got.refl (T0:=[]) hl fr)
theorem Got.perm{g:Str->Lx Lv}{M:Lf}(a:Got K g M O E H T0 O1 E1 H1 T)(p:T.Perm T'):Got K g M O E H T0 O1 E1 H1 T' where
 len:=a.len
 fr:=a.fr.perm (p.append_right _)
 st:=a.st.weak (zB (p.append_right _).symm)
 pk:=a.pk
def zGL{Q:Ls V->Hp->Prop}(h:tMA X (jo a m) O H Q):tCons (tM X a) (tMA X m) O H Q:=by
 obtain⟨M,E,hl,fr,k⟩:=h;unfold jo at k;refine z9 (T0:=[]) hl fr ?_;exists ea,a E,k,r1,E1;intro x H1 I;refine Jp (T0:=[(some x,r1.slot)]) I.len I.fr ?_;dsimp at k;cases K:m E1 with
 |z=>rw[K]at k;exact k|y x E2=>rw[K]at k;exact λH' g=>k H' (I.trans' g).dropAll
 |ok p =>
  rw[K]at k;intro L H2 hv Z;refine k (x::L) H2 (by simp[hv]) ?_;exact(I.trans' Z).perm (perm_append_comm)
def ak_cons(C:EOk X e a)(Y:AOk X es m)(T:za e=false:=by rfl):AOk X (e::es) (jo a m):=Qq (Ye C Y (zw T)) λO H Q=>zGL
def eCB(f:Ls D->Lx R)(m:MA):ME:=λE=>match m E with
 | .z=>.z| .y x E1=>.y x E1
 | .ok (u,E1)=>match f (u.map R.d)with
  |some r=>.ok (r,E1)|none=>.z
def Qu{rel:Ls V->Hp->VK->Prop}{f:Ls D->Lx R}(z:COk X.K X.mg rel f)(h:tM X (eCB f m) O H Q):tCB rel (tMA X m) O H Q:=by
 obtain⟨M,E,hl,fr,k⟩:=h;unfold eCB at k;refine Jp (T0:=[]) hl fr ?_;exists ea,m E,k,rs,E1;intro L H1 hv g;have e:=Got.reps hv g;dsimp at k;cases q:f (rs.map R.d)with
 |none=>rw[q]at k;exact k.elim
 |some r =>
  rw[q]at k;exact z M H1 _ L _ r Q g.frame e q λv H' i j=>k v H' (g.more (T:=[(some v,r.slot)]) i j)
def v7(m:MA):ME:=eCB (λG=>if G.length<=cap then some (.v (.t G))else none) m
def v8(m:MA):ME:=eCB (λG=>if G.length<=cap then some (.w G)else none) m
def ok_tup(h:AOk X es m):EOk X (.Tuple es x1 pos) (v7 m) :=
 yW (pe_tup h) λO H Q q=>Qu (rel:=λY H1 Q=>Y.length<=sizeLine/\∀p,H1 p=none->Q (.ref p) (upd H1 p (.t Y))) (λM H Z Y G a Q f r e k=>by
  split at e
  ·rename_i S
   cases e;exact⟨by rw[r.length];exact Zy S,λp L=>k.tup f L r⟩
  ·cases e) q
def ok_lst(h:AOk X es m):EOk X (.List es pos) (v8 m) :=
 yW (pe_lst h) λO H Q q=>Qu (rel:=λY H1 Q=>Y.length<=sizeLine/\∀p,H1 p=none->Q (.ref p) (upd H1 p (.l Y))) (λM H Z Y G a Q f r e k=>by
  split at e
  ·rename_i S
   cases e;exact⟨by rw[r.length];exact Zy S,λp L=>k.own f L r⟩
  ·cases e) q
def JP{f:Ls D->Lx R}{m:MA}{rel:Ls V->Hp->VK->Prop}{id:String}{x:Str}{p g:Pos}{e:Lb}{es:Ls Lb}(S:jb X (.builtin id) rel)(z:COk X.K X.mg rel f)(t:Gl X x)(Y:X.mg x=none)(P:bootBuiltins x=some (.builtin id))(C:AOk X (e::es) m)(hn:x≠"__name__":=by decide)(a:(x==("__debug__":Str))=false:=by decide)
  (c:za e=false:=by rfl) (o:j7 es=true:=by rfl):EOk X (.Call (.Name x p) (e::es) [] g) (eCB f m) :=
 yW (zBj S t Y P C hn a (zw c) (Y3 o)) λO H Q q=>Qu z q
def Qv{f:Ls D->Lx R}{rel:Ls V->Hp->VK->Prop}(S:jb X (.type T) rel)(z:COk X.K X.mg rel f)(t:Gl X x)(Y:X.mg x=none)(P:bootBuiltins x=some (.type T))(C:AOk X (e::es) m)(hn:x≠"__name__":=by decide)(a:(x==("__debug__":Str))=false:=by decide)
  (c:za e=false:=by rfl) (o:j7 es=true:=by rfl):EOk X (.Call (.Name x p) (e::es) [] pos) (eCB f m) :=
 yW (zDe S t Y P C hn a (zw c) (Y3 o)) λO H Q q=>Qu z q
end
section
variable{X:Cx}{K:qH}{mg:Str->Lx Lv}
def zI(h:Rep K mg H (.int i) v):v=.int i:=by simpa only[Rep]using h
def jK(h:Rep K mg H (.bl i) v):v=.bl i:=by simpa only[Rep]using h
def wc(h:Rep K mg H (.str i) v):v=.str i:=by simpa only[Rep]using h
def jd(h:Rep K mg H .non v):v=.non:=by simpa only[Rep]using h
def zh(h:Rep K mg H (.t ds) v):∃a xs,v=.ref a/\SqT K H a xs/\Reps K mg H ds xs:=by simpa only[Rep]using h
def zU(h:Rep K mg H (.l ds) v):∃a xs,v=.ref a/\SqL K H a xs/\Reps K mg H ds xs:=by simpa only[Rep]using h
def yb(Y:flat d=true)(h:Rep K mg H d v):v=flV d:=by
 cases d<;>simp[flat]at Y<;>simpa only[Rep,flV]using h
def Yt:D->D->Lx R
 | .int i,.int j=>some (.v (.int (i+j)))| .t a,.t b=>if a.length+b.length<=cap then some (.v (.t (a++b)))else none| .l a,.l b=>if a.length+b.length<=cap then some (.w (a++b))else none|_,_=>none
def rAddD(K:qH):R2:=λx y H Q=>rI0 (λi j=>.int (i+j)) x y H Q\/(zHo K x y H Q\/rCatL K x y H Q)
def op_addD:OpR X (binaryOp .Add) (rAddD X.K):=op_add.or (zGH.or op_catL)
def ro_add:ROk K mg (rAddD K) Yt:=by
 intro M H Z x y w O h Q f c o e k;cases w with
 |int i =>
  cases O with
  |int j =>
   cases e;exact .inl ⟨i,j,zI c,zI o,k.flat f rfl⟩
  |_=>cases e
 |t a =>
  cases O with
  |t b =>
   dsimp[Yt]at e;split at e
   ·rename_i S
    cases e;obtain⟨p,Y,rfl,J,h2⟩:=zh c;obtain⟨q,T,rfl,g,h4⟩:=zh o;have z:=h2.length;have G:=h4.length;refine .inr (.inl ⟨p,q,Y,T,rfl,rfl,zm zM J,zm zM g,by rw[z,G];exact Zy S,λe=>?_,λ_ e=>?_,λ_ _ V L=>k.tup f L (h2.append h4)⟩)
    ·subst e
     have:a=[]:=by exists z.symm
     subst this;exact k.rep f (by exists o)
    ·subst e
     have:b=[]:=by exists G.symm
     subst this;exact k.rep f (by exists c)
   ·cases e
  |_=>cases e
 |l a =>
  cases O with
  |l b =>
   dsimp[Yt]at e;split at e
   ·rename_i S
    cases e;obtain⟨p,Y,rfl,J,h2⟩:=zU c;obtain⟨q,T,rfl,g,h4⟩:=zU o;have z:=h2.length;have G:=h4.length;exact .inr (.inr ⟨p,q,Y,T,rfl,rfl,zM.seq J,zM.seq g,by rw[z,G];exact Zy S,λV L=>k.own f L (h2.append h4)⟩)
   ·cases e
  |_=>cases e
 |_=>cases e
def zDw(C:Ll)(g:Int->Int->D):D->D->Lx R
 | .int i,.int j=>if C i j=true then some (.v (g i j))else none|_,_=>none
def zDx{C:Ll}{P:Int->Int->Prop}{g:Int->Int->D}{c:Int->Int->V}(X:∀i j,C i j=true->P i j)(t:∀i j,flat (g i j)=true/\flV (g i j)=c i j):ROk K mg (rI P c) (zDw C g):=by
 intro M H Z x y w O a Q f l o e k;cases w with
 |int i =>
  cases O with
  |int j =>
   dsimp[zDw]at e;split at e
   ·rename_i S
    cases e;refine⟨i,j,zI l,zI o,X i j S,?_⟩;have:=k.flat f (t i j).1;rw[(t i j).2]at this;exact this
   ·cases e
  |_=>cases e
 |_=>cases e
def Qw(g:Int->Int->D):D->D->Lx R
 | .int i,.int j=>some (.v (g i j))|_,_=>none
def W3{g:Int->Int->D}{c:Int->Int->V}(t:∀i j,flat (g i j)=true/\flV (g i j)=c i j):ROk K mg (rI0 c) (Qw g):=by
 intro M H Z x y w O a Q f l o e k;cases w with
 |int i =>
  cases O with
  |int j =>
   cases e;refine⟨i,j,zI l,zI o,?_⟩;have:=k.flat f (t i j).1;rw[(t i j).2]at this;exact this
  |_=>cases e
 |_=>cases e
abbrev zCq:=Qw λi j=>.int (i-j)
def ro_sub:ROk K mg (rI0 λi j=>.int (i-j)) zCq:=W3 λ_ _=>⟨rfl,rfl⟩
def Big:Nat:=2^4000
def zDy(h:n<Big):n.log2<4000:=by
 by_cases P:n=0
 ·subst P;left
 ·exact(Nat.log2_lt P).mpr h
def zBn(h:i.natAbs<Big):Builtin.Int.intBits i<=4000:=by
 unfold Builtin.Int.intBits;split
 ·exact zero_le _
 ·exact zDy h
def zDz(J:i.natAbs<Big)(Y:j.natAbs<Big):IntMulOk i j:=by
 have r:=zBn J;have E:=zBn Y;unfold IntMulOk;have:Builtin.Int.intTooBig (((Builtin.Int.intBits i:Nat):Int)+(Builtin.Int.intBits j:Nat))=false:=by
  unfold Builtin.Int.intTooBig bitsLine;dsimp[decide_eq_false_iff_not];lia
 rw[this,Bool.and_false];decide
def CDivB(i j:Int):Prop:=0<j/\(j<1073741824\/j.natAbs<Big)
def zGM:OpR X (binaryOp .FloorDiv) (rI CDivB λi j=>.int (i/j)):=opI λi j _ _ _ _ _ S q=>by
 have J:(0:Int)<j:=S.1;refine PyProof.Rows.floordiv_int (by lia) (by rw[Int.fdiv_eq_ediv_of_nonneg i (by lia)];exact q) (.inl ?_);rcases S.2 with h|h
 ·exact PyProof.noPylong_small (by lia)
 ·exact PyProof.noPylong_of_log2 (lt_of_lt_of_le (zDy h) (by decide))
def CMulB(i j:Int):Prop:=CMul i j\/(i.natAbs<Big/\j.natAbs<Big)
def op_mulB:OpR X (binaryOp .Mult) (rI CMulB λi j=>.int (i*j)):=opI λ_ _ _ _ _ _ _ S q=>PyProof.Rows.mul_int q (by
 rcases S with h|h
 ·exact h.ok
 ·exact zDz h.1 h.2)
abbrev zCr:=zDw (λ_ j=>decide (0<j/\(j<1073741824\/j.natAbs<Big))) λi j=>.int (i/j)
def ro_fdiv:ROk K mg (rI CDivB λi j=>.int (i/j)) zCr:=zDx (λi j h=>(of_decide_eq_true h:0<j/\(j<1073741824\/j.natAbs<Big))) λ_ _=>⟨rfl,rfl⟩
abbrev zHr:=zDw (λ_ j=>decide (0<j)) λi j=>.int (i%j)
def ro_mod:ROk K mg (rI (λ_ j=>0<j) λi j=>.int (i%j)) zHr:=zDx (λi j h=>of_decide_eq_true h) λ_ _=>⟨rfl,rfl⟩
abbrev powD:=zDw (λi j=>decide (0<=j/\j<=1000000/\i.natAbs<2^64)) λi j=>.int (i^j.toNat)
def ro_pow:ROk K mg (rI CPow λi j=>.int (i^j.toNat)) powD:=zDx (λi j h=>(of_decide_eq_true h:0<=j/\j<=1000000/\i.natAbs<2^64)) λ_ _=>⟨rfl,rfl⟩
def J8:D->D->Lx R
 | .int i,.int j=>if((-(2^64)<i/\i<2^64)\/(-(2^64)<j/\j<2^64))\/(i.natAbs<Big/\j.natAbs<Big)then some (.v (.int (i*j)))else none| .t a,.int k=>if -(2^63)<=k/\k<2^63/\a.length*k.toNat<=cap then some (.v (.t (replicate k.toNat a).flatten))else none|_,_=>none
def rMulD(K:qH):R2:=λx y H Q=>rI CMulB (λi j=>.int (i*j)) x y H Q\/rRepT K x y H Q
def op_mulD:OpR X (binaryOp .Mult) (rMulD X.K):=op_mulB.or op_repT
def ro_mul:ROk K mg (rMulD K) J8:=by
 intro M H Z x y w O c Q f l o e k;cases w with
 |int i =>
  cases O with
  |int j =>
   dsimp[J8]at e;split at e
   ·rename_i S
    cases e;exact .inl ⟨i,j,zI l,zI o,S,k.flat f rfl⟩
   ·cases e
  |_=>cases e
 |t a =>
  cases O with
  |int n =>
   dsimp[J8]at e;split at e
   ·rename_i S
    cases e;obtain⟨p,Y,rfl,J,h2⟩:=zh l;have z:=h2.length;refine .inr ⟨p,n,Y,rfl,zI o,zm zM J,S.1,S.2.1,by rw[z];exact Zy S.2.2,λe=>?_,λV L=>k.tup f L (h2.flatten _)⟩;refine k.rep f ?_;rcases e with e|e
    ·subst e
     have:a=[]:=by exists z.symm
     subst this;exists l
    ·subst e
     exists l
   ·cases e
  |_=>cases e
 |_=>cases e
abbrev ltD:=Qw λi j=>.bl (decide (i<j))
def ro_lt:ROk K mg (rI0 λi j=>.bl (decide (i<j))) ltD:=W3 λ_ _=>⟨rfl,rfl⟩
abbrev leD:=Qw λi j=>.bl (decide (i<=j))
def ro_le:ROk K mg (rI0 λi j=>.bl (decide (i<=j))) leD:=W3 λ_ _=>⟨rfl,rfl⟩
abbrev gtD:=Qw λi j=>.bl (decide (j<i))
def ro_gt:ROk K mg (rI0 λi j=>.bl (decide (j<i))) gtD:=W3 λ_ _=>⟨rfl,rfl⟩
abbrev geD:=Qw λi j=>.bl (decide (j<=i))
def ro_ge:ROk K mg (rI0 λi j=>.bl (decide (j<=i))) geD:=W3 λ_ _=>⟨rfl,rfl⟩
def eqF:D->D->Lx R
 | .int i,.int j=>some (.v (.bl (decide (i=j))))| .bl i,.bl j=>some (.v (.bl (decide (i=j))))| .str i,.str j=>some (.v (.bl (decide (i=j))))|_,_=>none
def neF:D->D->Lx R
 | .int i,.int j=>some (.v (.bl (!decide (i=j))))| .bl i,.bl j=>some (.v (.bl (!decide (i=j))))| .str i,.str j=>some (.v (.bl (!decide (i=j))))|_,_=>none
def vint:decide (V.int i=V.int j)=decide (i=j):=by simp
def vbl:decide (V.bl i=V.bl j)=decide (i=j):=by simp
def vstr:decide (V.str i=V.str j)=decide (i=j):=by simp
def ro_eq:ROk K mg rEq eqF:=by
 intro M H Z x y w O a Q f l o e k;cases w<;>cases O<;>cases e
 ·rw[jK l,jK o];refine⟨rfl,?_⟩;rw[vbl];exact k.flat f rfl
 ·rw[zI l,zI o];refine⟨rfl,?_⟩;rw[vint];exact k.flat f rfl
 ·rw[wc l,wc o];refine⟨rfl,?_⟩;rw[vstr];exact k.flat f rfl
def ro_ne:ROk K mg rNe neF:=by
 intro M H Z x y w O a Q f l o e k;cases w<;>cases O<;>cases e
 ·rw[jK l,jK o];refine⟨rfl,?_⟩;rw[vbl];exact k.flat f rfl
 ·rw[zI l,zI o];refine⟨rfl,?_⟩;rw[vint];exact k.flat f rfl
 ·rw[wc l,wc o];refine⟨rfl,?_⟩;rw[vstr];exact k.flat f rfl
def wz(h:flat d=true):zDj (flV d)=true:=by cases d<;>simp[flat]at h<;>rfl
def ixD:D->D->Lx R
 | .t G,.int i=>(atI G i).map .v| .l G,.int i=>(atI G i).map .v|_,_=>none
def WX(h:Reps K mg H ds xs)(e:atI ds i=some d):∃v,atI xs i=some v/\Rep K mg H d v:=by
 unfold atI at e ⊢;have hl:=h.length;rw[hl];exists hj,ixN ds.length i,e,j;exact h.get' e
def ro_ix:ROk K mg (λx y H Q=>rIxL K x y H Q\/rIxT K x y H Q) ixD:=by
 intro M H Z x y w O a Q f c o e k;cases w with
 |t G =>
  cases O with
  |int i =>
   dsimp[ixD]at e;exists ea,atI G i,e,d;cases e;obtain⟨p,Y,rfl,J,h2⟩:=zh c;obtain⟨v,W,P⟩:=WX h2 ea;exact .inr ⟨p,Y,i,v,rfl,zI o,zm zM J,W,k.rep f P⟩
  |_=>cases e
 |l G =>
  cases O with
  |int i =>
   dsimp[ixD]at e;exists ea,atI G i,e,d;cases e;obtain⟨p,Y,rfl,J,h2⟩:=zU c;obtain⟨v,W,P⟩:=WX h2 ea;exact .inl ⟨p,Y,i,v,rfl,zI o,zM.seq J,W,k.rep f P⟩
  |_=>cases e
 |_=>cases e
def ix_both:IxR X (λx y H Q=>rIxL X.K x y H Q\/rIxT X.K x y H Q):=zDi.or zHf
def zCs:Ls D->Lx R
 | [.t G]=>some (.v (.int G.length))| [.l G]=>some (.v (.int G.length))|_=>none
def JQ(h:Reps K mg H [d] xs):∃v,xs=[v]/\Rep K mg H d v:=by
 dsimp[Reps]at h;obtain⟨v,r,rfl,J,rfl⟩:=h;exact⟨v,rfl,J⟩
def zGN(h:Reps K mg H [d,e] xs):∃v w,xs=[v,w]/\Rep K mg H d v/\Rep K mg H e w:=by
 dsimp[Reps]at h;obtain⟨v,r,rfl,J,w,L,rfl,h2,rfl⟩:=h;exact⟨v,w,rfl,J,h2⟩
def co_len:COk K mg (λY H Q=>∃p T,Y=[.ref p]/\(SqL K H p T\/SqT K H p T)/\Q (.int T.length) H) zCs:=by
 intro M H Z Y G a Q f r e k
 match G,e with
 | [.t G],e =>
  cases e;obtain⟨v,rfl,h⟩:=JQ r;obtain⟨p,T,rfl,J,h2⟩:=zh h;refine⟨p,T,rfl,.inr (zm zM J),?_⟩;rw[h2.length];exact k.flat f rfl
 | [.l G],e =>
  cases e;obtain⟨v,rfl,h⟩:=JQ r;obtain⟨p,T,rfl,J,h2⟩:=zU h;refine⟨p,T,rfl,.inl (zM.seq J),?_⟩;rw[h2.length];exact k.flat f rfl
def v9:Ls D->Lx R
 | [.int i,.int j]=>some (.v (.int (if j > i then j else i)))|_=>none
def co_max:COk K mg (λY H Q=>∃i j,Y=[.int i,.int j]/\Q (.int (if j > i then j else i)) H) v9:=by
 intro M H Z Y G a Q f r e k
 match G,e with
 | [.int i,.int j],e =>
  cases e;obtain⟨v,w,rfl,J,h2⟩:=zGN r;exact⟨i,j,by rw[zI J,zI h2],k.flat f rfl⟩
def intF:Ls D->Lx R
 | [.int i]=>some (.v (.int i))| [.bl b]=>some (.v (.int (if b then 1 else 0)))|_=>none
def co_int:COk K mg (λY H Q=>(∃i,Y=[.int i]/\Q (.int i) H)\/∃k,Y=[.bl k]/\Q (.int (if k then 1 else 0)) H) intF:=by
 intro M H Z Y G a Q f r e k
 match G,e with
 | [.int i],e =>
  cases e;obtain⟨v,rfl,J⟩:=JQ r;exact .inl ⟨i,by rw[zI J],k.flat f rfl⟩
 | [.bl b],e =>
  cases e;obtain⟨v,rfl,J⟩:=JQ r;exact .inr ⟨b,by rw[jK J],k.flat f rfl⟩
def zHs:Ls D->Lx R
 | [.l G]=>some (.v (.t G))| [.t G]=>some (.v (.t G))|_=>none
def zGO:COk K mg (λY H Q=>∃p T,Y=[.ref p]/\((SqL K H p T/\∀l,H l=none->Q (.ref l) (upd H l (.t T)))\/(SqT K H p T/\Q (.ref p) H))) zHs:=by
 intro M H Z Y G a Q f r e k
 match G,e with
 | [.l G],e =>
  cases e;obtain⟨v,rfl,h⟩:=JQ r;obtain⟨p,T,rfl,J,h2⟩:=zU h;exact⟨p,T,rfl,.inl ⟨zM.seq J,λl hl=>k.tup f hl h2⟩⟩
 | [.t G],e =>
  cases e;obtain⟨v,rfl,h⟩:=JQ r;have y:=h;obtain⟨p,T,rfl,J,h2⟩:=zh h;exact⟨p,T,rfl,.inr ⟨zm zM J,k.rep f y⟩⟩
def wd:Ls D->Lx (Ls Bool)
 | []=>some []| .bl b::ds=>(wd ds).map (b::·)|_=>none
theorem ug:∀{G:Ls D} {Y:Ls V} {bs:Ls Bool},wd G=some bs->Reps K mg H G Y->Y=bs.map V.bl
 | [],_,_,e,h=>by cases e;dsimp[Reps]at h;subst h;rfl
 |d::G,_,bs,e,h=>by
  obtain⟨v,r,rfl,J,h2⟩:=h;cases d with
  |bl b =>
   dsimp[wd]at e;exists eb,wd G,e,cs;cases e;rw[jK J,ug eb h2];rfl
  |_=>cases e
def allD:Ls D->Lx R
 | [.l G]=>(wd G).map λbs=>.v (.bl (bs.all id))|_=>none
def co_all:COk K mg (λY H Q=>∃(p:Lz) (bs:Ls Bool),Y=[.ref p]/\SqL K H p (bs.map V.bl)/\Q (.bl (bs.all id)) H) allD:=by
 intro M H Z Y G a Q f r e k
 match G,e with
 | [.l G],e =>
  dsimp[allD]at e;exists eb,wd G,e,bs;cases e;obtain⟨v,rfl,h⟩:=JQ r;obtain⟨p,T,rfl,J,h2⟩:=zU h;have:=ug eb h2;subst this;exact⟨p,bs,rfl,zM.seq J,k.flat f rfl⟩
end
abbrev MO:=zS->Out (Lx Int×zS)
def tMO(X:Cx)(m:MO):TO:=λO H Q=>∃M E,E.length=O.length/\FR X.K X.mg M H (O.zip E)/\match m E with
 | .z=>False| .ok (b,E')=>∀H',Got X.K X.mg M O E H [] O E' H' []->Q b H'| .y x E'=>∀H',Got X.K X.mg M O E H [] O E' H' []->XE X O H' x
section
variable{X:Cx}{K:qH}{mg:Str->Lx Lv}{O:St}{M:Lf}{E:zS}{H:Hp}{T0:Fz}
def zD0{Q:Lx Int->Hp->Prop}(c:E.length=O.length)(h:FR X.K X.mg M H (T0++O.zip E))
  (k:match m E with | .z=>False | .ok (b,E')=>∀H',Got X.K X.mg M O E H T0 O E' H' []->Q b H' | .y x E'=>∀H',Got X.K X.mg M O E H T0 O E' H' []->XE X O H' x):tMO X m O H Q:=by
 refine⟨Mo M T0,E,c,h.inner,?_⟩;cases e:m E with
 |z=>rw[e]at k;exact k|ok a=>rw[e]at k;exact λH' g=>k H' (g.outer h)|y x E'=>rw[e]at k;exact λH' g=>k H' (g.outer h)
abbrev OOk(X:Cx)(e:Lx Lb)(m:MO):Prop:=PO X e (tMO X m)
def zHt(h:PO X e t)(i:∀O H Q,t' O H Q->t O H Q):PO X e t':=λG s O H Q I q=>h G s O H Q I (i O H Q q)
def zGP:MO:=λE=>.ok (none,E)
def zCt(m:ME):MO:=λE=>match m E with
 | .ok (.v (.int i),E1)=>.ok (some i,E1)| .y x E1=>.y x E1|_=>.z
def oo_none:OOk X none zGP:=zHt po_none λO H Q ⟨M,E,hl,fr,k⟩=>k H (Got.refl (T0:=[]) hl fr)
def oo_some(h:EOk X e m):OOk X (some e) (zCt m):=zHt (po_some h) λO H Q ⟨M,E,hl,fr,k⟩=>by
 unfold zCt at k;refine z9 (T0:=[]) hl fr ?_;exists ea,m E,k,r,E1;cases r with
 |w G=>exact k.elim|m _ _=>exact k.elim
 |v d =>
  cases d with
  |int i =>
   intro v H' g;exact⟨i,zI g.rep,k H' g.dropAll⟩
  |_=>exact k.elim
def eSl(f:D->Lx Int->Lx Int->Lx R)(a:ME)(lo hi:MO):ME:=λE=>match a E with
 | .z=>.z| .y x E1=>.y x E1
 | .ok (r,E1)=>match lo E1 with
  | .z=>.z| .y x E2=>.y x E2
  | .ok (l,E2)=>match hi E2 with
   | .z=>.z| .y x E3=>.y x E3
   | .ok (u,E3)=>match f r.d l u with
    |some r=>.ok (r,E3)|none=>.z
def Zz(ds:Ls D)(lo hi:Lx Int):Ls D:=(ds.drop (HT.sIx ds.length 0 lo)).take (HT.sIx ds.length ds.length hi-HT.sIx ds.length 0 lo)
def slD:D->Lx Int->Lx Int->Lx R
 | .t G,z,a=>some (.v (.t (Zz G z a)))| .l G,z,a=>some (.w (Zz G z a))|_,_,_=>none
def zBo(h:Reps K mg H ds xs)(lo hi:Lx Int):Reps K mg H (Zz ds lo hi) (zF7 xs lo hi):=by
 unfold Zz zF7;rw[h.length];exact(h.drop _).take _
def sl_run(h:tM X (eSl slD a lo hi) O H Q):tSl (λx l u H Q=>rSlTT X.K x l u H Q\/rSlL X.K x l u H Q) (tM X a) (tMO X lo) (tMO X hi) O H Q:=by
 obtain⟨M,E,hl,fr,k⟩:=h;unfold eSl at k;refine z9 (T0:=[]) hl fr ?_;cases R:a E with
 |z=>rw[R]at k;exact k|y x E1=>rw[R]at k;exact λH' g=>k H' g
 |ok p =>
  obtain⟨o,E1⟩:=p;rw[R]at k;intro x H1 I;refine zD0 (T0:=[(some x,o.slot)]) I.len I.fr ?_;dsimp at k;cases K:lo E1 with
  |z=>rw[K]at k;exact k|y x E2=>rw[K]at k;exact λH' g=>k H' (I.trans' g).dropAll
  |ok p =>
   obtain⟨l,E2⟩:=p;rw[K]at k;intro H2 Z;have e:=I.trans' Z;refine zD0 (T0:=[(some x,o.slot)]) e.len e.fr ?_;dsimp at k;cases P:hi E2 with
   |z=>rw[P]at k;exact k|y x E3=>rw[P]at k;exact λH' g=>k H' (e.trans' g).dropAll
   |ok p =>
    obtain⟨u,E3⟩:=p;rw[P]at k;intro H3 S;have g:=e.trans' S;have w:=g.rep;have f:=g.frame;cases c:o.d with
    |t ds =>
     rw[c]at k w;have n:Kt X.K X.mg M H3 (O.zip E3) (.v (.t (Zz ds l u))) Q:=λv H' i j=>k v H' (g.more (T:=[(some v,_)]) i j)
     obtain⟨p,Y,rfl,J,h2⟩:=zh w;refine .inl ⟨p,Y,rfl,zm zM J,λC=>n.rep f ?_,λ_ V L=>n.tup f L (zBo h2 l u)⟩;have:Zz ds l u=ds:=by
      have hl:=h2.length;rw[hl]at C;unfold Zz;rw[C.1,C.2];simp
     rw[this];exact w
    |l ds =>
     rw[c]at k w;have n:Kt X.K X.mg M H3 (O.zip E3) (.w (Zz ds l u)) Q:=λv H' i j=>k v H' (g.more (T:=[(some v,_)]) i j)
     obtain⟨p,Y,rfl,J,h2⟩:=zU w;exact .inr ⟨p,Y,rfl,zM.seq J,λV L=>n.own f L (zBo h2 l u)⟩
    |_=>rw[c]at k;exact k.elim
def ok_sl(C:EOk X a ma)(c:OOk X lo ml)(P:OOk X hi mh):EOk X (.Subscript a (.Slice lo hi none p2) pos) (eSl slD ma ml mh) :=
 yW (zF6 (sl_tupT.or sl_list) C c P) λO H Q=>sl_run
def tyD:D->Lx String
 | .non=>some "NoneType"| .bl _=>some "bool"| .int _=>some "int"| .str _=>some "str"| .t _=>some "tuple"| .l _=>some "list"| .dic=>some "dict"| .fn _=>none| .exn _ _=>none| .m _ _=>none
def zAy(t T:String):Bool:=t==T||(t == "bool"&&T == "int")
def zGQ(V:∀t∈["NoneType","bool","int","str","tuple","list","dict"],kitOne X.K (.type t) (.type T)=some (zAy t T)) :
  jb X (.builtin "isinstance") (λY H Q=>∃x d t,Y=[x,.ty T]/\Rep X.K X.mg H d x/\tyD d=some t/\Q (.bl (zAy t T)) H):=by
 intro G s O H Y K Q I r h;obtain⟨x,d,t,rfl,R,C,q⟩:=h;obtain⟨u,v,rfl,w,j⟩:=vals2 r;cases (show v=Value.type T from j);have c:∀M,EP X G O Q (.bool (zAy t T)) {s with toks:=M}:=λM=>⟨.bl _,H,I.tok M,rfl,q⟩
 cases d with
 |non=>cases C;rw[jd R]at w;cases (show u=Value.none from w);exact kia_one PySem.W.kitx_none I.kIn True.intro (V _ (by simp)) (λz=>nomatch z) c|bl b=>cases C;rw[jK R]at w;cases (show u=Value.bool b from w);exact kia_one PySem.W.kitx_bool I.kIn True.intro (V _ (by simp)) (λz=>nomatch z) c|int i=>cases C;rw[zI R]at w;obtain⟨t,q⟩:=(show ∃t,u=Value.int i t from w);cases q;exact kia_one PySem.W.kitx_int I.kIn True.intro (V _ (by simp)) (λz=>nomatch z) c|str y=>cases C;rw[wc R]at w;obtain⟨t,q⟩:=(show ∃t,u=Value.str y t from w);cases q;exact kia_one PySem.W.kitx_str I.kIn True.intro (V _ (by simp)) (λz=>nomatch z) c
 |t k =>
  cases C;obtain⟨a,Y,rfl,J,_⟩:=zh R;cases (show u=Value.ref a from w);obtain⟨g,_,p,_⟩:=I.tuple J;obtain⟨o,W,P,_⟩:=p;exact kia_one PySem.W.kitx_tuple I.kIn ⟨o,W,P⟩ (V _ (by simp)) (λz=>nomatch z) c
 |l k =>
  cases C;obtain⟨a,Y,rfl,J,_⟩:=zU R;cases (show u=Value.ref a from w);obtain⟨g,_,p,_⟩:=I.list J;obtain⟨o,n,W,P,_⟩:=p;exact kia_one PySem.W.kitx_list I.kIn ⟨o,W,P⟩ (V _ (by simp)) (λz=>nomatch z) c
 |dic =>
  cases C;obtain⟨a,rfl,e⟩:=R;cases (show u=Value.ref a from w);obtain⟨_,_,L,_,p⟩:=(show JH X.prog X.w H s.heap a (.dK [])from I.hok a _ e);obtain⟨o,E,D,J,h2,_⟩:=p;exact kia_one PySem.W.kitx_dict I.kIn ⟨o,J,h2.1⟩ (V _ (by simp)) (λz=>nomatch z) c
 |fn x=>cases C|exn x y=>cases C|m _ _=>cases C
def eIs(T:String)(m:ME):ME:=λE=>match m E with
 | .z=>.z| .y x E1=>.y x E1
 | .ok (r,E1)=>match tyD r.d with
  |some t=>.ok (.v (.bl (zAy t T)),E1)|none=>.z
def ok_is(V:∀t∈["NoneType","bool","int","str","tuple","list","dict"],kitOne X.K (.type t) (.type T)=some (zAy t T))(j:Gl X "isinstance")(Y:X.mg "isinstance"=none)
  (i:Gl X x) (h:X.mg x=none) (e:bootBuiltins x=some (.type T)) (C:EOk X a m) (P:bootBuiltins "isinstance"=some (.builtin "isinstance")) (hn:x≠"__name__":=by decide) (hd:(x==("__debug__":Str))=false:=by decide)
  (c:za a=false:=by rfl) :
  EOk X (.Call (.Name "isinstance" p) [a,.Name x p1] [] pos) (eIs T m):=by
 refine yW (zBj (zGQ V) j Y P (Ye C (Ye (pe_bltn (v:=.ty T) i h e rfl hn hd) Qg (zw rfl)) (zw c)) (by decide) (by decide) (zw c) (Y3 rfl)) λO H Q ⟨M,E,hl,fr,k⟩=>?_
 unfold eIs at k;refine z9 (T0:=[]) hl fr ?_;exists ea,m E,k,r,E1;intro v H' g;dsimp at k;exists et,tyD r.d,k,t;exact⟨v,r.d,t,rfl,g.rep.mono zM,et,k _ H' (g.flat (d:=.bl (zAy t T)) rfl)⟩
inductive Fl where
 |nx
 |ret (r:R)
 |bk
 |ct
 deriving Inhabited
abbrev MS:=zS->Out (Fl×zS)
def KS(X:Cx)(M:Lf)(O:St)(E:zS)(H:Hp)(T0:Fz)(D:Ends):Out (Fl×zS)->Prop
 | .z=>False| .ok (.nx,E')=>∀O' H',Got X.K X.mg M O E H T0 O' E' H' []->D.nx O' H'| .ok (.bk,E')=>∀O' H',Got X.K X.mg M O E H T0 O' E' H' []->D.bk O' H'| .ok (.ct,E')=>∀O' H',Got X.K X.mg M O E H T0 O' E' H' []->D.ct O' H'| .ok (.ret r,E')=>∀v O' H',Got X.K X.mg M O E H T0 O' E' H' [(some v,r.slot)]->D.rt v H'| .y x E'=>∀O' H',Got X.K X.mg M O E H T0 O' E' H' []->XE X O' H' x
def tS(X:Cx)(m:MS):TS:=λD O H=>∃M E,E.length=O.length/\FR X.K X.mg M H (O.zip E)/\KS X M O E H [] D (m E)
abbrev SOk(X:Cx)(st:Lh)(m:MS):Prop:=PS X st (tS X m)
abbrev zAp(X:Cx)(st:Ls Lh)(m:MS):Prop:=PSs X st (tS X m)
def uh{m:MS}{D:Ends}(c:E.length=O.length)(h:FR X.K X.mg M H (T0++O.zip E))
  (k:KS X M O E H T0 D (m E)):tS X m D O H:=by
 refine⟨Mo M T0,E,c,h.inner,?_⟩;cases e:m E with
 |z=>rw[e]at k;exact k
 |ok a =>
  obtain⟨L,E'⟩:=a;rw[e]at k;cases L with
  |nx=>exact λO' H' g=>k O' H' (g.outer h)|bk=>exact λO' H' g=>k O' H' (g.outer h)|ct=>exact λO' H' g=>k O' H' (g.outer h)|ret r=>exact λv O' H' g=>k v O' H' (g.outer h)
 |y x E'=>rw[e]at k;exact λO' H' g=>k O' H' (g.outer h)
def uA:MS:=λE=>.ok (.nx,E)
def Z0(a b:MS):MS:=λE=>match a E with
 | .ok (.nx,E1)=>b E1|o=>o
def sk_nil:zAp X [] uA:=zDs pss_nil λD O H ⟨M,E,hl,fr,k⟩=>k O H (Got.refl (T0:=[]) hl fr)
def sk_one(h:SOk X st m):zAp X [st] m:=pss_one h
def seq_run{a b:MS}{D:Ends}(h:tS X (Z0 a b) D O H):tSeq (tS X a) (tS X b) D O H:=by
 obtain⟨M,E,hl,fr,k⟩:=h;unfold Z0 at k;refine uh (T0:=[]) hl fr ?_;exists ea,a E,k,fl,E1;cases fl with
 |bk=>exact k|ct=>exact k|ret r=>exact k
 |nx =>
  intro O1 H1 I;refine uh (T0:=[]) I.len I.fr ?_;dsimp at k;cases K:b E1 with
  |z=>rw[K]at k;exact k|y x E2=>rw[K]at k;exact λO' H' g=>k O' H' (I.trans' g)
  |ok p =>
   obtain⟨c,E2⟩:=p;rw[K]at k;cases c with
   |nx=>exact λO' H' g=>k O' H' (I.trans' g)|bk=>exact λO' H' g=>k O' H' (I.trans' g)|ct=>exact λO' H' g=>k O' H' (I.trans' g)|ret r=>exact λv O' H' g=>k v O' H' (I.trans' g)
def sk_cons{st:Lh}{c:Ls Lh}{a b:MS}(J:SOk X st a)(Y:zAp X c b):zAp X (st::c) (Z0 a b):=zDs (zFv J Y) λD O H=>seq_run
def sIf(c:MT)(a b:MS):MS:=λE=>match c E with
 | .ok (true,E1)=>a E1| .ok (false,E1)=>b E1| .y x E1=>.y x E1| .z=>.z
def tS_go{m:MS}{D:Ends}{O1:St}{E1:zS}{H1:Hp}(g1:Got X.K X.mg M O E H [] O1 E1 H1 [])
  (k:match m E1 with
   | .z=>False| .ok (.nx,E')=>∀O' H',Got X.K X.mg M O E H [] O' E' H' []->D.nx O' H'| .ok (.bk,E')=>∀O' H',Got X.K X.mg M O E H [] O' E' H' []->D.bk O' H'| .ok (.ct,E')=>∀O' H',Got X.K X.mg M O E H [] O' E' H' []->D.ct O' H'| .ok (.ret r,E')=>∀v O' H',Got X.K X.mg M O E H [] O' E' H' [(some v,r.slot)]->D.rt v H'
   | .y x E'=>∀O' H',Got X.K X.mg M O E H [] O' E' H' []->XE X O' H' x):tS X m D O1 H1:=by
 refine uh (T0:=[]) g1.len g1.fr ?_;cases K:m E1 with
 |z=>rw[K]at k;exact k|y x E2=>rw[K]at k;exact λO' H' g=>k O' H' (g1.trans' g)
 |ok p =>
  obtain⟨c,E2⟩:=p;rw[K]at k;cases c with
  |nx=>exact λO' H' g=>k O' H' (g1.trans' g)|bk=>exact λO' H' g=>k O' H' (g1.trans' g)|ct=>exact λO' H' g=>k O' H' (g1.trans' g)|ret r=>exact λv O' H' g=>k v O' H' (g1.trans' g)
def sif_run{c:MT}{a b:MS}{D:Ends}(h:tS X (sIf c a b) D O H):tIfS (tMT X c) (tS X a) (tS X b) D O H:=by
 obtain⟨M,E,hl,fr,k⟩:=h;unfold sIf at k;refine Jo (T0:=[]) hl fr ?_;cases R:c E with
 |z=>rw[R]at k;exact k|y x E1=>rw[R]at k;exact λH' g=>k O H' g
 |ok p =>
  obtain⟨t,E1⟩:=p;rw[R]at k;intro H1 I;cases t with
  |true=>exact zHj (tS_go I k)|false=>exact zHi (tS_go I k)
def sk_if(S:TOk X c mc)(C:zAp X a ma)(Z:zAp X b mb):SOk X (.If c a b pos) (sIf mc ma mb):=jD (ps_if S C Z) λD O H=>sif_run
def J9(i:Nat)(r:R)(E:zS):Out zS:=match E[i]? with
 |none=>.z|some (.p _)=>.z|some _=>.ok (E.set i r.slot)
def sSet(i:Nat)(m:ME):MS:=λE=>match m E with
 | .z=>.z| .y x E1=>.y x E1
 | .ok (r,E1)=>match J9 i r E1 with
  | .ok E2=>.ok (.nx,E2)|_=>.z
def GU(g:Got K mg M O E H T0 O1 E1 H1 [(some v,r.slot)])(e:J9 i r E1=.ok E2):Got K mg M O E H T0 (O1.set i (some v)) E2 H1 []:=by
 unfold J9 at e;exists e1,E1[i]?,e,sl;have V:∀ds,sl≠.p ds:=λds q=>by subst q;cases e
 have P:E2=E1.set i r.slot:=by
  cases sl with
  |p ds=>exact absurd rfl (V ds)|_=>cases e;rfl
 subst P;have R:i<E1.length:=(qG.mp e1).1;have hl:=g.len;have hz:i<(O1.zip E1).length:=by rw[List.length_zip];lia
 have hT:T0++((O1.set i (some v)).zip (E1.set i r.slot))=(T0++O1.zip E1).set (T0.length+i) (some v,r.slot):=by
  rw[GS,List.set_append_right _ _ (by lia)];congr 2;lia
 have h:T0.length+i<(T0++O1.zip E1).length:=by rw[length_append];lia
 refine⟨by simp[hl],?_,?_,?_⟩
 ·show FR K mg M H1 (T0++((O1.set i (some v)).zip (E1.set i r.slot)))
  rw[hT];exact FR.put g.fr h
 ·show Step M H _ H1 (T0++((O1.set i (some v)).zip (E1.set i r.slot)))
  rw[hT];exact Step.put g.st h
 ·refine g.pk.trans λj ds q=>?_
  have a:i≠j:=λz=>by subst z;rw[e1]at q;exact V ds (qJ q)
  exact⟨⟨ds,by rw[getElem?_set_ne a];exact q⟩,by rw[getElem?_set_ne a]⟩
def zD1{i:Nat}{m:ME}{D:Ends}(h:tS X (sSet i m) D O H):tAsg (tM X m) (zAs i) D O H:=by
 obtain⟨M,E,hl,fr,k⟩:=h;unfold sSet at k;refine z9 (T0:=[]) hl fr ?_;cases R:m E with
 |z=>rw[R]at k;exact k|y x E1=>rw[R]at k;exact λH' g=>k O H' g
 |ok p =>
  obtain⟨r,E1⟩:=p;rw[R]at k;intro v H' g;dsimp at k;cases a:J9 i r E1 with
  |z=>rw[a]at k;exact k.elim|y _ _=>rw[a]at k;exact k.elim
  |ok E2 =>
   rw[a]at k;exact k _ H' (GU g a)
def zHu(E:X.N.Nodup)(hi:X.N[i]?=some x)(M:Loc X.env.scope x)(c:EOk X e m)(T:swapsWith e (some (.Name x pos')) pos.line X.env=pure false:=by rfl)
  (Y:X.fn x=true\/X.env.scope.names.lookup x=some .local:=by first|exact .inl rfl|exact .inr rfl|assumption):SOk X (.Assign [.Name x pos'] e pos) (sSet i m) :=
 jD (ps_set E hi M c T Y) λD O H=>zD1
def sRet(m:ME):MS:=λE=>match m E with
 | .z=>.z| .y x E1=>.y x E1| .ok (r,E1)=>.ok (.ret r,E1)
def ret_run{m:ME}{D:Ends}(h:tS X (sRet m) D O H):tRet (tM X m) D O H:=by
 obtain⟨M,E,hl,fr,k⟩:=h;unfold sRet at k;refine z9 (T0:=[]) hl fr ?_;cases R:m E with
 |z=>rw[R]at k;exact k|y x E1=>rw[R]at k;exact λH' g=>k O H' g|ok p=>rw[R]at k;exact λv H' g=>k v O H' g
def sk_ret(c:EOk X e m):SOk X (.Return (some e) pos) (sRet m):=jD (ps_ret c) λD O H=>ret_run
def zD2(i:Nat):ME:=λE=>match E[i]? with
 |some (.w G)=>.ok (.w G,E.set i .e)|some (.m ks vs)=>.ok (.m ks vs,E.set i .e)|some (.v d)=>.ok (.v d,E)|_=>.z
def ok_move(i:Nat)(h:PE X (.Name x pos) (zDN i)):EOk X (.Name x pos) (zD2 i):=yW h λO H Q ⟨M,E,hl,f,k⟩=>by
 unfold zD2 at k;cases e:E[i]? with
 |none=>rw[e]at k;exact k.elim
 |some D =>
 rw[e]at k;cases D with
 |e=>exact k.elim|p G=>exact k.elim
 |v d =>
  obtain⟨o,J,h2⟩:=JO hl e;obtain⟨v,rfl,r⟩:=f.val o d h2;exact⟨v,J,k v H ⟨hl,f.add r,Step.refl.add,PKp.refl⟩⟩
 |w G =>
  obtain⟨o,J,h2⟩:=JN hl e;obtain⟨a,Y,rfl,K,S,W⟩:=f.ownL o (.w G) G (mem_of_getElem? h2) rfl;refine⟨.ref a,J,k _ H ?_⟩;have I:i<(O.zip E).length:=(qG.mp h2).1;have p:(O.zip E).Perm ((some (.ref a),R.slot (.w G))::(O.zip E).eraseIdx i):=by
   have:=zQ (some (V.ref a),Slot.w G) (O.zip E) i I;rw[JM h2]at this;exact this
  have y:O.zip (E.set i .e)=(O.zip E).set i (some (.ref a),.e):=zg .e J;have t:((some (V.ref a),R.slot (.w G))::O.zip (E.set i .e)).Perm ((some (V.ref a),Slot.e)::((some (V.ref a),R.slot (.w G))::(O.zip E).eraseIdx i)):=by
   rw[y];exact((zQ _ _ _ I).cons _).trans (List.Perm.swap _ _ _)
  have l:=f.perm p;have n:FR X.K X.mg M H ((some (V.ref a),Slot.e)::((some (V.ref a),R.slot (.w G))::(O.zip E).eraseIdx i)):={
   val:=λo d q=>by
    rcases mem_cons.mp q with q|q
    ·cases q
    ·exact l.val o d q
   own:=λo s c q C=>by
    rcases mem_cons.mp q with q|q
    ·cases q;cases C
    ·exact l.own o s c q C
   nd:=by rw[yp];exact l.nd
   mal:=l.mal}
  refine⟨by simp[hl],n.perm t.symm,?_,zBm (ds0:=[]) e (λc q=>by cases q) _⟩;refine Step.weak Step.refl λb Z=>?_
  have z:=zB t b Z;exact zB p.symm b z
 |m ks L =>
  obtain⟨o,J,h2⟩:=JN hl e;obtain⟨a,ho,rfl,K,S,W⟩:=f.own o (.m ks L) (.d ks L) (mem_of_getElem? h2) rfl;refine⟨.ref a,J,k _ H ?_⟩;have I:i<(O.zip E).length:=(qG.mp h2).1;have p:(O.zip E).Perm ((some (.ref a),R.slot (.m ks L))::(O.zip E).eraseIdx i):=by
   have:=zQ (some (V.ref a),Slot.m ks L) (O.zip E) i I;rw[JM h2]at this;exact this
  have y:O.zip (E.set i .e)=(O.zip E).set i (some (.ref a),.e):=zg .e J;have t:((some (V.ref a),R.slot (.m ks L))::O.zip (E.set i .e)).Perm ((some (V.ref a),Slot.e)::((some (V.ref a),R.slot (.m ks L))::(O.zip E).eraseIdx i)):=by
   rw[y];exact((zQ _ _ _ I).cons _).trans (List.Perm.swap _ _ _)
  have l:=f.perm p;have n:FR X.K X.mg M H ((some (V.ref a),Slot.e)::((some (V.ref a),R.slot (.m ks L))::(O.zip E).eraseIdx i)):={
   val:=λo d q=>by
    rcases mem_cons.mp q with q|q
    ·cases q
    ·exact l.val o d q
   own:=λo s c q C=>by
    rcases mem_cons.mp q with q|q
    ·cases q;cases C
    ·exact l.own o s c q C
   nd:=by rw[yp];exact l.nd
   mal:=l.mal}
  refine⟨by simp[hl],n.perm t.symm,?_,zBm (ds0:=[]) e (λc q=>by cases q) _⟩;refine Step.weak Step.refl λb Z=>?_
  have z:=zB t b Z;exact zB p.symm b z
def sDrop(m:ME):MS:=λE=>match m E with
 | .z=>.z| .y x E1=>.y x E1| .ok (_,E1)=>.ok (.nx,E1)
def zGR{m:ME}{D:Ends}(h:tS X (sDrop m) D O H):tDrop (tM X m) D O H:=by
 obtain⟨M,E,hl,fr,k⟩:=h;unfold sDrop at k;refine z9 (T0:=[]) hl fr ?_;cases R:m E with
 |z=>rw[R]at k;exact k|y x E1=>rw[R]at k;exact λH' g=>k O H' g|ok p=>rw[R]at k;exact λv H' g=>k O H' g.dropAll
def sk_drop(c:EOk X e m)(T:swapsWith e none pos.line X.env=pure false:=by rfl):SOk X (.Expr e pos) (sDrop m):=jD (zDP c T) λD O H=>zGR
end
theorem wO{α β:Type}{f:α->Lx β}{x y:α}(h:f y=f x):∀{l:Ls α} {i:Nat},l[i]?=some x->(l.set i y).filterMap f=l.filterMap f
 | [],_,e=>by simp at e
 |a::l,0,e=>by
  simp at e;subst e
  dsimp[List.set_cons_zero,filterMap_cons,h]
 |a::l,i+1,e=>by
  simp at e
  dsimp[List.set_cons_succ,filterMap_cons,wO h e]
section
variable{X:Cx}{K:qH}{mg:Str->Lx Lv}{O:St}{M:Lf}{E:zS}{H:Hp}{T0 Z:Fz}
def Slot.put:Slot->Ls D->Slot
 | .w _,es=>.w es| .p _,es=>.p es|s,_=>s
def GV(T:s.list?=some ds):zAo (some (.ref p),s.put es)=zAo (some (.ref p),s)/\(s.put es).list?=some es:=by
 cases s<;>simp[Slot.list?]at T<;>exact⟨rfl,rfl⟩
def FR.mut(h:FR K mg M H Z)(hi:Z[i]?=some (some (.ref p),s))(T:s.list?=some ds)(r:Reps K mg (Hm (Mo M Z) H) es ys) :
  FR K mg M (upd H p (.l ys)) (Z.set i (some (.ref p),s.put es))/\Step M H Z (upd H p (.l ys)) (Z.set i (some (.ref p),s.put es)):=by
 have J:yH (Z.set i (some (.ref p),s.put es))=yH Z:=wO (GV T).1 hi;have u:Mo M (Z.set i (some (.ref p),s.put es))=Mo M Z:=by unfold Mo;rw[J]
 have L:p∈yH Z:=Wy (mem_of_getElem? hi) T rfl;obtain⟨O,E,l,_⟩:=h.ownAt L;have t:Hm (Mo M Z) (upd H p (.l ys))=Hm (Mo M Z) H:=by
  funext b
  unfold Hm;by_cases Q:Mo M Z b
  ·simp[Q]
  ·have:b≠p:=λe=>Q (by subst e;exact .inr L)
   simp[Q,z8 this]
 have mem:∀{q:Lx V×Slot},q∈Z.set i (some (.ref p),s.put es)->q=(some (.ref p),s.put es)\/q∈Z:=λ{q} R=>(List.mem_or_eq_of_mem_set R).symm
 have I:i<Z.length:=(qG.mp hi).1;have C:(yH (Z.eraseIdx i)).Nodup/\p∉yH (Z.eraseIdx i):=by
  have D:Z.Perm ((some (.ref p),s)::Z.eraseIdx i):=by
   have:=zQ (some (V.ref p),s) Z i I;rw[JM hi]at this;exact this
  have k:=(D.filterMap zAo).nodup_iff.mp h.nd;have e:List.filterMap zAo ((some (V.ref p),s)::Z.eraseIdx i)=p::yH (Z.eraseIdx i):=by
   cases s<;>simp[Slot.list?]at T<;>rfl
  rw[e]at k;exact⟨(nodup_cons.mp k).2,(nodup_cons.mp k).1⟩
 have v:(Z.set i (some (.ref p),s.put es)).Perm ((some (.ref p),s.put es)::Z.eraseIdx i):=zQ _ _ _ I;refine⟨⟨λo d q=>?_,λo j w q e=>?_,by rw[J];exact h.nd,λb q=>?_⟩,⟨by rw[u,t];exact Yr.refl _,λb o m e=>?_⟩⟩
 ·rw[u,t]
  rcases mem q with q|q
  ·exfalso
   cases s<;>simp[Slot.list?]at T<;>cases q
  ·exact h.val o d q
 ·rw[u,t]
  rcases mem_cons.mp (v.mem_iff.mp q)with G|G
  ·cases G
   rw[zDq (GV (p:=p) T).2]at e;cases e;exact⟨p,_,rfl,wN,l,ys,rfl,r⟩
  ·have y:(o,j)∈Z:=(List.eraseIdx_sublist Z i).subset G
   obtain⟨a,Y,W,P,n,c⟩:=h.own o j w y e;have g:a≠p:=λz=>by
    subst z;exact C.2 (JK G e W)
   exact⟨a,Y,W,by rw[z8 g];exact P,n,c⟩
 ·obtain⟨o,e,x⟩:=h.mal b q
  by_cases z:b=p
  ·subst z;exact⟨_,wN,.inl ⟨_,rfl⟩⟩
  ·exact⟨o,by rw[z8 z];exact e,x⟩
 ·have g:b≠p:=λz=>l (by subst z;exact m)
  rw[z8 g];exact e
theorem Got.mut(g:Got K mg M O E H [] O1 E1 H1 T)(hi:E1[i]?=some s)(a:s.list?=some ds)(r:Reps K mg (Hm (Mo M (O1.zip E1)) H1) es ys) :
  ∃p,O1[i]?=some (some (.ref p))/\Got K mg M O E H [] O1 (E1.set i (s.put es)) (upd H1 p (.l ys)) []:=by
 obtain⟨o,J,h2⟩:=JN g.len hi;obtain⟨p,Y,rfl,_⟩:=g.frame.ownL o s ds (mem_of_getElem? h2) a;refine⟨p,J,?_⟩;obtain⟨f,V⟩:=FR.mut g.frame h2 a r;have e:=zg (E:=E1) (s.put es) J;rw[<- e]at f V;refine⟨by simp[g.len],f,(g.st.weak (zD (sublist_append_right _ _))).trans V,g.pk.trans λj w q=>?_⟩;by_cases S:i=j
 ·subst S
  rw[hi]at q;cases q;have I:i<E1.length:=(qG.mp hi).1;exact⟨⟨es,by rw[getElem?_set_self I];rfl⟩,rfl⟩
 ·exact⟨⟨w,by rw[getElem?_set_ne S];exact q⟩,rfl⟩
def zD3{i:Nat}{s:Slot}(c:E.length=O.length)(f:FR K mg M H (O.zip E))(h:E[i]?=some s)(T:s≠.e):∃v,O[i]?=some (some v):=by
 obtain⟨o,J,h2⟩:=JO c h;cases s with
 |e=>exact absurd rfl T|v d=>obtain⟨v,rfl,_⟩:=f.val o d h2;exact⟨v,J⟩|w G=>obtain⟨a,_,rfl,_⟩:=f.own o _ _ h2 rfl;exact⟨_,J⟩|p G=>obtain⟨a,_,rfl,_⟩:=f.own o _ _ h2 rfl;exact⟨_,J⟩|m ks L=>obtain⟨a,_,rfl,_⟩:=f.own o _ _ h2 rfl;exact⟨_,J⟩
def Y4:Lx Slot->Bool
 |none=>true|some .e=>true|_=>false
def zAz(h:Y4 o=false):∃s,o=some s/\s≠.e:=by
 cases o with
 |none=>cases h
 |some s=>cases s<;>simp[Y4]at h<;>exact⟨_,rfl,by intro q;cases q⟩
def ixS:Slot->Int->Lx D
 | .w G,i=>atI G i| .p G,i=>atI G i| .v (.l G),i=>atI G i|_,_=>none
def zHv(i:Nat)(m:ME):ME:=λE=>if Y4 E[i]?=true then .z else match m E with
 | .z=>.z| .y x E1=>.y x E1
 | .ok (.v (.int k),E1)=>match E1[i]? with
  |some s=>match ixS s k with
   |some d=>.ok (.v d,E1)|none=>.z
  |none=>.z
 |_=>.z
def ixO_run{i:Nat}{m:ME}{Q:VK}(h:tM X (zHv i m) O H Q):tOp (rIxL X.K) (zDN i) (tM X m) O H Q:=by
 obtain⟨M,E,hl,fr,k⟩:=h;unfold zHv at k;cases u:Y4 E[i]? with
 |true=>rw[u]at k;exact k.elim
 |false =>
  rw[u]at k;obtain⟨s,j,z⟩:=zAz u;obtain⟨v,hv⟩:=zD3 hl fr j z;refine⟨v,hv,?_⟩;refine z9 (T0:=[]) hl fr ?_;exists ea,m E,k,r,E1;cases r with
  |w G=>exact k.elim|m _ _=>exact k.elim
  |v d =>
   cases d with
   |int n =>
    intro y H' g;dsimp at k;exists e1,E1[i]?,k,s1;dsimp at k;exists e2,ixS s1 n,k,d;have f:=g.frame;have q:∀{w:V},Rep X.K X.mg (Hm (Mo M (O.zip E1)) H') d w->Q w H':=λ{w} L=>k w H' (g.more (T:=[(some w,.v d)]) (f.add L) Step.refl.add)
    obtain⟨o,J,h2⟩:=JO g.len e1;have ho:o=some v:=by rw[hv]at J;exact(qJ J).symm
    subst ho;have x:∀{G:Ls D},s1.list?=some G->atI G n=some d->rIxL X.K v y H' Q:=λ{G} P C=>by
     obtain⟨a,Y,ev,K,_,W⟩:=f.ownL _ s1 G h2 P;cases ev;obtain⟨w,Z,I⟩:=WX W C;exact⟨a,Y,n,w,rfl,zI g.rep,SqL.of K,Z,q I⟩
    cases s1 with
    |e=>cases e2|w G=>exact x rfl e2|p G=>exact x rfl e2|m _ _=>cases e2
    |v dd =>
     cases dd with
     |l G =>
      obtain⟨t,ev,c⟩:=f.val _ _ h2;cases ev;obtain⟨a,Y,rfl,K,S⟩:=zU c;obtain⟨w,Z,I⟩:=WX S e2;exact⟨a,Y,n,w,rfl,zI g.rep,zM.seq K,Z,q I⟩
     |_=>cases e2
   |_=>exact k.elim
def ok_ixO(i:Nat)(P:PE X (.Name x p) (zDN i))(Z:EOk X b m)(T:GL b):EOk X (.Subscript (.Name x p) b pos) (zHv i m) :=
 yW (pe_ix zDi P Z T) λO H Q=>ixO_run
def W4(i:Nat)(mi t:ME):MS:=λE=>if Y4 E[i]?=true then .z else match t E with
 | .z=>.z| .y x E1=>.y x E1
 | .ok (r,E1)=>match mi E1 with
  | .z=>.z| .y x E2=>.y x E2
  | .ok (.v (.int k),E2)=>match E2[i]? with
   |none=>.z
   |some s=>match s.list? with
    |none=>.z
    |some G=>match ixN G.length k with
     |none=>.z|some j=>.ok (.nx,E2.set i (s.put (G.set j r.d)))
  |_=>.z
def zD4{i:Nat}{mi t:ME}{D:Ends}(h:tS X (W4 i mi t) D O H):tAsg (tM X t) (gSub (zDN i) (tM X mi) rSetL) D O H:=by
 obtain⟨M,E,hl,fr,k⟩:=h;unfold W4 at k;cases u:Y4 E[i]? with
 |true=>rw[u]at k;exact k.elim
 |false =>
  rw[u]at k;obtain⟨s,C,T⟩:=zAz u;obtain⟨v,hv⟩:=zD3 hl fr C T;refine z9 (T0:=[]) hl fr ?_;cases R:t E with
  |z=>rw[R]at k;exact k|y x E1=>rw[R]at k;exact λH' g=>k O H' g
  |ok p =>
   obtain⟨r,E1⟩:=p;rw[R]at k;intro y H1 I;refine⟨v,hv,?_⟩;refine z9 (T0:=[(some y,r.slot)]) I.len I.fr ?_;dsimp at k;cases K:mi E1 with
   |z=>rw[K]at k;exact k|y x E2=>rw[K]at k;exact λH' g=>k O H' (I.trans' g).dropAll
   |ok p =>
    obtain⟨r2,E2⟩:=p;rw[K]at k;cases r2 with
    |w G=>exact k.elim|m _ _=>exact k.elim
    |v d =>
     cases d with
     |int n =>
      intro z H2 Z;have g:=I.trans' Z;dsimp at k;exists e1,E2[i]?,k,s1;dsimp at k;exists e2,s1.list?,k,G;dsimp at k;exists e3,ixN G.length n,k,j;have e:=Got.reps (vs:=[z,y]) (rs:=[.v (.int n),r]) rfl g;obtain⟨Q,_,q1,q,c,_,S,P,_⟩:=e;cases q1;cases S;obtain⟨o,J,h2⟩:=JO g.len e1;obtain⟨a,Y,ev,V,_,l⟩:=g.frame.ownL _ s1 G h2 e2;subst ev;have ev:v=.ref a:=by rw[hv]at J;exact qJ (qJ J)
      subst ev;obtain⟨p,L,W⟩:=g.mut e1 e2 (l.set j P);have ep:p=a:=by rw[J]at L;cases L;rfl
      subst ep;exact⟨p,Y,n,j,rfl,zI q,V,by rw[l.length];exact e3,k O _ W⟩
     |_=>exact k.elim
def zGS(i:Nat)(P:PE X (.Name x p) (zDN i))(Z:EOk X b mi)(c:EOk X e mv)
  (C:∀v,assign (.Subscript (.Name x p) b p1) X.env v=(do
   let ov <- holding [v] (eval (.Name x p) X.env)
   let iv <- holding [v,ov] (eval b X.env)
   standAt p1
   holding [v,ov,iv] (setItem ov iv v)
   release [v,ov,iv] []):=by intro _;rfl) (T:swapsWithSole [.Subscript (.Name x p) b p1] e pos.line X.env=pure false:=by rfl):SOk X (.Assign [.Subscript (.Name x p) b p1] e pos) (W4 i mi mv) :=
 jD (zDR c (pg_sub P Z zF8 C) T) λD O H=>zD4
def sApp(i:Nat)(m:ME):MS:=λE=>match E[i]? with
 |none=>.z
 |some a=>match a.list? with
  |none=>.z
  |some _=>match m E with
   | .z=>.z| .y x E1=>.y x E1
   | .ok (r,E1)=>match E1[i]? with
    |none=>.z
    |some s=>match s.list? with
     |none=>.z|some G=>if G.length<cap then .ok (.nx,E1.set i (s.put (G++[r.d])))else .z
def app_run{i:Nat}{m:ME}{D:Ends}(h:tS X (sApp i m) D O H):tDrop (tBM X.K "list" zDk (zDN i) (tCons (tM X m) tNil)) D O H:=by
 obtain⟨M,E,hl,fr,k⟩:=h;unfold sApp at k;exists e0,E[i]?,k,s0;dsimp at k;exists e00,s0.list?,k,ds0;obtain⟨o,J,h2⟩:=JO hl e0;obtain⟨a,Y,ev,V,_,l⟩:=fr.ownL _ s0 ds0 h2 e00;subst ev;refine⟨.ref a,J,.inl ⟨rfl,Y,SqL.of V⟩,?_⟩;refine z9 (T0:=[]) hl fr ?_;cases R:m E with
 |z=>rw[R]at k;exact k|y x E1=>rw[R]at k;exact λH' g=>k O H' g
 |ok p =>
  obtain⟨r,E1⟩:=p;rw[R]at k;intro y H1 g;dsimp at k;exists e1,E1[i]?,k,s;dsimp at k;exists e2,s.list?,k,ds;dsimp at k;by_cases S:ds.length<cap
  ·rw[if_pos S]at k
   obtain⟨o,I,c⟩:=JO g.len e1;obtain⟨a',T,ev,K,_,W⟩:=g.frame.ownL _ s ds c e2;subst ev;have e:a'=a:=by rw[J]at I;cases I;rfl
   subst e;obtain⟨p,L,u⟩:=g.mut e1 e2 (W.append (Reps.cons g.rep Reps.nil));have j:p=a':=by rw[J]at L;cases L;rfl
   subst j;exact⟨p,T,y,rfl,rfl,K,by rw[W.length];exact lt_of_lt_of_le S (Zy (le_refl _)),k O _ u⟩
  ·rw[if_neg S]at k;exact k.elim
def sk_app(i:Nat)(P:PE X (.Name x p) (zDN i))(c:EOk X e m)
  (u:attributeBase (.Name x p) "append" X.env (eval (.Name x p) X.env)=eval (.Name x p) X.env:=by rfl)
  (E:((backTo cpos (starEach (e::[]) X.env)).all (λx=>!x.1)&&(backToKw cpos (keywordEach [] X.env)).all (λx=>x.1.isSome)
   && decide ((e::([]:Ls Lb)).length+([]:Ls Keyword).length+(if([]:Ls Keyword).isEmpty then 0 else 1)<30))=true:=by rfl)
  (a:(apos.endLine==cpos.line)=true:=by rfl) (T:starEach (e::[]) X.env=(false,eval e X.env)::starEach [] X.env:=by rfl) (q:(backTo cpos (starEach [] X.env)).any (·.1)=false:=by rfl)
  (k:swapsWith (.Call (.Attribute (.Name x p) "append" apos) [e] [] cpos) none pos.line X.env=pure false:=by rfl):SOk X (.Expr (.Call (.Attribute (.Name x p) "append" apos) [e] [] cpos) pos) (sApp i m) :=
 jD (zDP (pe_bm PySem.F.plainAttrs_list PySem.F.slot_list_append PySem.F.type_list_append Qo P (Ye c Qg T) u E a T q) k) λD O H=>app_run
end
section
variable{X:Cx}{K:qH}{mg:Str->Lx Lv}{O:St}{M:Lf}{E:zS}{H:Hp}{T0 Z:Fz}
abbrev MG:=D->zS->Out zS
def GOk(X:Cx)(g:TG)(tg:MG):Prop:=∀(M:Lf) (O:St) (E:zS) (H:Hp) (T0:Fz) (x:V) (d:D) (E':zS) (Q:St->Hp->Prop),E.length=O.length->FR X.K X.mg M H ((some x,.v d)::(T0++O.zip E))->tg d E=.ok E' ->
 (∀O',Got X.K X.mg M O E H T0 O' E' H []->Q O' H)->g x O H Q
def gN(i:Nat):MG:=λd E=>J9 i (.v d) E
def go_name(i:Nat):GOk X (zAs i) (gN i):=λM O E H T0 x d E' Q hl f e k =>
 k _ (GU (O1:=O) (E1:=E) (H1:=H) (r:=.v d) (v:=x) ⟨hl,f,Step.refl.add,PKp.refl⟩ e)
def gNs:Ls Nat->Ls D->zS->Out zS
 | [],[],E=>.ok E
 |i::q,d::G,E=>match J9 i (.v d) E with
  | .ok E1=>gNs q G E1|_=>.z
 |_,_,_=>.z
def gT(q:Ls Nat):MG:=λd E=>match d with
 | .t G=>gNs q G E|_=>.z
def we:Ls Nat->TGs
 | []=>gNil|i::is=>gCons (zAs i) (we is)
theorem Y5:∀(q:Ls Nat) (G:Ls D) (Y:Ls V) {M:Lf} {O0 O:St} {E0 E E':zS} {H:Hp} {T0:Fz} {a:Lz} {ts:Ls D} {Q:St->Hp->Prop},
  Got X.K X.mg M O0 E0 H T0 O E H []->Reps X.K X.mg (Hm (Mo M (T0++O.zip E)) H) G Y->gNs q G E=.ok E'->(∀O',Got X.K X.mg M O0 E0 H T0 O' E' H []->Q O' H)->we q Y O H Q
 | [],[],Y,M,O0,O,E0,E,E',H,T0,a,ts,Q,g,r,e,k=>by
  cases e;exact⟨r,k O g⟩
 | [],d::G,Y,M,O0,O,E0,E,E',H,T0,a,ts,Q,g,r,e,k=>by cases e|i::q,[],Y,M,O0,O,E0,E,E',H,T0,a,ts,Q,g,r,e,k=>by cases e
 |i::q,d::G,Y,M,O0,O,E0,E,E',H,T0,a,ts,Q,g,r,e,k=>by
  obtain⟨x,jk,rfl,w,c⟩:=r;dsimp[gNs]at e;cases W:J9 i (.v d) E with
  |z=>rw[W]at e;cases e|y _ _=>rw[W]at e;cases e
  |ok E1 =>
   rw[W]at e;refine⟨x,jk,rfl,?_⟩;have I:Got X.K X.mg M O0 E0 H T0 O E H [(some x,R.slot (.v d))]:=⟨g.len,g.fr.add w,g.st.add,g.pk⟩;have h:=GU I W;refine Y5 q G jk (a:=a) (ts:=ts) h (c.mono ?_) e k;refine j6 (YS λb Z=>?_)
   -- the stored slot q a value: it yH nothing
   unfold J9 at W;exists e2,E[i]?,W,sl;have n:E1=E.set i (.v d):=by cases sl<;>cases W<;>rfl
   subst n;have j:i<E.length:=(qG.mp e2).1;have hz:i<(O.zip E).length:=by rw[List.length_zip];have:=g.len;lia
   rw[GS]at Z;rw[zX]at Z ⊢;rcases mem_append.mp Z with Z|Z
   ·exact mem_append_left _ Z
   ·refine qK _ ?_
    have:=zB (zQ _ _ _ hz) b Z;rw[zV]at this;exact zD (List.eraseIdx_sublist _ _) b this
def zHw(q:Ls Nat)(hn:q.length=n):GOk X (gTup X.K n (we q)) (gT q):=λM O E H T0 x d E' Q hl f e k=>by
 cases d with
 |t G =>
  obtain⟨v,ev,r⟩:=f.val _ _ qE;cases ev;obtain⟨a,Y,rfl,J,h2⟩:=zh r;have c:G.length=q.length:=by
   have:∀(q:Ls Nat) (G:Ls D) (E E':zS),gNs q G E=.ok E'->G.length=q.length:=by
    intro q
    induction q with
    |nil=>intro G E E' h;cases G with|nil=>rfl|cons d G=>cases h
    |cons i q u =>
     intro G E E' h;cases G with
     |nil=>cases h
     |cons d G =>
      dsimp[gNs]at h;cases W:J9 i (.v d) E with
      |ok E1=>rw[W]at h;simp[u G E1 E' h]|z=>rw[W]at h;cases h|y _ _=>rw[W]at h;cases h
   exact this q G E E' e
  refine⟨a,Y,rfl,zm zM J,by rw[h2.length,c,hn],?_⟩;exact Y5 q G Y (a:=a) (ts:=[]) (Got.refl hl f.tail) h2 e k
 |_=>cases e
def Z3(tg:MG)(body:MS):Ls D->zS->Out (Fl×zS)
 | [],E=>.ok (.nx,E)
 |d::G,E=>match tg d E with
  | .ok E1=>match body E1 with
   | .ok (.nx,E2)=>Z3 tg body G E2| .ok (.ct,E2)=>Z3 tg body G E2| .ok (.bk,E2)=>.ok (.nx,E2)| .ok (.ret r,E2)=>.ok (.ret r,E2)| .y x E2=>.y x E2| .z=>.z
  |_=>.z
def Fin(X:Cx)(M:Lf)(O:St)(E:zS)(H:Hp)(D:Ends)(o:Out (Fl×zS)):Prop:=match o with
 | .z=>False| .ok (.nx,E')=>∀O' H',Got X.K X.mg M O E H [] O' E' H' []->D.nx O' H'| .ok (.bk,E')=>∀O' H',Got X.K X.mg M O E H [] O' E' H' []->D.bk O' H'| .ok (.ct,E')=>∀O' H',Got X.K X.mg M O E H [] O' E' H' []->D.ct O' H'| .ok (.ret r,E')=>∀v O' H',Got X.K X.mg M O E H [] O' E' H' [(some v,r.slot)]->D.rt v H'| .y x E'=>∀O' H',Got X.K X.mg M O E H [] O' E' H' []->XE X O' H' x
def Got.dropT{g:Str->Lx Lv}{M:Lf}(a:Got K g M O E H [] O1 E1 H1 (T++T')):Got K g M O E H [] O1 E1 H1 T where
 len:=a.len
 fr:=a.fr.sub (by rw[append_assoc];exact(sublist_append_right _ _).append_left _)
 st:=a.st.weak (zD (by rw[append_assoc];exact(sublist_append_right _ _).append_left _))
 pk:=a.pk
def GW{tg:MG}{body:MS}{g:TG}{D:Ends}{d:DV.D}{ds:Ls DV.D}{O1:St}{E1:zS}{H1:Hp}{T:Fz}{x:V}{P:St->Hp->Prop}(t:GOk X g tg)
  (g1:Got X.K X.mg M O E H [] O1 E1 H1 T) (w:Rep X.K X.mg (Hm (Mo M (T++O1.zip E1)) H1) d x) (l:Fin X M O E H D (Z3 tg body (d::ds) E1))
  (next:∀O2 E2 H2,Got X.K X.mg M O E H [] O2 E2 H2 T->Step M H1 (T++O1.zip E1) H2 (T++O2.zip E2)->Fin X M O E H D (Z3 tg body ds E2)->P O2 H2) :
  g x O1 H1 λO2 H2=>tS X body {D with nx:=P,ct:=P,bk:=D.nx} O2 H2:=by
 dsimp[Z3]at l;cases W:tg d E1 with
 |z=>rw[W]at l;exact l.elim|y _ _=>rw[W]at l;exact l.elim
 |ok E2 =>
  rw[W]at l;dsimp at l;refine t M O1 E1 H1 T x d E2 _ g1.len (g1.fr.add w) W λO2 Z=>?_
  have e:=g1.trans' Z;refine uh (T0:=T) Z.len Z.fr ?_;cases a:body E2 with
  |z=>rw[a]at l;exact l|y y E3=>rw[a]at l;exact λO' H' u=>l O' H' (e.trans' u).dropAll
  |ok p =>
   obtain⟨L,E3⟩:=p;rw[a]at l;cases L with
   |nx=>exact λO' H' u=>next O' E3 H' (e.trans' u) (Z.st.trans u.st) l|ct=>exact λO' H' u=>next O' E3 H' (e.trans' u) (Z.st.trans u.st) l|bk=>exact λO' H' u=>l O' H' (e.trans' u).dropAll|ret r=>exact λv O' H' u=>l v O' H' (e.trans' u).dropT
def sForL(m:ME)(tg:MG)(body:MS):MS:=λE=>match m E with
 | .z=>.z| .y x E1=>.y x E1
 | .ok (r,E1)=>match r.d with
  | .l G=>Z3 tg body G E1|_=>.z
def zBp{m:MS}{D:Ends}(h:tS X m D O H):∃M E,E.length=O.length/\FR X.K X.mg M H (O.zip E)/\Fin X M O E H D (m E):=h
def zGT{m:ME}{tg:MG}{g:TG}{body:MS}{D:Ends}(t:GOk X g tg)(h:tS X (sForL m tg body) D O H):tFor (iList X.K (tM X m)) g (tS X body) D O H:=by
 obtain⟨M,E,hl,fr,k⟩:=zBp h;unfold sForL at k;refine z9 (T0:=[]) hl fr ?_;cases R:m E with
 |z=>rw[R]at k;exact k|y x E1=>rw[R]at k;exact λH' g=>k O H' g
 |ok p =>
  obtain⟨r,E1⟩:=p;rw[R]at k;intro v H1 J;have I:Got X.K X.mg M O E H [] O E1 H1 [(some v,.v r.d)]:=⟨J.len,J.fr.frz,J.st.frz,J.pk⟩;dsimp at k;cases c:r.d with
  |l G =>
   rw[c]at k I;have L:=J.rep;rw[c]at L;obtain⟨a,xs,rfl,Q,q2⟩:=zU L;refine⟨a,rfl,⟨xs,zM.seq Q⟩,?_⟩;have u:∀(O':St) (E':zS),Mo M ([(some (V.ref a),Slot.v (.l G))]++O'.zip E')=Mo M (O'.zip E'):=λO' E'=>Wx _ _ _ _
   refine zFz (K:=X.K) (a:=a) (xs:=xs) (λi O1 H2=>∃E2,Got X.K X.mg M O E H [] O1 E2 H2 [(some (.ref a),.v (.l G))]/\SqL X.K (Hm (Mo M (O1.zip E2)) H2) a xs/\Reps X.K X.mg (Hm (Mo M (O1.zip E2)) H2) G xs/\Fin X M O E H D (Z3 tg body (G.drop i) E2))
    ⟨E1,I,Q,q2,k⟩ (λi O' H' _ ⟨E2,_,q,_⟩=>zM.seq q) ?_ ?_
   ·rintro i x O1 H2 W ⟨E2,Z,P,o,j⟩
    obtain⟨d,C,w⟩:=o.get W;have c:G.drop i=d::G.drop (i+1):=by
     obtain⟨Y,rfl⟩:=qG.mp C;exact drop_eq_getElem_cons Y
    rw[c]at j;refine GW t Z (by rw[u];exact w) j λO3 E3 H3 S T e=>?_
    have n:=T.same;exact⟨E3,S,n.seq P,o.mono n,e⟩
   ·rintro O1 H2 ⟨E2,Z,P,o,j⟩
    rw[o.length,List.drop_length]at j;exact j O1 H2 Z.dropAll
  |_=>rw[c]at k;exact k.elim
def zG(lo:Int):Nat->Ls D
 |0=>[]|n+1=>.int lo::zG (lo+1) n
theorem yk(lo:Int):∀n,(zG lo n).length=n
 |0=>rfl|n+1=>by simp[zG,yk (lo+1) n]
theorem JR:∀(n i:Nat) (z:Int),i<n->(zG z n).drop i=.int (z+i)::(zG z n).drop (i+1)
 |0,_,_,h=>by lia|n+1,0,z,_=>by simp[zG]
 |n+1,i+1,z,h=>by
  have:=JR n i (z+1) (by lia);dsimp[zG,List.drop_succ_cons];rw[this];congr 2;lia
def sForR1(m:MA)(tg:MG)(body:MS):MS:=λE=>match m E with
 | .z=>.z| .y x E1=>.y x E1
 | .ok ([r],E1)=>match r.d with
  | .int j=>if -(2^62)<=j/\j<2^62 then Z3 tg body (zG 0 j.toNat) E1 else .z|_=>.z
 |_=>.z
def sForR2(m:MA)(tg:MG)(body:MS):MS:=λE=>match m E with
 | .z=>.z| .y x E1=>.y x E1
 | .ok ([r,L],E1)=>match r.d,L.d with
  | .int i,.int j=>if -(2^62)<=i/\i<2^62/\-(2^62)<=j/\j<2^62 then Z3 tg body (zG i (j-i).toNat) E1 else .z|_,_=>.z
 |_=>.z
def W5{tg:MG}{g:TG}{body:MS}{D:Ends}(t:GOk X g tg){lo:Int}{n:Nat}{E1:zS}{H1:Hp}(g1:Got X.K X.mg M O E H [] O E1 H1 [])(l:Fin X M O E H D (Z3 tg body (zG lo n) E1)) :
  ∃W:Nat->Nat->St->Hp->Prop,(∃m,W 0 m O H1)/\∀i m O H,W i m O H ->
   ((Itr lo n).stop i H/\D.nx O H)\/((Itr lo n).go i H/\∃N:St->Hp->Prop,(∀O' H',N O' H'->∃k,k<m/\W (i+1) k O' H')/\∀x H',(Itr lo n).yld i H x H'->g x O H' λO2 H2=>tS X body {D with nx:=N,ct:=N,bk:=D.nx} O2 H2):=by
 refine zDW (λi O1 H2=>∃E2,Got X.K X.mg M O E H [] O1 E2 H2 []/\Fin X M O E H D (Z3 tg body ((zG lo n).drop i) E2)) ⟨E1,g1,l⟩ ?_ ?_
 ·rintro i O1 H2 R ⟨E2,Z,l⟩
  rw[JR n i lo R]at l;exact GW t Z (by dsimp[Rep]) l λO3 E3 H3 S V e=>⟨E3,S,e⟩
 ·rintro O1 H2 ⟨E2,Z,l⟩
  rw[List.drop_of_length_le (by rw[yk];exact le_refl _)]at l;exact l O1 H2 Z
def zD5{m:MA}{tg:MG}{g:TG}{body:MS}{D:Ends}(t:GOk X g tg)(h:tS X (sForR1 m tg body) D O H):tFor (iRng1 (tMA X m)) g (tS X body) D O H:=by
 obtain⟨M,E,hl,fr,k⟩:=zBp h;unfold sForR1 at k;refine Jp (T0:=[]) hl fr ?_;cases R:m E with
 |z=>rw[R]at k;exact k|y x E1=>rw[R]at k;exact λH' g=>k O H' g
 |ok p =>
  obtain⟨u,E1⟩:=p;rw[R]at k
  match u,k with
  | [r],k =>
   intro L H1 hv I;have e:=Got.reps hv I;dsimp at k;cases c:r.d with
   |int j =>
    rw[c]at k;dsimp[List.map,c]at e;obtain⟨v,rfl,J⟩:=JQ e;dsimp at k;by_cases S:-(2^62)<=j/\j<2^62
    ·rw[if_pos S]at k
     exact⟨j,by rw[zI J],S.1,S.2,W5 t I.dropAll k⟩
    ·rw[if_neg S]at k;exact k.elim
   |_=>rw[c]at k;exact k.elim
  | [],k=>exact k.elim|_::_::_,k=>exact k.elim
def zD6{m:MA}{tg:MG}{g:TG}{body:MS}{D:Ends}(t:GOk X g tg)(h:tS X (sForR2 m tg body) D O H):tFor (iRng2 (tMA X m)) g (tS X body) D O H:=by
 obtain⟨M,E,hl,fr,k⟩:=zBp h;unfold sForR2 at k;refine Jp (T0:=[]) hl fr ?_;cases R:m E with
 |z=>rw[R]at k;exact k|y x E1=>rw[R]at k;exact λH' g=>k O H' g
 |ok p =>
  obtain⟨u,E1⟩:=p;rw[R]at k
  match u,k with
  | [r,L],k =>
   intro a H1 hv I;have e:=Got.reps hv I;dsimp at k;cases c:r.d with
   |int i =>
    cases l:L.d with
    |int j =>
     rw[c,l]at k;dsimp[List.map,c,l]at e;obtain⟨v,w,rfl,J,h2⟩:=zGN e;dsimp at k;by_cases S:-(2^62)<=i/\i<2^62/\-(2^62)<=j/\j<2^62
     ·rw[if_pos S]at k
      exact⟨i,j,by rw[zI J,zI h2],S,W5 t I.dropAll k⟩
     ·rw[if_neg S]at k;exact k.elim
    |_=>rw[c,l]at k;exact k.elim
   |_=>rw[c]at k;exact k.elim
  | [],k=>exact k.elim| [_],k=>exact k.elim|_::_::_::_,k=>exact k.elim
def sk_forL(L:PassesOwn (model X.prog X.w) X.A X.env X.xe)(S:X.calm=true)(hi:EOk X iter m)(t:PG X tgt g)(J:GOk X g tg)(Z:zAp X body mb)
  (T:∀x,foldedSetIterable iter X.env x=pure x:=by intro _;rfl):SOk X (.For tgt iter body [] pos) (sForL m tg mb):=jD (zBg L S (zDU hi) t Z T) λD O H=>zGT J
def zGU(L:PassesOwn (model X.prog X.w) X.A X.env X.xe)(S:X.calm=true)(h:Gl X "range")(Y:X.mg "range"=none)(C:AOk X [a] m)(t:PG X tgt g)(J:GOk X g tg)(Z:zAp X body mb)
  (T:za a=false:=by rfl) (c:∀x,foldedSetIterable (.Call (.Name "range" p) [a] [] cpos) X.env x=pure x:=by intro _;rfl):SOk X (.For tgt (.Call (.Name "range" p) [a] [] cpos) body [] pos) (sForR1 m tg mb) :=
 jD (zBg L S (Qd h Y C (zAx T)) t Z c) λD O H=>zD5 J
def zGV(L:PassesOwn (model X.prog X.w) X.A X.env X.xe)(S:X.calm=true)(h:Gl X "range")(Y:X.mg "range"=none)(C:AOk X [a,b] m)(t:PG X tgt g)(J:GOk X g tg)(Z:zAp X body mb)
  (T:za a=false:=by rfl) (n:za b=false:=by rfl) (c:∀x,foldedSetIterable (.Call (.Name "range" p) [a,b] [] cpos) X.env x=pure x:=by intro _;rfl):SOk X (.For tgt (.Call (.Name "range" p) [a,b] [] cpos) body [] pos) (sForR2 m tg mb) :=
 jD (zBg L S (Qe h Y C (star2 T n) (zAx n)) t Z c) λD O H=>zD6 J
end
section
variable{X:Cx}{K:qH}{mg:Str->Lx Lv}{O:St}{M:Lf}{E:zS}{H H':Hp}{T0 Z T:Fz}
def zGW(h:s.list?=some ds)(h':s'.list?=some ds):zAo (o,s')=zAo (o,s):=by
 cases s<;>simp[Slot.list?]at h<;>cases s'<;>simp[Slot.list?]at h'<;>(cases o with|none=>rfl|some v=>cases v<;>rfl)
def WY(h:s.list?=some ds)(h':s'.list?=some ds):yH ((o,s')::Z)=yH ((o,s)::Z):=by
 unfold yH;rw[filterMap_cons,filterMap_cons,zGW h h']
def FR.lab(f:FR K mg M H ((o,s)::Z))(h:s.list?=some ds)(h':s'.list?=some ds):FR K mg M H ((o,s')::Z):=by
 have u:Mo M ((o,s')::Z)=Mo M ((o,s)::Z):=by unfold Mo;rw[WY h h']
 refine⟨λR d q=>?_,λR t E q e=>?_,by rw[WY h h'];exact f.nd,f.mal⟩
 ·rw[u]
  rcases mem_cons.mp q with q|q
  ·cases q;cases h'
  ·exact f.val R d (qD _ q)
 ·rw[u]
  rcases mem_cons.mp q with q|q
  ·cases q
   rw[zDq h']at e;cases e;exact f.own o s _ qE (zDq h)
  ·exact f.own R t E (qD _ q) e
def Qx(hi:Z[i]?=some (o,s2)):((o,s1)::(T++Z)).Perm ((o,s2)::(T++Z.set i (o,s1))):=by
 have I:i<Z.length:=(qG.mp hi).1;have Q:Z.Perm ((o,s2)::Z.eraseIdx i):=by
  have:=zQ (o,s2) Z i I;rw[JM hi]at this;exact this
 have t:(Z.set i (o,s1)).Perm ((o,s1)::Z.eraseIdx i):=zQ _ _ _ I;refine((Q.append_left T).cons _).trans ?_;refine List.Perm.trans ?_ ((t.append_left T).cons _).symm;have a:(T++(o,s2)::Z.eraseIdx i).Perm ((o,s2)::(T++Z.eraseIdx i)):=perm_middle;have b:(T++(o,s1)::Z.eraseIdx i).Perm ((o,s1)::(T++Z.eraseIdx i)):=perm_middle;exact((a.cons _).trans (List.Perm.swap _ _ _)).trans (b.cons _).symm
inductive AR where
 |tmp (d:D)
 |ln (i:Nat)
 deriving Inhabited
def AR.slot:AR->Slot
 | .tmp d=>.v d| .ln _=>.e
def zx(vs:Ls V)(as:Ls AR):Fz:=(vs.map some).zip (as.map AR.slot)
def AV(O:St):Ls AR->Ls V->Prop
 | [],L=>L=[]| .tmp _::as,L=>∃v r,L=v::r/\AV O as r| .ln i::as,L=>∃v r,L=v::r/\O[i]?=some (some v)/\AV O as r
theorem AV.length:∀{as:Ls AR} {L:Ls V},AV O as L->L.length=as.length
 | [],_,h=>by dsimp[AV]at h;subst h;rfl| .tmp _::as,_,h=>by dsimp[AV]at h;obtain⟨v,r,rfl,h⟩:=h;simp[AV.length h]| .ln i::as,_,h=>by dsimp[AV]at h;obtain⟨v,r,rfl,_,h⟩:=h;simp[AV.length h]
def zJ:Ls AR->zS->Out (Ls Slot×zS)
 | [],E=>.ok ([],E)
 | .tmp d::as,E=>match zJ as E with
  | .ok (c,E')=>.ok (.v d::c,E')|_=>.z
 | .ln i::as,E=>match E[i]? with
  |none=>.z
  |some s=>match s.list? with
   |none=>.z
   |some G=>match zJ as (E.set i .e)with
    | .ok (c,E')=>.ok (.p G::c,E')|_=>.z
def zF:Ls AR->Ls Slot->zS->zS->Out zS
 | [],[],_,E=>.ok E| .tmp _::as,_::c,E0,E=>zF as c E0 E
 | .ln i::as,j::c,E0,E=>match E0[i]? with
  |none=>.z
  |some s=>match s.list?,j.list?,E[i]? with
   |some _,some G,some .e=>zF as c E0 (E.set i (s.put G))|_,_,_=>.z
 |_,_,_,_=>.z
theorem W6:∀(as:Ls AR) {L:Ls V} {E E':zS} {c:Ls Slot} {T:Fz},E.length=O.length->AV O as L->zJ as E=.ok (c,E')->FR K mg M H (T++(zx L as++O.zip E)) ->
  FR K mg M H (T++((L.map some).zip c++O.zip E'))/\(∀b,b∈yH (T++(zx L as++O.zip E))↔b∈yH (T++((L.map some).zip c++O.zip E')))/\c.length=as.length/\E'.length=O.length
 | [],L,E,E',c,T,hl,R,e,f=>by
  cases e;dsimp[AV]at R;subst R;exact⟨f,λb=>Iff.rfl,rfl,hl⟩
 | .tmp d::as,L,E,E',c,T,hl,R,e,f=>by
  dsimp[AV]at R;obtain⟨v,r,rfl,R⟩:=R;dsimp[zJ]at e;cases W:zJ as E with
  |z=>rw[W]at e;cases e|y _ _=>rw[W]at e;cases e
  |ok p =>
   obtain⟨j,E1⟩:=p;rw[W]at e;cases e;have l:FR K mg M H ((T++[(some v,.v d)])++(zx r as++O.zip E)):=by
    rw[append_assoc];exact f
   obtain⟨I,Z,S,q⟩:=W6 as hl R W l;refine⟨by rw[append_assoc]at I;exact I,λb=>?_,by simp[S],q⟩;have:=Z b;rw[append_assoc,append_assoc]at this;exact this
 | .ln i::as,L,E,E',c,T,hl,R,e,f=>by
  dsimp[AV]at R;obtain⟨v,r,rfl,hv,R⟩:=R;dsimp[zJ]at e;exists e0,E[i]?,e,s;dsimp at e;exists e2,s.list?,e,ds;dsimp at e;cases W:zJ as (E.set i .e)with
  |z=>rw[W]at e;cases e|y _ _=>rw[W]at e;cases e
  |ok p =>
   obtain⟨j,E1⟩:=p;rw[W]at e;cases e;obtain⟨o,J,h2⟩:=JN hl e0;have ho:o=some v:=by rw[hv]at J;exact(qJ J).symm
   subst ho;have u:O.zip (E.set i .e)=(O.zip E).set i (some v,.e):=zg .e hv;have h:(T++(((some v,Slot.e)::zx r as)++O.zip E)).Perm ((some v,s)::(T++(zx r as++O.zip (E.set i .e)))):=by
    rw[u];have a:(T++(((some v,Slot.e)::zx r as)++O.zip E)).Perm ((some v,Slot.e)::((T++zx r as)++O.zip E)):=by
     rw[append_assoc];exact perm_middle
    refine a.trans ((Qx h2).trans ?_);rw[append_assoc]
   have l:=(f.perm h).lab e2 (s':=.p ds) rfl;have n:FR K mg M H ((((some v,Slot.p ds))::T)++(zx r as++O.zip (E.set i .e))):=l;obtain⟨I,Z,S,q⟩:=W6 as (by simp[hl]) R W n;have g:(((some v,Slot.p ds)::T)++((r.map some).zip j++O.zip E')).Perm (T++(((some v,Slot.p ds)::(r.map some).zip j)++O.zip E')):=perm_middle.symm;refine⟨I.perm g,λb=>?_,by simp[S],q⟩;have Q:b∈yH (T++(((some v,Slot.e)::zx r as)++O.zip E))↔b∈yH ((some v,s)::(T++(zx r as++O.zip (E.set i .e)))):=(h.filterMap zAo).mem_iff;have t:yH ((some v,Slot.p ds)::(T++(zx r as++O.zip (E.set i .e))))=yH ((some v,s)::(T++(zx r as++O.zip (E.set i .e)))):=WY e2 rfl;have k:=Z b;have x:b∈yH (((some v,Slot.p ds)::T)++((r.map some).zip j++O.zip E'))↔b∈yH (T++(((some v,Slot.p ds)::(r.map some).zip j)++O.zip E')):=(g.filterMap zAo).mem_iff;refine Q.trans ?_;rw[<- t];exact k.trans x
theorem GX:∀(as:Ls AR) {L:Ls V} {E0 E E':zS} {c:Ls Slot} {T:Fz},E.length=O.length->AV O as L->zF as c E0 E=.ok E'->FR K mg M H (T++((L.map some).zip c++O.zip E)) ->
  FR K mg M H (T++O.zip E')/\(∀b,b∈yH (T++O.zip E')->b∈yH (T++((L.map some).zip c++O.zip E)))/\E'.length=O.length
 | [],L,E0,E,E',c,T,hl,R,e,f=>by
  cases c with
  |cons _ _=>cases e
  |nil =>
   cases e;dsimp[AV]at R;subst R;exact⟨f,λb q=>q,hl⟩
 | .tmp d::as,L,E0,E,E',c,T,hl,R,e,f=>by
  dsimp[AV]at R;obtain⟨v,r,rfl,R⟩:=R;cases c with
  |nil=>cases e
  |cons s c =>
   dsimp[zF]at e;have sub:(T++((r.map some).zip c++O.zip E)).Sublist (T++(((some v,s)::(r.map some).zip c)++O.zip E)):=(sublist_cons_self _ _).append_left _;obtain⟨I,Z,S⟩:=GX as hl R e (f.sub sub);exact⟨I,λb q=>zD sub b (Z b q),S⟩
 | .ln i::as,L,E0,E,E',c,T,hl,R,e,f=>by
  dsimp[AV]at R;obtain⟨v,r,rfl,hv,R⟩:=R;cases c with
  |nil=>cases e
  |cons j c =>
   dsimp[zF]at e;exists e0,E0[i]?,e,s;dsimp at e;cases W:s.list? with
   |none=>rw[W]at e;cases e
   |some t =>
    cases P:j.list? with
    |none=>rw[W,P]at e;cases e
    |some ds =>
     cases n:E[i]? with
     |none=>rw[W,P,n]at e;cases e
     |some a =>
      rw[W,P,n]at e;cases a with
      |e =>
       dsimp at e;obtain⟨o,J,h2⟩:=JN hl n;have ho:o=some v:=by rw[hv]at J;exact(qJ J).symm
       subst ho;have y:O.zip (E.set i (s.put ds))=(O.zip E).set i (some v,s.put ds):=zg _ hv;have w:(s.put ds).list?=some ds:=(GV (p:=0) W).2;have h:(T++(((some v,j)::(r.map some).zip c)++O.zip E)).Perm ((some v,j)::((T++(r.map some).zip c)++O.zip E)):=by
        rw[append_assoc];exact perm_middle
       have l:=(f.perm h).lab P w;have g:((some v,s.put ds)::((T++(r.map some).zip c)++O.zip E)).Perm ((some v,Slot.e)::((T++(r.map some).zip c)++O.zip (E.set i (s.put ds)))):=by
        rw[y];exact Qx h2
       have u:=(l.perm g).tail;rw[append_assoc]at u;obtain⟨I,Z,S⟩:=GX as (by simp[hl]) R e u;refine⟨I,λb q=>?_,S⟩;have x:=Z b q;rw[<- append_assoc]at x;have z:b∈yH ((some v,Slot.e)::((T++(r.map some).zip c)++O.zip (E.set i (s.put ds)))):=zD (sublist_cons_self _ _) b x;have k:=zB g.symm b z;rw[WY P w]at k;exact zB h.symm b k
      |_=>cases e
def zA0:Ls AR->Ls Nat
 | []=>[]| .tmp _::as=>zA0 as| .ln i::as=>i::zA0 as
theorem GY:∀(as:Ls AR) {E E':zS} {c:Ls Slot},zJ as E=.ok (c,E')->∀(k:Nat),k∉zA0 as->E'[k]?=E[k]?
 | [],E,E',c,e,k,h=>by cases e;rfl
 | .tmp d::as,E,E',c,e,k,h=>by
  dsimp[zJ]at e;cases W:zJ as E with
  |z=>rw[W]at e;cases e|y _ _=>rw[W]at e;cases e
  |ok p =>
   rw[W]at e;cases e;exact GY as W k h
 | .ln i::as,E,E',c,e,k,h=>by
  dsimp[zJ]at e;exists e0,E[i]?,e,s;dsimp at e;exists e2,s.list?,e,ds;cases W:zJ as (E.set i .e)with
  |z=>rw[W]at e;cases e|y _ _=>rw[W]at e;cases e
  |ok p =>
   rw[W]at e;cases e;dsimp[zA0,mem_cons,not_or]at h;rw[GY as W k h.2,getElem?_set_ne (λq=>h.1 q.symm)]
theorem WZ:∀(as:Ls AR) {E0 E E':zS} {c:Ls Slot},zF as c E0 E=.ok E'->∀(k:Nat),E'[k]?=E[k]?\/∃(s:Slot) (G:Ls D),E0[k]?=some s/\E'[k]?=some (s.put G)
 | [],E0,E,E',c,e,k=>by
  cases c with
  |cons _ _=>cases e|nil=>cases e;exact .inl rfl
 | .tmp d::as,E0,E,E',c,e,k=>by
  cases c with
  |nil=>cases e|cons s c=>exact WZ as e k
 | .ln i::as,E0,E,E',c,e,k=>by
  cases c with
  |nil=>cases e
  |cons j c =>
   dsimp[zF]at e;exists e0,E0[i]?,e,s;dsimp at e;cases W:s.list? with
   |none=>rw[W]at e;cases e
   |some t =>
    cases P:j.list? with
    |none=>rw[W,P]at e;cases e
    |some G =>
     cases n:E[i]? with
     |none=>rw[W,P,n]at e;cases e
     |some a =>
      rw[W,P,n]at e;cases a with
      |e =>
       rcases WZ as e k with q|q
       ·by_cases M:i=k
        ·subst M
         have I:i<E.length:=(qG.mp n).1;rw[getElem?_set_self I]at q;exact .inr ⟨s,G,e0,q⟩
        ·rw[getElem?_set_ne M]at q
         exact .inl q
       ·exact .inr q
      |_=>cases e
theorem W7:∀(as:Ls AR) {E0 E E':zS} {c:Ls Slot},zF as c E0 E=.ok E'->∀(k:Nat),k∈zA0 as->∃(s:Slot) (G:Ls D),E0[k]?=some s/\E'[k]?=some (s.put G)
 | [],E0,E,E',c,e,k,h=>by cases h
 | .tmp d::as,E0,E,E',c,e,k,h=>by
  cases c with
  |nil=>cases e|cons s c=>exact W7 as e k h
 | .ln i::as,E0,E,E',c,e,k,h=>by
  cases c with
  |nil=>cases e
  |cons j c =>
   dsimp[zF]at e;exists e0,E0[i]?,e,s;dsimp at e;cases W:s.list? with
   |none=>rw[W]at e;cases e
   |some t =>
    cases P:j.list? with
    |none=>rw[W,P]at e;cases e
    |some G =>
     cases n:E[i]? with
     |none=>rw[W,P,n]at e;cases e
     |some a =>
      rw[W,P,n]at e;cases a with
      |e =>
       by_cases M:i=k
       ·subst M
        rcases WZ as e i with q|q
        ·have I:i<E.length:=(qG.mp n).1
         rw[getElem?_set_self I]at q;exact⟨s,G,e0,q⟩
        ·exact q
       ·dsimp[zA0,mem_cons]at h
        rcases h with h|h
        ·exact absurd h.symm M
        ·exact W7 as e k h
      |_=>cases e
def zD7{as:Ls AR}(J:zJ as E1=.ok (ss,E2))(Y:zF as outs E1 E2=.ok E3):PKp O E1 O E3:=λk G e=>by
 refine⟨?_,rfl⟩;by_cases V:k∈zA0 as
 ·obtain⟨s,E,K,S⟩:=W7 as Y k V
  rw[e]at K;cases K;exact⟨E,S⟩
 ·rcases WZ as Y k with q|⟨s,E,K,S⟩
  ·rw[q,GY as J k V];exact⟨G,e⟩
  ·rw[e]at K;cases K
   exact⟨E,S⟩
abbrev MF:=Ls Slot->Out (R×Ls Slot)
def spM(K:qH)(g:Str->Lx Lv)(n:Nat)(F:MF):Sp:=λL H Q XQ=>L.length=n/\∃(M:Lf) (c:Ls Slot),c.length=L.length/\FR K g M H ((L.map some).zip c)/\match F c with
 | .z=>False| .ok (r,outs)=>∀v H',outs.length=L.length->FR K g M H' ((some v,r.slot)::(L.map some).zip outs)->Step M H ((L.map some).zip c) H' ((some v,r.slot)::(L.map some).zip outs)->Q v H'| .y x _=>∀C i H',g x.cls=some (.ref C)->Fs i H' x.cls x.vs->FR K g M H' []->Step M H ((L.map some).zip c) H' []->XQ (.ref C) i H'
inductive Arg where
 |ev (m:ME)
 |lend (i:Nat)
def zY:Ls Arg->zS->Out (Ls AR×zS)
 | [],E=>.ok ([],E)
 | .ev m::as,E=>match m E with
  | .z=>.z| .y x E1=>.y x E1
  | .ok (r,E1)=>match zY as E1 with
   | .ok (o,E2)=>.ok (.tmp r.d::o,E2)| .y x E2=>.y x E2| .z=>.z
 | .lend i::as,E=>if Y4 E[i]?=true then .z else match zY as E with
  | .ok (o,E2)=>.ok (.ln i::o,E2)| .y x E2=>.y x E2| .z=>.z
def tArgs(X:Cx)(as:Ls Arg):TA:=λO H Q=>∃M E,E.length=O.length/\FR X.K X.mg M H (O.zip E)/\match zY as E with
 | .z=>False| .ok (ars,E')=>∀L H',AV O ars L->Got X.K X.mg M O E H [] O E' H' (zx L ars)->Q L H'| .y x E'=>∀H',Got X.K X.mg M O E H [] O E' H' []->XE X O H' x
abbrev zHx(X:Cx)(es:Ls Lb)(as:Ls Arg):Prop:=PA X es (tArgs X as)
def W8{as:Ls Arg}{Q:Ls V->Hp->Prop}(c:E.length=O.length)(h:FR X.K X.mg M H (T0++O.zip E))
  (k:match zY as E with | .z=>False | .ok (ars,E')=>∀L H',AV O ars L->Got X.K X.mg M O E H T0 O E' H' (zx L ars)->Q L H' | .y x E'=>∀H',Got X.K X.mg M O E H T0 O E' H' []->XE X O H' x):tArgs X as O H Q:=by
 refine⟨Mo M T0,E,c,h.inner,?_⟩;cases e:zY as E with
 |z=>rw[e]at k;exact k|ok a=>rw[e]at k;exact λL H' R g=>k L H' R (g.outer h)|y x E'=>rw[e]at k;exact λH' g=>k H' (g.outer h)
def ga_nil:zHx X [] []:=Qq Qg λO H Q ⟨M,E,hl,fr,k⟩=>k [] H (by dsimp[AV]) (Got.refl (T0:=[]) hl fr)
def ga_ev{as:Ls Arg}(c:EOk X e m)(a:zHx X es as)(T:za e=false:=by rfl):zHx X (e::es) (.ev m::as):=Qq (Ye c a (zw T)) λO H Q ⟨M,E,hl,fr,k⟩=>by
 dsimp[zY]at k;refine z9 (T0:=[]) hl fr ?_;exists ea,m E,k,r1,E1;intro x H1 J;have I:Got X.K X.mg M O E H [] O E1 H1 [(some x,.v r1.d)]:=⟨J.len,J.fr.frz,J.st.frz,J.pk⟩;refine W8 (T0:=[(some x,.v r1.d)]) I.len I.fr ?_;dsimp at k;cases K:zY as E1 with
 |z=>rw[K]at k;exact k|y x E2=>rw[K]at k;exact λH' g=>k H' (I.trans' g).dropAll
 |ok p =>
  rw[K]at k;intro L H2 R Z;refine k (x::L) H2 (by dsimp[AV];exact⟨x,L,rfl,R⟩) ?_;exact(I.trans' Z).perm (perm_append_comm)
def ga_lend{as:Ls Arg}(P:PE X (.Name x p) (zDN i))(z:zHx X es as)  : zHx X (.Name x p::es) (.lend i::as):=Qq (Ye P z (zw rfl)) λO H Q ⟨M,E,hl,fr,k⟩=>by
 dsimp[zY]at k;cases u:Y4 E[i]? with
 |true=>rw[u]at k;exact k.elim
 |false =>
  rw[u]at k;obtain⟨s,j,w⟩:=zAz u;obtain⟨v,P⟩:=zD3 hl fr j w;refine⟨v,P,?_⟩;refine W8 (T0:=[]) hl fr ?_;exists eb,zY as E,k,ars,E2;intro L H2 R Z;refine k (v::L) H2 (by dsimp[AV];exact⟨v,L,rfl,P,R⟩) ?_;have c:Mo M ((some v,Slot.e)::(zx L ars++([]++O.zip E2)))=Mo M (zx L ars++([]++O.zip E2)):=Mo_emp _ _ _;refine⟨Z.len,⟨λo d q=>?_,λo t G q e=>?_,?_,Z.fr.mal⟩,⟨?_,Z.st.keep⟩,Z.pk⟩
  ·show ∃g,_/\Rep X.K X.mg (Hm (Mo M ((some v,Slot.e)::(zx L ars++([]++O.zip E2)))) H2) d g
   rw[c];rcases mem_cons.mp q with q|q
   ·cases q
   ·exact Z.fr.val o d q
  ·show ∃a ho,_/\_/\_/\CRep X.K X.mg (Hm (Mo M ((some v,Slot.e)::(zx L ars++([]++O.zip E2)))) H2) a G ho
   rw[c];rcases mem_cons.mp q with q|q
   ·cases q;cases e
   ·exact Z.fr.own o t G q e
  ·show(yH ((some v,Slot.e)::(zx L ars++([]++O.zip E2)))).Nodup
   rw[yp];exact Z.fr.nd
  ·show Yr _ (Hm (Mo M ((some v,Slot.e)::(zx L ars++([]++O.zip E2)))) H2)
   rw[c];exact Z.st.same
def Qy:Ls AR->Bool
 | []=>true| .tmp _::as=>Qy as| .ln _::_=>false
theorem ui:∀{as:Ls AR} {E E':zS} {c:Ls Slot},Qy as=true->zJ as E=.ok (c,E')->E'=E
 | [],E,E',c,_,e=>by cases e;rfl
 | .tmp d::as,E,E',c,h,e=>by
  dsimp[zJ]at e;cases q:zJ as E with
  |z=>rw[q]at e;cases e|y _ _=>rw[q]at e;cases e|ok p=>obtain⟨R,E1⟩:=p;rw[q]at e;cases e;exact ui (as:=as) h q
 | .ln i::as,E,E',c,h,e=>by cases h
def y2(F:MF)(as:Ls Arg):ME:=λE=>match zY as E with
 | .z=>.z| .y x E1=>.y x E1
 | .ok (o,E1)=>match zJ o E1 with
  | .ok (c,E2)=>match F c with
   | .ok (r,S)=>match zF o S E1 E2 with
    | .ok E3=>.ok (r,E3)|_=>.z
   | .y x _=>if Qy o=true then .y ⟨x.cls,false,x.vs⟩ E1 else .z| .z=>.z
  |_=>.z
def zGX(hn:ars.length=n)(W:zJ ars E1=.ok (ss,E2))(P:F ss=.ok (r,outs))(t:zF ars outs E1 E2=.ok E3)
  (R:AV O ars vs) (g:Got K mg M O E H [] O E1 H1 (zx vs ars)) (k:∀v H',Got K mg M O E H [] O E3 H' [(some v,r.slot)]->Q v H'):spM K mg n F vs H1 Q XQ:=by
 obtain⟨l,h,z,G⟩:=W6 (T:=[]) ars g.len R W g.fr;have a:FR K mg M H1 (O.zip E2++(vs.map some).zip ss):=FR.perm (T:=O.zip E2++(vs.map some).zip ss) (Z:=(vs.map some).zip ss++O.zip E2) l perm_append_comm;have y:=R.length;refine⟨y.trans hn,Mo M (O.zip E2),ss,z.trans y.symm,a.inner,?_⟩;rw[P];intro v H' o u e;have J:=FR.outer a u e;have w:=Step.outer e;have p:(O.zip E2++((some v,r.slot)::(vs.map some).zip outs)).Perm ([(some v,r.slot)]++((vs.map some).zip outs++O.zip E2)):=by
  refine perm_append_comm.trans ?_;exact List.Perm.refl _
 obtain⟨L,i,j⟩:=GX ars G R t (J.perm p);refine k v H' ⟨j,L,?_,g.pk.trans (zD7 W t)⟩;have S:Step M H (O.zip E) H1 (O.zip E2++(vs.map some).zip ss):=g.st.weak λb c=>(h b).mpr (zB (T:=O.zip E2++(vs.map some).zip ss) (Z:=(vs.map some).zip ss++O.zip E2) perm_append_comm b c)
 have q:=S.trans w;exact q.weak λb c=>zB p.symm b (i b c)
def zGY(hn:ars.length=n)(c:Qy ars=true)(W:zJ ars E1=.ok (ss,E2))(P:F ss=.y x outs)
  (R:AV O ars vs) (g:Got K mg M O E H [] O E1 H1 (zx vs ars)) (k:∀C i H',mg x.cls=some (.ref C)->Fs i H' x.cls x.vs->Got K mg M O E H [] O E1 H' []->XQ (.ref C) i H'):spM K mg n F vs H1 Q XQ:=by
 obtain⟨l,h,z,G⟩:=W6 (T:=[]) ars g.len R W g.fr;have a:FR K mg M H1 (O.zip E2++(vs.map some).zip ss):=FR.perm (T:=O.zip E2++(vs.map some).zip ss) (Z:=(vs.map some).zip ss++O.zip E2) l perm_append_comm;have y:=R.length;refine⟨y.trans hn,Mo M (O.zip E2),ss,z.trans y.symm,a.inner,?_⟩;rw[P];intro C i H' Y hf j e;have J:=FR.outer a j e;have w:=Step.outer e;rw[append_nil]at J w;have S:Step M H (O.zip E) H1 (O.zip E2++(vs.map some).zip ss):=g.st.weak λb o=>(h b).mpr (zB (T:=O.zip E2++(vs.map some).zip ss) (Z:=(vs.map some).zip ss++O.zip E2) perm_append_comm b o)
 obtain rfl:=ui c W;exact k C i H' Y hf ⟨g.len,J,S.trans w,g.pk⟩
theorem jp:∀(as:Ls Arg) {E E':zS} {o:Ls AR},zY as E=.ok (o,E')->o.length=as.length
 | [],E,E',o,e=>by cases e;rfl
 | .ev m::as,E,E',o,e=>by
  dsimp[zY]at e;cases R:m E with
  |z=>rw[R]at e;cases e|y _ _=>rw[R]at e;cases e
  |ok p =>
   obtain⟨r,E1⟩:=p;rw[R]at e;dsimp at e;cases K:zY as E1 with
   |z=>rw[K]at e;cases e|y _ _=>rw[K]at e;cases e|ok p=>obtain⟨a,b⟩:=p;rw[K]at e;cases e;simp[jp as K]
 | .lend i::as,E,E',o,e=>by
  dsimp[zY]at e;split at e
  ·cases e
  ·cases K:zY as E with
   |z=>rw[K]at e;cases e|y _ _=>rw[K]at e;cases e|ok p=>obtain⟨a,b⟩:=p;rw[K]at e;cases e;simp[jp as K]
def zGZ{as:Ls Arg}(hn:as.length=n)(h:tM X (y2 F as) O H Q):tArgs X as O H λL H1=>spM X.K X.mg n F L H1 Q (EX X O):=by
 obtain⟨M,E,hl,fr,k⟩:=h;unfold y2 at k;refine W8 (T0:=[]) hl fr ?_;exists ea,zY as E,k,ars,E1;intro L H1 R g;dsimp at k;cases W:zJ ars E1 with
 |z=>rw[W]at k;exact k.elim|y _ _=>rw[W]at k;exact k.elim
 |ok p =>
  obtain⟨c,E2⟩:=p;rw[W]at k;dsimp at k;cases P:F c with
  |z=>rw[P]at k;exact k.elim
  |y x o =>
   rw[P]at k;cases hl:Qy ars with
   |false=>rw[hl]at k;exact k.elim
   |true =>
    rw[hl]at k;exact zGY ((jp as ea).trans hn) hl W P R g λC i H' Y hf u=>⟨⟨x.cls,false,x.vs⟩,C,rfl,Y,rfl,hf,k H' u⟩
  |ok p =>
   obtain⟨r,S⟩:=p;rw[P]at k;dsimp at k;cases a:zF ars S E1 E2 with
   |z=>rw[a]at k;exact k.elim|y _ _=>rw[a]at k;exact k.elim
   |ok E3 =>
    rw[a]at k;exact zGX ((jp as ea).trans hn) W P a R g k
inductive Mask:Fz->Fz->Prop
 |nil (Z:Fz):Mask Z []
 |keep {z:Option V×Slot} {Z W:Fz}:Mask Z W->Mask (z::Z) (z::W)
 |skip {z:Option V×Slot} {Z W:Fz}:Mask Z W->Mask (z::Z) W
 |extra {o:Option V} {Z W:Fz}:Mask Z W->Mask Z ((o,.e)::W)
def Mask.emq(h:Mask Z W):Mask (z::Z) ((o,.e)::W):=.skip (.extra h)
theorem Mask.sub:∀{Z W:Fz},Mask Z W->(yH W).Sublist (yH Z)
 |_,_,.nil Z=>by simp[yH]
 |_,_,.keep (z:=z) (Z:=Z) (W:=W) h=>by
  have e:∀W:Fz,yH (z::W)=yH [z]++yH W:=λW=>zX [z] W
  rw[e Z,e W];exact h.sub.append_left _
 |_,_,.skip (z:=z) (Z:=Z) (W:=W) h=>by
  have e:∀W:Fz,yH (z::W)=yH [z]++yH W:=λW=>zX [z] W
  rw[e Z];exact h.sub.trans (sublist_append_right _ _)
 |_,_,.extra (Z:=Z) (W:=W) h=>by
  rw[yp];exact h.sub
theorem Mask.mem:∀{Z W:Fz},Mask Z W->∀o s,s≠Slot.e->(o,s)∈W->(o,s)∈Z
 |_,_,.nil Z,o,s,T,h=>by cases h
 |_,_,.keep h,o,s,T,q=>by
  rcases mem_cons.mp q with q|q
  ·subst q;exact qE
  ·exact qD _ (h.mem o s T q)
 |_,_,.skip h,o,s,T,q=>qD _ (h.mem o s T q)
 |_,_,.extra h,o,s,T,q=>by
  rcases mem_cons.mp q with q|q
  ·cases q;exact absurd rfl T
  ·exact h.mem o s T q
def FR.mask(f:FR K mg M H Z)(h:Mask Z W):FR K mg M H W where
 val:=λo d q=>by
  obtain⟨v,e,r⟩:=f.val o d (h.mem o _ (by intro z;cases z) q);exact⟨v,e,r.mono (j6 (YS λb c=>h.sub.subset c))⟩
 own:=λo s G q e=>by
  obtain⟨a,Y,g,P,n,r⟩:=f.own o s G (h.mem o s (by intro z;subst z;cases e) q) e;exact⟨a,Y,g,P,n,r.mono (j6 (YS λb c=>h.sub.subset c))⟩
 nd:=f.nd.sublist h.sub
 mal:=f.mal
def zt:Ls Slot->zS->Ls Slot
 | [],_=>[]| .p _::ss,s::E=>s::zt ss E|_::ss,_::E=>.e::zt ss E|_::ss,[]=>.e::zt ss []
def fnM(N:Nat)(body:MS):MF:=λc=>match body (c++replicate (N-c.length) .e)with
 | .ok (.ret r,E')=>.ok (r,zt c E')| .ok (.nx,E')=>.ok (.v .non,zt c E')| .y x E'=>.y x (zt c E')|_=>.z
theorem zZ:∀(c:Ls Slot) (E:zS),(zt c E).length=c.length
 | [],_=>rfl| .p _::c,s::E=>by simp[zt,zZ c E]| .e::c,s::E=>by simp[zt,zZ c E]| .v _::c,s::E=>by simp[zt,zZ c E]| .w _::c,s::E=>by simp[zt,zZ c E]| .m _ _::c,s::E=>by simp[zt,zZ c E]| .p _::c,[]=>by simp[zt,zZ c []]| .e::c,[]=>by simp[zt,zZ c []]| .v _::c,[]=>by simp[zt,zZ c []]| .w _::c,[]=>by simp[zt,zZ c []]| .m _ _::c,[]=>by simp[zt,zZ c []]
theorem Wa:∀(c:Ls Slot) (L:Ls (Lx V)) (O:St) (E:zS),E.length=O.length->L.length=c.length->(∀(i:Nat) G,c[i]?=some (.p G)->O[i]?=L[i]?)->Mask (O.zip E) (L.zip (zt c E))
 | [],L,O,E,_,_,_=>by
  dsimp[zt,List.zip_nil_right];exact .nil _
 |s::c,[],O,E,_,h,_=>by simp at h|s::c,v::L,[],y::E,h,_,_=>by simp at h|s::c,v::L,x::O,[],h,_,_=>by simp at h
 |s::c,v::L,[],[],J,h2,h4=>by
  have u:=Wa c L [] [] rfl (by exists h2) λi G e=>by
   have:=h4 (i+1) G (by exists e);exists this
  cases s<;>exact .extra u
 |s::c,v::L,x::O,y::E,J,h2,h4=>by
  have u:=Wa c L O E (by exists J) (by exists h2) λi G e=>by
   have:=h4 (i+1) G (by exists e);exists this
  cases s with
  |p G =>
   have e:=h4 0 G rfl;simp at e;subst e;exact .keep u
  |e=>dsimp[zt,zip_cons_cons];exact .emq u|v d=>dsimp[zt,zip_cons_cons];exact .emq u|w G=>dsimp[zt,zip_cons_cons];exact .emq u|m ks L=>dsimp[zt,zip_cons_cons];exact .emq u
theorem zA1:∀n:Nat,(replicate n (none:Lx V)).zip (replicate n Slot.e)=replicate n (none,Slot.e)
 |0=>rfl|n+1=>by simp[replicate_succ,zA1 n]
def GZ(n:Nat):yH (replicate n ((none:Lx V),Slot.e))=[]:=by
 induction n with
 |zero=>rfl|succ n u=>rw[replicate_succ,yp,u]
def FR.emps(f:FR K mg M H Z)(n:Nat):FR K mg M H (Z++replicate n (none,.e)):=by
 have J:yH (Z++replicate n (none,Slot.e))=yH Z:=by rw[zX,GZ,append_nil]
 have u:Mo M (Z++replicate n (none,Slot.e))=Mo M Z:=by unfold Mo;rw[J]
 refine⟨λo d q=>?_,λo s G q e=>?_,by rw[J];exact f.nd,f.mal⟩
 ·rw[u]
  rcases mem_append.mp q with q|q
  ·exact f.val o d q
  ·have:=List.eq_of_mem_replicate q;cases this
 ·rw[u]
  rcases mem_append.mp q with q|q
  ·exact f.own o s G q e
  ·have:=List.eq_of_mem_replicate q;cases this;cases e
def body_ok(t:∀x O' H',(∀C a,X.mg x.cls=some (.ref C)->Fs a H' x.cls x.vs->XQ (.ref C) a H')->XE X O' H' x)(h:spM X.K X.mg n (fnM N.length body) vs H Q XQ):tS X body {nx:=λ_ H'=>Q .non H',rt:=Q} (L2.j5 N vs) H:=by
 obtain⟨hv,M,c,hl,f,k⟩:=h;have O:(L2.j5 N vs).zip (c++replicate (N.length-c.length) Slot.e)=(vs.map some).zip c++replicate (N.length-c.length) (none,.e):=by
  unfold L2.j5;rw[zip_append (by simp[hl]),hl,zA1]
 have u:(c++replicate (N.length-c.length) Slot.e).length=(L2.j5 N vs).length:=by
  unfold L2.j5;simp[hl]
 have q:FR X.K X.mg M H ((L2.j5 N vs).zip (c++replicate (N.length-c.length) Slot.e)):=by rw[O];exact f.emps _
 have J:∀b,b∈yH ((L2.j5 N vs).zip (c++replicate (N.length-c.length) Slot.e))->b∈yH ((vs.map some).zip c):=λb Z=>by
  rw[O,zX,GZ,append_nil]at Z;exact Z
 refine⟨M,c++replicate (N.length-c.length) Slot.e,u,q,?_⟩;unfold fnM at k;have l:∀{O':St} {E':zS} {H':Hp} {v:V} {r:R},Got X.K X.mg M (L2.j5 N vs) (c++replicate (N.length-c.length) Slot.e) H [] O' E' H' [(some v,r.slot)] ->
   (∀v H',(zt c E').length=vs.length->FR X.K X.mg M H' ((some v,r.slot)::(vs.map some).zip (zt c E'))->Step M H ((vs.map some).zip c) H' ((some v,r.slot)::(vs.map some).zip (zt c E'))->Q v H')->Q v H':=λ{O' E' H' v r} g j=>by
  have mk:Mask (O'.zip E') ((vs.map some).zip (zt c E')):=Wa c _ O' E' g.len (by simp[hl]) λi G e=>by
   have o:i<c.length:=(qG.mp e).1;have W:(c++replicate (N.length-c.length) Slot.e)[i]?=some (.p G):=by rw[List.getElem?_append_left o];exact e
   have:=(g.pk i G W).2;rw[this];unfold L2.j5;rw[List.getElem?_append_left (by simp;lia)]
  refine j v H' (by rw[zZ,hl]) (g.fr.mask (.keep mk)) ?_;exact(g.st.weak λb Z=>(Mask.keep mk).sub.subset Z).left J
 cases K:body (c++replicate (N.length-c.length) Slot.e)with
 |z=>rw[K]at k;exact k
 |y x E' =>
  rw[K]at k;intro O' H' g;refine t x O' H' λC a Y hf=>k C a H' Y hf (g.fr.sub (List.nil_sublist _)) ?_
  exact(g.st.weak λb Z=>by cases Z).left J
 |ok p =>
  obtain⟨L,E'⟩:=p;rw[K]at k;cases L with
  |bk=>exact k.elim|ct=>exact k.elim|ret r=>exact λv O' H' g=>l g k|nx=>exact λO' H' g=>l (r:=.v .non) (g.flat (d:=.non) rfl) k
end
section
variable{P:Lc}{w:Le}{K:qH}{mg:Str->Lx Lv}{base:Heap}
def fn_ok(F:Fun K x qual st f fd)(S:FnScope N ps (zc st))
  (Z:∀(R:Lv) (A:Li) (outer:Ls Env) (s:La) (H:Hp) (E:XK),(c=true->A.handled=none)->RoomN k (A.deeper (PyProof.Rows.envOfC qual (zc st) s.heap.objs.size f R)) ->
   zAp (cxN c P w K mg base N qual (zc st) f R A outer s H E) (jL st) body):FnOkN c P w K mg base (k+1) f fd ps (spM K mg ps.length (fnM N.length body)):=by
 obtain⟨e,i,kV,I,J,a,R,o,u,rfl,y,p⟩:=F.ex;exact fn_ofN y p S (λL H Q E h=>h.1) λA outer s H L Q E C z h=>⟨_,Z R A outer s H E C z,body_ok (X:=cxN c P w K mg base N qual (zc st) f R A outer s H E) (λx O' H' G=>zGF G) h⟩
end
section
variable{X:Cx}{k:Nat}{f:Lz}{fd:FuncData}{ps:Ls Str}{F:MF}{x:Str}{p pos:Pos}{e:Lb}{es:Ls Lb}{as:Ls Arg}
def ok_call(G:FnOkN c X.prog X.w X.K X.mg X.base k f fd ps (spM X.K X.mg ps.length F))(hd:c=true->X.A.handled=none)(z:RoomN k X.A)(t:Gl X x)(Y:X.mg x=some (.ref f))(V:keepIn X.K (.ref f)=true)(Z:ZU X.K fd ps [])(C:zHx X (e::es) as)(hn:as.length=ps.length:=by rfl)
  (a:(x==("__debug__":Str))=false:=by decide) (g:za e=false:=by rfl) (o:j7 es=true:=by rfl):EOk X (.Call (.Name x p) (e::es) [] pos) (y2 F as) :=
 yW (zGE G hd z t Y V Z C a (zw g) (Y3 o)) λO H Q=>zGZ hn
end
end DV
namespace L2
open PySem PySem.Spec PyProof.Rows
def Inv.big(I:Inv X pins O H s):sysModules<s.heap.objs.size:=by
 have h:mainGlobals<s.heap.objs.size:=(I.mod.glob.keeps I.bk).lt;exact lt_trans (by decide) h
def cxB(X:Cx)(N:Ls Str)(Y:Scope)(cl:Ls (Str×Lz))(C:Lz)(ex:Ls Lz)(s:La)(H:Hp):Cx :=
 {X with N:=N,s₀:=s,H₀:=H,env:=compEnvC Y cl C X.env,outer:=X.stack,ex:=ex,fn:=λy=>Y.names.lookup y==some NameKind.cell,pn:=[]}
def zFo(X:Cx)(y:Ls Lb)(t:TT):Prop:=∀(G:Ls (Lz×Obj)) (s:La) (O:St) (H:Hp) (Q:Bool->Hp->Prop),Inv X G O H s->t O H Q ->
 wpAny (model X.prog X.w) X.A (forIn y true λc r=>if r=true then do let ok <- isTrue c X.env (eval c X.env);pure (ForInStep.yield ok)else pure (ForInStep.yield r)) (TP X G O Q) X.xe s
def pif_nil:zFo X [] (λO H Q=>Q true H):=λG s O H Q I h=>wpAny_tests_nil ⟨H,I,h⟩
def pif_one(h:PT X c t):zFo X [c] t:=λG s O H Q I q=>wpAny_tests_one (h G s O H Q I q)
def y8(nl:Nat)(caps:Ls Nat)(O:St):St:=replicate nl none++caps.map λj=>(O[j]?).getD none
def zHy(p:Pos)(t:Lb)(fs:Ls Lb)(it:Lv)(env:Env)(V:Sem PySem.Fin->Sem PySem.Fin)(k:Sem PySem.Fin):Sem PySem.Fin:=do
 standAt p
 let r <- pyNext it
 match r with
 |none=>pure (.done .next)
 |some v=>do
  letOwnedTupleGo t it v
  assign t env v
  let ok <- forIn fs true λc r=>if r=true then do let ok <- isTrue c env (eval c env);pure (ForInStep.yield ok)else pure (ForInStep.yield r)
  if ok=true then V k else k
abbrev TAc:=Lz->St->Hp->(St->Hp->Prop)->Prop
def PAc(Y:Cx)(V:Lv->Env->Sem PySem.Fin->Sem PySem.Fin)(w:TAc):Prop:=∀(D:Lz) (G:Ls (Lz×Obj)) (s:La) (O:St) (H:Hp) (Nx:St->Hp->Prop) (k:Sem PySem.Fin) (Q:PySem.Fin->La->Prop) (E:Ly),Inv Y G O H s->w D O H Nx ->
 (∀O' H' j,Inv Y G O' H' j->Nx O' H'->wpAny (model Y.prog Y.w) Y.A k Q E j)->wpAny (model Y.prog Y.w) Y.A (V (.ref D) Y.env k) Q E s
def Trn(J:It)(g:TG)(tt:TT)(w:TAc)(D:Lz)(l:St->Hp->Prop)(O:St)(H:Hp):Prop:=∃W:Nat->Nat->St->Hp->Prop,(∃m,W 0 m O H)/\∀i m O' H',W i m O' H' ->
 (J.stop i H'/\l O' H')\/(J.go i H'/\∃N2:St->Hp->Prop,(∀O'' H'',N2 O'' H''->∃k,k<m/\W (i+1) k O'' H'')/\∀x H'',J.yld i H' x H''->g x O' H'' λO2 H2 =>
  tt O2 H2 λb H3=>if b=true then w D O2 H3 N2 else N2 O2 H3)
def zGa(o:Lz->HO)(nl:Nat)(caps:Ls Nat)(c:TI)(g:TG)(tt:TT)(w:TAc):TE:=λO H Q=>c O H λJ H1=>∀D,H1 D=none->Trn J g tt w D (λ_ H'=>Q (.ref D) H') (y8 nl caps O) (upd H1 D (o D))
def LoopN(P:Lc)(w:Le)(e:Lb):Prop:=∀d it L p,(Code.compLoop e d it L p).quiet=true/\(∀A:Li,A.under (.compLoop e d it L p)=A)/\(model P w).den (.compLoop e d it L p)=(compTurn e d it L p).onRaise (λx=>do noteFrame x p;theTreesLotGoes x)
def W9{P:Lm}{V:Lv->Env->Sem PySem.Fin->Sem PySem.Fin}{R:Result->La->Prop}{l:St->Hp->Prop} 
  (hL:LoopN Y.prog Y.w ce) (M:∀e s,¬Y.xe e s) (hc:Y.calm=true) (hg:PG Y t g) (ht:zFo Y fs tt) (he:PAc Y V ta)
  (L:compTurn ce d (.ref it) (.ref D) Y.env=zHy p t fs (.ref it) Y.env (V (.ref D) Y.env) (again (.compLoop ce d (.ref it) (.ref D) Y.env)))
  (T:Turn Y.prog Y.w Y.K t J fp it P) (aa:∀{H':Hp},(∀b∈fp,H' b=none)->∀b∈fp,zCe Y pins H' b) (I:Inv Y pins O H s) (st:P 0 s.heap) (fr:∀b∈fp,H b=none) (h:Trn J g tt ta D l O H)
  (hR:∀O' H' j,Inv Y pins O' H' j->l O' H'->R (.ok .next) j):codeAny (model Y.prog Y.w) Y.A (.compLoop ce d (.ref it) (.ref D) Y.env) R s:=by
 obtain⟨W,⟨m0,w0⟩,step⟩:=h;obtain⟨l1,G,l3⟩:=hL d (.ref it) (.ref D) Y.env;refine codeAny_loop l1 (λn j=>∃i O' H',Inv Y pins O' H' j/\P i j.heap/\(∀b∈fp,H' b=none)/\W i n O' H') (λn K h5=>?_) m0 ⟨0,O,H,I,st,fr,w0⟩;obtain⟨i,O5,H5,I5,E,X,w5⟩:=h5;rw[G,l3];refine wpAny_noted ?_;rw[L];refine qB (wpAny_standAt (qB ?_));rcases step i n O5 H5 w5 with⟨c,q⟩|⟨a,N2,hN,C⟩
 ·refine wpAny_mono (T.done Y rfl rfl rfl hc i pins K O5 H5 (λ_ _=>False) I5 (aa X) E c) (λr S y=>?_) (λ_ _ z=>z.elim)
  obtain⟨hr,I6⟩:=y;subst hr;exact qC (hR O5 H5 S I6 q)
 ·refine wpAny_mono (T.item Y rfl rfl rfl hc i pins K O5 H5 (λ_ _=>False) I5 (aa X) E a) (λr S y=>?_) (λ_ _ z=>z.elim)
  obtain⟨u,hr,y⟩:=y;subst hr;refine qB (wpAny_mono y (λ_ v h7=>?_) (λ_ _ z=>z.elim));obtain⟨x,H7,I7,r7,y7,ab,ac⟩:=h7;have I7':=I7.pinned (aa ac) (T.obj _ _ ab);refine qB (wpAny_mono (hg _ v O5 H7 x u _ I7' r7 (C x H7 y7)) (λ_ k h8=>?_) (λ_ _ z=>absurd z (M _ _)));obtain⟨O8,H8,I8,q8⟩:=h8;refine qB (wpAny_mono (ht _ k O8 H8 _ I8 q8) (λb s9 h9=>?_) (λ_ _ z=>absurd z (M _ _)));obtain⟨H9,I9,q9⟩:=h9;have again:∀{O7:St} {H':Hp} {j:La},Inv Y (pins++Qf fp v.heap) O7 H' j->N2 O7 H'->∃m,m<n/\∃i O' H',Inv Y pins O' H' j/\P i j.heap/\(∀b∈fp,H' b=none)/\W i m O' H':=λ{O7 H' j} I' Q=>by
   obtain⟨m',hm,w⟩:=hN O7 H' Q;refine⟨m',hm,i+1,O7,H',I'.unpinned,T.keep _ _ _ ab λb Z o e=>(I'.pin (b,o) (qK _ (qK _ (J6 Z e)))).1,λb Z=>?_,w⟩;obtain⟨o,e,d⟩:=T.obj _ _ ab b Z;exact(I'.pin (b,o) (qK _ (qK _ (J6 Z e)))).2.1
  cases b with
  |false =>
   exact qC ⟨rfl,again I9 q9⟩
  |true =>
   exact he D _ s9 O8 H9 N2 _ _ _ I9 q9 λO' H' j I' n'=>qC ⟨rfl,again I' n'⟩
theorem YT{env:Env}:∀{i:Ls (Str×NameKind)} {x:Str} {k:NameKind},(i.map λ(n,k)=>if(k==NameKind.free&&env.scope.kind==.function&&env.kindOf n==some .cell)then(n,NameKind.cell)else(n,k)).lookup x=some k ->
  ∃t,i.lookup x=some t/\(k=t\/(t=.free/\k=.cell))
 | [],_,_,h=>by simp at h
 | (n,O)::r,x,k,h=>by
  have u:=@YT env r x k;rw[map_cons]at h;by_cases S:(O==NameKind.free&&env.scope.kind==.function&&env.kindOf n==some .cell)=true
  ·dsimp[S,if_true]at h
   cases M:x==n with
   |true =>
    dsimp[lookup_cons,M]at h ⊢;cases h;refine⟨O,rfl,.inr ⟨?_,rfl⟩⟩;dsimp[Bool.and_eq_true,beq_iff_eq]at S;exact S.1.1
   |false=>dsimp[lookup_cons,M]at h ⊢;exact u h
  ·have Y:(O==NameKind.free&&env.scope.kind==.function&&env.kindOf n==some .cell)=false:=by exists S
   dsimp[Y,Bool.false_eq_true,if_false]at h;cases M:x==n with
   |true=>dsimp[lookup_cons,M]at h ⊢;cases h;exact⟨O,rfl,.inl rfl⟩|false=>dsimp[lookup_cons,M]at h ⊢;exact u h
theorem Z4{env:Env}:∀{i:Ls (Str×NameKind)} {x:Str},i.lookup x=some .free->env.scope.kind=.function->env.kindOf x=some .cell ->
  (i.map λ(n,k)=>if(k==NameKind.free&&env.scope.kind==.function&&env.kindOf n==some .cell)then(n,NameKind.cell)else(n,k)).lookup x=some .cell
 | [],_,h,_,_=>by simp at h
 | (n,O)::r,x,h,V,S=>by
  have u:=@Z4 env r x;rw[map_cons];cases M:x==n with
  |true =>
   have:x=n:=by exists M
   subst this;dsimp[lookup_cons,M]at h;cases h;have:(NameKind.free==NameKind.free&&env.scope.kind==.function&&env.kindOf x==some .cell)=true:=by simp[V,S]
   dsimp[this,if_true,lookup_cons,M]
  |false =>
   dsimp[lookup_cons,M]at h;by_cases G:(O==NameKind.free&&env.scope.kind==.function&&env.kindOf n==some .cell)=true
   ·dsimp[G,if_true,lookup_cons,M];exact u h V S
   ·have a:(O==NameKind.free&&env.scope.kind==.function&&env.kindOf n==some .cell)=false:=by exists G
    dsimp[a,Bool.false_eq_true,if_false,lookup_cons,M];exact u h V S
def zDJ(env:Env):Ls (Str×NameKind)->Ls (Str×Lz)->Ls (Str×Lz)
 | [],j=>j| (n,k)::r,j=>if k==.free then zDJ env r ((n,(env.cells.lookup n).getD 0)::j)else zDJ env r j
theorem ZX:∀(i:Ls (Str×NameKind)) (j:Ls (Str×Lz)),(∀y∈i,y.2=.free->∃c,env.cells.lookup y.1=some c) ->
  (forIn i j (λx r=>if(x.snd==NameKind.free)=true then do
    let c <- cellOf env x.fst
    pure (ForInStep.yield ((x.fst,c)::r))
   else pure (ForInStep.yield r)):Sem (Ls (Str×Lz)))=pure (zDJ env i j)
 | [],j,_=>by rfl
 | (n,k)::r,j,h=>by
  rw[List.forIn_cons];by_cases V:(k==NameKind.free)=true
  ·obtain⟨c,S⟩:=h (n,k) qE (by exists V)
   have P:cellOf env n=pure c:=by unfold cellOf;rw[S]
   rw[if_pos V,P];show(forIn r ((n,c)::j) _:Sem (Ls (Str×Lz)))=_;rw[ZX r _ λy Q=>h y (qD _ Q)]
   conv=>rhs;unfold zDJ
   rw[if_pos V,S];rfl
  ·rw[if_neg V]
   show(forIn r j _:Sem (Ls (Str×Lz)))=_
   rw[ZX r _ λy Q=>h y (qD _ Q)]
   conv=>rhs;unfold zDJ
   rw[if_neg V]
theorem JS:∀(i:Ls (Str×NameKind)) (j:Ls (Str×Lz)) (x:Str),(∀y∈i,y.2=.free->∃c,env.cells.lookup y.1=some c)->(∀c,j.lookup x=some c->env.cells.lookup x=some c) ->
  (∀c,(zDJ env i j).lookup x=some c->env.cells.lookup x=some c)/\(((∃c,j.lookup x=some c)\/∃y∈i,y.1=x/\y.2=.free)->∃c,(zDJ env i j).lookup x=some c)
 | [],j,x,_,o=>⟨o,λh=>h.elim id λ⟨y,Q,_⟩=>by cases Q⟩
 | (n,k)::r,j,x,h,o=>by
  unfold zDJ;by_cases V:(k==NameKind.free)=true
  ·rw[if_pos V]
   obtain⟨c,a⟩:=h (n,k) qE (by exists V);have u:=JS r ((n,(env.cells.lookup n).getD 0)::j) x (λy Q=>h y (qD _ Q)) (λJ e=>by
    rw[lookup_cons]at e;cases M:x==n with
    |true =>
     have:x=n:=by exists M
     subst this;rw[M]at e;dsimp[a,Option.getD_some]at e;rw[a];exact e
    |false=>rw[M]at e;exact o J e)
   refine⟨u.1,λq=>u.2 ?_⟩;rcases q with⟨J,q⟩|⟨y,Q,K,S⟩
   ·apply Or.inl
    rw[lookup_cons];cases M:x==n with
    |true=>exact⟨_,rfl⟩|false=>exact⟨J,q⟩
   ·rcases mem_cons.mp Q with Q|Q
    ·subst Q
     apply Or.inl
     subst K;exact⟨(env.cells.lookup n).getD 0,by rw[lookup_cons,beq_self_eq_true]⟩
    ·right;exact⟨y,Q,K,S⟩
  ·rw[if_neg V]
   have u:=JS r j x (λy Q=>h y (qD _ Q)) o;refine⟨u.1,λq=>u.2 ?_⟩;rcases q with q|⟨y,Q,K,S⟩
   ·exact .inl q
   ·rcases mem_cons.mp Q with Q|Q
    ·subst Q
     exact absurd (by exists S) V
    ·exact .inr ⟨y,Q,K,S⟩
theorem vA:∀(i:Ls (Str×NameKind)) (h:Heap) (L:Ls (Str×Lz)) (x:Str) (c:Lz),(cellsFrom h.objs.size i L).lookup x=some c ->
  L.lookup x=some c\/((x,NameKind.cell)∈i/\h.objs.size<=c/\(pushCells h i).IsCell c none)
 | [],h,L,x,c,e=>.inl e
 | (n,k)::r,h,L,x,c,e=>by
  unfold cellsFrom at e;unfold pushCells;split at e
  ·rename_i V
   rw[if_pos V];have sz:(h.push {cls:=.type "cell",data:=.cell none}).objs.size=h.objs.size+1:=size_push ..;rw[<- sz]at e;rcases vA r (h.push {cls:=.type "cell",data:=.cell none}) _ x c e with q|⟨K,S,W⟩
   ·rw[lookup_cons]at q
    cases M:x==n with
    |true =>
     rw[M]at q;cases q;have t:x=n:=by exists M
     have O:k=.cell:=by exists V
     subst t;subst O;exact .inr ⟨qE,le_refl _,⟨_,pushCells_keeps _ _ _ _ (get?_push_size _ rfl),rfl⟩⟩
    |false=>rw[M]at q;exact .inl q
   ·exact .inr ⟨qD _ K,by rw[sz]at S;lia,W⟩
  ·rename_i V
   rw[if_neg V];rcases vA r h L x c e with q|⟨K,S,W⟩
   ·exact .inl q
   ·exact .inr ⟨qD _ K,S,W⟩
theorem Ga:∀(i:Ls (Str×NameKind)) (n:Nat) (L:Ls (Str×Lz)) (x:Str),(x,NameKind.cell)∉i->(cellsFrom n i L).lookup x=L.lookup x
 | [],n,L,x,_=>rfl
 | (y,k)::r,n,L,x,h=>by
  dsimp[mem_cons,not_or]at h;unfold cellsFrom;split
  ·rename_i V
   rw[Ga r _ _ x h.2,lookup_cons];cases M:x==y with
   |true =>
    have t:x=y:=by exists M
    have O:k=.cell:=by exists V
    subst t;subst O;exact absurd rfl h.1
   |false=>rfl
  ·exact Ga r _ _ x h.2
theorem zD8:∀(i:Ls (Str×NameKind)) (n:Nat) (L:Ls (Str×Lz)) (x:Str) (c:Lz),(x,NameKind.cell)∈i->(cellsFrom n i L).lookup x=some c->n<=c
 | [],_,_,_,_,h,_=>by cases h
 | (y,k)::r,n,L,x,c,h,e=>by
  unfold cellsFrom at e;by_cases z:(x,NameKind.cell)∈r
  ·split at e
   ·exact Nat.le_of_succ_le (zD8 r _ _ x c z e)
   ·exact zD8 r _ _ x c z e
  ·rcases mem_cons.mp h with q|q
   ·cases q
    rw[if_pos (by rfl),Ga r _ _ _ z,lookup_cons,beq_self_eq_true]at e;cases e;exact le_refl _
   ·exact absurd q z
theorem zD9:∀(i:Ls (Str×NameKind)) (n:Nat) (L:Ls (Str×Lz)),(∀x y c,L.lookup x=some c->L.lookup y=some c->x=y)->(∀x c,L.lookup x=some c->c<n) ->
  ∀x y c,(cellsFrom n i L).lookup x=some c->(cellsFrom n i L).lookup y=some c->x=y
 | [],n,L,R,_,x,y,c,W,P=>R x y c W P
 | (z,k)::r,n,L,R,Z,x,y,c,W,P=>by
  unfold cellsFrom at W P;split at W
  ·refine zD9 r (n+1) ((z,n)::L) (λx y c W P=>?_) (λx c e=>?_) x y c W (by rename_i V;rwa [if_pos V]at P)
   ·rw[lookup_cons]at W P
    cases M:x==z with
    |true =>
     rw[M]at W;cases W;have t:x=z:=by exists M
     cases Q:y==z with
     |true =>
      have h:y=z:=by exists Q
      rw[t,h]
     |false=>rw[Q]at P;exact absurd (Z y _ P) (lt_irrefl _)
    |false =>
     rw[M]at W;cases Q:y==z with
     |true=>rw[Q]at P;cases P;exact absurd (Z x _ W) (lt_irrefl _)|false=>rw[Q]at P;exact R x y c W P
   ·rw[lookup_cons]at e
    cases M:x==z with
    |true=>rw[M]at e;cases e;exact lt_succ_self _|false=>rw[M]at e;exact lt_succ_of_lt (Z x c e)
  ·exact zD9 r n L R Z x y c W (by rename_i V;rwa [if_neg V]at P)
def WR{E:Ly}{Q:Env->La->Prop}
  (z:Q (newEnv scope s.heap.objs.size globals (cellsFrom (s.heap.objs.size+1) scope.names cl) qual none .none (some env) builtinsNs) {s with heap:=pushCells (s.heap.push {cls:=.type "dict",data:=.dict #[]}) scope.names}) :
  wpAny M A (newFunctionEnv scope globals cl [] qual none .none (some env)) Q E s:=by
 dsimp[newFunctionEnv,Option.isSome_some,if_true];refine qB (wpAny_alloc ?_);refine qB (wpAny_layCells _ (λn k c=>by cases h:k==NameKind.cell<;>simp[h]) _ _ _ _ ?_);rw[show({s with heap:=s.heap.push {cls:=.type "dict",data:=.dict #[]}}:La).heap.objs.size=s.heap.objs.size+1 from size_push ..]
 exact qB (qC (qC z))
structure CNd(P:Lc)(w:Le)(ce target iter:Lb)(ifs:List Lb)(ma:Sem Lv)(ob:Obj)(o0:Lz->HO)(act:Lv->Env->Sem PySem.Fin->Sem PySem.Fin)(gs:List Comprehension)(p:Pos):Prop where
 cl:clausesOf ce=⟨target,iter,ifs,0⟩::gs
 lp:LoopN P w ce
 new:∀{A:Li} {E:Ly} {s:La} {Q:Ly},Q (.ref s.heap.objs.size) {s with heap:=s.heap.push ob}->wpAny (model P w) A ma Q E s
 lay:∀(h:Heap) (H:Hp),sysModules<h.objs.size->JH P w H (h.push ob) h.objs.size (o0 h.objs.size)
 st:∀{A:Li} {it acc:Lv} {env:Env} {R:Result->La->Prop} {s:La},codeAny (model P w) A (.compLoop ce 0 it acc env) R s->wpAny (model P w) A (pyIter it) (λit' s'=>codeAny (model P w) A (.compLoop ce 0 it' acc env) R s') (notedBy (model P w) A env λx s'=>R (.error x) s') s ->
  codeAny (model P w) A (.compStart ce 0 it acc env) R s
 tn:∀it acc env,compTurn ce 0 it acc env=zHy p target ifs it env (act acc env) (again (.compLoop ce 0 it acc env))
structure CSc(X:Cx)(scope:Scope)(nl:Nat)(caps:List Nat)(N':Lo):Prop where
 hx:∀e s,¬X.xe e s
 hc:X.calm=true
 kind:scope.kind=.function
 nm:∀y∈scope.names,y.2=.local->scope.names.lookup y.1=some .local
 ce:∀y∈scope.names,y.2=.cell->scope.names.lookup y.1=some .cell
 fr:(scope.names.all λy=>y.2 != .free||X.env.kindOf y.1==some .cell)=true
 ln:N'.length=nl+caps.length
 cp:∀(i j:Nat),caps[i]?=some j->∃x,N'[nl+i]?=some x/\X.N[j]?=some x/\scope.names.lookup x=some .free
section
variable{X:Cx}{ce target iter:Lb}{ifs:Ls Lb}{scope:Scope}{nl:Nat}{caps:Ls Nat}{N':Ls Str}{mk:Sem Lv}{ob:Obj}{o0:Lz->HO}{act:Lv->Env->Sem PySem.Fin->Sem PySem.Fin}{gs:Ls Comprehension}{p p0:Pos}{wi:TI}{g:TG}{tt:TT}{ta:TAc}
def Qz{use:Lx (Lv->Sem Unit)}{QQ:Ly}(C:CSc X scope nl caps N')(N:CNd X.prog X.w ce target iter ifs mk ob o0 act gs p)
  (hi:PI X target iter wi) (hg:∀M C w s H,PG (cxB X N' scope M C w s H) target g) (ht:∀M C w s H,zFo (cxB X N' scope M C w s H) ifs tt) (he:∀M C w s H,PAc (cxB X N' scope M C w s H) act ta)
  (hs:∀x,foldedSetIterable iter X.env x=pure x) (I:Inv X pins O H s) (h:zGa o0 nl caps wi g tt ta O H Q)
  (ax:∀(D C:Lz) (H5:Hp) (s6:La) (m6:Str->Lx Lv),Inv X pins O H5 s6->zCe X pins H5 C->s6.heap.Ns C m6->Q (.ref D) H5->compPost (model X.prog X.w) X.A X.xe use QQ (.ref D) C (.ok .next) s6) :
  wpAny (model X.prog X.w) X.A (comprehension ce scope X.env p0 mk false (eval iter X.env) use) QQ X.xe s:=by
 have az:∀y∈scope.names,y.2=.free->X.env.kindOf y.1=some .cell:=λy hy e=>by
  have:=all_eq_true.mp C.fr y hy;rw[e]at this;exists this
 have V:∀y∈scope.names,y.2=.free->∃c,X.env.cells.lookup y.1=some c:=λy hy e=>I.ok.has y.1 (.inl (az y hy e))
 have am:closureFor scope X.env=pure (zDJ X.env scope.names []):=by
  dsimp[closureFor];rw[ZX scope.names [] V];rfl
 have E:∀x c,(zDJ X.env scope.names []).lookup x=some c->X.env.cells.lookup x=some c:=λx c e=>(JS scope.names [] x V (λ_ z=>by cases z)).1 c e
 have ar:∀x,(∃y∈scope.names,y.1=x/\y.2=.free)->∃c,(zDJ X.env scope.names []).lookup x=some c:=λx q=>(JS scope.names [] x V (λ_ z=>by cases z)).2 (.inr q)
 generalize zDJ X.env scope.names []=M at am E ar;refine wpAny_comprehension_free (use:=use) N.cl hs am C.kind C.nm (thn (hi pins s O H _ I h) λxv s1 h1=>thn h1 λah s2 h2=>?_);obtain⟨it,a,tn,J,H2,e,I2,T,an,f2,a0⟩:=h2;subst e;refine N.new (WR ?_);dsimp;generalize au:s2.heap.push ob=h3;have hC:h3.objs.size=s2.heap.objs.size+1:=by rw[<- au,size_push]
 have hD:H2 s2.heap.objs.size=none:=I2.hok.fresh (le_refl _);have aa:=a0 s2.heap.objs.size hD
 -- the state at the block's entry
 have I3:Inv X pins O (upd H2 s2.heap.objs.size (o0 s2.heap.objs.size)) {s2 with heap:=h3}:=by
  rw[<- au];exact I2.laid (t':=s2.toks) (λb o q=>qA _ q) (le_refl _) (N.lay _ _ (Inv.big I2))
 have a2:∀x,scope.names.lookup x=some .free->(x,NameKind.cell)∉scope.names:=λx e z=>by
  have:=C.ce _ z rfl;rw[e]at this;cases this
 have ac:(h3.push {cls:=.type "dict",data:=.dict #[]}).objs.size=h3.objs.size+1:=size_push ..;have cw:∀x c,(cellsFrom (h3.objs.size+1) scope.names M).lookup x=some c->M.lookup x=some c\/((x,NameKind.cell)∈scope.names/\h3.objs.size+1<=c/\(pushCells (h3.push {cls:=.type "dict",data:=.dict #[]}) scope.names).IsCell c none):=λx c e=>by
  rw[<- ac]at e ⊢;exact vA _ _ _ x c e
 have av:∀x,scope.names.lookup x=some .free->(cellsFrom (h3.objs.size+1) scope.names M).lookup x=M.lookup x:=λx e=>Ga _ _ _ x (a2 x e)
 have ap:∀x,scope.names.lookup x=some .cell->∃c,(cellsFrom (h3.objs.size+1) scope.names M).lookup x=some c:=λx e=>by
  have:=cellsFrom_some scope.names (h3.objs.size+1) M (x:=x) (.inl e);exact Option.isSome_iff_exists.mp this
 have a3:∀x c,M.lookup x=some c->c<h3.objs.size:=λx c e=>by
  obtain⟨v,q⟩:=I3.cell x c (E x c e);exact q.lt
 have ao:=zD9 scope.names (h3.objs.size+1) M (λx y c W P=>I.ok.inj x y c (E x c W) (E y c P)) λx c e=>lt_succ_of_lt (a3 x c e)
 have ak:(pushCells (h3.push {cls:=.type "dict",data:=.dict #[]}) scope.names).Ns h3.objs.size λ_=>none:=(Heap.Ns.new h3 (.type "dict")).keeps (pushCells_keeps _ _)
 have G:∀b o,h3.get? b=some o->(pushCells (h3.push {cls:=.type "dict",data:=.dict #[]}) scope.names).get? b=some o:=λb o e=>pushCells_keeps _ _ b o (qA _ e)
 generalize ai:pushCells (h3.push {cls:=.type "dict",data:=.dict #[]}) scope.names=h₁ at ak G cw ⊢;generalize ab:cellsFrom (h3.objs.size+1) scope.names M=cs at cw av ap ao ⊢;have ag:∀b∈a,b≠s2.heap.objs.size:=λb Z z=>by
  obtain⟨o,e,_⟩:=T.obj 0 s2.heap an b Z;subst z;exact absurd (lt_size e) (lt_irrefl _)
 have a4:∀b∈a,upd H2 s2.heap.objs.size (o0 s2.heap.objs.size) b=none:=λb Z=>by rw[z8 (ag b Z)];exact(f2 b Z).1
 have R:∀b∈a,b≠h3.objs.size:=λb Z z=>by
  obtain⟨o,e,_⟩:=T.obj 0 s2.heap an b Z;have q:b<s2.heap.objs.size:=lt_size e;rw[z,hC]at q;exact absurd q (not_lt.mpr (le_succ _))
 have ae:upd H2 s2.heap.objs.size (o0 s2.heap.objs.size) h3.objs.size=none:=I3.hok.fresh (le_refl _);have aj:∀b∈a,(b∈X.ex\/X.s₀.heap.objs.size<=b)/\b≠X.env.locals/\(∀x c,X.env.cells.lookup x=some c->c≠b)/\∀p∈X.pn++pins,p.1≠b:=λb Z=>by
  obtain⟨_,q2,_,q4,q5,q6⟩:=f2 b Z;exact⟨q4,q2,q5,q6⟩
 have ad:∀b∈a,b<h3.objs.size:=λb Z=>by
  obtain⟨o,e,_⟩:=T.obj 0 s2.heap an b Z;have q:b<s2.heap.objs.size:=lt_size e;rw[hC];exact lt_succ_of_lt q
 have aq:∀b∈a,∀x c,cs.lookup x=some c->c≠b:=λb Z x c e=>by
  rcases cw x c e with q|⟨_,q,_⟩
  ·exact(aj b Z).2.2.1 x c (E x c q)
  ·intro z;subst z
   exact absurd (lt_of_lt_of_le (ad _ Z) (Nat.le_of_succ_le q)) (lt_irrefl _)
 let Y:Cx:=cxB X N' scope cs h3.objs.size a {s2 with heap:=h3} (upd H2 s2.heap.objs.size (o0 s2.heap.objs.size))
 have n:∀x k,Y.env.kindOf x=some k->∃t,scope.names.lookup x=some t/\(k=t\/(t=.free/\k=.cell)):=λx k e=>YT e
 have ay:Y.Ok:={
  mod:=I.ok.mod
  kind:=C.kind
  glob:=I.ok.glob
  blt:=I.ok.blt
  above:=le_refl _
  inj:=ao
  has:=λx q=>by
   have:scope.names.lookup x=some .cell\/scope.names.lookup x=some .free:=by
    rcases q with q|q
    ·obtain⟨t,e,z⟩:=n x _ q
     rcases z with z|z
     ·subst z;exact .inl e
     ·rw[z.1]at e;exact .inr e
    ·obtain⟨t,e,z⟩:=n x _ q
     rcases z with z|z
     ·subst z;exact .inr e
     ·rw[z.1]at e;exact .inr e
   rcases this with q|q
   ·exact ap x q
   ·obtain⟨c,e⟩:=ar x ⟨(x,.free),PySem.mem_of_lookup q,rfl,rfl⟩
    exact⟨c,by show cs.lookup x=_;rw[av x q];exact e⟩
  cab:=λx c z e=>by
   have z:scope.names.lookup x=some .cell:=by
    have z:(scope.names.lookup x==some NameKind.cell)=true:=z;exists z
   have e:cs.lookup x=some c:=e;rw[<- ab]at e;exact le_trans (le_succ _) (zD8 _ _ _ x c (PySem.mem_of_lookup z) e)
  hd:=I.ok.hd
  frames:=I.ok.frames
  stk:=.inl rfl
  exf:=λb Z=>⟨R b Z,aq b Z⟩
  bs:=λb o e=>I3.bs b o e
  bsz:=le_trans I.ok.bsz I3.sz
  noex:=λb o e Z=>by
   obtain⟨q,_⟩:=aj b Z;rcases q with q|q
   ·exact I.ok.noex b o e q
   ·exact absurd (lt_of_lt_of_le (lt_size e) I.ok.bsz) (not_lt.mpr q)
  exfs:=λb Z z=>by
   have:=I2.stkSub b z;rcases mem_cons.mp this with q|q
   ·exact(aj b Z).2.1 q
   ·exact(f2 b Z).2.2.1 q
  funs:=I3.stack
  frf:=I3.stkFree}
 have aw:∀b o,h3.get? b=some o->h₁.get? b=some o:=G;have a1:(y8 nl caps O).length=N'.length:=by unfold y8;simp[C.ln]
 have IY:Inv Y [] (y8 nl caps O) (upd H2 s2.heap.objs.size (o0 s2.heap.objs.size)) {s2 with heap:=h₁}:={
  ok:=ay
  os:=rfl
  bare:=I3.bare
  base:=Un.kept aw
  loc:=by
   refine⟨_,ak,λi x v W P e3=>?_⟩;have W:N'[i]?=some x:=W;have hi:nl<=i:=by
    by_cases z:nl<=i
    ·exact z
    ·unfold y8 at P
     rw[List.getElem?_append_left (by simp;lia),List.getElem?_replicate]at P;split at P<;>cases P
   unfold y8 at P;rw[List.getElem?_append_right (by exists hi),List.length_replicate,getElem?_map]at P;exists ej,caps[i-nl]?,P,j;dsimp[Option.map_some,Option.some.injEq]at P;obtain⟨r,c1,c2,K⟩:=C.cp (i-nl) j ej;have w:r=x:=by
    rw[show nl+(i-nl)=i by lia,W]at c1;exact(qJ c1).symm
   subst w;have e4:O[j]?=some (some v):=by
    cases z:O[j]? with
    |none=>rw[z]at P;cases P|some o=>rw[z]at P;simp at P;rw[P]
   have kx:X.env.kindOf r=some .cell:=az (r,.free) (PySem.mem_of_lookup K) rfl;obtain⟨mm,_,lk⟩:=I3.loc;obtain⟨u,ru,lu⟩:=lk j r v c2 e4 (.inr (.inl kx));refine⟨u,ru,?_⟩;rcases lu with⟨z,_⟩|⟨_,c,d1,d2⟩
   ·rw[kx]at z;cases z
   ·obtain⟨c',d3⟩:=ar r ⟨(r,.free),PySem.mem_of_lookup K,rfl,rfl⟩
    have:c'=c:=by have:=E r c' d3;rw[d1]at this;exact(qJ this).symm
    subst this;exact .inr ⟨.inl (Z4 K I.ok.kind kx),c',by show cs.lookup _=_;rw[av r K];exact d3,d2.keeps G⟩
  cell:=λx c e=>by
   rcases cw x c e with e|⟨_,_,q⟩
   ·obtain⟨v,q⟩:=I3.cell x c (E x c e)
    exact⟨v,q.keeps G⟩
   ·exact⟨_,q⟩
  free:=ae
  freeC:=λx c e=>by
   rcases cw x c e with e|⟨_,q,_⟩
   ·exact I3.freeC x c (E x c e)
   ·exact I3.hok.fresh (le_trans (le_succ _) q)
  pin:=λp L=>absurd (show p∈([]:Ls (Lz×Obj))from L) (by simp)
  hok:=I3.hok.kept G
  len:=a1}
 have S:tn 0 h₁:=T.keep 0 s2.heap h₁ an λb Z o e=>G b o (by rw[<- au];exact qA _ e)
 have af:∀{H':Hp},(∀b∈a,H' b=none)->∀b∈a,zCe Y [] H' b:=λhn b Z =>
  ⟨hn b Z,R b Z,ay.exfs b Z,.inl Z,aq b Z,λp L=>absurd (show p∈([]:Ls (Lz×Obj))from L) (by simp)⟩
 have l:∀s₄:La,s₄={s2 with heap:=h₁}->codeAny (model X.prog X.w) X.A (.compLoop ce 0 (.ref it) (.ref s2.heap.objs.size) Y.env) (compPost (model X.prog X.w) X.A X.xe use QQ (.ref s2.heap.objs.size) h3.objs.size) s₄:=by
  rintro s₄ rfl
  refine W9 (Y:=Y) N.lp C.hx C.hc (hg _ _ _ _ _) (ht _ _ _ _ _) (he _ _ _ _ _) (N.tn _ _ _) T af IY S a4 aa λO5 H5 s6 I6 q=>?_
  obtain⟨m6,n6,_⟩:=I6.loc;have u:Un (frs X.stack) a (upd H2 s2.heap.objs.size (o0 s2.heap.objs.size)) H5 h3 s6.heap:=I6.base;have I7:Inv X pins O H5 s6:=I3.call' (s':=s6) (ch:=a) I6.os u I6.hok I6.bare aj;exact ax _ _ H5 s6 m6 I7 (I3.fpOk (le_refl _) I6.free) n6 q
 exact N.st (l _ rfl) (T.self X.A 0 _ _ _ S (l _ rfl))
def pe_comp(C:CSc X scope nl caps N')(N:CNd X.prog X.w ce target iter ifs mk ob o0 act gs p)(hi:PI X target iter wi)(t:∀M C w s H,PG (cxB X N' scope M C w s H) target g)(r:∀M C w s H,zFo (cxB X N' scope M C w s H) ifs tt)(c:∀M C w s H,PAc (cxB X N' scope M C w s H) act ta)
  (T:∀x,foldedSetIterable iter X.env x=pure x) (P:eval ce X.env=comprehension ce scope X.env p0 mk false (eval iter X.env)):PE X ce (zGa o0 nl caps wi g tt ta):=by
 intro G s O H Q I h;rw[P];refine Qz (use:=none) C N hi t r c T I h λD C H5 S a I7 f k q=>?_
 refine⟨a,k,λy i=>?_⟩;obtain⟨l,n,J,L,R,j⟩:=f;exact⟨.ref D,H5,I7.turned (it:=C) (t':=S.toks) (λb o Z e=>i.extBut b o Z e) l (λz=>n z) L R j,rfl,q⟩
def ps_setC(E:X.N.Nodup)(K:X.N[i]?=some y)(Q:Loc X.env.scope y)(Y:X.fn y=true\/X.env.scope.names.lookup y=some .local)(C:CSc X scope nl caps N')(N:CNd X.prog X.w ce target iter ifs mk ob o0 act gs p)
  (hi:PI X target iter wi) (t:∀M C w s H,PG (cxB X N' scope M C w s H) target g) (r:∀M C w s H,zFo (cxB X N' scope M C w s H) ifs tt) (c:∀M C w s H,PAc (cxB X N' scope M C w s H) act ta)
  (T:∀x,foldedSetIterable iter X.env x=pure x) (k:swapsWith ce (some (.Name y py)) spos.line X.env=pure true)
  (P:∀u,evalThenUse ce X.env u=(do let _ <- comprehension ce scope X.env p0 mk false (eval iter X.env) (some u))) :
  PS X (.Assign [.Name y py] ce spos) (tAsg (zGa o0 nl caps wi g tt ta) (zAs i)):=by
 intro G s O H D I h;rw[exec_Assign_Name_used _ _ _ _ k];refine qB (wpAny_standAt (qB ?_));rw[P];refine qB (wpAny_mono (Qz (use:=some (assign (.Name y py) X.env)) (QQ:=λ_ j=>SP X G D .next j) C N hi t r c T I h λDa C H5 S m6 I7 f n6 q=>?_) (λ_ j W=>qC (qC W)) λ_ _ e=>e);obtain⟨l,n,J,L,R,f6⟩:=f;show wpAny _ X.A (assign (.Name y py) X.env (.ref Da)) _ _ S;refine wpAny_assign_Name (Qc I7 E K Q (v:=.ref Da) rfl (λs7 I8 ⟨a,sb,ha⟩=>?_) Y);have V:C≠a:=by
  rcases ha with ha|ha
  ·rw[ha];exact n
  ·exact λz=>R y a ha z.symm
 refine⟨m6,n6.sameBut sb V,λh' aa=>?_⟩;exact⟨_,H5,I8.turned (it:=C) (t':=s7.toks) (λb o Z e=>aa.extBut b o Z e) l (λz=>n z) L R f6,q⟩
end
def act1(o:Lb):Lv->Env->Sem PySem.Fin->Sem PySem.Fin:=λL p k=>do
 (do let x <- eval o p;let _ <- call (.builtin "list.append") [L,x];pure ())
 k
def ta1(t:TE):TAc:=λD O H Nx=>t O H λy H4=>∃T,H4 D=some (.l T)/\T.length<sizeLine/\Nx O (upd H4 D (.l (T++[y])))
def pa_elt(M:∀e s,¬Y.xe e s)(c:PE Y elt te):PAc Y (act1 elt) (ta1 te):=λD G s O H Nx k Q E I h V=>by
 unfold act1;refine qB (qB (wpAny_mono (c G s O H _ I h) (λy j p=>?_) λ_ _ z=>absurd z (M _ _)));obtain⟨a,H10,I10,r,T,t,hz,i⟩:=p;have g:=Qo (X:=Y) _ j O H10 (.ref D) [a] (.ref D) [y] (λv H'=>Nx O H') I10 rfl (.cons r .nil) ⟨_,T,a,rfl,rfl,t,hz,i⟩;refine qB (wpAny_mono g (λ_ l o=>?_) λ_ _ z=>absurd z (M _ _));obtain⟨q,H11,I11,_,n⟩:=o;exact qC (V O H11 l I11 n)
abbrev lstO:Obj:={cls:=.type "list",data:=.seq #[]}
def zBq(h:Heap)(H:Hp)(_:sysModules<h.objs.size):JH P w H (h.push lstO) h.objs.size (.l []):=⟨zero_le _,[],0,.nil,get?_push_size _ rfl⟩
def zEA{E:Ly}{Q:Ly}(h:Q (.ref s.heap.objs.size) {s with heap:=s.heap.push lstO}):wpAny (model P w) A (newList []) Q E s :=
 wpAny_newObj_type h (by show(#[]:Lg).size<=sizeLine;simp)
def zEB:CNd P w (.ListComp elt [⟨target,iter,ifs,0⟩] scope pos) target iter ifs (newList []) lstO (λ_=>.l []) (act1 elt) [] iter.pos :=
 ⟨rfl,λ_ _ _ _=>⟨rfl,λ_=>rfl,rfl⟩,zEA,zBq,λa h=>codeAny_compStart_list a h,λ_ _ _=>rfl⟩
end L2
namespace DV
open PySem L2
section
variable{X:Cx}{K:qH}{mg:Str->Lx Lv}{O:St}{M:Lf}{E:zS}{H:Hp}{T0 Z T:Fz}
structure ItOk(K:qH)(mg:Str->Lp)(J:It)(ds:List D)(Iv:Hp->Prop):Prop where
 mono:∀H H',Yr H H'->Iv H->Iv H'
 go:∀i Hh H,Yr Hh H->Iv Hh->i<ds.length->J.go i H
 yld:∀i Hh H x H',Yr Hh H->Iv Hh->i<ds.length->J.yld i H x H'->∃d,ds[i]?=some d/\((H'=H/\Rep K mg Hh d x)\/∃q xs es,H q=none/\H'=upd H q (.t xs)/\x=.ref q/\d=.t es/\Reps K mg Hh es xs)
 stop:∀i Hh H,Yr Hh H->Iv Hh->ds.length<=i->J.stop i H
abbrev MI:=zS->Out (Ls D×zS)
def tMI(X:Cx)(m:MI):TI:=λO H R=>∃M E,E.length=O.length/\FR X.K X.mg M H (O.zip E)/\match m E with
 | .z=>False| .ok (ds,E')=>∀J Iv H',ItOk X.K X.mg J ds Iv->Iv (Hm (Mo M (O.zip E')) H')->Got X.K X.mg M O E H [] O E' H' []->R J H'| .y x E'=>∀H',Got X.K X.mg M O E H [] O E' H' []->XE X O H' x
abbrev IOk(X:Cx)(tg e:Lb)(m:MI):Prop:=PI X tg e (tMI X m)
def uj(h:PI X tg e t)(i:∀O H R,t' O H R->t O H R):PI X tg e t':=λG s O H R I q=>h G s O H R I (i O H R q)
def iL(m:ME):MI:=λE=>match m E with
 | .z=>.z| .y x E1=>.y x E1
 | .ok (r,E1)=>match r.d with
  | .l G=>.ok (G,E1)|_=>.z
def iT(m:ME):MI:=λE=>match m E with
 | .z=>.z| .y x E1=>.y x E1
 | .ok (r,E1)=>match r.d with
  | .t G=>.ok (G,E1)|_=>.z
def it_list:ItOk K mg (Itl K a) ds (λH=>SqL K H a xs/\Reps K mg H ds xs) where
 mono:=λH H' s h=>⟨s.seq h.1,h.2.mono s⟩
 go:=λi Hh H s h R=>⟨xs,xs[i]'(by rw[h.2.length];exact R),s.seq h.1,by simp⟩
 yld:=λi Hh H x H' s h R y=>by
  obtain⟨e,y⟩:=y;obtain⟨d,J,h2⟩:=h.2.get (y xs (s.seq h.1));exact⟨d,J,.inl ⟨e,h2⟩⟩
 stop:=λi Hh H s h R=>⟨xs,s.seq h.1,by rw[h.2.length];exact R⟩
def it_tup:ItOk K mg (Itt K a) ds (λH=>SqT K H a xs/\Reps K mg H ds xs) where
 mono:=λH H' s h=>⟨zm s h.1,h.2.mono s⟩
 go:=λi Hh H s h R=>⟨xs,xs[i]'(by rw[h.2.length];exact R),zm s h.1,by simp⟩
 yld:=λi Hh H x H' s h R y=>by
  obtain⟨e,y⟩:=y;obtain⟨d,J,h2⟩:=h.2.get (y xs (zm s h.1));exact⟨d,J,.inl ⟨e,h2⟩⟩
 stop:=λi Hh H s h R=>⟨xs,zm s h.1,by rw[h.2.length];exact R⟩
def Q0:∀(n i:Nat) (z:Int),i<n->(zG z n)[i]?=some (.int (z+i)):=λn i z h=>by
 have:=JR n i z h;have e:((zG z n).drop i)[0]?=some (.int (z+i)):=by rw[this];rfl
 exists e
def zHz:ItOk K mg (Itr lo n) (zG lo n) (λ_=>True) where
 mono:=λ_ _ _ h=>h
 go:=λi Hh H s h R=>by rw[yk]at R;exact R
 yld:=λi Hh H x H' s h R y=>by
  obtain⟨e,y⟩:=y;rw[yk]at R;exact⟨_,Q0 n i lo R,.inl ⟨e,by rw[y];dsimp[Rep]⟩⟩
 stop:=λi Hh H s h R=>by rw[yk]at R;exact R
def io_list(h:EOk X e m):IOk X tg e (iL m):=uj (zDU h) λO H R ⟨M,E,hl,fr,k⟩=>by
 unfold iL at k;refine z9 (T0:=[]) hl fr ?_;exists ea,m E,k,r,E1;intro v H1 g;dsimp at k;cases c:r.d with
 |l G =>
  rw[c]at k;have L:=g.rep;rw[c]at L;obtain⟨a,Y,rfl,K,S⟩:=zU L;exact⟨a,rfl,⟨Y,zM.seq K⟩,k _ _ H1 it_list ⟨K,S⟩ g.dropAll⟩
 |_=>rw[c]at k;exact k.elim
def io_tup(h:EOk X e m):IOk X tg e (iT m):=uj (pi_tup h) λO H R ⟨M,E,hl,fr,k⟩=>by
 unfold iT at k;refine z9 (T0:=[]) hl fr ?_;exists ea,m E,k,r,E1;intro v H1 g;dsimp at k;cases c:r.d with
 |t G =>
  rw[c]at k;have L:=g.rep;rw[c]at L;obtain⟨a,Y,rfl,K,S⟩:=zh L;exact⟨a,rfl,⟨Y,zm zM K⟩,k _ _ H1 it_tup ⟨K,S⟩ g.dropAll⟩
 |_=>rw[c]at k;exact k.elim
def iR1(m:MA):MI:=λE=>match m E with
 | .z=>.z| .y x E1=>.y x E1
 | .ok ([r],E1)=>match r.d with
  | .int j=>if -(2^62)<=j/\j<2^62 then .ok (zG 0 j.toNat,E1)else .z|_=>.z
 |_=>.z
def iR2(m:MA):MI:=λE=>match m E with
 | .z=>.z| .y x E1=>.y x E1
 | .ok ([r,L],E1)=>match r.d,L.d with
  | .int i,.int j=>if -(2^62)<=i/\i<2^62/\-(2^62)<=j/\j<2^62 then .ok (zG i (j-i).toNat,E1)else .z|_,_=>.z
 |_=>.z
def io_r1(h:Gl X "range")(Y:X.mg "range"=none)(C:AOk X [a] m)(T:za a=false:=by rfl):IOk X tg (.Call (.Name "range" p) [a] [] cpos) (iR1 m):=uj (Qd h Y C (zAx T)) λO H R ⟨M,E,hl,fr,k⟩=>by
 unfold iR1 at k;refine Jp (T0:=[]) hl fr ?_;exists ea,m E,k,rs,E1
 match rs,k with
 | [r],k =>
  intro L H1 hv I;have e:=Got.reps hv I;dsimp at k;cases c:r.d with
  |int j =>
   rw[c]at k;dsimp[List.map,c]at e;obtain⟨v,rfl,J⟩:=JQ e;dsimp at k;by_cases S:-(2^62)<=j/\j<2^62
   ·rw[if_pos S]at k
    exact⟨j,by rw[zI J],S.1,S.2,k _ _ H1 zHz trivial I.dropAll⟩
   ·rw[if_neg S]at k;exact k.elim
  |_=>rw[c]at k;exact k.elim
 | [],k=>exact k.elim|_::_::_,k=>exact k.elim
def io_r2(h:Gl X "range")(Y:X.mg "range"=none)(C:AOk X [a,b] m)(T:za a=false:=by rfl)(n:za b=false:=by rfl) :
  IOk X tg (.Call (.Name "range" p) [a,b] [] cpos) (iR2 m):=uj (Qe h Y C (star2 T n) (zAx n)) λO H R ⟨M,E,hl,fr,k⟩=>by
 unfold iR2 at k;refine Jp (T0:=[]) hl fr ?_;exists ea,m E,k,rs,E1
 match rs,k with
 | [r,L],k =>
  intro g H1 hv I;have e:=Got.reps hv I;dsimp at k;cases c:r.d with
  |int i =>
   cases l:L.d with
   |int j =>
    rw[c,l]at k;dsimp[List.map,c,l]at e;obtain⟨v,w,rfl,J,h2⟩:=zGN e;dsimp at k;by_cases S:-(2^62)<=i/\i<2^62/\-(2^62)<=j/\j<2^62
    ·rw[if_pos S]at k
     exact⟨i,j,by rw[zI J,zI h2],S,k _ _ H1 zHz trivial I.dropAll⟩
    ·rw[if_neg S]at k;exact k.elim
   |_=>rw[c,l]at k;exact k.elim
  |_=>rw[c]at k;exact k.elim
 | [],k=>exact k.elim| [_],k=>exact k.elim|_::_::_::_,k=>exact k.elim
structure Ak(α:Type) where
 r:α->R
 z:α
 o:Lz->HO
abbrev Ak.s{α:Type}(k:Ak α)(a:α):Slot:=(k.r a).slot
abbrev MC(α:Type):=zS->α->Out (α×zS)
def wf{α:Type}(tg:MG)(tt:MT)(t:MC α):Ls D->zS->α->Out (α×zS)
 | [],E,L=>.ok (L,E)
 |d::G,E,L=>match tg d E with
  | .ok E1=>match tt E1 with
   | .ok (true,E2)=>match t E2 L with
    | .ok (e,E3)=>wf tg tt t G E3 e|_=>.z
   | .ok (false,E2)=>wf tg tt t G E2 L|_=>.z
  |_=>.z
def ma1(el:ME):MC (Ls D):=λE L=>match el E with
 | .ok (r,E3)=>if L.length<cap then .ok (L++[r.d],E3)else .z|_=>.z
def maL{α:Type}(mi:MI)(tg:MG)(tt:MT)(t:MC α):MC α:=λE L=>match mi E with
 | .ok (G,E1)=>wf tg tt t G E1 L|_=>.z
def YE(E:zS):Ls Nat->Out (Ls AR)
 | []=>.ok []
 |j::c=>match E[j]? with
  |some (.v d)=>match YE E c with
   | .ok as=>.ok (.tmp d::as)|_=>.z
  |some s=>match s.list? with
   |some _=>match YE E c with
    | .ok as=>.ok (.ln j::as)|_=>.z
   |none=>.z
  |none=>.z
def Jj{α:Type}(k:Ak α)(nl:Nat)(caps:Ls Nat)(mi:MI)(tg:MG)(tt:MT)(t:MC α):ME:=λE=>match mi E with
 | .z=>.z| .y x E1=>.y x E1
 | .ok (G,E1)=>match YE E1 caps with
  | .ok o=>match zJ o E1 with
   | .ok (c,E2)=>match wf tg tt t G (replicate nl .e++c) k.z with
    | .ok (a,Eb)=>match zF o ((zt (replicate nl .e++c) Eb).drop nl) E1 E2 with
     | .ok E3=>.ok (k.r a,E3)|_=>.z
    |_=>.z
   |_=>.z
  |_=>.z
abbrev akL:Ak (Ls D):=⟨.w,[],λ_=>.l []⟩
abbrev Q1(tg:MG)(tt:MT)(el:ME):=wf tg tt (ma1 el)
abbrev zA2(nl:Nat)(caps:Ls Nat)(mi:MI)(tg:MG)(tt:MT)(el:ME):ME:=Jj akL nl caps mi tg tt (ma1 el)
def jq:MT:=λE=>.ok (true,E)
abbrev IfOk(X:Cx)(y:Ls Lb)(m:MT):Prop:=zFo X y (tMT X m)
def Wb(h:zFo X ifs t)(i:∀O H Q,t' O H Q->t O H Q):zFo X ifs t':=λG s O H Q I q=>h G s O H Q I (i O H Q q)
def Gb:IfOk X [] jq:=Wb pif_nil λO H Q ⟨M,E,hl,fr,k⟩=>k H (Got.refl (T0:=[]) hl fr)
def zEC(h:TOk X c m):IfOk X [c] m:=pif_one h
theorem zED:∀(c:Ls Nat) {as:Ls AR} {T:Fz},E.length=O.length->YE E c=.ok as->FR K mg M H (T++O.zip E) ->
  ∃L,AV O as L/\L.map some=c.map (λj=>(O[j]?).getD none)/\FR K mg M H (T++(zx L as++O.zip E))/\∀b,b∈yH (T++(zx L as++O.zip E))->b∈yH (T++O.zip E)
 | [],as,T,hl,e,f=>by
  cases e;exact⟨[],by dsimp[AV],rfl,f,λb q=>q⟩
 |j::c,as,T,hl,e,f=>by
  dsimp[YE]at e;exists ej,E[j]?,e,s;obtain⟨o,J,h2⟩:=JO hl ej;have l:∀{G:Ls D},s.list?=some G->(match YE E c with | .ok as=>Out.ok (AR.ln j::as)|_=>.z)=.ok as->∃L,AV O as L/\L.map some=(j::c).map (λj=>(O[j]?).getD none)/\FR K mg M H (T++(zx L as++O.zip E))/\∀b,b∈yH (T++(zx L as++O.zip E))->b∈yH (T++O.zip E):=λ{G} Q e=>by
   cases P:YE E c with
   |z=>rw[P]at e;cases e|y _ _=>rw[P]at e;cases e
   |ok g =>
    rw[P]at e;cases e;obtain⟨a,Y,ev,_⟩:=f.ownL o s G (qK _ h2) Q;subst ev;obtain⟨L,C,S,k,n⟩:=zED c hl P f;have p:(T++(((some (V.ref a),Slot.e)::zx L g)++O.zip E)).Perm ((some (V.ref a),Slot.e)::(T++(zx L g++O.zip E))):=perm_middle;have h:FR K mg M H ((some (V.ref a),Slot.e)::(T++(zx L g++O.zip E))):=k.mask (.extra (by
     have:∀W:Fz,Mask W W:=by
      intro W
      induction W with
      |nil=>exact .nil _|cons x W u=>exact .keep u
     exact this _))
    refine⟨.ref a::L,by dsimp[AV];exact⟨_,L,rfl,J,C⟩,by simp[J,S],h.perm p.symm,λb Z=>?_⟩;have:=zB p b Z;exact n b this
  cases s with
  |e=>cases e|w G=>exact l rfl e|p G=>exact l rfl e|m _ _=>cases e
  |v d =>
   cases P:YE E c with
   |z=>rw[P]at e;cases e|y _ _=>rw[P]at e;cases e
   |ok g =>
    rw[P]at e;cases e;obtain⟨v,ev,r⟩:=f.val o d (qK _ h2);subst ev;obtain⟨L,C,S,k,n⟩:=zED c hl P f;obtain⟨t,i,I⟩:=k.val (some v) d (qK _ (qK _ h2));cases i;have p:(T++(((some v,Slot.v d)::zx L g)++O.zip E)).Perm ((some v,Slot.v d)::(T++(zx L g++O.zip E))):=perm_middle;refine⟨v::L,by dsimp[AV];exact⟨v,L,rfl,C⟩,by simp[J,S],(k.add I).perm p.symm,λb Z=>?_⟩;have:=zB p b Z;rw[zV]at this;exact n b this
def zEE(n:Nat)(Z:Fz):yH (replicate n ((none:Lx V),Slot.e)++Z)=yH Z:=by rw[zX,GZ,nil_append]
def FR.emps0(f:FR K mg M H Z)(n:Nat):FR K mg M H (replicate n (none,.e)++Z):=(f.emps n).perm perm_append_comm
end
def tN(K:qH)(g:Str->Lx Lv)(m:ME):TE:=λO H Q=>∃M E,E.length=O.length/\FR K g M H (O.zip E)/\match m E with
 | .ok (r,E')=>∀v H',Got K g M O E H [] O E' H' [(some v,r.slot)]->Q v H'|_=>False
def tNT(K:qH)(g:Str->Lx Lv)(m:MT):TT:=λO H Q=>∃M E,E.length=O.length/\FR K g M H (O.zip E)/\match m E with
 | .ok (b,E')=>∀H',Got K g M O E H [] O E' H' []->Q b H'|_=>False
section
variable{X:Cx}{K:qH}{mg:Str->Lx Lv}{O:St}{M:Lf}{E:zS}{H:Hp}{T0 Z T:Fz}
def tN_M(h:tN X.K X.mg m O H Q):tM X m O H Q:=by
 obtain⟨M,E,hl,fr,k⟩:=h;refine⟨M,E,hl,fr,?_⟩;cases e:m E with
 |z=>rw[e]at k;exact k|y x E1=>rw[e]at k;exact k.elim|ok p=>rw[e]at k;exact k
def tNT_M{Q:Bool->Hp->Prop}(h:tNT X.K X.mg m O H Q):tMT X m O H Q:=by
 obtain⟨M,E,hl,fr,k⟩:=h;refine⟨M,E,hl,fr,?_⟩;cases e:m E with
 |z=>rw[e]at k;exact k|y x E1=>rw[e]at k;exact k.elim|ok p=>rw[e]at k;exact k
def tN_run(c:E.length=O.length)(h:FR K mg M H (T0++O.zip E))(e:m E=.ok (r,E'))(k:∀v H',Got K mg M O E H T0 O E' H' [(some v,r.slot)]->Q v H'):tN K mg m O H Q:=by
 refine⟨Mo M T0,E,c,h.inner,?_⟩;rw[e];exact λv H' g=>k v H' (g.outer h)
def tNT_run{Q:Bool->Hp->Prop}(c:E.length=O.length)(h:FR K mg M H (T0++O.zip E))(e:m E=.ok (b,E'))(k:∀H',Got K mg M O E H T0 O E' H' []->Q b H'):tNT K mg m O H Q:=by
 refine⟨Mo M T0,E,c,h.inner,?_⟩;rw[e];exact λH' g=>k H' (g.outer h)
def zEF{o:Ls AR}{E1 e h:zS}{c S:Ls Slot}{r:R}{vs:Ls V}{v:V}{H1 k:Hp}(W:zJ o E1=.ok (c,e))(n:zF o S E1 e=.ok h)
  (x:AV O o vs) (a:FR K mg M H1 (O.zip e++(vs.map some).zip c)) (l:Step M H (O.zip E) H1 (O.zip e++(vs.map some).zip c)) (G:e.length=O.length) (t:PKp O E O E1)
  (u:FR K mg (Mo M (O.zip e)) k ((some v,r.slot)::(vs.map some).zip S)) (g:Step (Mo M (O.zip e)) H1 ((vs.map some).zip c) k ((some v,r.slot)::(vs.map some).zip S)):Got K mg M O E H [] O h k [(some v,r.slot)]:=by
 have J:=FR.outer a u g;have w:=Step.outer g;have p:(O.zip e++((some v,r.slot)::(vs.map some).zip S)).Perm ([(some v,r.slot)]++((vs.map some).zip S++O.zip e)):=by
  refine perm_append_comm.trans ?_;exact List.Perm.refl _
 obtain⟨L,i,j⟩:=GX o G x n (J.perm p);refine⟨j,L,?_,t.trans (zD7 W n)⟩;have q:=l.trans w;exact q.weak λb Z=>zB p.symm b (i b Z)
theorem Y6:∀(n:Nat) {Z W:Fz},Mask Z W->Mask Z (W.drop n)
 |0,_,_,h=>h|n+1,_,_,.nil Z=>by dsimp[List.drop_nil];exact .nil _|n+1,_,_,.keep h=>.skip (Y6 n h)|n+1,_,_,.skip h=>.skip (Y6 (n+1) h)|n+1,_,_,.extra h=>Y6 n h
theorem Q2{α β:Type}:∀(n:Nat) (l:Ls α) (m:Ls β),(l.zip m).drop n=(l.drop n).zip (m.drop n)
 |0,_,_=>rfl|n+1,[],_=>by simp|n+1,_::_,[]=>by simp|n+1,_::l,_::m=>by simp[Q2 n l m]
def taL(c:TI)(g:TG)(tt:TT)(w:TAc):TAc:=λD O H Nx=>c O H λJ H1=>Trn J g tt w D Nx O H1
structure GA(K:qH)(mg:Str->Lp)(M:Lf)(D:Lz)(O:St)(E:zS)(H:Hp)(a:Slot)(O':St)(E':zS)(H':Hp)(a':Slot):Prop where
 len:E'.length=O'.length
 fr:FR K mg M H' ((some (.ref D),a')::O'.zip E')
 st:Step M H ((some (.ref D),a)::O.zip E) H' ((some (.ref D),a')::O'.zip E')
 pk:PKp O E O' E'
def GA.of{D:Lz}{a:Slot}{c:St}{E':zS}{k:Hp}(g:Got K mg M O E H [(some (.ref D),a)] c E' k []):GA K mg M D O E H a c E' k a:=⟨g.len,g.fr,g.st,g.pk⟩
theorem GA.trans{D:Lz}{a0 Z a2:Slot}{O1 c:St}{E1 e:zS}{H1 g:Hp}(a:GA K mg M D O E H a0 O1 E1 H1 Z)(b:GA K mg M D O1 E1 H1 Z c e g a2):GA K mg M D O E H a0 c e g a2:=⟨b.len,b.fr,a.st.trans b.st,a.pk.trans b.pk⟩
def zA3{α:Type}(k:Ak α)(K:qH)(g:Str->Lx Lv)(t:MC α)(w:TAc):Prop:=∀(M:Lf) (D:Lz) (O:St) (E:zS) (H:Hp) (L e:α) (E':zS) (Nx:St->Hp->Prop),E.length=O.length->FR K g M H ((some (.ref D),k.s L)::O.zip E)->t E L=.ok (e,E')->(∀O' H',GA K g M D O E H (k.s L) O' E' H' (k.s e)->Nx O' H')->w D O H Nx
def AkOk{α:Type}(k:Ak α):Prop:=∀{K:qH} {g:Str->Lx Lv} {M:Lf} {H:Hp} {Z:Fz} {D:Lz},FR K g M H Z->H D=none->FR K g M (upd H D (k.o D)) ((some (.ref D),k.s k.z)::Z)/\Step M H Z (upd H D (k.o D)) ((some (.ref D),k.s k.z)::Z)
def Gc:AkOk akL:=λf h=>⟨f.newOwn (ds:=[]) (xs:=[]) h Reps.nil,Step.newOwn (ds:=[]) (xs:=[]) f h⟩
def tNI(K:qH)(g:Str->Lx Lv)(m:MI):TI:=λO H R=>∃M E,E.length=O.length/\FR K g M H (O.zip E)/\match m E with
 | .ok (G,E')=>∀J Iv H',ItOk K g J G Iv->Iv (Hm (Mo M (O.zip E')) H')->Got K g M O E H [] O E' H' []->R J H'|_=>False
def tNI_M{R:It->Hp->Prop}(h:tNI X.K X.mg m O H R):tMI X m O H R:=by
 obtain⟨M,E,hl,fr,k⟩:=h;refine⟨M,E,hl,fr,?_⟩;cases e:m E with
 |z=>rw[e]at k;exact k|y x E1=>rw[e]at k;exact k.elim|ok p=>rw[e]at k;exact k
def yld_ga{J:It}{ds:Ls D}{G:Hp->Prop}{O c:St}{r E':zS}{H1 k H:Hp}{a:Lz}{e L:Slot}{i:Nat}{x:V}(it:ItOk K mg J ds G)(I:i<ds.length)(g:GA K mg M a O r H1 e c E' k L)(o:G (Hm (Mo M ((some (.ref a),L)::c.zip E')) k))(y:J.yld i k x H) :
  ∃d,ds[i]?=some d/\GA K mg M a O r H1 e c E' H L/\G (Hm (Mo M ((some (.ref a),L)::c.zip E')) H)/\Rep K mg (Hm (Mo M ((some (.ref a),L)::c.zip E')) H) d x:=by
 obtain⟨d,C,h⟩:=it.yld i _ _ x _ zM o I y;rcases h with⟨rfl,w⟩|⟨q,Y,E,W,rfl,rfl,rfl,u⟩
 ·exact⟨d,C,g,o,w⟩
 ·have l:=g.fr.newTup W u
  have R:Step M k ((some (.ref a),L)::c.zip E') (upd k q (.t Y)) ((some (.ref q),.v (.t E))::((some (.ref a),L)::c.zip E')):=Step.newVal W;obtain⟨v,ev,j⟩:=l.val _ _ qE;cases ev;have z:=R.same;exact⟨_,C,⟨g.len,l.tail,g.st.trans ⟨z,R.keep⟩,g.pk⟩,it.mono _ _ z o,j⟩
def Gd:zA3 akL K mg (ma1 el) (ta1 (tN K mg el)):=λM D O E H L e E' Nx hl fr u hN=>by
 unfold ma1 at u;cases n:el E with
 |z=>rw[n]at u;cases u|y _ _=>rw[n]at u;cases u
 |ok p =>
  obtain⟨r,Ec⟩:=p;rw[n]at u;dsimp at u;by_cases o:L.length<cap
  ·rw[if_pos o]at u
   cases u;refine tN_run (T0:=[(some (.ref D),.w L)]) hl fr n λq H4 g=>?_
   have j:FR K mg M H4 ((some q,.v r.d)::((some (.ref D),Slot.w L)::O.zip E')):=FR.frz (r:=r) g.fr;obtain⟨t,l,P⟩:=j.val _ _ qE;cases l;rw[Wx]at P;have c:=j.tail;obtain⟨a,T,R,C,_,h⟩:=c.ownL _ _ L qE rfl;cases R;refine⟨T,C,by rw[h.length];exact lt_of_lt_of_le o (Zy (le_refl _)),hN O _ ?_⟩;obtain⟨k,v⟩:=FR.mut (i:=0) (s:=.w L) c rfl rfl (h.append (Reps.cons P Reps.nil));have sz:Step M H ((some (.ref D),Slot.w L)::O.zip E) H4 ((some (.ref D),Slot.w L)::O.zip E'):=g.st.weak (zD (sublist_cons_self _ _));exact⟨g.len,k,sz.trans v,g.pk⟩
  ·rw[if_neg o]at u;cases u
def zH0{α:Type}{k:Ak α}{t:MC α}(ho:GOk X g tg)(C:zA3 k X.K X.mg t ta){G:Hp->Prop}(it:ItOk X.K X.mg J ds G){L Q:α}{l:St->Hp->Prop}(hl:E.length=O.length)(h:FR X.K X.mg M H ((some (.ref Da),k.s L)::O.zip E))(r:G (Hm (Mo M ((some (.ref Da),k.s L)::O.zip E)) H))(u:wf tg tt t ds E L=.ok (Q,EF))
  (hN:∀O' H',GA X.K X.mg M Da O E H (k.s L) O' EF H' (k.s Q)->l O' H'):Trn J g (tNT X.K X.mg tt) ta Da l O H:=by
 refine⟨λi m O' H'=>m=ds.length-i/\i<=ds.length/\∃E' e,GA X.K X.mg M Da O E H (k.s L) O' E' H' (k.s e)/\G (Hm (Mo M ((some (.ref Da),k.s e)::O'.zip E')) H')/\wf tg tt t (ds.drop i) E' e=.ok (Q,EF),
  ⟨ds.length,by simp,zero_le _,E,L,⟨hl,h,Step.refl,PKp.refl⟩,r,u⟩,?_⟩
 rintro i m O' H' ⟨rfl,hi,E',e,v,o,a⟩
 by_cases I:i<ds.length
 ·refine .inr ⟨it.go i _ H' zM o I,λO'' H''=>(i+1<=ds.length/\∃E' e,GA X.K X.mg M Da O E H (k.s L) O'' E' H'' (k.s e)/\G (Hm (Mo M ((some (.ref Da),k.s e)::O''.zip E')) H'')/\wf tg tt t (ds.drop (i+1)) E' e=.ok (Q,EF)),
   λO'' H'' q=>⟨ds.length-(i+1),by lia,rfl,q⟩,λx H'' y=>?_⟩
  obtain⟨d,hd,v,o,w⟩:=yld_ga it I v o y;have c:ds.drop i=d::ds.drop (i+1):=by
   obtain⟨K,rfl⟩:=qG.mp hd;exact drop_eq_getElem_cons K
  rw[c]at a;dsimp[wf]at a;cases W:tg d E' with
  |z=>rw[W]at a;cases a|y _ _=>rw[W]at a;cases a
  |ok Ea =>
   rw[W]at a;dsimp at a;refine ho _ O' E' _ [(some (.ref Da),k.s e)] x d Ea _ v.len (v.fr.add w) W λO2 Y=>?_
   have Z:=v.trans (GA.of Y);cases P:tt Ea with
   |z=>rw[P]at a;cases a|y _ _=>rw[P]at a;cases a
   |ok p =>
    obtain⟨b,Eb2⟩:=p;rw[P]at a;refine tNT_run Y.len Y.fr P λH3 j=>?_
    have R:GA X.K X.mg M Da O2 Ea H'' (k.s e) O2 Eb2 H3 (k.s e):=⟨j.len,j.fr,j.st,j.pk⟩;have S:=Z.trans R;have T:=it.mono _ _ (Y.st.same.trans j.st.same) o;cases b with
    |false=>exact zHi ⟨I,Eb2,e,S,T,a⟩
    |true =>
     refine zHj ?_;dsimp at a;cases n:t Eb2 e with
     |z=>rw[n]at a;cases a|y _ _=>rw[n]at a;cases a
     |ok p =>
      obtain⟨D,Ec⟩:=p;rw[n]at a;exact C M Da O2 Eb2 H3 e D Ec _ S.len S.fr n λO4 H4 V=>⟨I,Ec,D,S.trans V,it.mono _ _ V.st.same T,a⟩
 ·have aa:i=ds.length:=by lia
  subst aa;rw[List.drop_length]at a;cases a;exact .inl ⟨it.stop _ _ H' zM o (le_refl _),hN O' H' v⟩
def zBr{α:Type}{k:Ak α}{t:MC α}(a:GOk X g tg)(C:zA3 k X.K X.mg t ta):zA3 k X.K X.mg (maL mi tg tt t) (taL (tNI X.K X.mg mi) g (tNT X.K X.mg tt) ta):=λM D O E H L Q EF Nx hl fr u hN=>by
 unfold maL at u;cases P:mi E with
 |z=>rw[P]at u;cases u|y _ _=>rw[P]at u;cases u
 |ok p =>
  obtain⟨G,E1⟩:=p;rw[P]at u;refine⟨Mo M [(some (.ref D),k.s L)],E,hl,FR.inner (T:=[(some (.ref D),k.s L)]) fr,?_⟩;rw[P];intro J Iv H1 it r I;have Z:Got X.K X.mg M O E H [(some (.ref D),k.s L)] O E1 H1 []:=I.outer (T0:=[(some (.ref D),k.s L)]) fr;rw[<- jB]at r;exact zH0 a C it Z.len Z.fr r u λO' H' Y=>hN O' H' ((GA.of Z).trans Y)
def zBs{α:Type}{k:Ak α}(hk:AkOk k){nl:Nat}{caps:Ls Nat}{mi:MI}{tg:MG}{tt:MT}{t:MC α}{ta:TAc}{g:TG}{Q:VK}(ho:GOk X g tg)(C:zA3 k X.K X.mg t ta)(h:tM X (Jj k nl caps mi tg tt t) O H Q):zGa k.o nl caps (tMI X mi) g (tNT X.K X.mg tt) ta O H Q:=by
 obtain⟨M,E,hl,fr,kk⟩:=h;unfold Jj at kk;refine⟨M,E,hl,fr,?_⟩;exists ei,mi E,kk,ds,E1;intro J Iv H1 it iv I D hD;dsimp at kk;cases P:YE E1 caps with
 |z=>rw[P]at kk;exact kk.elim|y _ _=>rw[P]at kk;exact kk.elim
 |ok o =>
  rw[P]at kk;dsimp at kk;cases c:zJ o E1 with
  |z=>rw[c]at kk;exact kk.elim|y _ _=>rw[c]at kk;exact kk.elim
  |ok p =>
   obtain⟨ss,E2⟩:=p;rw[c]at kk;dsimp at kk;cases u:wf tg tt t ds (replicate nl .e++ss) k.z with
   |z=>rw[u]at kk;exact kk.elim|y _ _=>rw[u]at kk;exact kk.elim
   |ok p =>
    obtain⟨a,Eb⟩:=p;rw[u]at kk;dsimp at kk;cases K:zF o ((zt (replicate nl .e++ss) Eb).drop nl) E1 E2 with
    |z=>rw[K]at kk;exact kk.elim|y _ _=>rw[K]at kk;exact kk.elim
    |ok E3 =>
     rw[K]at kk;obtain⟨L,R,aa,f1,o1⟩:=zED (T:=[]) caps I.len P I.fr;obtain⟨f2,o2,G,W⟩:=W6 (T:=[]) o I.len R c f1;have hv:=R.length;have n:FR X.K X.mg M H1 (O.zip E2++(L.map some).zip ss):=FR.perm (T:=O.zip E2++(L.map some).zip ss) (Z:=(L.map some).zip ss++O.zip E2) f2 perm_append_comm;have l:∀b,b∈yH (O.zip E2++(L.map some).zip ss)->b∈yH (O.zip E1):=λb hb =>
      o1 b ((o2 b).mpr (zB (T:=O.zip E2++(L.map some).zip ss) (Z:=(L.map some).zip ss++O.zip E2) perm_append_comm b hb))
     have S:Step M H (O.zip E) H1 (O.zip E2++(L.map some).zip ss):=I.st.weak l;have eO:y8 nl caps O=replicate nl none++L.map some:=by unfold L2.y8;rw[aa]
     rw[eO];have ez:(replicate nl (none:Lx V)++L.map some).zip (replicate nl Slot.e++ss)=replicate nl (none,.e)++(L.map some).zip ss:=by
      rw[zip_append (by simp),zA1]
     have f4:FR X.K X.mg (Mo M (O.zip E2)) H1 ((replicate nl (none:Lx V)++L.map some).zip (replicate nl Slot.e++ss)):=by
      rw[ez];exact(FR.inner n).emps0 nl
     have i:yH ((replicate nl (none:Lx V)++L.map some).zip (replicate nl Slot.e++ss))=yH ((L.map some).zip ss):=by rw[ez,zEE]
     generalize q:replicate nl (none:Lx V)++L.map some=O0 at f4 i ⊢;generalize ab:replicate nl Slot.e++ss=E0 at f4 i u K ⊢;have x:E0.length=O0.length:=by rw[<- q,<- ab];simp[G,hv]
     obtain⟨f5,s5⟩:=hk f4 hD;have ac:Iv (Hm (Mo (Mo M (O.zip E2)) ((some (.ref D),k.s k.z)::O0.zip E0)) (upd H1 D (k.o D))):=by
      refine it.mono _ _ s5.same (it.mono _ _ (j6 λb hb=>?_) iv);rcases hb with hb|hb
      ·rcases hb with hb|hb
       ·exact .inl hb
       ·exact .inr (l b (by rw[zX];exact mem_append_left _ hb))
      ·rw[i]at hb
       exact .inr (l b (by rw[zX];exact qK _ hb))
     refine zH0 ho C it x f5 ac u λO' H' Y=>kk _ H' ?_
     have v:Got X.K X.mg (Mo M (O.zip E2)) O0 E0 H1 [] O' Eb H' [(some (.ref D),k.s a)]:=⟨Y.len,Y.fr,s5.trans Y.st,Y.pk⟩;have ad:Mask (O'.zip Eb) (O0.zip (zt E0 Eb)):=Wa E0 O0 O' Eb v.len (x.symm) λj w e=>(v.pk j w e).2
     have mk:Mask (O'.zip Eb) ((L.map some).zip ((zt E0 Eb).drop nl)):=by
      have:=Y6 nl ad;have e:(O0.zip (zt E0 Eb)).drop nl=(L.map some).zip ((zt E0 Eb).drop nl):=by
       rw[Q2,<- q];congr 1;rw[List.drop_left' (by simp)]
      rw[e]at this;exact this
     refine zEF (r:=k.r a) c K R n S W I.pk (v.fr.mask (.keep mk)) ?_;refine(v.st.weak λb hb=>(Mask.keep mk).sub.subset hb).left λb hb=>?_
     rw[nil_append,i]at hb;exact hb
end
section
variable{X:Cx}{ce target iter:Lb}{ifs:Ls Lb}{scope:Scope}{nl:Nat}{caps:Ls Nat}{N':Ls Str}{mk:Sem Lv}{ob:Obj}{act:Lv->Env->Sem PySem.Fin->Sem PySem.Fin}{gs:Ls Comprehension}{p p0:Pos}{α:Type}{k:Ak α}{ma:MC α}{mi:MI}{tg:MG}{tt:MT}{ta:TAc}{g:TG}
def zEG(C:CSc X scope nl caps N')(V:AkOk k)(a:zA3 k X.K X.mg ma ta)(N:CNd X.prog X.w ce target iter ifs mk ob k.o act gs p)(c:∀M C w s H,PAc (cxB X N' scope M C w s H) act ta)(P:eval ce X.env=comprehension ce scope X.env p0 mk false (eval iter X.env))
  (hi:IOk X target iter mi) (t:∀M C w s H,PG (cxB X N' scope M C w s H) target g) (J:GOk X g tg) (r:∀M C w s H,IfOk (cxB X N' scope M C w s H) ifs tt) (T:∀x,foldedSetIterable iter X.env x=pure x):EOk X ce (Jj k nl caps mi tg tt ma) :=
 yW (pe_comp C N hi t (λM C w s H=>Wb (r M C w s H) λO H Q q=>tNT_M (X:=cxB X N' scope M C w s _) q) c T P) λO H Q=>zBs V J a
def zEH(E:X.N.Nodup)(K:X.N[i]?=some y)(j:Loc X.env.scope y)(Y:X.fn y=true\/X.env.scope.names.lookup y=some .local)(C:CSc X scope nl caps N')(V:AkOk k)(e:zA3 k X.K X.mg ma ta)(N:CNd X.prog X.w ce target iter ifs mk ob k.o act gs p)(c:∀M C w s H,PAc (cxB X N' scope M C w s H) act ta)
  (P:∀u,evalThenUse ce X.env u=(do let _ <- comprehension ce scope X.env p0 mk false (eval iter X.env) (some u)))
  (hi:IOk X target iter mi) (t:∀M C w s H,PG (cxB X N' scope M C w s H) target g) (J:GOk X g tg) (r:∀M C w s H,IfOk (cxB X N' scope M C w s H) ifs tt)
  (T:∀x,foldedSetIterable iter X.env x=pure x) (a:swapsWith ce (some (.Name y py)) spos.line X.env=pure true):SOk X (.Assign [.Name y py] ce spos) (sSet i (Jj k nl caps mi tg tt ma)) :=
 jD (ps_setC E K j Y C N hi t (λM C w s H=>Wb (r M C w s H) λO H Q q=>tNT_M (X:=cxB X N' scope M C w s _) q) c T a P) λD O H h=>zBs V J e (zD1 h)
end
def mem7{P:String->Prop}(J:P "NoneType")(Y:P "bool")(Q:P "int")(h:P "str")(S:P "tuple")(y:P "list")(w:P "dict"):∀t∈["NoneType","bool","int","str","tuple","list","dict"],P t:=by
 intro t ht;dsimp[mem_cons,mem_nil_iff,or_false]at ht;rcases ht with rfl|rfl|rfl|rfl|rfl|rfl|rfl<;>assumption
abbrev Kit(K:qH)(T:String):Prop:=∀t∈["NoneType","bool","int","str","tuple","list","dict"],kitOne K (.type t) (.type T)=some (zAy t T)
def kit_int(K:qH):Kit K "int":=mem7 rfl rfl rfl rfl rfl rfl rfl
def zGb(K:qH):Kit K "bool":=mem7 rfl rfl rfl rfl rfl rfl rfl
def zEI(K:qH):Kit K "tuple":=mem7 rfl rfl rfl rfl rfl rfl rfl
def zGc(K:qH):Kit K "list":=mem7 rfl rfl rfl rfl rfl rfl rfl
def kit_str(K:qH):Kit K "str":=mem7 rfl rfl rfl rfl rfl rfl rfl
def zGd(K:qH):Kit K "dict":=mem7 rfl rfl rfl rfl rfl rfl rfl
def Ge:bootBuiltins "isinstance"=some (.builtin "isinstance"):=by left
def bt_len:bootBuiltins "len"=some (.builtin "len"):=by left
def zH1:bootBuiltins "max"=some (.builtin "max"):=by left
def bt_min:bootBuiltins "min"=some (.builtin "min"):=by left
def bt_all:bootBuiltins "all"=some (.builtin "all"):=by left
def zH2:bootBuiltins "int"=some (.type "int"):=by left
def bt_bool:bootBuiltins "bool"=some (.type "bool"):=by left
def zBt:bootBuiltins "tuple"=some (.type "tuple"):=by left
def bt_list:bootBuiltins "list"=some (.type "list"):=by left
def bt_str:bootBuiltins "str"=some (.type "str"):=by left
def bt_dict:bootBuiltins "dict"=some (.type "dict"):=by left
section
variable{X:Cx}{K:qH}{mg:Str->Lx Lv}{O:St}{H:Hp}
def eNeg(a:ME):ME:=λE=>match a E with
 | .ok (.v (.int i),E1)=>.ok (.v (.int (-i)),E1)| .y x E1=>.y x E1|_=>.z
def ok_neg(h:EOk X a m):EOk X (.UnaryOp .USub a pos) (eNeg m):=yW (pe_un un_neg h) λO H Q ⟨M,E,hl,fr,k⟩=>by
 unfold eNeg at k;refine z9 (T0:=[]) hl fr ?_;exists ea,m E,k,r,E1;cases r with
 |w G=>exact k.elim|m _ _=>exact k.elim
 |v d =>
  cases d with
  |int i =>
   intro v H' g;exact⟨i,zI g.rep,k _ H' (g.flat (d:=.int (-i)) rfl)⟩
  |_=>exact k.elim
def yI(p V:Ll)(a b c:ME):ME:=λE=>match a E with
 | .z=>.z| .y x E1=>.y x E1
 | .ok (.v (.int i),E1)=>match b E1 with
  | .z=>.z| .y x E2=>.y x E2
  | .ok (.v (.int j),E2)=>if p i j=true then match c E2 with
    | .z=>.z| .y x E3=>.y x E3| .ok (.v (.int k),E3)=>.ok (.v (.bl (V j k)),E3)|_=>.z
   else .ok (.v (.bl false),E2)
  |_=>.z
 |_=>.z
def Q3{p V:Ll}(h:tM X (yI p V a b c) O H Q):zDa (rI0 λi j=>.bl (p i j)) (rI0 λi j=>.bl (V i j)) (tM X a) (tM X b) (tM X c) O H Q:=by
 obtain⟨M,E,hl,fr,k⟩:=h;unfold yI at k;refine z9 (T0:=[]) hl fr ?_;exists ea,a E,k,r,E1;cases r with
 |w G=>exact k.elim|m _ _=>exact k.elim
 |v d =>
  cases d with
  |int i =>
   intro x H1 I;have T:=I.dropAll;refine z9 (T0:=[]) T.len T.fr ?_;dsimp at k;cases K:b E1 with
   |z=>rw[K]at k;exact k|y x E2=>rw[K]at k;exact λH' g=>k H' (T.trans' g)
   |ok q =>
    obtain⟨o,E2⟩:=q;rw[K]at k;cases o with
    |w G=>exact k.elim|m _ _=>exact k.elim
    |v l =>
     cases l with
     |int j =>
      intro y H2 Z;have e:=(T.trans' Z).dropAll;refine⟨i,j,zI I.rep,zI Z.rep,p i j,rfl,?_⟩;dsimp at k;cases D:p i j with
      |false =>
       rw[D]at k;exact zHi (k _ H2 (e.flat (d:=.bl false) rfl))
      |true =>
       rw[D]at k;dsimp[if_true]at k;refine zHj (z9 (T0:=[]) e.len e.fr ?_);cases P:c E2 with
       |z=>rw[P]at k;exact k|y x E3=>rw[P]at k;exact λH' g=>k H' (e.trans' g)
       |ok q =>
        obtain⟨t,E3⟩:=q;rw[P]at k;cases t with
        |w G=>exact k.elim|m _ _=>exact k.elim
        |v L =>
         cases L with
         |int n =>
          intro w H3 S;exact⟨j,n,zI Z.rep,zI S.rep,k _ H3 ((e.trans' S).flat (d:=.bl (V j n)) rfl)⟩
         |_=>exact k.elim
     |_=>exact k.elim
  |_=>exact k.elim
def zGe{p V:Ll}(J:OpR X (compareOp op) (rI0 λi j=>.bl (p i j)))(M:OpR X (compareOp op') (rI0 λi j=>.bl (V i j)))(C:EOk X a ma)(Z:EOk X b mb)(S:EOk X c mc)
  (Y:lastMarks [op,op'] [b,c]=false:=by with_unfolding_all rfl):EOk X (.Compare a [op,op'] [b,c] pos) (yI p V ma mb mc):=yW (zF0 J M C Z S Y) λO H Q=>Q3
def zEJ{p V:Ll}(J:OpR X (compareOp op) (rI0 λi j=>.bl (p i j)))(M:OpR X (compareOp op') (rI0 λi j=>.bl (V i j)))(C:EOk X a ma)(Z:EOk X b mb)(S:EOk X c mc)
  (Y:lastMarks [op,op'] [b,c]=false:=by with_unfolding_all rfl):TOk X (.Compare a [op,op'] [b,c] pos) (tT (yI p V ma mb mc)):=Qp (zF1 J M C Z S Y) λO H Q q=>Q3 (zDv q)
abbrev ltB:Ll:=λi j=>decide (i<j)
abbrev leB:Ll:=λi j=>decide (i<=j)
abbrev gtB:Ll:=λi j=>decide (j<i)
abbrev geB:Ll:=λi j=>decide (j<=i)
def zGf(X:Cx)(Y:Scope):Ls Nat->Ls Str->Prop
 | [],[]=>True|j::js,x::xs=>X.N[j]?=some x/\Y.names.lookup x=some .free/\zGf X Y js xs|_,_=>False
theorem zH3{Y:Scope}{loc:Ls Str}:∀{n:Ls Nat} {v:Ls Str},zGf X Y n v->v.length=n.length/\∀(i j:Nat),n[i]?=some j->∃x,v[i]?=some x/\X.N[j]?=some x/\Y.names.lookup x=some .free
 | [],[],h=>⟨rfl,λi j e=>by simp at e⟩| [],_::_,h=>h.elim|_::_,[],h=>h.elim
 |j::c,x::a,h=>by
  obtain⟨J,h2,Q⟩:=h;obtain⟨Z,o⟩:=zH3 (loc:=loc) Q;refine⟨by simp[Z],λi k e=>?_⟩;cases i with
  |zero=>simp at e;subst e;exact⟨x,rfl,J,h2⟩|succ i=>simp at e;obtain⟨y,q⟩:=o i k e;exact⟨y,by exists q⟩
def csc_of{Y:Scope}{nl:Nat}{caps:Ls Nat}(loc v:Ls Str)(a:loc.length=nl)(l:∀e s,¬X.xe e s)(S:X.calm=true)(h:Y.kind=.function)(c:∀y∈Y.names,y.2=.local->Y.names.lookup y.1=some .local)(n:∀y∈Y.names,y.2=.cell->Y.names.lookup y.1=some .cell)
  (w:(Y.names.all λy=>y.2 != .free||X.env.kindOf y.1==some .cell)=true) (o:zGf X Y caps v):CSc X Y nl caps (loc++v):=by
 obtain⟨M,g⟩:=zH3 (loc:=loc) o;refine⟨l,S,h,c,n,w,by simp[a,M],λi j e=>?_⟩;obtain⟨x,K,k,W⟩:=g i j e;refine⟨x,?_,k,W⟩;rw[List.getElem?_append_right (by lia),a,Nat.add_sub_cancel_left];exact K
section
variable{elt target iter:Lb}{ifs:Ls Lb}{scope:Scope}{pos:Pos}{mi:MI}{tg:MG}{tt:MT}{el:ME}{g:TG}{nl:Nat}{caps:Ls Nat}{N':Ls Str}
def zA4(C:CSc X scope nl caps N')(c:∀M C w s H,EOk (cxB X N' scope M C w s H) elt el)(M Ca w s H):PAc (cxB X N' scope M Ca w s H) (act1 elt) (ta1 (tN X.K X.mg el)):=pa_elt C.hx (yW (c M _ w s H) λO H Q q=>tN_M q)
def ok_lc(C:CSc X scope nl caps N')(hi:IOk X target iter mi)(t:∀M C w s H,PG (cxB X N' scope M C w s H) target g)(J:GOk X g tg)(r:∀M C w s H,IfOk (cxB X N' scope M C w s H) ifs tt)(c:∀M C w s H,EOk (cxB X N' scope M C w s H) elt el)
  (T:∀x,foldedSetIterable iter X.env x=pure x):EOk X (.ListComp elt [⟨target,iter,ifs,0⟩] scope pos) (zA2 nl caps mi tg tt el) :=
 zEG C Gc Gd zEB (zA4 C c) rfl hi t J r T
def sk_lc(E:X.N.Nodup)(K:X.N[i]?=some y)(Q:Loc X.env.scope y)(Y:X.fn y=true\/X.env.scope.names.lookup y=some .local)(C:CSc X scope nl caps N')(hi:IOk X target iter mi)(t:∀M C w s H,PG (cxB X N' scope M C w s H) target g)(J:GOk X g tg)(r:∀M C w s H,IfOk (cxB X N' scope M C w s H) ifs tt)
  (c:∀M C w s H,EOk (cxB X N' scope M C w s H) elt el) (T:∀x,foldedSetIterable iter X.env x=pure x) (k:swapsWith (.ListComp elt [⟨target,iter,ifs,0⟩] scope pos) (some (.Name y py)) spos.line X.env=pure true) :
  SOk X (.Assign [.Name y py] (.ListComp elt [⟨target,iter,ifs,0⟩] scope pos) spos) (sSet i (zA2 nl caps mi tg tt el)) :=
 zEH E K Q Y C Gc Gd zEB (zA4 C c) (λ_=>rfl) hi t J r T k
end
end
section
variable(P:Lc)(w:Le)(K:qH)(mg:Str->Lx Lv)(base:Heap)
def jj(x:Str)(st:Lh)(G:Ls Str):Prop:=∃(a:Lz) (M:FuncData),mg x=some (.ref a)/\Fun K x x st a M/\ZU K M G []
def FOk(c:Bool)(x:Str)(k:Nat)(G:Ls Str)(F:MF):Prop:=∃(a:Lz) (M:FuncData),mg x=some (.ref a)/\keepIn K (.ref a)=true/\ZU K M G []/\FnOkN c P w K mg base k a M G (spM K mg G.length F)
end
mutual
def deq:D->D->Bool
 | .t a,d=>match d with
  | .t b=>deqs a b|_=>false
 | .l a,d=>match d with
  | .l b=>deqs a b|_=>false
 |a,d=>match d with
  | .t _=>false| .l _=>false|b=>eqV (flV a) (flV b)
def deqs:Ls D->Ls D->Bool
 | [],[]=>true|a::as,b::bs=>deq a b&&deqs as bs| [],_::_=>false|_::_,[]=>false
end
def eqb:Nat->D->Bool
 |_,.non=>true|_,.bl _=>true|_,.int _=>true|_,.str x=>PyData.canLay0 (.str x)|n+1,.t ds=>ds.all (eqb n)|n+1,.l ds=>ds.all (eqb n)|_,_=>false
theorem Gf:∀(a b:Ls D),deqs a b=((List.range (min a.length b.length)).all (λj=>deq (a.getD j .non) (b.getD j .non))&&a.length==b.length)
 | [],[]=>by simp[deqs]| [],_::_=>by simp[deqs]|_::_,[]=>by simp[deqs]
 |a::as,b::bs=>by
  dsimp[deqs,Gf as bs,length_cons];have e:min (as.length+1) (bs.length+1)=min as.length bs.length+1:=by lia
  rw[e,range_succ_eq_map,all_cons,List.all_map];simp[Function.comp_def,Bool.and_assoc]
section
variable{X:Cx}{pins:Ls (Lz×Obj)}{O:St}{H:Hp}{s:La}
def wP(h:eqb 0 d=true):flat d=true:=by cases d<;>first|rfl|(cases h)
def zBu(h:zDj v=true):eqV v v=true:=by cases v<;>simp[zDj]at h<;>simp[eqV]
def Wc(C:flat a=true)(Z:flat b=true):deq a b=eqV (flV a) (flV b):=by
 cases a<;>cases b<;>first|(simp[flat]at C;done)|(simp[flat]at Z;done)|simp[deq]
def jY(h:eqb n d=true):flat d=true\/(∃m G,n=m+1/\d=.t G/\∀e∈G,eqb m e=true)\/(∃m G,n=m+1/\d=.l G/\∀e∈G,eqb m e=true):=by
 cases d with
 |t G =>
  cases n with
  |zero=>cases h|succ m=>exact .inr (.inl ⟨m,G,rfl,rfl,all_eq_true.mp h⟩)
 |l G =>
  cases n with
  |zero=>cases h|succ m=>exact .inr (.inr ⟨m,G,rfl,rfl,all_eq_true.mp h⟩)
 |fn x=>cases n<;>cases h
 |dic=>cases n<;>cases h
 |m _ _=>cases n<;>cases h
 |exn x y=>cases n<;>cases h
 |_=>exact .inl rfl
def zBv(I:Inv X pins O H s):∀(n:Nat) (d e:D) (x:V),eqb n d=true->eqb n e=true->Rep X.K X.mg H d x->Rep X.K X.mg H e x->deq d e=true:=by
 intro n
 induction n with
 |zero =>
  intro d e x C c R i;have M:=wP C;have h:=wP c;rw[Wc M h,<- yb M R,<- yb h i];exact zBu (by rw[yb M R];exact wz M)
 |succ n ih =>
  intro d e x C c R i;have seq:∀(G E:Ls D) (Y:Ls V),(∀e∈G,eqb n e=true)->(∀e∈E,eqb n e=true)->Reps X.K X.mg H G Y->Reps X.K X.mg H E Y->deqs G E=true:=by
   intro G
   induction G with
   |nil =>
    intro E Y _ _ l r2;dsimp[Reps]at l;subst l;cases E with
    |nil=>rfl|cons e E=>dsimp[Reps]at r2;obtain⟨v,r,q,_⟩:=r2;cases q
   |cons d G w =>
    intro E Y J h2 l r2;dsimp[Reps]at l;obtain⟨v,r,rfl,Z,g⟩:=l;cases E with
    |nil=>dsimp[Reps]at r2;cases r2
    |cons e E =>
     dsimp[Reps]at r2;obtain⟨v',L,q,b1,b2⟩:=r2;cases q;dsimp[deqs,Bool.and_eq_true];exact⟨ih d e v (J d qE) (h2 e qE) Z b1,w E r (λz hz=>J z (qD _ hz)) (λz hz=>h2 z (qD _ hz)) g b2⟩
  have k:∀{d:D} {a:Lz},flat d=true->Rep X.K X.mg H d (.ref a)->False:=λ{d a} M r=>by
   have:=yb M r;cases d<;>simp[flat]at M<;>cases this
  have p:∀{a:Lz} {Y T:Ls V},SqT X.K H a Y->SqL X.K H a T->False:=λ{a Y T} J h2=>by
   obtain⟨i1,_,⟨o,e1,c1,_⟩,_⟩:=I.tuple J;obtain⟨i2,_,⟨o2,n2,P,j,_⟩,_⟩:=I.list h2;rw[e1]at P;cases P;rw[c1]at j;simp at j
  rcases jY C with M|⟨m,G,u,rfl,y⟩|⟨m,G,u,rfl,y⟩
  ·rcases jY c with h|⟨m,E,u,rfl,W⟩|⟨m,E,u,rfl,W⟩
   ·rw[Wc M h,<- yb M R,<- yb h i]
    exact zBu (by rw[yb M R];exact wz M)
   ·obtain⟨a,Y,rfl,_,_⟩:=zh i
    exact(k M R).elim
   ·obtain⟨a,Y,rfl,_,_⟩:=zU i
    exact(k M R).elim
  ·cases u
   obtain⟨a,Y,rfl,K,S⟩:=zh R;rcases jY c with h|⟨m,E,u,rfl,W⟩|⟨m,E,u,rfl,W⟩
   ·exact(k h i).elim
   ·cases u
    obtain⟨b,T,e,Q,t⟩:=zh i;cases e;have:=I.tuple_inj K Q;subst this;dsimp[deq];exact seq G E Y y W S t
   ·obtain⟨b,T,e,Q,t⟩:=zU i
    cases e;exact(p K Q).elim
  ·cases u
   obtain⟨a,Y,rfl,K,S⟩:=zU R;rcases jY c with h|⟨m,E,u,rfl,W⟩|⟨m,E,u,rfl,W⟩
   ·exact(k h i).elim
   ·obtain⟨b,T,e,Q,t⟩:=zh i
    cases e;exact(p Q K).elim
   ·cases u
    obtain⟨b,T,e,Q,t⟩:=zU i;cases e;have:=I.list_inj K Q;subst this;dsimp[deq];exact seq G E Y y W S t
def Gg(r:Reps X.K X.mg H ds xs)(v:zq xs us)(h:j<us.length):j<ds.length/\∃x,Rep X.K X.mg H (ds.getD j .non) x/\yo x us[j]:=by
 have z:=r.length;have G:=v.length;have C:j<ds.length:=by lia
 refine⟨C,?_⟩;obtain⟨x,K,S⟩:=r.get' (i:=j) (d:=ds[j]) (by simp[C]);obtain⟨u,W,P⟩:=v.get K;have:us[j]=u:=by
  have:=qG.mp W;exact this.2
 refine⟨x,?_,by rw[this];exact P⟩;rw[getD_eq_getElem?_getD,getElem?_eq_getElem C];exact S
def eqAt_ft(hd:flat d=true)(w:yo x u)(ex:x=flV d)(Z:s.heap.IsTuple b its)(p:A.units<cLine):SeqAt.EqAt A s u (.ref b) false:=by
 subst ex;cases d with
 |non=>cases w;exact SeqAt.EqAt.none_tuple Z p|bl c=>cases w;exact SeqAt.EqAt.bool_tuple c Z p|int i=>obtain⟨t,rfl⟩:=w;exact SeqAt.EqAt.int_tuple i t Z p|str z=>obtain⟨t,rfl⟩:=w;exact SeqAt.EqAt.str_tuple z t Z p|_=>simp[flat]at hd
def eqAt_fl(hd:flat d=true)(w:yo x u)(ex:x=flV d)(Z:s.heap.IsList b its)(p:A.units<cLine):SeqAt.EqAt A s u (.ref b) false:=by
 subst ex;cases d with
 |non=>cases w;exact SeqAt.EqAt.none_list Z p|bl c=>cases w;exact SeqAt.EqAt.bool_list c Z p|int i=>obtain⟨t,rfl⟩:=w;exact SeqAt.EqAt.int_list i t Z p|str z=>obtain⟨t,rfl⟩:=w;exact SeqAt.EqAt.str_list z t Z p|_=>simp[flat]at hd
def eqAt_tf(hd:flat d=true)(w:yo x u)(ex:x=flV d)(Z:s.heap.IsTuple b its)(p:A.units<cLine):SeqAt.EqAt A s (.ref b) u false:=by
 subst ex;cases d with
 |non=>cases w;exact SeqAt.EqAt.tuple_none Z p|bl c=>cases w;exact SeqAt.EqAt.tuple_bool c Z p|int i=>obtain⟨t,rfl⟩:=w;exact SeqAt.EqAt.tuple_int i t Z p|str z=>obtain⟨t,rfl⟩:=w;exact SeqAt.EqAt.tuple_str z t Z p|_=>simp[flat]at hd
def eqAt_lf(hd:flat d=true)(w:yo x u)(ex:x=flV d)(Z:s.heap.IsList b its)(p:A.units<cLine):SeqAt.EqAt A s (.ref b) u false:=by
 subst ex;cases d with
 |non=>cases w;exact SeqAt.EqAt.list_none Z p|bl c=>cases w;exact SeqAt.EqAt.list_bool c Z p|int i=>obtain⟨t,rfl⟩:=w;exact SeqAt.EqAt.list_int i t Z p|str z=>obtain⟨t,rfl⟩:=w;exact SeqAt.EqAt.list_str z t Z p|_=>simp[flat]at hd
def deq_ft(h:flat d=true):deq d (.t ds)=false:=by cases d<;>simp[flat]at h<;>simp[deq]
def deq_fl(h:flat d=true):deq d (.l ds)=false:=by cases d<;>simp[flat]at h<;>simp[deq]
def deq_tf(h:flat d=true):deq (.t ds) d=false:=by cases d<;>simp[flat]at h<;>simp[deq]
def deq_lf(h:flat d=true):deq (.l ds) d=false:=by cases d<;>simp[flat]at h<;>simp[deq]
def eqAtD(I:Inv X pins O H s):∀(n:Nat) (A:Li) (d e:D) (x y:V) (u v:Lv),eqb n d=true->eqb n e=true->Rep X.K X.mg H d x->Rep X.K X.mg H e y->yo x u->yo y v->A.units+n<cLine->SeqAt.EqAt A s u v (deq d e):=by
 intro n
 induction n with
 |zero =>
  intro A d e x y u v C c R i w P hu;have M:=wP C;have h:=wP c;rw[Wc M h,<- yb M R,<- yb h i];exact zHg w P (by rw[yb M R];exact wz M) (by rw[yb h i];exact wz h)
 |succ n ih =>
  intro A d e x y u v C c R i w P hu;have l:A.units<cLine:=by lia
  have aa:∀{ds es:Ls D} {Y T:Ls V} {us L:Ls Lv},(∀e∈ds,eqb n e=true)->(∀e∈es,eqb n e=true)->Reps X.K X.mg H ds Y->Reps X.K X.mg H es T->zq Y us->zq T L ->
    ∀j (J:j<us.toArray.size) (h2:j<L.toArray.size),SeqAt.EqAt A.in1 s us.toArray[j] L.toArray[j] (deq (ds.getD j .non) (es.getD j .non)):=by
   intro ds es Y T us L k1 r r1 r2 k p j J h2;have ad:j<us.length:=by exists J
   have ac:j<L.length:=by exists h2
   obtain⟨z,x1,a1,b1⟩:=Gg r1 k ad;obtain⟨G,x2,a2,b2⟩:=Gg r2 p ac;rw[List.getElem_toArray,List.getElem_toArray];have m1:ds.getD j .non∈ds:=by rw[getD_eq_getElem?_getD,getElem?_eq_getElem z];exact getElem_mem z
   have m2:es.getD j .non∈es:=by rw[getD_eq_getElem?_getD,getElem?_eq_getElem G];exact getElem_mem G
   exact ih A.in1 _ _ x1 x2 _ _ (k1 _ m1) (r _ m2) a1 a2 b1 b2 (by show A.units+1+n<cLine;lia)
  rcases jY C with M|⟨m,ds,em,rfl,ab⟩|⟨m,ds,em,rfl,ab⟩
  ·have ex:=yb M R
   rcases jY c with h|⟨m,es,em,rfl,W⟩|⟨m,es,em,rfl,W⟩
   ·rw[Wc M h,<- yb M R,<- yb h i]
    exact zHg w P (by rw[yb M R];exact wz M) (by rw[yb h i];exact wz h)
   ·obtain⟨b,T,rfl,Q,t⟩:=zh i
    cases P;obtain⟨g,_,pl,_⟩:=I.tuple Q;rw[deq_ft M];exact eqAt_ft M w ex pl l
   ·obtain⟨b,T,rfl,Q,t⟩:=zU i
    cases P;obtain⟨g,_,pl,_⟩:=I.list Q;rw[deq_fl M];exact eqAt_fl M w ex pl.isList l
  ·cases em
   obtain⟨a,Y,rfl,K,S⟩:=zh R;cases w;obtain⟨us,k,E,_⟩:=I.tuple K;rcases jY c with h|⟨m,es,em,rfl,W⟩|⟨m,es,em,rfl,W⟩
   ·rw[deq_tf h];exact eqAt_tf h P (yb h i) E l
   ·cases em
    obtain⟨b,T,rfl,Q,t⟩:=zh i;cases P;obtain⟨L,p,Z,_⟩:=I.tuple Q;by_cases o:a=b
    ·subst o
     rw[zBv I (n+1) _ _ _ C c R i];exact SeqAt.EqAt.same _
    ·have q:=SeqAt.EqAt.of_refs o (SeqAt.RcAt.tuples E Z l (aa ab W S t k p))
     dsimp[deq];rw[Gf];have z:us.toArray.size=ds.length:=by rw[size_toArray,<- k.length,S.length]
     have G:L.toArray.size=es.length:=by rw[size_toArray,<- p.length,t.length]
     rw[z,G]at q;exact q
   ·obtain⟨b,T,rfl,Q,t⟩:=zU i
    cases P;obtain⟨L,p,Z,_⟩:=I.list Q;dsimp[deq];exact SeqAt.EqAt.tuple_list E Z.isList l
  ·cases em
   obtain⟨a,Y,rfl,K,S⟩:=zU R;cases w;obtain⟨us,k,E,_⟩:=I.list K;rcases jY c with h|⟨m,es,em,rfl,W⟩|⟨m,es,em,rfl,W⟩
   ·rw[deq_lf h];exact eqAt_lf h P (yb h i) E.isList l
   ·obtain⟨b,T,rfl,Q,t⟩:=zh i
    cases P;obtain⟨L,p,Z,_⟩:=I.tuple Q;dsimp[deq];exact SeqAt.EqAt.list_tuple E.isList Z l
   ·cases em
    obtain⟨b,T,rfl,Q,t⟩:=zU i;cases P;obtain⟨L,p,Z,_⟩:=I.list Q;have z:us.toArray.size=ds.length:=by rw[size_toArray,<- k.length,S.length]
    have G:L.toArray.size=es.length:=by rw[size_toArray,<- p.length,t.length]
    by_cases o:a=b
    ·subst o
     rw[zBv I (n+1) _ _ _ C c R i];exact SeqAt.EqAt.same _
    ·dsimp[deq]
     rw[Gf];by_cases hl:ds.length=es.length
     ·have q:=SeqAt.EqAt.of_refs o (SeqAt.RcAt.lists E.isList Z.isList (by rw[z,G,hl]) l (aa ab W S t k p))
      rw[z]at q;rw[hl]at q ⊢;exists q
     ·have q:=SeqAt.EqAt.of_refs o (SeqAt.RcAt.lists_lengths (A:=A) E.isList Z.isList (by rw[z,G];exists hl) l)
      have e:(ds.length==es.length)=false:=by exists hl
      rw[e,Bool.and_false];exact q
end
section
variable{X:Cx}{K:qH}{mg:Str->Lx Lv}
def rEqD(K:qH)(g:Str->Lx Lv)(n:Bool):R2:=λx y H Q=>∃d e,eqb 20 d=true/\eqb 20 e=true/\Rep K g H d x/\Rep K g H e y/\Q (.bl (if n then !deq d e else deq d e)) H
def zGg(n:Bool)(d e:D):Lx R:=if eqb 20 d=true/\eqb 20 e=true then some (.v (.bl (if n then !deq d e else deq d e)))else none
def zH4:ROk K mg (rEqD K mg neg) (zGg neg):=by
 intro M H Z x y w O a Q f l o e k;unfold zGg at e;split at e
 ·rename_i S
  cases e;exact⟨w,O,S.1,S.2,l.mono zM,o.mono zM,k.flat f rfl⟩
 ·cases e
end
end DV
namespace L2
open PySem PySem.Spec PyProof.Rows
section
variable{X:Cx}
def wQ{ns:Ls Int}{g:Ls Lv}(j:zq (ns.map V.int) g)(i:Nat)(v:Lv)(c:g.toArray[i]?=some v):∃t,v=.int (ns.getD i 0) t:=by
 have a:g[i]?=some v:=by exists c
 have R:i<g.length:=(qG.mp a).1;have hl:=j.length;have M:i<(ns.map V.int).length:=by rw[hl];exact R
 obtain⟨C,W,P⟩:=j.get (i:=i) (x:=(ns.map V.int)[i]) (by simp[M]);rw[a]at W;cases W;rw[length_map]at M;rw[List.getElem_map]at P;obtain⟨t,e⟩:=(show ∃t,v=.int (ns[i]) t from P);exact⟨t,by rw[e];simp[M]⟩
def uG(ns:Ls Int):Int:=ns.getD (argBest (λi j=>decide (ns.getD i 0 > ns.getD j 0)) (ns.length-1)) 0
def zEK(ns:Ls Int):Int:=ns.getD (argBest (λi j=>decide (ns.getD i 0<ns.getD j 0)) (ns.length-1)) 0
def zEL(S:X.calm=true):jb X (.builtin "max") (λY H Q=>∃(p:Lz) (E:Ls Int),Y=[.ref p]/\SqL X.K H p (E.map V.int)/\0<E.length/\Q (.int (uG E)) H):=by
 intro G s O H Y D Q I r h;obtain⟨p,E,rfl,W,z,q⟩:=h;obtain⟨u,rfl,w⟩:=ZT r;cases w;obtain⟨g,j,k,hz⟩:=I.list W;have y:g.length=E.length:=by rw[<- j.length,length_map]
 have L:p<s.heap.objs.size:=by obtain⟨o,n,e,_⟩:=k;exact lt_size e
 have a:∀b o,s.heap.get? b=some o->(s.heap.push {cls:=.type "list_iterator",data:=.fields #[.ref p,.int 0 0]}).get? b=some o:=λb o e=>qA _ e
 refine call_max_walk (wpAny_pyIter_list k.isList ?_);refine⟨s.heap.objs.size,[s.heap.objs.size,p],[s.heap.objs.size],g.toArray.size,_,_,_,rfl,
  Walks.list (by show X.A.handled=none;exact I.ok.hd S) _ p (ne_of_lt L) g.toArray,⟨⟨_,get?_push_size _ rfl,rfl,rfl⟩,?_⟩,?_,?_,CmpOf.ints_gt (λi=>E.getD i 0) (wQ j),?_⟩
 ·obtain⟨o,e,c⟩:=k.isList
  exact⟨o,a _ _ e,c⟩
 ·intro b Z
  rw[size_push];rcases mem_cons.mp Z with rfl|Z
  ·exact lt_succ_self _
  ·have:b=p:=by exists Z
   subst this;exact lt_succ_of_lt L
 ·rw[size_toArray,y];exact z
 ·intro v x M l kp
  obtain⟨t,e⟩:=wQ j _ v l;subst e;rw[size_toArray,y];exact⟨.int (uG E),H,I.kept (t':=M) λb o K=>kp b o (λm=>by
   have:b=s.heap.objs.size:=by exists m
   subst this;exact absurd (lt_size K) (lt_irrefl _)) (a b o K),⟨_,rfl⟩,q⟩
def zEM(S:X.calm=true):jb X (.builtin "min") (λY H Q=>∃(p:Lz) (E:Ls Int),Y=[.ref p]/\SqL X.K H p (E.map V.int)/\0<E.length/\Q (.int (zEK E)) H):=by
 intro G s O H Y D Q I r h;obtain⟨p,E,rfl,W,z,q⟩:=h;obtain⟨u,rfl,w⟩:=ZT r;cases w;obtain⟨g,j,k,hz⟩:=I.list W;have y:g.length=E.length:=by rw[<- j.length,length_map]
 have L:p<s.heap.objs.size:=by obtain⟨o,n,e,_⟩:=k;exact lt_size e
 have a:∀b o,s.heap.get? b=some o->(s.heap.push {cls:=.type "list_iterator",data:=.fields #[.ref p,.int 0 0]}).get? b=some o:=λb o e=>qA _ e
 refine call_min_walk (wpAny_pyIter_list k.isList ?_);refine⟨s.heap.objs.size,[s.heap.objs.size,p],[s.heap.objs.size],g.toArray.size,_,_,_,rfl,
  Walks.list (by show X.A.handled=none;exact I.ok.hd S) _ p (ne_of_lt L) g.toArray,⟨⟨_,get?_push_size _ rfl,rfl,rfl⟩,?_⟩,?_,?_,CmpOf.ints_lt (λi=>E.getD i 0) (wQ j),?_⟩
 ·obtain⟨o,e,c⟩:=k.isList
  exact⟨o,a _ _ e,c⟩
 ·intro b Z
  rw[size_push];rcases mem_cons.mp Z with rfl|Z
  ·exact lt_succ_self _
  ·have:b=p:=by exists Z
   subst this;exact lt_succ_of_lt L
 ·rw[size_toArray,y];exact z
 ·intro v x M l kp
  obtain⟨t,e⟩:=wQ j _ v l;subst e;rw[size_toArray,y];exact⟨.int (zEK E),H,I.kept (t':=M) λb o K=>kp b o (λm=>by
   have:b=s.heap.objs.size:=by exists m
   subst this;exact absurd (lt_size K) (lt_irrefl _)) (a b o K),⟨_,rfl⟩,q⟩
theorem vB(ns:Ls Int):∀k,k<=ns.length->preSum (λi=>ns.getD i 0) k=(ns.take k).sum
 |0,_=>by simp[preSum]
 |k+1,h=>by
  have V:k<ns.length:=by lia
  rw[preSum,vB ns k (by lia),take_add_one,getElem?_eq_getElem V,sum_append];simp[V]
def zEN(S:X.calm=true):jb X (.builtin "sum") (λY H Q=>∃(p:Lz) (E:Ls Int),Y=[.ref p]/\SqL X.K H p (E.map V.int)/\Q (.int E.sum) H):=by
 intro G s O H Y D Q I r h;obtain⟨p,E,rfl,W,q⟩:=h;obtain⟨u,rfl,w⟩:=ZT r;cases w;obtain⟨g,j,k,hz⟩:=I.list W;have y:g.length=E.length:=by rw[<- j.length,length_map]
 have L:p<s.heap.objs.size:=by obtain⟨o,n,e,_⟩:=k;exact lt_size e
 have a:∀b o,s.heap.get? b=some o->(s.heap.push {cls:=.type "list_iterator",data:=.fields #[.ref p,.int 0 0]}).get? b=some o:=λb o e=>qA _ e
 refine call_sum_walkAnyS (wpAny_pyIter_list k.isList ?_);refine⟨s.heap.objs.size,[s.heap.objs.size,p],[s.heap.objs.size],_,g.toArray.size,_,_,λi=>E.getD i 0,rfl,
  (Walks.list (by show X.A.handled=none;exact I.ok.hd S) _ p (ne_of_lt L) g.toArray).toS,⟨⟨_,get?_push_size _ rfl,rfl,rfl⟩,?_⟩,?_,wQ j,?_⟩
 ·obtain⟨o,e,c⟩:=k.isList
  exact⟨o,a _ _ e,c⟩
 ·intro b Z
  rw[size_push];rcases mem_cons.mp Z with rfl|Z
  ·exact lt_succ_self _
  ·have:b=p:=by exists Z
   subst this;exact lt_succ_of_lt L
 ·intro l t' t
  rw[size_toArray,y,vB E _ (le_refl _),take_length];obtain⟨C,v,T,M,R⟩:=l;have x:v=s.gens:=t.gens;have P:T=s.drawn:=t.drawn;have z:R=s.os:=t.os;subst x P z;exact⟨.int E.sum,H,I.kept (t':=M) λb o K=>t.heap b o (λm=>by
   have:b=s.heap.objs.size:=by exists m
   subst this;exact absurd (lt_size K) (lt_irrefl _)) (a b o K),⟨_,rfl⟩,q⟩
def zEO(S:X.calm=true):jb X (.builtin "sum") (λY H Q=>∃(p:Lz) (E:Ls Int),Y=[.ref p]/\SqT X.K H p (E.map V.int)/\Q (.int E.sum) H):=by
 intro G s O H Y D Q I r h;obtain⟨p,E,rfl,W,q⟩:=h;obtain⟨u,rfl,w⟩:=ZT r;cases w;obtain⟨g,j,k,hz⟩:=I.tuple W;have y:g.length=E.length:=by rw[<- j.length,length_map]
 have L:p<s.heap.objs.size:=by obtain⟨o,e,_⟩:=k;exact lt_size e
 have a:∀b o,s.heap.get? b=some o->(s.heap.push {cls:=.type "tuple_iterator",data:=.fields #[.ref p,.int 0 0]}).get? b=some o:=λb o e=>qA _ e
 refine call_sum_walkAnyS (wpAny_pyIter_tuple (show s.heap.IsTuple p g.toArray from k) ?_);refine⟨s.heap.objs.size,[s.heap.objs.size,p],[s.heap.objs.size],_,g.toArray.size,_,_,λi=>E.getD i 0,rfl,
  (Walks.tuple (by show X.A.handled=none;exact I.ok.hd S) _ p (ne_of_lt L) g.toArray).toS,⟨⟨_,get?_push_size _ rfl,rfl,rfl⟩,?_⟩,?_,wQ j,?_⟩
 ·obtain⟨o,e,c⟩:=k
  exact⟨o,a _ _ e,c⟩
 ·intro b Z
  rw[size_push];rcases mem_cons.mp Z with rfl|Z
  ·exact lt_succ_self _
  ·have:b=p:=by exists Z
   subst this;exact lt_succ_of_lt L
 ·intro l t' t
  rw[size_toArray,y,vB E _ (le_refl _),take_length];obtain⟨z,v,T,M,R⟩:=l;have x:v=s.gens:=t.gens;have P:T=s.drawn:=t.drawn;have n:R=s.os:=t.os;subst x P n;exact⟨.int E.sum,H,I.kept (t':=M) λb o K=>t.heap b o (λm=>by
   have:b=s.heap.objs.size:=by exists m
   subst this;exact absurd (lt_size K) (lt_irrefl _)) (a b o K),⟨_,rfl⟩,q⟩
def zCu(a:Int)(t:Tok)(l:Lz)(g:Lg)(n:Nat)(o:Lx Lz)(D:Lj) :
  Meets (Builtin.«int.__rmul__» ⟨[.int a t,.ref l],[]⟩) (λ_ R s=>s.heap.get? l=some {cls:=.type "list",dict:=o,data:=.seq g n,slots:=D}/\R (.ok (.ret Value.notImplemented)) s) :=
 .of_wp λG w A R s h=>by
  obtain⟨hl,h⟩:=h
  wp_walk
  exact⟨_,rfl,h⟩
def zEP(l:Lz)(g:Lg)(n:Nat)(o:Lx Lz)(D:Lj)(k:Int)(u:Tok)(P:¬(!Builtin.List.listFitsIndex k)=true)(J:¬g.size*k.toNat > (2^63-1)/8)(Y:¬Builtin.List.listTooLong (g.size*k.toNat)=true) :
  Meets (Builtin.«list.__mul__» ⟨[.ref l,.int k u],[]⟩) (λ_ R s=>s.heap.get? l=some {cls:=.type "list",dict:=o,data:=.seq g n,slots:=D} /\
   R (.ok (.ret (Value.ref s.heap.objs.size))) {s with heap:=s.heap.push {cls:=Value.type "list",data:=Data.seq (foldl (λa b=>a++b) #[] (replicate (if g.isEmpty=true then 0 else k.toNat) g))},toks:=s.toks}) :=
 .of_wp λG w A R s h=>by
  obtain⟨hl,h⟩:=h;have fits:=AutoListH.joined_fits Y
  wp_walk
  refine wpAny_ite_false (decide_eq_false (not_lt.mpr fits)) ?_
  wp_walk
  exact⟨_,rfl,h⟩
def rRepL(K:qH):R2:=λx y H Q=>∃l k Y,x=.ref l/\y=.int k/\SqL K H l Y/\-(2^63)<=k/\k<2^63/\Y.length*k.toNat<=sizeLine /\
 ∀p,H p=none->Q (.ref p) (upd H p (.l (replicate k.toNat Y).flatten))
def op_repL:OpR X (binaryOp .Mult) (rRepL X.K):=by
 intro G s O H x y v u Q I w P h;obtain⟨l,k,Y,rfl,rfl,E,J,h2,hz,q⟩:=h;cases w;obtain⟨t,rfl⟩:=P;obtain⟨g,r,o,_⟩:=I.list E;have hl:=r.length;obtain⟨⟨p,dd,e,D⟩,n,ho,S,c,C⟩:=o;subst S C;have i:g.toArray.size*k.toNat<=sizeLine:=by rw[size_toArray,<- hl];exact hz
 have M:¬g.toArray.size*k.toNat > (2^63-1)/8:=by
  have:(sizeLine:Nat)<=(2^63-1)/8:=by decide
  lia
 have z:¬(!Builtin.List.listFitsIndex k)=true:=by rw[fitsIndex_both J h2];exact qF
 have K:¬Builtin.List.listTooLong (g.toArray.size*k.toNat)=true:=by rw[zF9 i];exact qF
 have W:foldl (λa b=>a++b) #[] (replicate (if g.toArray.isEmpty=true then 0 else k.toNat) g.toArray)=(replicate k.toNat g).flatten.toArray:=by
  have R:∀m:Nat,foldl (λa b=>a++b) #[] (replicate m g.toArray)=(replicate m g).flatten.toArray:=λm=>by
   have:=Wu g m [];exact this
  rw[R];cases g with
  |nil=>simp|cons a L=>rw[if_neg (by simp)]
 refine wpAny_binaryOp_repeat_ref (T:="list") (U:="int") (by decide) ⟨_,ho,rfl⟩ (λj=>typeIs_int j k t) noFill_list_mul F.fills_int_mul F.slot_int_rmul repeat_list F.slot_int_index.lookup
  (call_meets F.slot_int_rmul (typeIs_int s k t) F.entry_int_rmul (F.args_int_rmul_2 _ _) (zCu k t l g.toArray n dd D) ⟨ho,rfl,⟨_,ho,rfl⟩,?_⟩)
 refine call_meets F.slot_list_mul ⟨_,ho,rfl⟩ F.entry_list_mul (F.args_list_mul_2 _ _) (zEP l g.toArray n dd D k t z M K) ⟨ho,?_⟩;rw[W];exact⟨.ref _,_,I.lnew (t':=s.toks) (r.rep k.toNat) (by rw[zAt,mul_comm];exact hz),rfl,q _ I.fresh⟩
def isV:V->V->Lx Bool
 | .non,.non=>some true| .non,.bl _=>some false| .bl _,.non=>some false| .bl a,.bl b=>some (a==b)| .non,.int _=>some false| .int _,.non=>some false| .non,.str _=>some false| .str _,.non=>some false| .ref _,.non=>some false| .non,.ref _=>some false| .ref _,.bl _=>some false| .bl _,.ref _=>some false| .int _,.bl _=>some false| .bl _,.int _=>some false| .str _,.bl _=>some false| .bl _,.str _=>some false|_,_=>none
def same_of(h:isV x y=some b)(w:yo x u)(P:yo y v):isSame u v=pure b:=by
 cases x<;>cases y<;>simp[isV]at h<;>subst h<;>first
  | (cases w;cases P;rfl)
  | (rename_i a b;cases w;cases P;cases a<;>cases b<;>rfl)
  | (cases w;obtain⟨t,rfl⟩:=P;rfl)
  | (obtain⟨t,rfl⟩:=w;cases P;rfl)
def op_is:OpR X (compareOp .Is) (λx y H Q=>∃b,isV x y=some b/\Q (.bl b) H):=by
 intro G s O H x y v u Q I w P h;obtain⟨b,Z,q⟩:=h;show wpAny _ _ (isSame v u >>= λc=>pure (Value.bool c)) _ _ _;rw[same_of Z w P];exact qC ⟨.bl b,H,I,rfl,q⟩
end
def evens{α:Type}:Ls α->Ls α
 | []=>[]| [a]=>[a]|a::_::r=>a::evens r
def Q4{α:Type}(k:Bool)(xs:Ls α):Ls α:=if k then evens xs else xs.reverse
theorem zq.evens:∀{Y:Ls V} {D:Ls Lv},zq Y D->zq (evens Y) (L2.evens D)
 | [],_,h=>by cases h;exact .nil
 | [_],_,h=>by cases h with|cons a t=>cases t;exact .cons a .nil
 |_::_::_,_,h=>by cases h with|cons a t=>cases t with|cons _ r=>exact .cons a (zq.evens r)
def zq.rev(r:zq xs us):zq xs.reverse us.reverse:=by
 induction r with
 |nil=>exact .nil|cons a r u=>rw[reverse_cons,reverse_cons];exact u.append (.cons a .nil)
def zq.step(k:Bool)(r:zq xs us):zq (Q4 k xs) (Q4 k us):=by
 cases k
 ·dsimp[Q4,Bool.false_eq_true,if_false];exact r.rev
 ·dsimp[Q4,if_true];exact r.evens
end L2
namespace DV
open PySem PySem.W PyProof.Rows
variable{κ:Nat->Int}
def ev(κ:Nat->Int){α:Type}:KasT α->α
 | .ret a=>a| .ask i j k=>ev κ (k (decide (κ i<κ j)))
theorem ZY{α β:Type}(f:α->KasT β):∀t:KasT α,ev κ (t.bind f)=ev κ (f (ev κ t))
 | .ret a=>rfl| .ask i j k=>by dsimp[KasT.bind,ev];exact ZY f _
def Kp(κ:Nat->Int)(p:Lk)(t:Nat):Int:=κ (p.getD t 0)
def Y7(p:Lk)(t:Nat):p.getD t 0=(p[t]?).getD 0:=by simp
def zEQ(l:j<=p.size)(t:Nat):Kp κ (kas_rev p i j) t=if i<=t/\t<j then Kp κ p (i+j-1-t)else Kp κ p t:=by
 unfold Kp kas_rev;rw[Y7,getElem?_mirror_all l];split<;>rw[Y7]
def Kp_bub(V:k<p.size)(hd:d<=k)(t:Nat):Kp κ (bubble p k d) t=if t=k-d then Kp κ p k else if k-d<t/\t<=k then Kp κ p (t-1)else Kp κ p t:=by
 unfold Kp;rw[Y7,getElem?_bubble V d hd];by_cases J:t=k-d
 ·rw[if_pos J,if_pos J,Y7 p k]
 ·rw[if_neg J,if_neg J]
  by_cases h2:k-d<t/\t<=k
  ·rw[if_pos h2,if_pos h2,Y7 p (t-1)]
  ·rw[if_neg h2,if_neg h2,Y7 p t]
def Srt(κ:Nat->Int)(p:Lk)(m:Nat):Prop:=∀i,0<i->i<m->Kp κ p (i-1)<=Kp κ p i
def Dsc(κ:Nat->Int)(p:Lk)(m:Nat):Prop:=∀i,0<i->i<m->Kp κ p i<=Kp κ p (i-1)
theorem Srt.le(h:Srt κ p m):∀(d i:Nat),i+d<m->Kp κ p i<=Kp κ p (i+d)
 |0,i,_=>Int.le_refl _
 |d+1,i,R=>by
  have J:=Srt.le h d i (by lia);have h2:=h (i+(d+1)) (by lia) R;rw[show i+(d+1)-1=i+d by lia]at h2;lia
def Srt.le'(h:Srt κ p m)(Y:i<=j)(l:j<m):Kp κ p i<=Kp κ p j:=by
 have:=h.le (j-i) i (by lia)
 rwa [show i+(j-i)=j by lia]at this
def Srt.same(h:Srt κ p m)(e:∀t,Kp κ q t=Kp κ p t):Srt κ q m:=λi P R=>by rw[e,e];exact h i P R
def Dsc.same(h:Dsc κ p m)(e:∀t,Kp κ q t=Kp κ p t):Dsc κ q m:=λi P R=>by rw[e,e];exact h i P R
def JT(p:Lk)(i j:Nat):(kas_rev p i j).size=p.size:=mirror_size _ _ _ _
def Y8(p:Lk)(i j:Nat):(kas_rev p i j).Perm p:=mirror_perm _ _ _ _
theorem zER(p:Lk):∀(f n:Nat),n<=ev κ (kas_asc p f n)/\ev κ (kas_asc p f n)<=n+f/\(∀i,n<=i->i<ev κ (kas_asc p f n)->Kp κ p (i-1)<=Kp κ p i) /\
  (ev κ (kas_asc p f n)<n+f->Kp κ p (ev κ (kas_asc p f n))<Kp κ p (ev κ (kas_asc p f n)-1))
 |0,n=>⟨le_refl _,le_refl _,λi J h2=>by dsimp[kas_asc,ev]at h2;lia,λh=>by dsimp[kas_asc,ev]at h;lia⟩
 |f+1,n=>by
  dsimp[kas_asc,ev];by_cases S:κ (p.getD n 0)<κ (p.getD (n-1) 0)
  ·rw[decide_eq_true S]
   dsimp[if_true,ev];exact⟨le_refl _,by lia,λi J h2=>by lia,λ_=>S⟩
  ·rw[decide_eq_false S]
   dsimp[Bool.false_eq_true,if_false];obtain⟨J,h2,Q,h4⟩:=zER p f (n+1);refine⟨by lia,by lia,λi R Y=>?_,λh=>h4 (by lia)⟩;by_cases c:i=n
   ·subst c;exact Int.not_lt.mp S
   ·exact Q i (by lia) Y
def Gh(l:j<=p.size)(c:∀t,i<=t->t<j->Kp κ p t=Kp κ p (j-1))(t:Nat):Kp κ (kas_rev p i j) t=Kp κ p t:=by
 rw[zEQ l];split
 ·rename_i h
  rw[c t h.1 h.2,c (i+j-1-t) (by lia) (by lia)]
 ·rfl
theorem Gi:∀(f:Nat) (p:Lk) (n q:Nat),1<=n->n+f<=p.size->Dsc κ p n->q<n->(∀t,n-(q+1)<=t->t<n->Kp κ p t=Kp κ p (n-1)) ->
  ∃V m G,ev κ (kas_desc f p n q)=(V,m,G)/\V.size=p.size/\V.Perm p/\n<=m/\m<=n+f/\Dsc κ V m/\G<m/\(∀t,m-(G+1)<=t->t<m->Kp κ V t=Kp κ V (m-1))
 |0,p,n,q,J,T,C,W,c=>⟨p,n,q,rfl,rfl,Array.Perm.refl _,le_refl _,le_refl _,C,W,c⟩
 |f+1,p,n,q,J,T,C,W,c=>by
  dsimp[kas_desc,ev];by_cases S:κ (p.getD n 0)<κ (p.getD (n-1) 0)
  ·rw[decide_eq_true S]
   have Y:Kp κ p n<Kp κ p (n-1):=S;by_cases v:q > 0
   ·rw[if_pos v]
    have e:∀t,Kp κ (kas_rev p (n-(q+1)) n) t=Kp κ p t:=Gh (by lia) c;obtain⟨V,m,G,Z,g,u,H,z,h,o,l⟩:=Gi f (kas_rev p (n-(q+1)) n) (n+1) 0 (by lia) (by rw[JT];lia) (λi P R=>by
     rw[e,e];by_cases L:i=n
     ·subst L;lia
     ·exact C i P (by lia)) (by lia) (λt r a=>by
     have:t=n:=by lia
     subst this;rfl)
    exact⟨V,m,G,Z,by rw[g,JT],u.trans (Y8 _ _ _),by lia,by lia,h,o,l⟩
   ·rw[if_neg v]
    obtain⟨V,m,G,Z,g,u,H,z,h,o,l⟩:=Gi f p (n+1) 0 (by lia) (by lia) (λi P R=>by
     by_cases L:i=n
     ·subst L;lia
     ·exact C i P (by lia)) (by lia) (λt r a=>by
     have:t=n:=by lia
     subst this;rfl)
    exact⟨V,m,G,Z,g,u,by lia,by lia,h,o,l⟩
  ·rw[decide_eq_false S]
   dsimp[Bool.false_eq_true,if_false,ev];by_cases j:κ (p.getD (n-1) 0)<κ (p.getD n 0)
   ·rw[decide_eq_true j]
    exact⟨p,n,q,rfl,rfl,Array.Perm.refl _,le_refl _,by lia,C,W,c⟩
   ·rw[decide_eq_false j]
    have k:Kp κ p n=Kp κ p (n-1):=Int.le_antisymm (Int.not_lt.mp j) (Int.not_lt.mp S);obtain⟨V,m,G,Z,g,u,H,z,h,o,l⟩:=Gi f p (n+1) (q+1) (by lia) (by lia) (λi P R=>by
     by_cases L:i=n
     ·subst L;lia
     ·exact C i P (by lia)) (by lia) (λt r a=>by
     rw[show n+1-1=n by lia];by_cases w:t=n
     ·subst w;rfl
     ·rw[k];exact c t (by lia) (by lia))
    exact⟨V,m,G,Z,g,u,by lia,by lia,h,o,l⟩
def zBw(m a:Nat)(p:Lk)(Y:1<=m)(c:m<=a)(T:a<=p.size)(hd:Dsc κ p m) :
  ∃k V,ev κ (kas_tail3 m a p)=(k,V)/\V.size=p.size/\V.Perm p/\1<=k/\k<=a/\Srt κ V k:=by
 unfold kas_tail3;rw[ZY];obtain⟨Z,g,u,H⟩:=zER (κ:=κ) (kas_rev p 0 m) (a-m) m;refine⟨_,_,rfl,JT _ _ _,Y8 _ _ _,by lia,by lia,λi P R=>?_⟩;by_cases h:i<m
 ·rw[zEQ (by lia),zEQ (by lia),if_pos (by lia),if_pos (by lia)]
  have:=hd (0+m-1-(i-1)) (by lia) (by lia);rw[show 0+m-1-(i-1)-1=0+m-1-i by lia]at this;exact this
 ·exact u i (by lia) R
def vC(n a:Nat)(p:Lk)(hn:1<=n)(i:n+1<=a)(T:a<=p.size)(hd:Dsc κ p (n+1)) :
  ∃k V,ev κ (kas_descPart n a p)=(k,V)/\V.size=p.size/\V.Perm p/\1<=k/\k<=a/\Srt κ V k:=by
 unfold kas_descPart;rw[ZY];obtain⟨V,m,G,Z,g,u,H,z,h,o,l⟩:=Gi (κ:=κ) (a-(n+1)) p (n+1) 0 (by lia) (by lia) hd (by lia) (λt J h2=>by
  have:t=n:=by lia
  subst this;rfl)
 rw[Z];by_cases W:G > 0
 ·rw[if_pos W]
  have e:∀t,Kp κ (kas_rev V (m-(G+1)) m) t=Kp κ V t:=Gh (by lia) l;obtain⟨k,j,r,E,C,c,I,D⟩:=zBw (κ:=κ) m a (kas_rev V (m-(G+1)) m) (by lia) (by lia) (by rw[JT];lia) (h.same e);exact⟨k,j,r,by rw[E,JT,g],C.trans ((Y8 _ _ _).trans u),c,I,D⟩
 ·rw[if_neg W]
  obtain⟨k,j,r,E,C,c,I,D⟩:=zBw (κ:=κ) m a V (by lia) (by lia) (by lia) h;exact⟨k,j,r,by rw[E,g],C.trans u,c,I,D⟩
def zBx(a:Nat)(p:Lk)(J:1<=a)(T:a<=p.size) :
  ∃k V,ev κ (kas_count a p)=(k,V)/\V.size=p.size/\V.Perm p/\1<=k/\k<=a/\Srt κ V k:=by
 unfold kas_count;rw[ZY];obtain⟨Z,g,u,H⟩:=zER (κ:=κ) p (a-1) 1;generalize ev κ (kas_asc p (a-1) 1)=n at Z g u H;have X:Srt κ p n:=λi P R=>u i (by lia) R
 by_cases K:n=a
 ·rw[if_pos (by simp[K])]
  exact⟨n,p,rfl,rfl,Array.Perm.refl _,Z,by lia,X⟩
 ·rw[if_neg (by simp[K])]
  by_cases l:n > 1
  ·rw[if_pos l]
   dsimp[ev];by_cases S:κ (p.getD 0 0)<κ (p.getD (n-1) 0)
   ·rw[decide_eq_true S]
    exact⟨n,p,rfl,rfl,Array.Perm.refl _,Z,by lia,X⟩
   ·rw[decide_eq_false S]
    have G:Kp κ p (n-1)<=Kp κ p 0:=Int.not_lt.mp S;have h:∀t,0<=t->t<n->Kp κ p t=Kp κ p (n-1):=λt _ ht=>by
     have:=X.le' (i:=0) (j:=t) (by lia) ht;have:=X.le' (i:=t) (j:=n-1) (by lia) (by lia);lia
    have e:∀t,Kp κ (kas_rev p 0 n) t=Kp κ p t:=Gh (by lia) h;obtain⟨k,q,r,E,C,c,I,D⟩:=vC (κ:=κ) n a (kas_rev p 0 n) (by lia) (by lia) (by rw[JT];lia) (λi P R=>by
     rw[e,e];by_cases L:i=n
     ·subst L;lia
     ·rw[h i (by lia) (by lia),h (i-1) (by lia) (by lia)];exact Int.le_refl _)
    exact⟨k,q,r,by rw[E,JT],C.trans (Y8 _ _ _),c,I,D⟩
  ·rw[if_neg l]
   have o:n=1:=by lia
   subst o;obtain⟨k,q,r,E,C,c,I,D⟩:=vC (κ:=κ) 1 a p (by lia) (by lia) (by lia) (λi P R=>by
    have:i=1:=by lia
    subst this;lia)
   exact⟨k,q,r,E,C,c,I,D⟩
theorem Gj(p:Lk)(k:Nat)(X:Srt κ p k):∀(f l r:Nat),r-l<=f->l<=r->r<=k->(∀i,i<l->Kp κ p i<=Kp κ p k)->(∀i,r<=i->i<k->Kp κ p k<Kp κ p i) ->
  ev κ (kas_place p k f l r)<=k/\(∀i,i<ev κ (kas_place p k f l r)->Kp κ p i<=Kp κ p k)/\(∀i,ev κ (kas_place p k f l r)<=i->i<k->Kp κ p k<Kp κ p i)
 |0,l,r,hf,a,z,J,h2=>by
  dsimp[kas_place,ev];exact⟨by lia,J,λi R V=>h2 i (by lia) V⟩
 |f+1,l,r,hf,a,z,J,h2=>by
  unfold kas_place;by_cases h:l ≥ r
  ·rw[if_pos h]
   dsimp[ev];exact⟨by lia,J,λi R V=>h2 i (by lia) V⟩
  ·rw[if_neg h]
   dsimp[ev];by_cases S:κ (p.getD k 0)<κ (p.getD ((l+r)/2) 0)
   ·rw[decide_eq_true S]
    refine Gj p k X f l ((l+r)/2) (by lia) (by lia) (by lia) J λi R V=>?_
    have:=X.le' (i:=(l+r)/2) (j:=i) R V;have Y:Kp κ p k<Kp κ p ((l+r)/2):=S;lia
   ·rw[decide_eq_false S]
    refine Gj p k X f ((l+r)/2+1) r (by lia) (by lia) z (λi R=>?_) h2;have:=X.le' (i:=i) (j:=(l+r)/2) (by lia) (by lia);have Y:Kp κ p ((l+r)/2)<=Kp κ p k:=Int.not_lt.mp S;lia
theorem zH5:∀(f:Nat) (p:Lk) (k:Nat),1<=k->k+f<=p.size->Srt κ p k->(ev κ (kas_bin f p k)).size=p.size/\(ev κ (kas_bin f p k)).Perm p/\Srt κ (ev κ (kas_bin f p k)) (k+f)
 |0,p,k,J,T,X=>⟨rfl,Array.Perm.refl _,X⟩
 |f+1,p,k,J,T,X=>by
  dsimp[kas_bin];rw[ZY];obtain⟨Z,g,u⟩:=Gj (κ:=κ) p k X k 0 k (by lia) (by lia) (by lia) (λi R=>by lia) (λi R V=>by lia);generalize ev κ (kas_place p k k 0 k)=l at Z g u;have D:=λt=>Kp_bub (κ:=κ) (p:=p) (k:=k) (d:=k-l) (by lia) (by lia) t
  have h:k-(k-l)=l:=by lia
  rw[h]at D;obtain⟨r,E,C⟩:=zH5 f (bubble p k (k-l)) (k+1) (by lia) (by rw[bubble_size];lia) (λi P R=>by
   rw[D,D];by_cases M:i=l
   ·rw[if_neg (by lia),if_neg (by lia),if_pos M]
    exact g (i-1) (by lia)
   ·rw[if_neg M]
    by_cases j:i-1=l
    ·rw[if_pos j,if_pos (by lia)]
     rw[j];exact Int.le_of_lt (u l (le_refl _) (by lia))
    ·rw[if_neg j]
     by_cases K:l<i/\i<=k
     ·rw[if_pos K,if_pos (by lia)]
      exact X (i-1) (by lia) (by lia)
     ·rw[if_neg K,if_neg (by lia)]
      exact X i P (by lia))
  refine⟨by rw[r,bubble_size],E.trans (bubble_perm _ _ _),?_⟩;rw[show k+(f+1)=k+1+f by lia];exact C
def ev_sort(n:Nat)(hn:1<=n):(ev κ (kas_sort n)).size=n/\(ev κ (kas_sort n)).Perm (toArray (List.range n))/\Srt κ (ev κ (kas_sort n)) n:=by
 unfold kas_sort;rw[ZY];have T:(toArray (List.range n)).size=n:=by simp
 obtain⟨k,p,Z,g,u,H,z,h⟩:=zBx (κ:=κ) n (toArray (List.range n)) hn (by lia);rw[Z];by_cases V:k<n
 ·rw[if_pos V]
  have Y:max k 1=k:=by lia
  rw[Y];obtain⟨r,E,C⟩:=zH5 (κ:=κ) (n-k) p k H (by rw[g,T];lia) h;exact⟨by rw[r,g,T],E.trans u,by rw[show k+(n-k)=n by lia]at C;exact C⟩
 ·rw[if_neg V]
  have:k=n:=by lia
  subst this;exact⟨by show p.size=_;rw[g,T],u,h⟩
def zAq(n:Nat)(κ:Nat->Int){α:Type}:KasT α->Prop
 | .ret _=>True| .ask i j k=>i<n/\j<n/\zAq n κ (k (decide (κ i<κ j)))
theorem JA{α β:Type}(f:α->KasT β):∀t:KasT α,zAq n κ t->zAq n κ (f (ev κ t))->zAq n κ (t.bind f)
 | .ret a,_,h=>h
 | .ask i j k,J,h2=>by
  exact⟨J.1,J.2.1,JA f _ J.2.2 h2⟩
theorem zH6{α:Type}{c:Nat->Nat->(Ln)->La->Prop}{Q:α->La->Prop}(S:∀i j C,i<n->j<n->C (decide (κ i<κ j)) s->c i j C s):∀t:KasT α,zAq n κ t->Q (ev κ t) s->t.kasWp c Q s
 | .ret a,_,h=>h| .ask i j k,o,h=>S i j _ o.1 o.2.1 (zH6 S (k (decide (κ i<κ j))) o.2.2 h)
def Bd(n:Nat)(p:Lk):Prop:=0<n/\∀x∈p,x<n
def Bd.at(h:Bd n p)(t:Nat):p.getD t 0<n:=by
 rw[Y7];cases e:p[t]? with
 |none=>exact h.1|some x=>exact h.2 x (Array.mem_of_getElem? e)
def Bd.perm(h:Bd n p)(e:q.Perm p):Bd n q:=⟨h.1,λx M=>h.2 x (e.mem_iff.mp M)⟩
def Bd.rev(h:Bd n p)(i j:Nat):Bd n (kas_rev p i j):=h.perm (Y8 _ _ _)
theorem zES(h:Bd n p):∀(f m:Nat),zAq n κ (kas_asc p f m)
 |0,m=>trivial
 |f+1,m=>by
  dsimp[kas_asc,zAq];refine⟨h.at _,h.at _,?_⟩;split
  ·trivial
  ·exact zES h f (m+1)
theorem Gm:∀(f:Nat) (p:Lk) (m q:Nat),Bd n p->zAq n κ (kas_desc f p m q)/\Bd n (ev κ (kas_desc f p m q)).1
 |0,p,m,q,h=>⟨trivial,h⟩
 |f+1,p,m,q,h=>by
  dsimp[kas_desc,zAq,ev];by_cases S:κ (p.getD m 0)<κ (p.getD (m-1) 0)
  ·rw[decide_eq_true S]
   by_cases W:q > 0
   ·rw[if_pos W]
    have:=Gm f (kas_rev p (m-(q+1)) m) (m+1) 0 (h.rev _ _);exact⟨⟨h.at _,h.at _,this.1⟩,this.2⟩
   ·rw[if_neg W]
    have:=Gm f p (m+1) 0 h;exact⟨⟨h.at _,h.at _,this.1⟩,this.2⟩
  ·rw[decide_eq_false S]
   dsimp[Bool.false_eq_true,if_false,zAq,ev];by_cases j:κ (p.getD (m-1) 0)<κ (p.getD m 0)
   ·rw[decide_eq_true j]
    exact⟨⟨h.at _,h.at _,h.at _,h.at _,trivial⟩,h⟩
   ·rw[decide_eq_false j]
    have:=Gm f p (m+1) (q+1) h;exact⟨⟨h.at _,h.at _,h.at _,h.at _,this.1⟩,this.2⟩
def zBy(h:Bd n p)(m a:Nat):zAq n κ (kas_tail3 m a p):=by
 unfold kas_tail3;exact JA _ _ (zES (h.rev _ _) _ _) trivial
def vD(h:Bd n p)(m a:Nat):zAq n κ (kas_descPart m a p):=by
 unfold kas_descPart;have d:=Gm (κ:=κ) (a-(m+1)) p (m+1) 0 h;refine JA _ _ d.1 ?_;split
 ·exact zBy (d.2.rev _ _) _ _
 ·exact zBy d.2 _ _
def zGh(h:Bd n p)(a:Nat):zAq n κ (kas_count a p):=by
 unfold kas_count;refine JA _ _ (zES h _ _) ?_;split
 ·trivial
 ·split
  ·refine⟨h.at _,h.at _,?_⟩
   dsimp;split
   ·trivial
   ·exact vD (h.rev _ _) _ _
  ·exact vD h _ _
theorem Gn(h:Bd n p)(k:Nat):∀(f l r:Nat),zAq n κ (kas_place p k f l r)
 |0,l,r=>trivial
 |f+1,l,r=>by
  unfold kas_place;split
  ·trivial
  ·refine⟨h.at _,h.at _,?_⟩
   dsimp;split
   ·exact Gn h k f _ _
   ·exact Gn h k f _ _
theorem zH7:∀(f:Nat) (p:Lk) (k:Nat),Bd n p->zAq n κ (kas_bin f p k)
 |0,p,k,h=>trivial
 |f+1,p,k,h=>by
  exact JA _ _ (Gn h k _ _ _) (zH7 f _ _ (h.perm (bubble_perm _ _ _)))
def ok_sort(n:Nat)(hn:1<=n):zAq n κ (kas_sort n):=by
 have Z:Bd n (toArray (List.range n)):=⟨hn,λx M=>by exists M⟩;refine JA _ _ (zGh Z n) ?_;split
 ·obtain⟨k,p,a,g,u,H,z,h⟩:=zBx (κ:=κ) n (toArray (List.range n)) hn (by simp)
  rw[a];exact zH7 _ _ _ (Z.perm u)
 ·trivial
def Q5(h:Srt κ p p.size):p.toList.Pairwise (λi j=>κ i<=κ j):=by
 rw[pairwise_iff_getElem];intro i j R l Y;have K:i<p.size:=by exists R
 have o:j<p.size:=by exists l
 have:=h.le' (i:=i) (j:=j) (by lia) o;unfold Kp at this;rw[Y7,Y7,Array.getElem?_eq_getElem K,Array.getElem?_eq_getElem o]at this;exists this
end DV
namespace L2
open PySem PySem.Spec PyProof.Rows PySem.W
section
variable{prog:Lc}{w:Le}{A:Li}{E:Ly}{s:La}{κ:Nat->Int}
def vE(κ:Nat->Int)(n:Nat)(p:Ls Nat):Prop:=p.Perm (List.range n)/\p.Pairwise (λi j=>κ i<=κ j)
def zA5{P:PySem.Fin->La->Prop}{kd:SortKind}(q:s.heap.get? a=some (seqObj "list" vs.toArray n))(z:vs.length<64)
  (hk:∀(y:Heap),(∀b o,b≠a->s.heap.get? b=some o->y.get? b=some o)->2<=vs.length->wpAny (model prog w) A (keyKind' vs.toArray) (λk Y=>Y={s with heap:=y}/\k=kd) (λ_ _=>False) {s with heap:=y})
  (S:∀(y:Heap),(∀b o,b≠a->s.heap.get? b=some o->y.get? b=some o)->∀i j C,i<vs.length->j<vs.length->C (decide (κ i<κ j)) {s with heap:=y}->kas_ask prog w A kd vs i j C {s with heap:=y})
  (h:∀p:Ls Nat,vE κ vs.length p->P (.done (.ret .none)) {s with heap:=sortedHeap s.heap a vs (p.map λi=>vs.getD i Value.none).toArray}) :
  wpAny (model prog w) A (Builtin.«list.sort» ⟨[.ref a],[]⟩) P E s:=by
 have X:a<s.heap.objs.size:=lt_size q;obtain⟨W,r⟩:∃W,(s.heap.update a (Obj.mapSeq λ_=>(#[]:Lg))).get? a=some (seqObj "list" #[] W):=⟨_,get?_update_seq q λ_=>#[]⟩;have J:(((s.heap.update a (Obj.mapSeq λ_=>(#[]:Lg))).push (seqObj "tuple" vs.toArray 0)).push (seqObj "list" #[] 0)).get? a=some (seqObj "list" #[] W):=qA _ (qA _ r);have I:∀b o,b≠a->s.heap.get? b=some o->(((s.heap.update a (Obj.mapSeq λ_=>(#[]:Lg))).push (seqObj "tuple" vs.toArray 0)).push (seqObj "list" #[] 0)).get? b=some o:=λb o Z e =>
  qA _ (qA _ (by rw[Heap.get?_update_ne _ _ _ _ Z];exact e))
 rw[list_sort_plain];refine qB (listItems_at q rfl ?_);refine qB (listUpdate_at q rfl ?_ (by rw[size_toArray,sizeLine_eq];lia) (zero_le _));refine qB (seqEpoch_at r rfl (qB (wpAny_newTuple ?_ (by show vs.length<=_;rw[sizeLine_eq];lia))));refine qB (wpAny_newList (wpAny_holding ?_) (zero_le _));show wpAny (model prog w) A _ P E {s with heap:=(((s.heap.update a (Obj.mapSeq λ_=>(#[]:Lg))).push (seqObj "tuple" vs.toArray 0)).push (seqObj "list" #[] 0))}
 dsimp;have l:∀(V:SortSt) (p:Ls Nat),vE κ vs.length p->(arrOf V).map (·.2)=(p.map λi=>vs.getD i Value.none).toArray->failedOf V=none ->
   wpAny (model prog w) A (do
    let K:=(<- seqEpoch a) != W
    Builtin.List.listUpdate (.ref a) λ_=>(arrOf V).map (·.2)
    if let some e:=failedOf V then rule "list.sort.comparison-raised";throw e
    if K then rule "list.sort.modified";raiseError "ValueError" "list modified during sort"
    ret .none) P E {s with heap:=(((s.heap.update a (Obj.mapSeq λ_=>(#[]:Lg))).push (seqObj "tuple" vs.toArray 0)).push (seqObj "list" #[] 0))}:=by
  intro V p L ha hf;have G:(p.map λi=>vs.getD i Value.none).toArray.size<=sizeLine+1:=by
   rw[size_toArray,length_map,L.1.length_eq,length_range,sizeLine_eq];lia
  rw[ha,hf];refine qB (seqEpoch_at J rfl (qB (listUpdate_at J rfl ?_ (zero_le _) G)));dsimp[bne_self_eq_false,Bool.false_eq_true,if_false];exact qC (h p L)
 by_cases h2:vs.length<2
 ·have c:vs.toArray.size<2:=by rw[size_toArray];exact h2
  rw[if_pos c,if_pos c];refine qB (qC ?_);rw[StateT.run_pure];refine qB (qC ?_);dsimp;refine l (SortSt.mk' general' (vs.toArray.zip vs.toArray) #[] 7 none) (List.range vs.length) ⟨List.Perm.refl _,?_⟩ ?_ rfl
  ·match vs,h2 with
   | [],_=>exact .nil| [v],_=>exact List.pairwise_singleton _ _
  ·show((vs.toArray.zip vs.toArray).map (·.2))=_
   match vs,h2 with
   | [],_=>simp| [v],_=>simp[range_succ]
 ·have c:¬vs.toArray.size<2:=by rw[size_toArray];exact h2
  rw[if_neg c,if_neg c];refine qB (wpAny_mono (hk _ I (by lia)) (λk Y ⟨es,M⟩=>?_) λ_ _ x=>x.elim);subst es M;obtain⟨r1,r2,t⟩:=DV.ev_sort (κ:=κ) vs.length (by lia);have O:=DV.zH6 (Q:=λp Y=>Y={s with heap:=(((s.heap.update a (Obj.mapSeq λ_=>(#[]:Lg))).push (seqObj "tuple" vs.toArray 0)).push (seqObj "list" #[] 0))}/\p=DV.ev κ (kas_sort vs.length)) (S _ I) (kas_sort vs.length) (DV.ok_sort vs.length (by lia)) ⟨rfl,rfl⟩
  refine qB (wpAny_mono (kat_run (Q:=λT Y=>∃p:Lk,arrOf T=p.map (kas_item (vs.toArray.zip vs.toArray))/\failedOf T=none/\Y={s with heap:=(((s.heap.update a (Obj.mapSeq λ_=>(#[]:Lg))).push (seqObj "tuple" vs.toArray 0)).push (seqObj "list" #[] 0))}/\p=DV.ev κ (kas_sort vs.length))
   rfl (by lia) z (λp T Y _ g u H=>⟨p,g,u,H⟩) O) ?_ λ_ _ e=>e)
  rintro ⟨⟨⟩,T⟩ Y ⟨p,R,hf,es,D⟩
  subst es;dsimp;refine l T p.toList ⟨?_,?_⟩ (kat_snds rfl R) hf
  ·rw[D]
   have:=r2.toList;exists this
  ·rw[D]
   exact DV.Q5 (by rw[r1];exact t)
def Go{Q:Ly}{kd:SortKind}(c:s.heap.IsList l vs.toArray)(z:vs.length<64)
  (V:∀(y:Heap),(∀b o,s.heap.get? b=some o->y.get? b=some o)->2<=vs.length->wpAny (model prog w) A.in1.in1 (keyKind' vs.toArray) (λk g=>g={s with heap:=y}/\k=kd) (λ_ _=>False) {s with heap:=y})
  (S:∀(y:Heap),(∀b o,s.heap.get? b=some o->y.get? b=some o)->∀i j C,i<vs.length->j<vs.length->C (decide (κ i<κ j)) {s with heap:=y}->kas_ask prog w A.in1.in1 kd vs i j C {s with heap:=y})
  (h:∀p:Ls Nat,vE κ vs.length p->Q (.ref (s.heap.objs.size+1)) {s with heap:=sortedAll s.heap vs (p.map λi=>vs.getD i Value.none).toArray}) :
  wpAny (model prog w) A (call (.builtin "sorted") [.ref l]) Q E s:=by
 refine Calls.call_function_entry kind_sorted plain_sorted entry_sorted (args_sorted1 _) ?_;unfold Builtin.«sorted»;refine qB (m:=checkCount "sorted" 1 1 _) (qC (qB (collect_list c ?_ (by rw[sizeLine_eq];lia))));refine qB (wpAny_newList ?_ (by rw[sizeLine_eq];lia));have v:((s.heap.push (seqObj "list" #[] 0)).update s.heap.objs.size (Obj.mapSeq (·++vs.toArray))).objs.size=s.heap.objs.size+1:=by rw[Heap.size_update,size_push']
 generalize P:(s.heap.push (seqObj "list" #[] 0)).update s.heap.objs.size (Obj.mapSeq (·++vs.toArray))=g1 at v ⊢;have e:∀b o,s.heap.get? b=some o->g1.get? b=some o:=λb o q=>by
  have I:b<s.heap.objs.size:=lt_size q;rw[<- P,Heap.get?_update_ne _ _ _ _ (ne_of_lt I)];exact qA _ q
 have O:(g1.push (seqObj "list" vs.toArray 0)).get? (s.heap.objs.size+1)=some (seqObj "list" vs.toArray 0):=by rw[<- v];exact get?_push_size _ rfl
 show wpAny _ _ _ _ _ {s with heap:=g1.push (seqObj "list" vs.toArray 0)}
 rw[v];have a:∀y:Heap,(∀b o,b≠s.heap.objs.size+1->(g1.push (seqObj "list" vs.toArray 0)).get? b=some o->y.get? b=some o)->∀b o,s.heap.get? b=some o->y.get? b=some o:=λy M b o q =>
  M b o (ne_of_lt (lt_succ_of_lt (lt_size q))) (qA _ (e b o q))
 refine qB (wpAny_holding (wpAny_call_entry slot_list_sort ⟨_,O,rfl⟩ entry_list_sort (zA5 (s:={s with heap:=g1.push (seqObj "list" vs.toArray 0)}) (κ:=κ) (kd:=kd) O z (λy M=>V y (a y M)) (λy M=>S y (a y M)) λp L=>⟨_,rfl,?_⟩) (args_list_sort _)))
 refine qC ⟨_,rfl,?_⟩;have:=h p L;unfold sortedAll at this;rw[P]at this;exact this
end
end L2
namespace DV
open PySem L2 PyProof.Rows PySem.W
def tlt:Ls D->Ls D->Lx Bool
 | [],[]=>some false| [],_::_=>some true|_::_,[]=>some false
 |p::G,q::a=>if deq p q=true then tlt G a else match p,q with
  | .int i,.int j=>some (decide (i<j))|_,_=>none
def zET:D->Ls D
 | .t E=>E|_=>[]
def zEU(ds:Ls D)(i j:Nat):Lx Bool:=tlt (zET (ds.getD i .non)) (zET (ds.getD j .non))
def rkD(ds:Ls D)(i:Nat):Int:=(((List.range ds.length).filter λk=>zEU ds k i==some true).length:Nat)
structure SortOk(ds:List D):Prop where
 few:ds.length<64
 tups:∀d∈ds,∃es,d=.t es/\(∀e∈es,eqb 18 e=true)/\(2<=ds.length->∃i r,es=.int i::r)
 lt:∀i j,i<ds.length->j<ds.length->zEU ds i j=some (decide (rkD ds i<rkD ds j))
 one:∀i j,i<ds.length->j<ds.length->rkD ds i=rkD ds j->ds.getD i .non=ds.getD j .non
def Gp(ds:Ls D):Ls D:=((List.range ds.length).mergeSort λi j=>decide (rkD ds i<=rkD ds j)).map λi=>ds.getD i .non
def Gq(ok:SortOk ds)(L:vE (rkD ds) ds.length p):p.map (λi=>ds.getD i .non)=Gp ds:=by
 unfold Gp;have m1:((List.range ds.length).mergeSort λi j=>decide (rkD ds i<=rkD ds j)).Perm (List.range ds.length):=List.mergeSort_perm _ _;have z:=List.pairwise_mergeSort (le:=λi j=>decide (rkD ds i<=rkD ds j)) (λa b c J h2=>by simp at J h2 ⊢;lia) (λa b=>by simp;lia) (List.range ds.length);generalize (List.range ds.length).mergeSort (λi j=>decide (rkD ds i<=rkD ds j))=q at m1 z;have e:(p.map λi=>(rkD ds i,ds.getD i .non))=q.map λi=>(rkD ds i,ds.getD i .non):=by
  refine List.Perm.eq_of_pairwise (le:=λa b=>a.1<=b.1) ?_ ?_ ?_ ((L.1.trans m1.symm).map _)
  ·intro a b C Z J h2
   obtain⟨i,R,rfl⟩:=mem_map.mp C;obtain⟨j,l,rfl⟩:=mem_map.mp Z;have K:i<ds.length:=by exists L.1.mem_iff.mp R
   have o:j<ds.length:=by exists m1.mem_iff.mp l
   have g:rkD ds i=rkD ds j:=Int.le_antisymm J h2;rw[g,ok.one i j K o g]
  ·exact List.pairwise_map.mpr L.2
  ·exact List.pairwise_map.mpr (z.imp λh=>by exists h)
 have:=congrArg (List.map Prod.snd) e;rw[map_map,map_map]at this;exact this
section
variable{X:Cx}{pins:Ls (Lz×Obj)}{O:L2.St}{H:Hp}{s:La}{prog:Lc}{w:Le}{A:Li}
theorem zEV(I:Inv X pins O H s){Q:Ln}(S:A.units+18<cLine):∀(G E:Ls D) (Y T:Ls V) (K L:Ls Lv) (i:Nat) (b:Bool),(∀e∈G,eqb 18 e=true)->(∀e∈E,eqb 18 e=true) ->
  Reps X.K X.mg H G Y->Reps X.K X.mg H E T->zq Y K->zq T L->fin=decide (K.length<L.length)->tlt G E=some b->Q b s->KatLex prog w A bb fin Q (K.zip L) i s
 | [],[],Y,T,K,L,i,b,_,_,l,o,k,p,hf,ht,W=>by
  dsimp[Reps]at l o;subst l o;cases k;cases p;cases ht;subst hf;exact W
 | [],e::E,Y,T,K,L,i,b,_,_,l,o,k,p,hf,ht,W=>by
  dsimp[Reps]at l o;subst l;obtain⟨y,r,rfl,_,_⟩:=o;cases k;cases p with
  |cons a c =>
   cases ht;subst hf;exact W
 |d::G,[],Y,T,K,L,i,b,_,_,l,o,k,p,hf,ht,W=>by
  dsimp[Reps]at l o;subst o;obtain⟨y,r,rfl,_,_⟩:=l;cases p;cases k with
  |cons a c =>
   cases ht;subst hf;exact W
 |d::G,e::E,Y,T,K,L,i,b,J,h2,l,o,k,p,hf,ht,W=>by
  dsimp[Reps]at l o;obtain⟨x,R,rfl,rx,q⟩:=l;obtain⟨y,t,rfl,P,h⟩:=o;cases k with
  |cons Z M =>
   cases p with
   |cons g j =>
    rw[zip_cons_cons];refine kat_cons ?_;refine eqAtD I 18 A d e x y _ _ (J d qE) (h2 e qE) rx P Z g S prog w _ _ ?_;dsimp[tlt]at ht;cases C:deq d e with
    |true =>
     rw[C,if_pos rfl]at ht;exact kat_yes (zEV I S G E _ _ _ _ (i+1) b (λz hz=>J z (qD _ hz)) (λz hz=>h2 z (qD _ hz)) q h M j (by rw[hf];simp) ht W)
    |false =>
     rw[C,if_neg (by simp)]at ht;refine kat_no ?_;cases d with
     |int m =>
      cases e with
      |int n =>
       cases ht;rw[zI rx]at Z;rw[zI P]at g;obtain⟨v,rfl⟩:=Z;obtain⟨u,rfl⟩:=g;cases bb&&i==0 with
       |true=>exact oneLt_int W|false=>exact kat_one _ _ (lt_int W)
      |_=>cases ht
     |_=>cases ht
def Q6(hu:X.A.units+40<cLine):jb X (.builtin "sorted") (λY H Q=>∃(l:Lz) (T:Ls V) (ds:Ls D),Y=[.ref l]/\SqL X.K H l T/\Reps X.K X.mg H ds T/\SortOk ds/\∀p:Ls Nat,vE (rkD ds) ds.length p->∀q,H q=none->Q (.ref q) (upd H q (.l (p.map λi=>T.getD i .non)))):=by
 intro ah s O H Y us Q I r h;obtain⟨l,T,ds,rfl,hq,rd,ok,q⟩:=h;obtain⟨u,rfl,rx⟩:=ZT r;cases rx;obtain⟨L,rv,pl,hz⟩:=I.list hq;have l1:=rd.length;have l2:=rv.length
 -- the items: where they stand,what they hold
 have ac:∀(y:Heap),(∀b o,s.heap.get? b=some o->y.get? b=some o)->∀i,i<L.length->∃a o n Y us E,L.getD i Value.none=.ref a/\y.get? a=some o/\o.cls=.type "tuple"/\o.data=.seq us n/\ds.getD i .non=.t E/\(∀e∈E,eqb 18 e=true)/\Reps X.K X.mg H E Y/\zq Y us.toList/\(2<=ds.length->∃k r,E=.int k::r):=by
  intro y M i R;obtain⟨hd,x,rep,ai⟩:=Gg rd rv R;have em:ds.getD i .non∈ds:=by rw[getD_eq_getElem?_getD,getElem?_eq_getElem hd];exact getElem_mem hd
  obtain⟨E,W,P,e3⟩:=ok.tups _ em;rw[W]at rep;obtain⟨a,zs,rfl,q1,q2⟩:=zh rep;obtain⟨ao,rz,⟨o,g1,Z,n,S⟩,_⟩:=I.tuple q1;refine⟨a,o,n,zs,ao.toArray,E,?_,M _ _ g1,Z,S,W,P,q2,by simpa using rz,e3⟩;rw[getD_eq_getElem?_getD,getElem?_eq_getElem R];exact ai
 refine Go (κ:=rkD ds) (kd:=tuples' (Value.type "int" != Value.type "tuple")) pl.isList (by have:=ok.few;lia) (λy M h2=>?_) (λy M i j C R hj hC=>?_) λp hp=>?_
 ·-- the kind of the keys
  have af:∀(ws:Ls Lv),(∀v∈ws,∃(a:Lz) (o:Obj) (us:Lg) (n:Nat) (k:Int) (t:Tok),v=.ref a/\y.get? a=some o/\o.cls=.type "tuple"/\o.data=.seq us n/\us[0]?=some (.int k t))->∃fs:Ls Lv,KatTups y ws fs/\fs.length=ws.length/\∀v∈fs,∃k t,v=.int k t:=by
   intro ws
   induction ws with
   |nil=>exact λ_=>⟨[],trivial,rfl,λv h=>by cases h⟩
   |cons v ws ih =>
    intro hh;obtain⟨fs,f1,f2,f3⟩:=ih λz hz=>hh z (qD _ hz)
    obtain⟨a,o,us,n,k,t,rfl,g1,Z,S,g4⟩:=hh v qE;refine⟨.int k t::fs,KatTups.cons g1 Z S g4 f1,by simp[f2],λz hz=>?_⟩;rcases mem_cons.mp hz with hz|hz
    ·exact⟨k,t,hz⟩
    ·exact f3 z hz
  obtain⟨fs,f1,f2,f3⟩:=af L λv hv=>by
   obtain⟨i,R,rfl⟩:=getElem_of_mem hv;obtain⟨a,o,n,zs,us,aa,J,g1,Z,S,_,_,g4,w,c⟩:=ac y M i R;obtain⟨k,E,rfl⟩:=c (by lia);rw[getD_eq_getElem?_getD,getElem?_eq_getElem R]at J;dsimp[Reps]at g4;obtain⟨z,zr,rfl,z1,_⟩:=g4;rw[zI z1]at w;cases G:us.toList with
   |nil=>rw[G]at w;cases w
   |cons v0 vr =>
    rw[G]at w;cases w with
    |cons a1 _ =>
     obtain⟨t,rfl⟩:=a1;refine⟨a,o,us,n,k,t,J,g1,Z,S,?_⟩;rw[<- Array.getElem?_toList,G];rfl
  exact kat_kind (s:={s with heap:=y}) f1 (by lia) (λv hv=>by obtain⟨k,t,rfl⟩:=f3 v hv;exact Looks.of_pure rfl) rfl ⟨rfl,rfl⟩
 ·have I6:Inv X ah O H {s with heap:=y}:=I.kept (t':=s.toks) M
  obtain⟨a,o,n,zs,us,E,J,g1,Z,S,g4,w,c,g7,_⟩:=ac y M i R;obtain⟨a',o',n',am,ap,av,aj,ar,ab,aq,aw,ak,an,au,_⟩:=ac y M j hj;unfold kas_ask;rw[J,aj];refine kat_lt (s:={s with heap:=y}) g1 S ar aq ?_
  have ad:=ok.lt i j (by lia) (by lia);unfold zEU at ad;rw[g4,aw]at ad;exact zEV (s:={s with heap:=y}) I6 (by show X.A.units+1+1+18<cLine;lia) E av zs am us.toList ap.toList 0 _ w ak c an g7 au (by simp) ad hC
 ·have g:vE (rkD ds) ds.length p:=by rw[show ds.length=L.length by lia];exact hp
  obtain⟨e,he⟩:=sortedAll_at s.heap L (p.map λi=>L.getD i Value.none).toArray;have fr:H (s.heap.objs.size+1)=none:=I.hok.fresh (le_succ _);have ae:zq (p.map λi=>T.getD i .non) (p.map λi=>L.getD i Value.none):=by
   have hb:∀i∈p,i<L.length:=λi R=>by exists hp.1.mem_iff.mp R
   clear hp g he q
   induction p with
   |nil=>exact .nil
   |cons i p ih =>
    rw[map_cons,map_cons];refine .cons ?_ (ih λz hz=>hb z (qD _ hz));have R:=hb i qE;have hy:i<T.length:=by lia
    obtain⟨u,W,P⟩:=rv.get (i:=i) (x:=T[i]) (by simp[hy]);rw[getD_eq_getElem?_getD,getD_eq_getElem?_getD,W,getElem?_eq_getElem hy];exact P
  have ag:(p.map λi=>T.getD i .non).length<=sizeLine:=by
   rw[length_map,hp.1.length_eq,length_range,sizeLine_eq];have:=ok.few;lia
  refine⟨.ref (s.heap.objs.size+1),_,I.laid (t':=s.toks) (o:=.l (p.map λi=>T.getD i .non)) (λb o K=>sortedAll_old K) (le_succ _) ⟨ag,_,e,ae,he⟩,rfl,q p g _ fr⟩
end
end DV
namespace L2
open PySem PySem.Spec PyProof.Rows
section
variable{prog:Lc}{w:Le}{A:Li}{R:Result->La->Prop}{I:Lz}{fp wr:Ls Lz}{n:Nat}{P:Nat->Lv->Prop}{St:Lm}
def Y9:(toString "max"++toString ".loop":String)="max.loop":=by decide
theorem vF(W:Walks prog w A.in1 I fp wr n P St){a:Nat->Nat->Bool}(D:CmpOf prog w A.in1 .Gt P a)(S:Lz)(G:S∉fp)(k:Ls (Str×Lv)) :
  ∀(m j:Nat) (s:La) (best:Lv) (c:Nat),n=j+1+m->St (j+1) s.heap->P (argBest a j) best->s.heap.get? S=some {cls:=.type "list",dict:=none,data:=.seq #[best,best] c,slots:=#[]} ->
  (∀v y M,P (argBest a (n-1)) v->(∀b o,b∉wr->b≠S->s.heap.get? b=some o->y.get? b=some o)->R (.ok (.ret v)) {s with heap:=y,toks:=M}) ->
  codeAny (model prog w) A (.builtin "max.loop" ⟨[.ref I,.none,.ref S],k⟩) R s
 |0,j,s,best,c,K,T,r,X,C=>by
  have Q:S∉wr:=λz=>G (W.sub _ z)
  refine codeAny_builtin F.entry_max_loop ?_;rw[Around.under_plainId F.plain_max_loop _];show wpAny _ A.in1 (seqItems? (.ref S) >>= _) _ _ s;refine qB (wpAny_seqItems X rfl ?_);show wpAny _ A.in1 (tryCatch (pyNext (.ref I)) _ >>= _) _ _ s;have H:j+1=n:=by lia
  refine qB (wpAny_tryCatch (W.done s _ _ (H▸T) λy M kp=>?_));have x:=kp S _ Q X;show wpAny _ A.in1 (updateSeq S (λ_=>#[]) >>= _) _ _ _;refine qB (wpAny_updateSeq x rfl (qB (wpAny_letGo (qC (C best _ M ?_ ?_)))))
  ·rw[<- H];exact r
  ·exact λb o Z i e=>(get?_update_other _ _ (Ne.symm i)).trans (kp b o Z e)
 |m+1,j,s,best,c,K,T,r,X,C=>by
  have Q:S∉wr:=λz=>G (W.sub _ z)
  have u:j+1<n:=by lia
  refine codeAny_builtin F.entry_max_loop ?_;rw[Around.under_plainId F.plain_max_loop _];show wpAny _ A.in1 (seqItems? (.ref S) >>= _) _ _ s;refine qB (wpAny_seqItems X rfl ?_);show wpAny _ A.in1 (tryCatch (pyNext (.ref I)) _ >>= _) _ _ s;refine qB (wpAny_tryCatch (W.item (j+1) s _ _ u T λv y M hv Y kp=>?_));have x:=kp S _ Q X;show wpAny _ A.in1 (tryCatch (holding [v,v] (richCompare .Gt v best >>= _)) _ >>= _) _ _ _;refine qB (wpAny_tryCatch (wpAny_holding (qB (D (j+1) (argBest a j) v best _ _ _ hv r ?_))));refine qB (wpAny_holding (wpAny_truthy_bool (qB (wpAny_letGo (qC ?_)))));cases Z:a (j+1) (argBest a j)with
  |true =>
   dsimp[if_true];refine qB (wpAny_updateSeq x rfl (qB (wpAny_letGo ?_)));rw[Y9];refine qC ⟨plainId_quiet F.plain_max_loop _,vF W D S G k m (j+1) _ v _ (by lia) (W.frame _ _ _ Y λb l o e=>?_) (by dsimp[argBest,Z,if_true];exact hv) (get?_update_self _ x rfl) λt E q p h=>?_⟩
   ·exact(get?_update_other _ _ (λz:S=b=>G (by rw[z];exact l))).trans e
   ·exact C t E q p λb o g i e=>h b o g i ((get?_update_other _ _ (Ne.symm i)).trans (kp b o g e))
  |false =>
   dsimp[Bool.false_eq_true,if_false];refine qB (wpAny_letGo ?_);rw[Y9];refine qC ⟨plainId_quiet F.plain_max_loop _,vF W D S G k m (j+1) _ best c (by lia) Y (by dsimp[argBest,Z,Bool.false_eq_true,if_false];exact r) x λt E q p h=>?_⟩;exact C t E q p λb o g i e=>h b o g i (kp b o g e)
def zCv(W:Walks prog w A.in1 I fp wr n P St){a:Nat->Nat->Bool}(D:CmpOf prog w A.in1 .Gt P a)(S:Lz)(G:S∉fp)(d:Lv)(T:St 0 s.heap)
  (X:s.heap.get? S=some {cls:=.type "list",dict:=none,data:=.seq #[] c,slots:=#[]})
  (C:∀v y M,(n=0/\v=d)\/(0<n/\P (argBest a (n-1)) v)->(∀b o,b∉wr->b≠S->s.heap.get? b=some o->y.get? b=some o)->R (.ok (.ret v)) {s with heap:=y,toks:=M}) :
  codeAny (model prog w) A (.builtin "max.loop" ⟨[.ref I,.none,.ref S],[(Str.ofString "default",d)]⟩) R s:=by
 have Q:S∉wr:=λz=>G (W.sub _ z)
 refine codeAny_builtin F.entry_max_loop ?_;rw[Around.under_plainId F.plain_max_loop _];show wpAny _ A.in1 (seqItems? (.ref S) >>= _) _ _ s;refine qB (wpAny_seqItems X rfl ?_);show wpAny _ A.in1 (tryCatch (pyNext (.ref I)) _ >>= _) _ _ s;by_cases K:n=0
 ·refine qB (wpAny_tryCatch (W.done s _ _ (K▸T) λy M kp=>?_))
  show wpAny _ A.in1 (rule _ >>= λ_=>ret d) _ _ _
  refine qB (wpAny_rule (qC (C d y M (.inl ⟨K,rfl⟩) λb o Z _ e=>kp b o Z e)))
 ·have j:0<n:=Nat.pos_of_ne_zero K
  refine qB (wpAny_tryCatch (W.item 0 s _ _ j T λv y M hv Y kp=>?_));have x:=kp S _ Q X;show wpAny _ A.in1 (updateSeq S (λ_=>#[v,v]) >>= _) _ _ _;refine qB (wpAny_updateSeq x rfl ?_);rw[Y9];refine qC ⟨plainId_quiet F.plain_max_loop _,vF W D S G _ (n-1) 0 _ v _ (by lia) (W.frame _ _ _ Y λb l o e=>?_) hv (get?_update_self _ x rfl) λt E q p h=>?_⟩
  ·exact(get?_update_other _ _ (λz:S=b=>G (by rw[z];exact l))).trans e
  ·exact C t E q (.inr ⟨j,p⟩) λb o g i e=>h b o g i ((get?_update_other _ _ (Ne.symm i)).trans (kp b o g e))
end
def zEW(a v:Lv):argsOk "max" ⟨[a],[(Str.ofString "default",v)]⟩:=by unfold argsOk;kernel_rfl
def vG(ns:Ls Int)(k:Int):Int:=if ns.length=0 then k else uG ns
section
variable{prog:Lc}{w:Le}{A:Li}{E:Ly}{s:La}
def Q7{id:String}{b:Builtin}{args:Ls Lv}{k:Ls (Str×Lv)}{Q:Ly}(V:builtinKind id=none)(L:plainId id=true)(Z:entryFor table id=some b)(C:argsOk id ⟨args,k⟩)
  (S:wpAny (model prog w) A.in1 (b ⟨args,k⟩) (λl j=>match l with
   | .done f=>(match(Except.ok f:Result)with | .ok (.ret v)=>Q v j | .ok _=>False | .error e=>E e j)
   | .again c'=>c'.quiet=true/\codeAny (model prog w) A c' (λr j=>match r with | .ok (.ret v)=>Q v j | .ok _=>False | .error e=>E e j) j) E s) :
  wpAny (model prog w) A (call (.builtin id) args k) Q E s:=by
 refine wpAny_call (codeAny_call_builtin L Z ?_);dsimp[checkBuiltinCall,V];cases a:Manifest.signature? id with
 |none=>exact qC S
 |some g =>
  have c:Bind.checkArgs id g ⟨args,k⟩=pure ():=by simpa only[argsOk,a]using C
  dsimp[c];exact qC S
end
section
variable{X:Cx}{e d:Lb}{te td:TE}{p pos kp:Pos}
def zEX(S:X.calm=true)(I:Inv X pins O H s)(W:SqL X.K H l (ns.map V.int))(q:Q (.int (vG ns k)) H) :
  wpAny (model X.prog X.w) X.A (call (.builtin "max") [.ref l] [(Str.ofString "default",.int k t)]) (EP X pins O Q) X.xe s:=by
 obtain⟨g,j,a,hz⟩:=I.list W;have y:g.length=ns.length:=by rw[<- j.length,length_map]
 have L:l<s.heap.objs.size:=by obtain⟨o,n,e,_⟩:=a;exact lt_size e
 have p:∀b o,s.heap.get? b=some o->(s.heap.push {cls:=.type "list_iterator",data:=.fields #[.ref l,.int 0 0]}).get? b=some o:=λb o e=>qA _ e
 refine Q7 F.kind_max F.plain_max F.entry_max (zEW _ _) ?_;show wpAny _ X.A.in1 (Builtin.Builtins.bindParams "max" ["key","default"] 0 ⟨[],[(Str.ofString "default",.int k t)]⟩ >>= _) _ _ s;refine qB (wpAny_of_eq (show Builtin.Builtins.bindParams "max" ["key","default"] 0 ⟨[],[(Str.ofString "default",.int k t)]⟩=pure [none,some (.int k t)]from rfl) ?_);refine qB (qC (qB (wpAny_pyIter_list a.isList (qB (wpAny_newObj_type ?_)))));rw[Y9];have x:s.heap.objs.size<(s.heap.push {cls:=.type "list_iterator",data:=.fields #[.ref l,.int 0 0]}).objs.size:=by rw[size_push];exact lt_succ_self _
 refine qC ⟨plainId_quiet F.plain_max_loop _,zCv (fp:=[s.heap.objs.size,l]) (wr:=[s.heap.objs.size])
  (Walks.list (by show X.A.handled=none;exact I.ok.hd S) _ l (ne_of_lt L) g.toArray) (CmpOf.ints_gt (λi=>ns.getD i 0) (wQ j)) _ ?_ (.int k t) ⟨⟨_,qA _ (get?_push_size _ rfl),rfl,rfl⟩,?_⟩ (get?_push_size _ rfl) ?_⟩
 ·intro Y
  rcases mem_cons.mp Y with e|e
  ·rw[e]at x;exact absurd x (lt_irrefl _)
  ·have C:=mem_singleton.mp e
   rw[C]at x;exact absurd (lt_trans L x) (lt_irrefl _)
 ·obtain⟨o,e,c⟩:=a.isList
  exact⟨o,qA _ (p _ _ e),c⟩
 ·intro v w M hv kp
  have E:∀b o,s.heap.get? b=some o->w.get? b=some o:=λb o K=>kp b o (λm=>by
   have:b=s.heap.objs.size:=by exists m
   subst this;exact absurd (lt_size K) (lt_irrefl _)) (λz=>by
   have:=lt_size K;rw[z]at this;exact absurd (lt_trans this x) (lt_irrefl _)) (qA _ (p b o K))
  rcases hv with⟨P,rfl⟩|⟨P,r⟩
  ·have h:ns.length=0:=by rw[<- y];exists P
   have u:vG ns k=k:=by unfold vG;rw[if_pos h]
   rw[u]at q;exact⟨.int k,H,I.kept (t':=M) E,⟨_,rfl⟩,q⟩
  ·obtain⟨t',e⟩:=wQ j _ v r
   subst e;have h:¬ns.length=0:=by rw[<- y];simp at P;lia
   have u:vG ns k=uG ns:=by unfold vG;rw[if_neg h]
   rw[u]at q;rw[size_toArray,y];exact⟨.int (uG ns),H,I.kept (t':=M) E,⟨_,rfl⟩,q⟩
def pe_maxd(S:X.calm=true)(j:Gl X "max")(Y:X.mg "max"=none)(P:bootBuiltins "max"=some (.builtin "max"))(c:PE X e te)(hd:PE X d td)(T:starEach [e] X.env=[(false,eval e X.env)]) :
  PE X (.Call (.Name "max" p) [e] [⟨some (Str.ofString "default"),d,kp⟩] pos) (λO H Q=>te O H λx H1=>td O H1 λz H2=>∃l E k,x=.ref l/\z=.int k/\SqL X.K H2 l (E.map V.int)/\Q (.int (vG E k)) H2):=by
 intro G s O H Q I h;refine wpAny_Call_Name_kw (Y1 I j Y P ?_ (by decide) (by decide));refine callWith_kw ?_ (by rw[T];rfl) (by rw[T];rfl);refine thn ((Ye c Qg T) pos G s O H (λL H1=>match L with
  | [x]=>td O H1 λz H2=>∃l E k,x=.ref l/\z=.int k/\SqL X.K H2 l (E.map V.int)/\Q (.int (vG E k)) H2|_=>False) I h) λD R ⟨L,H1,I1,a,K⟩=>?_
 match L,K with
 | [x],K =>
  obtain⟨u,rfl,n⟩:=ZT a;refine kws_cons (thn (hd G R O H1 _ I1 K) λw g ⟨z,H2,I2,i,l,E,k,r,o,W,q⟩=>kws_nil ?_);subst r o;cases n;obtain⟨t,rfl⟩:=i;exact zEX S I2 W q
end
end L2
namespace DV
open PySem L2
section
variable{X:Cx}{K:qH}{mg:Str->Lx Lv}
def Gr{r L:Ls V->Hp->VK->Prop}(h:jb X f r)(h':jb X f L):jb X f (λY H Q=>r Y H Q\/L Y H Q):=by
 intro G s O H Y D Q I j q;rcases q with q|q
 ·exact h G s O H Y D Q I j q
 ·exact h' G s O H Y D Q I j q
def eqG(d e:D):Lx R:=match eqF d e with
 |some r=>some r|none=>zGg false d e
def neG(d e:D):Lx R:=match neF d e with
 |some r=>some r|none=>zGg true d e
def zH8:ROk K mg (λx y H Q=>rEq x y H Q\/rEqD K mg false x y H Q) eqG:=by
 intro M H Z x y w O a Q f l o e k;unfold eqG at e;cases h:eqF w O with
 |some r=>rw[h]at e;cases e;exact .inl (ro_eq M H Z x y w O a Q f l o h k)|none=>rw[h]at e;exact .inr (zH4 M H Z x y w O a Q f l o e k)
def zH9:ROk K mg (λx y H Q=>rNe x y H Q\/rEqD K mg true x y H Q) neG:=by
 intro M H Z x y w O a Q f l o e k;unfold neG at e;cases h:neF w O with
 |some r=>rw[h]at e;cases e;exact .inl (ro_ne M H Z x y w O a Q f l o h k)|none=>rw[h]at e;exact .inr (zH4 M H Z x y w O a Q f l o e k)
def isD:D->D->Lx Bool
 | .non,.non=>some true| .bl a,.bl b=>some (a==b)| .non,.bl _=>some false| .bl _,.non=>some false| .non,.int _=>some false| .int _,.non=>some false| .non,.str _=>some false| .str _,.non=>some false| .int _,.bl _=>some false| .bl _,.int _=>some false| .str _,.bl _=>some false| .bl _,.str _=>some false| .t _,.non=>some false| .l _,.non=>some false| .t _,.bl _=>some false| .l _,.bl _=>some false|_,_=>none
def isG(n:Bool)(d e:D):Lx R:=(isD d e).map λb=>.v (.bl (if n then !b else b))
def isV_of(h:isD d e=some b)(w:Rep K mg H d x)(P:Rep K mg H e y):isV x y=some b:=by
 cases d<;>cases e<;>dsimp[isD]at h<;>first
  | (cases h;done)
  | (cases h;rw[jd w,jd P];rfl)
  | (cases h;rw[jK w,jK P];rfl)
  | (cases h;rw[jd w,jK P];rfl)
  | (cases h;rw[jK w,jd P];rfl)
  | (cases h;rw[jd w,zI P];rfl)
  | (cases h;rw[zI w,jd P];rfl)
  | (cases h;rw[jd w,wc P];rfl)
  | (cases h;rw[wc w,jd P];rfl)
  | (cases h;rw[zI w,jK P];rfl)
  | (cases h;rw[jK w,zI P];rfl)
  | (cases h;rw[wc w,jK P];rfl)
  | (cases h;rw[jK w,wc P];rfl)
  | (cases h;obtain⟨a,Y,rfl,_⟩:=zh w;rw[jd P];rfl)
  | (cases h;obtain⟨a,Y,rfl,_⟩:=zU w;rw[jd P];rfl)
  | (cases h;obtain⟨a,Y,rfl,_⟩:=zh w;rw[jK P];rfl)
  | (cases h;obtain⟨a,Y,rfl,_⟩:=zU w;rw[jK P];rfl)
def ro_is:ROk K mg (λx y H Q=>∃b,isV x y=some b/\Q (.bl b) H) (isG false):=by
 intro M H Z x y w O a Q f l o e k;unfold isG at e;cases h:isD w O with
 |none=>rw[h]at e;cases e|some b=>rw[h]at e;cases e;exact⟨b,isV_of h l o,k.flat f rfl⟩
def YU(d e:D):Lx R:=match J8 d e with
 |some r=>some r
 |none=>match d,e with
  | .l a,.int k=>if -(2^63)<=k/\k<2^63/\a.length*k.toNat<=cap then some (.w (replicate k.toNat a).flatten)else none|_,_=>none
def ro_mulG:ROk K mg (λx y H Q=>rMulD K x y H Q\/rRepL K x y H Q) YU:=by
 intro M H Z x y w O c Q f g o e k;unfold YU at e;cases h:J8 w O with
 |some r=>rw[h]at e;cases e;exact .inl (ro_mul M H Z x y w O c Q f g o h k)
 |none =>
  rw[h]at e;cases w with
  |l a =>
   cases O with
   |int n =>
    dsimp at e;split at e
    ·rename_i S
     cases e;obtain⟨p,Y,rfl,J,h2⟩:=zU g;rw[zI o];exact .inr ⟨p,n,Y,rfl,rfl,zM.seq J,S.1,S.2.1,by rw[h2.length];exact Zy S.2.2,λq W=>k.own f W (h2.flatten _)⟩
    ·cases e
   |_=>cases e
  |_=>cases e
def wg:Ls D->Lx (Ls Int)
 | []=>some []| .int i::ds=>(wg ds).map (i::·)|_::_=>none
theorem jM:∀{G:Ls D} {Y:Ls V} {E:Ls Int},wg G=some E->Reps K mg H G Y->Y=E.map V.int
 | [],_,_,e,h=>by cases e;dsimp[Reps]at h;subst h;rfl
 |d::G,_,E,e,h=>by
  dsimp[Reps]at h;obtain⟨v,r,rfl,J,h2⟩:=h;cases d with
  |int i =>
   dsimp[wg]at e;exists eb,wg G,e,cs;cases e;rw[zI J,jM eb h2];rfl
  |_=>cases e
def vH:Ls D->Lx R
 | [.int i,.int j]=>v9 [.int i,.int j]
 | [.l G]=>match wg G with
  |some E=>if 0<E.length then some (.v (.int (uG E)))else none|none=>none
 |_=>none
def co_maxG:COk K mg (λY H Q=>(∃i j,Y=[.int i,.int j]/\Q (.int (if j > i then j else i)) H)\/∃(p:Lz) (E:Ls Int),Y=[.ref p]/\SqL K H p (E.map V.int)/\0<E.length/\Q (.int (uG E)) H) vH:=by
 intro M H Z Y G a Q f r e k
 match G,e with
 | [.int i,.int j],e=>exact .inl (co_max M H Z Y _ a Q f r e k)
 | [.l G],e =>
  dsimp[vH]at e;exists hi,wg G,e,E;dsimp at e;split at e
  ·rename_i L
   cases e;obtain⟨v,rfl,h⟩:=JQ r;obtain⟨p,T,rfl,J,h2⟩:=zU h;rw[jM hi h2]at J;exact .inr ⟨p,E,rfl,zM.seq J,L,k.flat f rfl⟩
  ·cases e
def zIA:Ls D->Lx R
 | [.int i,.int j]=>some (.v (.int (if j<i then j else i)))
 | [.l G]=>match wg G with
  |some E=>if 0<E.length then some (.v (.int (zEK E)))else none|none=>none
 |_=>none
def co_minG:COk K mg (λY H Q=>(∃i j,Y=[.int i,.int j]/\Q (.int (if j<i then j else i)) H)\/∃(p:Lz) (E:Ls Int),Y=[.ref p]/\SqL K H p (E.map V.int)/\0<E.length/\Q (.int (zEK E)) H) zIA:=by
 intro M H Z Y G a Q f r e k
 match G,e with
 | [.int i,.int j],e =>
  cases e;obtain⟨v,t,rfl,J,h2⟩:=zGN r;exact .inl ⟨i,j,by rw[zI J,zI h2],k.flat f rfl⟩
 | [.l G],e =>
  dsimp[zIA]at e;exists hi,wg G,e,E;dsimp at e;split at e
  ·rename_i L
   cases e;obtain⟨v,rfl,h⟩:=JQ r;obtain⟨p,T,rfl,J,h2⟩:=zU h;rw[jM hi h2]at J;exact .inr ⟨p,E,rfl,zM.seq J,L,k.flat f rfl⟩
  ·cases e
def zFp:Ls D->Lx R
 | [.l G]=>(wg G).map λE=>.v (.int E.sum)| [.t G]=>(wg G).map λE=>.v (.int E.sum)|_=>none
def co_sumG:COk K mg (λY H Q=>(∃(p:Lz) (E:Ls Int),Y=[.ref p]/\SqL K H p (E.map V.int)/\Q (.int E.sum) H)\/∃(p:Lz) (E:Ls Int),Y=[.ref p]/\SqT K H p (E.map V.int)/\Q (.int E.sum) H) zFp:=by
 intro M H Z Y G a Q f r e k
 match G,e with
 | [.l G],e =>
  dsimp[zFp]at e;exists hi,wg G,e,E;cases e;obtain⟨v,rfl,h⟩:=JQ r;obtain⟨p,T,rfl,J,h2⟩:=zU h;rw[jM hi h2]at J;exact .inl ⟨p,E,rfl,zM.seq J,k.flat f rfl⟩
 | [.t G],e =>
  dsimp[zFp]at e;exists hi,wg G,e,E;cases e;obtain⟨v,rfl,h⟩:=JQ r;obtain⟨p,T,rfl,J,h2⟩:=zh h;rw[jM hi h2]at J;exact .inr ⟨p,E,rfl,zm zM J,k.flat f rfl⟩
def absG:Ls D->Lx R
 | [.int i]=>some (.v (.int (if i<0 then -i else i)))|_=>none
def co_absG:COk K mg (λY H Q=>∃i,Y=[.int i]/\Q (.int (if i<0 then -i else i)) H) absG:=by
 intro M H Z Y G a Q f r e k
 match G,e with
 | [.int i],e =>
  cases e;obtain⟨v,rfl,h⟩:=JQ r;exact⟨i,by rw[zI h],k.flat f rfl⟩
open Classical in
def zGi:Ls D->Lx R
 | [.l G]=>if SortOk G then some (.w (Gp G))else none|_=>none
theorem vI(r:Reps K mg H ds ys):∀p:Ls Nat,(∀i∈p,i<ds.length)->Reps K mg H (p.map λi=>ds.getD i .non) (p.map λi=>ys.getD i .non)
 | [],_=>Reps.nil
 |i::p,Z=>by
  have R:=Z i qE;have Q:i<ys.length:=by rw[r.length];exact R
  obtain⟨v,W,P⟩:=r.get' (i:=i) (d:=ds[i]) (by simp[R]);refine Reps.cons ?_ (vI r p λz hz=>Z z (qD _ hz));show Rep K mg H (ds.getD i .non) (ys.getD i .non);rw[getD_eq_getElem?_getD,getD_eq_getElem?_getD,W,getElem?_eq_getElem R];exact P
open Classical in
def zGj:COk K mg (λY H Q=>∃(l:Lz) (T:Ls V) (G:Ls D),Y=[.ref l]/\SqL K H l T/\Reps K mg H G T/\SortOk G/\∀p:Ls Nat,vE (rkD G) G.length p->∀q,H q=none->Q (.ref q) (upd H q (.l (p.map λi=>T.getD i .non)))) zGi:=by
 intro M H Z Y G res Q f r e k
 match G,e with
 | [.l G],e =>
  have C:(if SortOk G then some (R.w (Gp G))else none)=some res:=e;by_cases ok:SortOk G
  ·rw[if_pos ok]at C
   cases C;obtain⟨v,rfl,h⟩:=JQ r;obtain⟨p,T,rfl,J,h2⟩:=zU h;refine⟨p,T,G,rfl,zM.seq J,h2.mono zM,ok,λa L q W=>k.own f W ?_⟩;rw[<- Gq ok L];exact vI h2 a λi c=>by exists L.1.mem_iff.mp c
  ·rw[if_neg ok]at C;cases C
end
section
variable{X:Cx}{O:St}{H:Hp}
theorem Reps.evens{g:Str->Lx Lv}:∀{G:Ls D} {Y:Ls V},Reps K g H G Y->Reps K g H (L2.evens G) (L2.evens Y)
 | [],_,h=>by dsimp[Reps]at h;subst h;dsimp[L2.evens];exact Reps.nil
 | [d],_,h=>by
  dsimp[Reps]at h;obtain⟨v,r,rfl,J,rfl⟩:=h;dsimp[L2.evens];exact Reps.cons J Reps.nil
 |d::e::G,_,h=>by
  dsimp[Reps]at h;obtain⟨v,r,rfl,J,t,L,rfl,h2,Q⟩:=h;dsimp[L2.evens];exact Reps.cons J (Reps.evens Q)
theorem Reps.rev{g:Str->Lx Lv}:∀{G:Ls D} {Y:Ls V},Reps K g H G Y->Reps K g H G.reverse Y.reverse
 | [],_,h=>by dsimp[Reps]at h;subst h;exact Reps.nil
 |d::G,_,h=>by
  dsimp[Reps]at h;obtain⟨v,r,rfl,J,h2⟩:=h;rw[reverse_cons,reverse_cons];exact(Reps.rev h2).append (Reps.cons J Reps.nil)
def Reps.step{g:Str->Lx Lv}(k:Bool)(h:Reps K g H ds xs):Reps K g H (Q4 k ds) (Q4 k xs):=by
 cases k
 ·dsimp[Q4,Bool.false_eq_true,if_false];exact h.rev
 ·dsimp[Q4,if_true];exact h.evens
def zCw:D->D->Lx R
 | .l G,.int k=>(wg G).map λE=>.v (.int (vG E k))|_,_=>none
def ro_maxd{g:Str->Lx Lv}:ROk K g (λx z H Q=>∃l E k,x=.ref l/\z=.int k/\SqL K H l (E.map V.int)/\Q (.int (vG E k)) H) zCw:=by
 intro M H Z x y w O a Q f c o e k;cases w with
 |l G =>
  cases O with
  |int n =>
   dsimp[zCw]at e;exists hi,wg G,e,E;cases e;obtain⟨p,T,rfl,J,h2⟩:=zU c;rw[jM hi h2]at J;exact⟨p,E,n,rfl,zI o,zM.seq J,k.flat f rfl⟩
  |_=>cases e
 |_=>cases e
def ok_maxd(S:X.calm=true)(t:Gl X "max")(Y:X.mg "max"=none)(c:EOk X e m)(hd:EOk X d md)(T:za e=false):EOk X (.Call (.Name "max" p) [e] [⟨some (Str.ofString "default"),d,kp⟩] pos) (wy zCw m md) :=
 yW (pe_maxd S t Y zH1 c hd (zAx T)) λO H Q q=>W0 ro_maxd q
def sTup(q:Ls Nat)(m:ME):MS:=λE=>match m E with
 | .z=>.z| .y x E1=>.y x E1
 | .ok (r,E1)=>match gT q r.d E1 with
  | .ok E2=>.ok (.nx,E2)|_=>.z
def zGk{q:Ls Nat}{m:ME}{D:Ends}(h:tS X (sTup q m) D O H):tAsg (tM X m) (gTup X.K q.length (we q)) D O H:=by
 obtain⟨M,E,hl,fr,k⟩:=h;unfold sTup at k;refine z9 (T0:=[]) hl fr ?_;cases R:m E with
 |z=>rw[R]at k;exact k|y x E1=>rw[R]at k;exact λH' g=>k O H' g
 |ok p =>
  obtain⟨r,E1⟩:=p;rw[R]at k;intro v H1 g;dsimp at k;cases n:gT q r.d E1 with
  |z=>rw[n]at k;exact k.elim|y _ _=>rw[n]at k;exact k.elim
  |ok E2 =>
   rw[n]at k;have J:=g.dropAll;exact zHw (X:=X) q rfl M O E1 H1 [] v r.d E2 _ J.len (FR.add J.frame g.rep) n λO' u=>k O' H1 (J.trans' u)
def sk_tup(t:PG X (.Tuple es k p) (gTup X.K is.length (we is)))(c:EOk X e m)(T:swapsWithSole [.Tuple es k p] e pos.line X.env=pure false)(C:swappedStores [.Tuple es k p] e X.env=pure none):SOk X (.Assign [.Tuple es k p] e pos) (sTup is m) :=
 jD (zDR c t T C) λD O H=>zGk
def sPar(i j:Nat)(m:MA):MS:=λE=>match m E with
 | .z=>.z| .y x E1=>.y x E1
 | .ok ([l,o],E1)=>match gNs [i,j] [l.d,o.d] E1 with
  | .ok E2=>.ok (.nx,E2)|_=>.z
 |_=>.z
def zGl{i j:Nat}{m:MA}{D:Ends}(h:tS X (sPar i j m) D O H):tPar i j (tMA X m) D O H:=by
 obtain⟨M,E,hl,fr,k⟩:=h;unfold sPar at k;refine Jp (T0:=[]) hl fr ?_;cases R:m E with
 |z=>rw[R]at k;exact k|y x E1=>rw[R]at k;exact λH' g=>k O H' g
 |ok p =>
  obtain⟨t,E1⟩:=p;rw[R]at k
  match t,k with
  | [l,o],k =>
   intro L H1 hv g;dsimp at k;cases n:gNs [i,j] [l.d,o.d] E1 with
   |z=>rw[n]at k;exact k.elim|y _ _=>rw[n]at k;exact k.elim
   |ok E2 =>
    rw[n]at k
    match L,hv with
    | [v,w],_ =>
     have e:=Got.reps rfl g;have J:=g.dropAll;have q:=Y5 (X:=X) [i,j] [l.d,o.d] [v,w] (a:=0) (ts:=[]) (Q:=D.nx) (Got.refl (T0:=[]) J.len J.fr) e n λO' u=>k O' H1 (J.trans' u)
     obtain⟨C,c,W,I,r,P,G,q⟩:=q;cases W;cases P;exact⟨v,w,rfl,q⟩
  | [],k=>exact k.elim| [_],k=>exact k.elim|_::_::_::_,k=>exact k.elim
def sk_any:SOk X st (λ_=>.z):=jD zFw λD O H ⟨M,E,hl,fr,k⟩=>k
end
end DV
namespace DV
open PySem L2 PyProof.Rows
def xinIn(K:qH)(C f:Lz):Bool:=clsI K C (some (some (.ref f)))
def XO(C a:Lz)(i:Lx Lz):HO:=.ext λh=>∃o t,h.get? a=some o/\o.cls=.ref C/\o.dict=i/\o.data=.fields #[.ref t,.none,.none,.none,.bool false,.none]
def spI(c:Str)(C:Lz):Sp:=λL H Q _=>∃(a:Lz) (E:Ls Int),L=.ref a::E.map V.int/\E.length=(zAv c).length/\(∀n∈E,n.natAbs.log2<1920)/\H a=some (XO C a none)/\∀d,H d=none->Q .non (upd (upd H d (XD d (fsV c E))) a (XO C a (some d)))
def RIok(P:Lc)(w:Le)(K:qH)(g:Str->Lx Lv)(base:Heap)(c:Str):Prop:=∃C f M,g c=some (.ref C)/\keepIn K (.ref C)=true/\xinIn K C f=true/\typeIn K (.ref f)=some (.type "function") /\
 ZU K M ("self"::zAv c) []/\FnOkN true P w K g base 2 f M ("self"::zAv c) (spI c C)
end DV
namespace DV
open PySem L2 PyProof.Rows
open PySem.W (Looks)
structure TGet(K:qH)(T:Lz):Prop where
 rd:PySem.W.readsIn K T (.type "type")=true
 sp:specialIn K (.ref T) "__getattribute__"=some (some (.builtin "type.__getattribute__"))
 fc:PySem.W.findCls K (.ref T) (.type "type") "__init__"=some (.val (.builtin "ValueError.__init__"))
structure RiAt(K:qH)(mg:Str->Lp)(c:Str)(st:Lh):Prop where
 ex:∃C T f fd qual,mg c=some (.ref C)/\mg "ThrowError"=some (.ref T)/\keepIn K (.ref C)=true/\xinIn K C f=true/\typeIn K (.ref f)=some (.type "function")/\Fun K "__init__" qual st f fd/\ZU K fd ("self"::zAv c) []/\TGet K T/\XSet K C T/\∀n∈zAv c,findIn K (.ref C) n=some none
def ris_nil{R:Str->Prop}:∀c∈([]:Ls Str),R c:=λ_ h=>by cases h
def RAok(K:qH)(g:Str->Lx Lv)(c:Str):Prop:=∃C T,g c=some (.ref C)/\g "ThrowError"=some (.ref T)/\XSet K C T/\∀n∈zAv c,findIn K (.ref C) n=some none
end DV
namespace DV
open PySem L2
section
variable{X:Cx}{O:L2.St}{H:Hp}{K:qH}{mg:Str->Lx Lv}{M:Lf}{E E1:zS}{T0:Fz}
def whN(c:MT)(b:MS):Nat->MS
 |0=>λ_=>.z
 |n+1=>λE=>match c E with
  | .z=>.z| .y x E1=>.y x E1| .ok (false,E1)=>.ok (.nx,E1)
  | .ok (true,E1)=>match b E1 with
   | .ok (.nx,E2)=>whN c b n E2| .ok (.ct,E2)=>whN c b n E2| .ok (.bk,E2)=>.ok (.nx,E2)|o=>o
def whN_run{c:MT}{b:MS}{D:Ends}{n:Nat}(h:tS X (whN c b n) D O H):zHc (tMT X c) (tS X b) D O H:=by
 refine⟨λm O H=>tS X (whN c b m) D O H,⟨n,h⟩,λm O H h=>?_⟩;cases m with
 |zero=>obtain⟨M,E,hl,fr,k⟩:=h;exact k.elim
 |succ m =>
  obtain⟨M,E,hl,fr,k⟩:=h;unfold whN at k;refine Jo (T0:=[]) hl fr ?_;cases P:c E with
  |z=>rw[P]at k;exact k|y x E1=>rw[P]at k;exact λH' g=>k O H' g
  |ok p =>
   obtain⟨t,E1⟩:=p;rw[P]at k;intro H1 I;cases t with
   |false=>exact zHi (k O H1 I)
   |true =>
    refine zHj ⟨λO' H'=>tS X (whN c b m) D O' H',λO' H' q=>⟨m,lt_succ_self m,q⟩,?_⟩;refine uh (T0:=[]) I.len I.fr ?_;dsimp at k;cases K:b E1 with
    |z=>rw[K]at k;exact k|y x E2=>rw[K]at k;exact λO' H' g=>k O' H' (I.trans' g)
    |ok p =>
     obtain⟨L,E2⟩:=p;rw[K]at k;cases L with
     |ret r=>exact λv O' H' g=>k v O' H' (I.trans' g)|bk=>exact λO' H' g=>k O' H' (I.trans' g)|nx=>exact λO' H' g=>go I g k|ct=>exact λO' H' g=>go I g k
where
 go {c:MT} {b:MS} {D:Ends} {n:Nat} {M:Lf} {O O1 O':L2.St} {E E1 E2:zS} {H H1 H':Hp} (I:Got X.K X.mg M O E H [] O1 E1 H1 []) (g:Got X.K X.mg M O1 E1 H1 [] O' E2 H' [])
  (k:match whN c b n E2 with
   | .z=>False| .ok (.nx,E')=>∀O' H',Got X.K X.mg M O E H [] O' E' H' []->D.nx O' H'| .ok (.bk,E')=>∀O' H',Got X.K X.mg M O E H [] O' E' H' []->D.bk O' H'| .ok (.ct,E')=>∀O' H',Got X.K X.mg M O E H [] O' E' H' []->D.ct O' H'| .ok (.ret r,E')=>∀v O' H',Got X.K X.mg M O E H [] O' E' H' [(some v,r.slot)]->D.rt v H'
   | .y x E'=>∀O' H',Got X.K X.mg M O E H [] O' E' H' []->XE X O' H' x):tS X (whN c b n) D O' H':=by
  have a:=I.trans' g;refine uh (T0:=[]) a.len a.fr ?_;cases e:whN c b n E2 with
  |z=>rw[e]at k;exact k|y x E3=>rw[e]at k;exact λO3 H3 S=>k O3 H3 (a.trans' S)
  |ok p =>
   obtain⟨L,E3⟩:=p;rw[e]at k;cases L with
   |nx=>exact λO3 H3 S=>k O3 H3 (a.trans' S)|bk=>exact λO3 H3 S=>k O3 H3 (a.trans' S)|ct=>exact λO3 H3 S=>k O3 H3 (a.trans' S)|ret r=>exact λv O3 H3 S=>k v O3 H3 (a.trans' S)
def sWhile(c:MT)(b:MS):MS:=whN c b 1000000
def zGm(L:PassesOwn (model X.prog X.w) X.A X.env X.xe)(S:TOk X c mc)(Z:zAp X body mb):SOk X (.While c body [] pos) (sWhile mc mb) :=
 jD (zFy L S Z) λD O H h=>whN_run h
def sAug(i:Nat)(f:Int->Int->Lx Int)(m:ME):MS:=λE=>match E[i]? with
 |some (.v (.int a))=>(match m E with
  | .z=>.z| .y x E1=>.y x E1
  | .ok (r,E1)=>match r.d with
   | .int b=>(match E1[i]?,f a b with
    |some (.v (.int t)),some z=>if t=a then .ok (.nx,E1.set i (.v (.int z)))else .z|_,_=>.z)
   |_=>.z)
 |_=>.z
def zA6{i:Nat}{f:Int->Int->Lx Int}{e:TIp}{m:ME}{D:Ends}(hi:∀a b z H Q,f a b=some z->Q (.int z) H->e (.int a) (.int b) H Q)(h:tS X (sAug i f m) D O H):tAug i (tM X m) e D O H:=by
 obtain⟨M,E,hl,fr,k⟩:=h;unfold sAug at k;exists e0,E[i]?,k,s0;cases s0 with
 |v d =>
  cases d with
  |int a =>
   dsimp at k;obtain⟨o,J,h2⟩:=JO hl e0;obtain⟨v,rfl,j⟩:=fr.val o (.int a) h2;have ev:=zI j;subst ev;refine⟨.int a,J,?_⟩;refine z9 (T0:=[]) hl fr ?_;cases u:m E with
   |z=>rw[u]at k;exact k|y x E1=>rw[u]at k;exact λH' g=>k O H' g
   |ok p =>
    obtain⟨r,E1⟩:=p;rw[u]at k;intro y H1 g;dsimp at k;cases c:r.d with
    |int b =>
     rw[c]at k;dsimp at k;have P:=g.rep;rw[c]at P;have l:=zI P;subst l;cases W:E1[i]? with
     |none=>rw[W]at k;exact k.elim
     |some R =>
      cases q:f a b with
      |none=>rw[W,q]at k;cases R<;>first|exact k.elim|(rename_i d;cases d<;>exact k.elim)
      |some z =>
       rw[W,q]at k;cases R with
       |v w =>
        cases w with
        |int t =>
         dsimp at k;by_cases C:t=a
         ·rw[if_pos C]at k
          refine hi a b z _ _ q (k _ H1 ?_);have n:=g.dropAll.flat (d:=.int z) rfl;exact GU (r:=.v (.int z)) n (by dsimp[J9,W];rfl)
         ·rw[if_neg C]at k;exact k.elim
        |_=>exact k.elim
       |_=>exact k.elim
    |_=>rw[c]at k;exact k.elim
  |_=>exact k.elim
 |_=>exact k.elim
def ip_mulB:PIp X .Mult (λx y H Q=>∃i j,x=.int i/\y=.int j/\CMulB i j/\Q (.int (i*j)) H):=by
 intro G s O H x y v u Q I l o h;obtain⟨i,j,W,P,S,q⟩:=h;subst W;subst P;obtain⟨t,rfl⟩:=l;obtain⟨V,rfl⟩:=o;refine PyProof.Rows.imul_int ⟨.int _,H,I.tok _,⟨_,rfl⟩,q⟩ ?_;rcases S with h|h
 ·exact h.ok
 ·exact zDz h.1 h.2
def Q8:Int->Int->Lx Int:=λa b=>if((-(2^64)<a/\a<2^64)\/(-(2^64)<b/\b<2^64))\/(a.natAbs<Big/\b.natAbs<Big)then some (a*b)else none
def zEY{i:Nat}{x:Str}{e:Lb}{m:ME}{g p:Pos}(E:X.N.Nodup)(hi:X.N[i]?=some x)(M:Loc X.env.scope x)(Y:X.fn x=true\/X.env.scope.names.lookup x=some .local)(c:EOk X e m):SOk X (.AugAssign (.Name x p) .Add e g) (sAug i (λa b=>some (a+b)) m) :=
 jD (zDS E hi M c ip_add Y) λD O H h=>zA6 (λa b z H Q y q=>by cases y;exact⟨a,b,rfl,rfl,q⟩) h
def zEZ{i:Nat}{x:Str}{e:Lb}{m:ME}{g p:Pos}(E:X.N.Nodup)(hi:X.N[i]?=some x)(M:Loc X.env.scope x)(Y:X.fn x=true\/X.env.scope.names.lookup x=some .local)(c:EOk X e m):SOk X (.AugAssign (.Name x p) .Sub e g) (sAug i (λa b=>some (a-b)) m) :=
 jD (zDS E hi M c ip_sub Y) λD O H h=>zA6 (λa b z H Q y q=>by cases y;exact⟨a,b,rfl,rfl,q⟩) h
def zEa{i:Nat}{x:Str}{e:Lb}{m:ME}{g p:Pos}(E:X.N.Nodup)(hi:X.N[i]?=some x)(M:Loc X.env.scope x)(Y:X.fn x=true\/X.env.scope.names.lookup x=some .local)(c:EOk X e m):SOk X (.AugAssign (.Name x p) .Mult e g) (sAug i Q8 m) :=
 jD (zDS E hi M c ip_mulB Y) λD O H h=>zA6 (λa b z H Q y q=>by
  unfold Q8 at y;split at y
  ·rename_i S
   cases y;exact⟨a,b,rfl,rfl,S,q⟩
  ·cases y) h
end
mutual
def pyD:D->Lx PyData
 | .non=>some .none| .bl b=>some (.bool b)| .int i=>some (.int i)| .str x=>some (.str x)| .t G=>(pyDs G).map .tuple| .l G=>(pyDs G).map .list| .dic=>some (.dict [])|_=>none
def pyDs:Ls D->Lx (Ls PyData)
 | []=>some []
 |d::G=>match pyD d,pyDs G with
  |some x,some Y=>some (x::Y)|_,_=>none
end
section
variable{X:Cx}{O:L2.St}{pins:Ls (Lz×Obj)}{H:Hp}{s:La}
def zIB(K:qH):Prop:=∃o E n,K.lookup sysModules=some o/\o.data=.dict E n
def sm_ne(I:Inv X pins O H s)(S:zIB X.K)(W:s.heap.get? a=some o)(P:o.data=.seq vs n):sysModules≠a:=by
 obtain⟨p,E,m,K,c⟩:=S;intro e;have:=I.kIn _ _ K;rw[e,W]at this;cases this;rw[c]at P;cases P
mutual
theorem ZA(I:Inv X pins O H s)(S:zIB X.K):∀{d:D} {v:V} {u:Lv} {x:PyData},Rep X.K X.mg H d v->yo v u->pyD d=some x->∃as,Reads s.heap u x as/\sysModules∉as
 | .non,v,u,x=>λr j e=>by cases e;rw[jd r]at j;cases (show u=Value.none from j);exact⟨_,.none,by simp⟩| .bl b,v,u,x=>λr j e=>by cases e;rw[jK r]at j;cases (show u=Value.bool b from j);exact⟨_,.bool b,by simp⟩| .int i,v,u,x=>λr j e=>by cases e;rw[zI r]at j;obtain⟨t,q⟩:=(show ∃t,u=Value.int i t from j);subst q;exact⟨_,.int i t,by simp⟩| .str y,v,u,x=>λr j e=>by cases e;rw[wc r]at j;obtain⟨t,q⟩:=(show ∃t,u=Value.str y t from j);subst q;exact⟨_,.str y t,by simp⟩
 | .t G,v,u,x=>λr j e=>by
  obtain⟨a,K,rfl,J,h2⟩:=zh r;cases (show u=Value.ref a from j);obtain⟨g,l,p,_⟩:=I.tuple J;obtain⟨o,W,P,n,c⟩:=p;dsimp[pyD]at e;exists eq,pyDs G,e,T;cases e;obtain⟨as,q,z⟩:=readss_of I S h2 l eq;exact⟨_,.tuple W P c (by exists q),z⟩
 | .l G,v,u,x=>λr j e=>by
  obtain⟨a,K,rfl,J,h2⟩:=zU r;cases (show u=Value.ref a from j);obtain⟨g,l,p,_⟩:=I.list J;obtain⟨o,n,W,P,_,c⟩:=p;dsimp[pyD]at e;exists eq,pyDs G,e,T;cases e;obtain⟨as,q,z⟩:=readss_of I S h2 l eq;exact⟨_,.list W P c (by exists q),λY=>(mem_cons.mp Y).elim (sm_ne I S W c) z⟩
 | .fn y,v,u,x=>λr j e=>by cases e
 | .dic,v,u,x=>λr j e=>by
  cases e;dsimp[Rep]at r;obtain⟨a,rfl,J⟩:=r;cases (show u=Value.ref a from j);obtain⟨_,Q,vs,k,o,E,R,M,Z,L,_,w,_⟩:(([]:Ls (Key×V)).length<=sizeLine)/\(a==sysModules)=false/\∃vs,KV [] vs/\s.heap.DictOf (zAr X.prog X.w) a vs:=I.hok a _ J;cases k;have C:E.toList=[]:=by cases h:E.toList with|nil=>rfl|cons y T=>rw[h]at w;cases w
  refine⟨_,.dict M Z.1 L (kvs:=[]) (by rw[C];exact .nil) (by rw[C];exact .nil),λY=>?_⟩;rcases mem_cons.mp Y with Y|Y
  ·exact beq_eq_false_iff_ne.mp Q Y.symm
  ·cases Y
 | .exn _ _,_,_,_=>λ_ _ e=>by cases e| .m _ _,_,_,_=>λ_ _ e=>by cases e
theorem readss_of(I:Inv X pins O H s)(S:zIB X.K):∀{G:Ls D} {L:Ls V} {c:Ls Lv} {Y:Ls PyData},Reps X.K X.mg H G L->zq L c->pyDs G=some Y->∃as,ReadsAll s.heap c Y as/\sysModules∉as
 | [],L,c,Y=>λr j e=>by
  cases e;dsimp[Reps]at r;subst r;cases j;exact⟨_,.nil,by simp⟩
 |d::G,L,c,Y=>λr j e=>by
  dsimp[Reps]at r;obtain⟨v,a,rfl,l,o⟩:=r;cases j with
  |cons p q =>
   dsimp[pyDs]at e;cases W:pyD d with
   |none=>rw[W]at e;cases e
   |some x =>
    cases P:pyDs G with
    |none=>rw[W,P]at e;cases e
    |some T =>
     rw[W,P]at e;cases e;obtain⟨as,Z,h⟩:=ZA I S l p W;obtain⟨bs,g,i⟩:=readss_of I S o q P;exact⟨_,.cons Z g,λk=>(mem_append.mp k).elim h i⟩
end
end
end DV
namespace L2
open PySem PySem.Spec PyProof.Rows
section
variable{X:Cx}{pins:Ls (Lz×Obj)}{O:Ls (Lx V)}{H:Hp}{s:La}{h':Heap}
def Inv.turnLay{t':Nat}{fp:Ls Lz}{q:Lz}{xs:Ls V}(I:Inv X pins O H s)(Y:∀b∈fp,zCe X pins H b)(k:∀b o,b∉fp->s.heap.get? b=some o->h'.get? b=some o)(W:s.heap.objs.size<=q)(p:JH X.prog X.w (upd H q (.t xs)) h' q (.t xs)):Inv X pins O (upd H q (.t xs)) {s with heap:=h',toks:=t'}:=by
 have K:H q=none:=I.hok.fresh W;have a:∀b u,H b=some u->b≠q:=λb u e z=>by rw[z,K]at e;cases e
 have nf:∀b u,H b=some u->b∉fp:=λb u e z=>by rw[(Y b z).1]at e;cases e
 refine I.step (g':=s.gens) (d':=s.drawn) (ch:=fp) (λb Z=>?_) (λb o _ _ S e _=>k b o S e) (λb o _ _ S e _=>⟨o.slots,k b o S e⟩) (λb o _ e n=>?_) (λb o S e=>⟨o,k b o S e⟩)
  (λb T e=>?_) (λb o u e=>?_) (λb h e=>⟨#[],?_⟩) (λm g=>?_) (λb u e=>?_) I.bare
 ·obtain⟨_,l,_,J,L,R⟩:=Y b Z
  exact⟨J,l,L,R⟩
 ·have:b≠q:=λz=>by subst z;exact absurd (lt_of_lt_of_le (lt_size e) W) (lt_irrefl _)
  rw[z8 this];exact n
 ·rw[z8 (a b _ e)];exact e
 ·rw[z8 (a b _ e)];exact e
 ·rw[z8 (a b _ e),e];simp
 ·obtain⟨o,E,D,ho,r⟩:=g
  exact⟨o,E,D,k _ o (λz=>(Y _ z).2.1 rfl) ho,r⟩
 ·by_cases Z:b=q
  ·subst Z;rw[wN]at e;cases e;exact p
  ·rw[z8 Z]at e
   refine(I.hok b u e).stay (λc v S G=>k c v ?_ G) (λc G=>?_) λc T G=>?_
   ·rcases S with z|z
    ·rw[z];exact nf b u e
    ·exact nf c _ z
   ·rw[z8 (a c _ G)];exact G
   ·rw[z8 (a c _ G)];exact G
def Inv.turnL{t':Nat}{fp:Ls Lz}(I:Inv X pins O H s)(Y:∀b∈fp,zCe X pins H b)(k:∀b o,b∉fp->s.heap.get? b=some o->h'.get? b=some o):Inv X pins O H {s with heap:=h',toks:=t'}:=by
 have nf:∀b u,H b=some u->b∉fp:=λb u e z=>by rw[(Y b z).1]at e;cases e
 refine I.step (g':=s.gens) (d':=s.drawn) (ch:=fp) (λb Z=>?_) (λb o _ _ S e _=>k b o S e) (λb o _ _ S e _=>⟨o.slots,k b o S e⟩) (λ_ _ _ _ n=>n) (λb o S e=>⟨o,k b o S e⟩)
  (λ_ _ e=>e) (λ_ _ _ e=>e) (λb g e=>⟨#[],by rw[e];simp⟩) (λm a=>?_) (λb u e=>?_) I.bare
 ·obtain⟨_,l,_,J,L,R⟩:=Y b Z
  exact⟨J,l,L,R⟩
 ·obtain⟨o,E,D,ho,r⟩:=a
  exact⟨o,E,D,k _ o (λz=>(Y _ z).2.1 rfl) ho,r⟩
 ·refine(I.hok b u e).stay (λc v S G=>k c v ?_ G) (λ_ q=>q) λ_ _ q=>q
  rcases S with z|z
  ·rw[z];exact nf b u e
  ·exact nf c _ z
end
end L2
namespace DV
open PySem
section
variable{prog:Lc}{w:Le}{A:Li}{E:Ly}{s:La}
def st_iter{α:Type}{Q:α->La->Prop}(P:A.handled=none)(G:∀y e,(∀b o,s.heap.get? b=some o->y.get? b=some o)->(∃o,y.get? e=some o/\o.cls=.type "StopIteration")->E (.ref e) {s with heap:=y}):wpAny (model prog w) A.in1 (Builtin.SmallTypes.stopIteration:Sem α) Q E s:=by
 refine qB ?_;refine qB (wpAny_newObj_type ?_ (by size_fits));refine qB (m:=firstArgMember _ _) (wpAny_of_eq (a:=Value.none) rfl ?_);refine wpAny_newObj_type ?_ (by size_fits);have h:A.in1.handled=none:=P;refine qB (wpAny_handled ?_);rw[h];refine qB (qC (wpAny_throw ?_));exact G _ _ (λb o K=>qA _ (qA _ K)) ⟨_,get?_push_size _ rfl,rfl⟩
def sp_tup{Q:Lx Lv->La->Prop}(P:A.handled=none)(a:s.heap.IsTupleIter it t i)(r:s.heap.IsTuple t items)
  (J:∀x,items[i]?=some x->∀y,y.IsTupleIter it t (i+1)->Heap.SameBut it s.heap y->Q (some x) {s with heap:=y})
  (Y:items[i]?=none->∀y e,Heap.ExtBut it s.heap y->(∃o,y.get? e=some o/\o.cls=.type "StopIteration")->E (.ref e) {s with heap:=y}) :
  wpAny (model prog w) A (callSpecial? (.ref it) (Str.ofString "__next__")) Q E s:=by
 have⟨o,ho,S,C⟩:=id a;obtain⟨u,hu,_,n,c⟩:=r;refine wpAny_callSpecial?_slot a.typeIs F.slot_tuple_iterator_next (wpAny_call_entry F.slot_tuple_iterator_next a.typeIs F.entry_tuple_iterator_next ?_ (F.args_tuple_iterator_next_1 _));refine qB (m:=field (.ref it) 0) (wpAny_field ho C (x:=.ref t) rfl ?_);have nn:¬(Value.ref t==Value.none)=true:=qF;refine qB (m:=field (.ref it) 1) (wpAny_field ho C (x:=.int i 0) rfl ?_);refine qB (m:=seqItems? (.ref t)) (wpAny_seqItems hu c ?_);cases M:items[i]? with
 |some x =>
  dsimp[Int.toNat_natCast,M];refine qB (wpAny_setField ho C (by simp) (qC ⟨x,rfl,J x M _ ?_ (Heap.SameBut.update ..)⟩));exact⟨_,get?_update_self _ ho (Obj.isFreed_of_fields (Obj.data_mapFields C _)),(Obj.cls_mapFields ..).trans S,by rw[Obj.data_mapFields C];simp[rawInt]⟩
 |none =>
  dsimp[Int.toNat_natCast,M];refine qB (wpAny_rule (qB (wpAny_setField ho C (by simp) ?_)));refine st_iter P λy e k q=>Y M y e (λb o h K=>k b o ?_) q
  exact(Heap.SameBut.update ..).extBut b o h K
structure Src(prog:Lc)(w:Le)(A:Li)(it l:Lz)(items:Lg)(st:Lm):Prop where
 keep:∀{i:Nat} {h h':Heap},st i h->(∀b,b=it\/b=l->∀o,h.get? b=some o->h'.get? b=some o)->st i h'
 lt:∀{i:Nat} {h:Heap},st i h->it<h.objs.size
 next:∀{i:Nat} {s:La} {Q:Ly} {E:Ly},st i s.heap->(∀x,items[i]?=some x->∀h',st (i+1) h'->Heap.SameBut it s.heap h'->Q x {s with heap:=h'}) ->
  (items[i]?=none->∀h' e,Heap.ExtBut it s.heap h'->(∃o,h'.get? e=some o/\o.cls=.type "StopIteration")->E (.ref e) {s with heap:=h'})->wpAny (model prog w) A (Builtin.SmallTypes.nextOf (.ref it)) Q E s
def src_tup(P:A.handled=none)(g:t≠it)(items:Lg):Src prog w A it t items (λi h=>h.IsTupleIter it t i/\h.IsTuple t items) where
 keep:=λV k=>⟨V.1.at λo e=>k it (.inl rfl) o e,V.2.at λo e=>k t (.inr rfl) o e⟩
 lt:=λV=>by obtain⟨⟨o,e,_⟩,_⟩:=V;exact lt_size e
 next:=λ{i s Q E} V J h2=>by
  exact qB (sp_tup P V.1 V.2 (λx M y a b=>qC (J x M y ⟨a,V.2.extBut b.extBut g⟩ b)) h2)
def zGn(P:A.handled=none)(g:t≠it)(items:Lg):Src prog w A it t items (λi h=>h.IsListIter it t i/\h.IsList t items) where
 keep:=λV k=>⟨V.1.at λo e=>k it (.inl rfl) o e,V.2.at λo e=>k t (.inr rfl) o e⟩
 lt:=λV=>by obtain⟨⟨o,e,_⟩,_⟩:=V;exact lt_size e
 next:=λ{i s Q E} V J h2=>by
  cases M:items[i]? with
  |some x=>exact wpAny_nextOf_list_item V.1 V.2 M λy a b=>J x M y ⟨a,V.2.extBut b.extBut g⟩ b|none=>exact wpAny_nextOf_list_end P V.1 V.2 M (h2 M)
end
abbrev itO(c:String)(l:Lz):Obj:={cls:=.type c,data:=.fields #[.ref l,.int 0 0]}
structure Zp(h h':Heap)(c1 c2:String)(l1 l2:Lz):Prop where
 z:IsZip h' (h.objs.size+4) (h.objs.size+2) (h.objs.size+3) .none
 a:IsPair h' (h.objs.size+2) (.ref h.objs.size) (.ref (h.objs.size+1))
 b:IsPair h' (h.objs.size+3) .none .none
 i1:h'.get? h.objs.size=some (itO c1 l1)
 i2:h'.get? (h.objs.size+1)=some (itO c2 l2)
 kp:∀c o,h.get? c=some o->h'.get? c=some o
section
variable{prog:Lc}{w:Le}{A:Li}{E:Ly}{s:La}
def SqO(h:Heap)(t:Bool)(l:Lz)(xs:Lg):Prop:=if t then h.IsTuple l xs else h.IsList l xs
end
end DV
namespace DV
open PySem L2 PySem.Spec PyProof.Rows
def SqH(K:qH)(H:Hp)(t:Bool)(a:Lz)(xs:Ls V):Prop:=if t then SqT K H a xs else SqL K H a xs
section
variable{X:Cx}{pins:Ls (Lz×Obj)}{O:L2.St}{H:Hp}{s:La}{a b:Lz}{xs ys:Ls V}
def zA7(I:Inv X pins O H s)(h:SqH X.K H t a xs):∃g:Ls Lv,zq xs g/\SqO s.heap t a g.toArray:=by
 cases t with
 |true =>
  obtain⟨g,r,p,_⟩:=I.tuple h;exact⟨g,r,p⟩
 |false =>
  obtain⟨g,r,p,_⟩:=I.list h;exact⟨g,r,p.isList⟩
def sqh_inj(I:Inv X pins O H s)(h:SqH X.K H t a xs)(h':SqH X.K H t a ys):xs=ys:=by
 cases t with
 |true=>exact I.tuple_inj h h'|false=>exact I.list_inj h h'
def zIC(I:Inv X pins O H s)(h:SqH X.K H t a xs)(f:zCe X pins H b):a≠b:=by
 intro z;subst z;have x:∀o,X.K.lookup a=some o->False:=λo V=>by
  have Z:=I.ok.mod.kin a o V;have e:=I.ok.bs a o Z;rcases f.2.2.2.1 with q|q
  ·exact I.ok.noex a o Z q
  ·exact absurd (lt_of_lt_of_le (lt_size e.1) q) (lt_irrefl _)
 have k:∀u,Rd H a u->False:=λu r=>by
  rcases r with r|⟨o,r⟩<;>rw[f.1]at r<;>cases r
 cases t with
 |true =>
  rcases h with h|⟨o,g,n,V,_⟩
  ·exact k _ h
  ·exact x o V
 |false =>
  rcases h with h|⟨o,g,n,V,_⟩
  ·exact k _ h
  ·exact x o V
end
def ItA(t:Bool)(h:Heap)(it l:Lz)(i:Nat):Prop:=if t then h.IsTupleIter it l i else h.IsListIter it l i
def zID(x:ItA t h it l i)(k:∀o,h.get? it=some o->h'.get? it=some o):ItA t h' it l i:=by
 cases t with
 |true=>exact Heap.IsTupleIter.at x k|false=>exact Heap.IsListIter.at x k
def zEb(x:ItA t h it l i):∃o,h.get? it=some o/\∀v,o.data≠.cell v:=by
 cases t with
 |true=>obtain⟨o,e,c,d⟩:=x;exact⟨o,e,λv z=>by rw[d]at z;cases z⟩|false=>obtain⟨o,e,c,d⟩:=x;exact⟨o,e,λv z=>by rw[d]at z;cases z⟩
def srcA(P:A.handled=none)(t:Bool)(g:l≠it)(items:Lg):Src prog w A it l items (λi h=>ItA t h it l i/\SqO h t l items):=by
 cases t with
 |true=>exact src_tup P g items|false=>exact zGn P g items
structure Five(z TI TO i1 i2:Lz):Prop where
 a1:TI≠z
 a2:TO≠z
 a3:i1≠z
 a4:i2≠z
 a5:TI≠TO
 a6:TI≠i1
 a7:TI≠i2
 a8:TO≠i1
 a9:TO≠i2
 a10:i1≠i2
section
variable{X:Cx}{K:qH}{mg:Str->Lx Lv}{O:L2.St}{H:Hp}
def ZB(e:Yr H H')(h:SqH K H t a xs):SqH K H' t a xs:=by
 cases t with
 |true=>exact zm e h|false=>exact e.seq h
end
end DV
namespace DV
open PySem L2
section
variable{X:Cx}
def seqD:Bool->D->Lx (Ls D)
 |true,.t G=>some G|false,.l G=>some G|_,_=>none
def rep_seq{g:Str->Lx Lv}(e:seqD t d=some ds)(r:Rep K g H d v):∃a xs,v=.ref a/\SqH K H t a xs/\Reps K g H ds xs:=by
 cases t with
 |true =>
  cases d with
  |t E=>cases e;exact zh r|_=>cases e
 |false =>
  cases d with
  |l E=>cases e;exact zU r|_=>cases e
end
section
variable{X:Cx}{K:qH}{mg:Str->Lx Lv}{O:L2.St}{M:Lf}{E:zS}{H:Hp}
def zGo{J:It}{ds:Ls D}{G:Hp->Prop}{O c:L2.St}{r E':zS}{H1 k H:Hp}{i:Nat}{x:V}(it:ItOk K mg J ds G)(I:i<ds.length)(a:Got K mg M O r H1 [] c E' k [])(o:G (Hm (Mo M (c.zip E')) k))(y:J.yld i k x H) :
  ∃d,ds[i]?=some d/\Got K mg M O r H1 [] c E' H []/\G (Hm (Mo M (c.zip E')) H)/\Rep K mg (Hm (Mo M (c.zip E')) H) d x:=by
 obtain⟨d,C,h⟩:=it.yld i _ _ x _ zM o I y;rcases h with⟨rfl,w⟩|⟨q,Y,E,W,rfl,rfl,rfl,u⟩
 ·exact⟨d,C,a,o,w⟩
 ·have f:FR K mg M k (c.zip E'):=a.fr
  have l:=f.newTup W u;have R:Step M k (c.zip E') (upd k q (.t Y)) ((some (.ref q),.v (.t E))::c.zip E'):=Step.newVal W;obtain⟨v,ev,j⟩:=l.val _ _ qE;cases ev;have z:=R.same;rw[Wx]at j z;have g:Step M k (c.zip E') (upd k q (.t Y)) (c.zip E'):=⟨z,R.keep⟩;exact⟨_,C,⟨a.len,l.tail,a.st.trans g,a.pk⟩,it.mono _ _ z o,j⟩
def sForI(mi:MI)(tg:MG)(body:MS):MS:=λE=>match mi E with
 | .z=>.z| .y x E1=>.y x E1| .ok (ds,E1)=>Z3 tg body ds E1
def zGp{mi:MI}{tg:MG}{g:TG}{body:MS}{D:Ends}(t:GOk X g tg)(h:tS X (sForI mi tg body) D O H):tFor (tMI X mi) g (tS X body) D O H:=by
 obtain⟨M,E,hl,fr,k⟩:=zBp h;unfold sForI at k;refine⟨M,E,hl,fr,?_⟩;cases P:mi E with
 |z=>rw[P]at k;exact k|y x E1=>rw[P]at k;exact λH' g=>k O H' g
 |ok p =>
  obtain⟨G,E1⟩:=p;rw[P]at k;intro J Iv H1 it r o;refine⟨λi m O1 H2=>m=G.length-i/\i<=G.length/\∃E2,Got X.K X.mg M O E H [] O1 E2 H2 []/\Iv (Hm (Mo M (O1.zip E2)) H2)/\Fin X M O E H D (Z3 tg body (G.drop i) E2),⟨G.length,by simp,zero_le _,E1,o,r,k⟩,?_⟩
  rintro i m O1 H2 ⟨rfl,R,E2,Z,a,l⟩
  by_cases I:i<G.length
  ·refine .inr ⟨it.go i _ H2 zM a I,λO3 H3=>i+1<=G.length/\∃E3,Got X.K X.mg M O E H [] O3 E3 H3 []/\Iv (Hm (Mo M (O3.zip E3)) H3)/\Fin X M O E H D (Z3 tg body (G.drop (i+1)) E3),λO3 H3 q=>⟨G.length-(i+1),by lia,rfl,q⟩,λx H3 y=>?_⟩
   obtain⟨d,C,S,T,w⟩:=zGo it I Z a y;have c:G.drop i=d::G.drop (i+1):=by
    obtain⟨K,rfl⟩:=qG.mp C;exact drop_eq_getElem_cons K
   rw[c]at l;exact GW t S w l λO4 E4 H4 n V j=>⟨I,E4,n,it.mono _ _ V.same T,j⟩
  ·have e:i=G.length:=by lia
   subst e;rw[List.drop_length]at l;exact .inl ⟨it.stop _ _ H2 zM a (le_refl _),l O1 H2 Z⟩
def sk_forI(L:PassesOwn (model X.prog X.w) X.A X.env X.xe)(S:X.calm=true)(hi:IOk X tgt iter mi)(t:PG X tgt g)(J:GOk X g tg)(Z:zAp X body mb)
  (T:∀x,foldedSetIterable iter X.env x=pure x:=by intro _;rfl):SOk X (.For tgt iter body [] pos) (sForI mi tg mb):=jD (zBg L S hi t Z T) λD O H=>zGp J
end
end DV
namespace DV
open PySem L2 PySem.Spec PyProof.Rows
section
variable{prog:Lc}{w:Le}{A:Li}{E:Ly}{s:La}
def en_next{e it l:Lz}{k:Nat}{items:Lg}{st:Lm}{old:Lv}{Q:Ly}(S:Src prog w A it l items st)(ne:e≠it)(nl:l≠e)(c:IsEnum s.heap e it k old)(J:st k s.heap)
  (z:∀x,items[k]?=some x->∀y,IsEnumOut y e it ((k:Int)+1) x s.heap.objs.size->st (k+1) y->IsPair y s.heap.objs.size (.int k s.toks) x->(∀b o,b≠e->b≠it->s.heap.get? b=some o->y.get? b=some o)->Q (.ref s.heap.objs.size) {s with heap:=y,toks:=s.toks+1})
  (hE:items[k]?=none->∀y x,Heap.ExtBut it s.heap y->(∃o,y.get? x=some o/\o.cls=.type "StopIteration")->E (.ref x) {s with heap:=y}) :
  wpAny (model prog w) A (Builtin.«enumerate.__next__» ⟨[.ref e],[]⟩) (λV j=>∃v,V=.done (.ret v)/\Q v j) E s:=by
 obtain⟨L,g,d,M,p⟩:=s;refine qB (m:=field (.ref e) 2) (wpAny_field c rfl (x:=.ref it) rfl (qB (S.next J (λx hx g1 R r=>?_) hE)));have r:Heap.SameBut it L g1:=r;have W:IsEnum g1 e it k old:=(r.2 e ne).trans c;refine qB (m:=field (.ref e) 3) (wpAny_field W rfl (x:=rawInt k) rfl ?_);refine qB (m:=field (.ref e) 4) (wpAny_field W rfl (x:=.none) rfl ?_);refine qB (m:=mkInt k) (wpAny_mkInt ?_);refine qB (m:=setField (.ref e) 3 (rawInt ((k:Int)+1))) (wpAny_setField_rec W (by simp) λg2 P t=>?_);have t:Heap.SameBut e g1 g2:=t;have P:IsEnum g2 e it ((k:Int)+1) old:=P;refine qB (m:=setField (.ref e) 4 .none) (wpAny_setField_rec P (by simp) λg3 n C=>?_);have C:Heap.SameBut e g2 g3:=C;have n:IsEnum g3 e it ((k:Int)+1) old:=n;refine qB (m:=newTuple [.int k M,x]) (wpAny_newTuple ?_);have sz:g3.objs.size=L.objs.size:=by rw[C.1,t.1,r.1]
 have O:e<L.objs.size:=lt_size c;have u:IsEnum (g3.push {cls:=.type "tuple",data:=.seq #[.int k M,x]}) e it ((k:Int)+1) old:=qA _ n;have G:IsPair (g3.push {cls:=.type "tuple",data:=.seq #[.int k M,x]}) L.objs.size (.int k M) x:=by rw[<- sz];exact get?_push_size _ rfl
 have Y:∀b o,b≠e->g1.get? b=some o->(g3.push {cls:=.type "tuple",data:=.seq #[.int k M,x]}).get? b=some o:=λb o h q=>qA _ (C.extBut b o h (t.extBut b o h q))
 generalize g3.push {cls:=.type "tuple",data:=.seq #[.int k M,x]}=g4 at u G Y;refine qB (m:=Builtin.SmallTypes.ownedTupleIsFree (.ref e)) ?_;rw[sz];unfold Builtin.SmallTypes.ownedTupleIsFree;refine qB (wpAny_field u rfl (x:=.none) rfl (qC ?_));dsimp[if_true];refine qB (wpAny_rule (qB (wpAny_field u rfl (x:=old) rfl (qB (wpAny_setField_rec u (by simp) λg5 H I=>?_)))));have I:Heap.SameBut e g4 g5:=I;have H:IsEnum g5 e it ((k:Int)+1) x:=H;refine qB (m:=Builtin.SmallTypes.ownedTupleHandOut (.ref e) (.ref L.objs.size)) ?_;unfold Builtin.SmallTypes.ownedTupleHandOut;refine qB (wpAny_setField_rec H (by simp) λg6 X D=>?_);have D:Heap.SameBut e g5 g6:=D;have X:IsEnumOut g6 e it ((k:Int)+1) x L.objs.size:=X;refine wpAny_setField_rec X (by simp) λg7 T i=>?_
 have i:Heap.SameBut e g6 g7:=i;have T:IsEnumOut g7 e it ((k:Int)+1) x L.objs.size:=T;have K:∀b o,b≠e->g4.get? b=some o->g7.get? b=some o:=λb o h q=>i.extBut b o h (D.extBut b o h (I.extBut b o h q))
 refine qB (wpAny_letGo (qC ⟨_,rfl,z x hx g7 T (S.keep R λb Z o q=>?_) (K _ _ (ne_of_gt O) G) λb o h a q=>K b o h (Y b o h (r.extBut b o a q))⟩));have h:b≠e:=by rcases Z with rfl|rfl;exact ne.symm;exact nl
 exact K b o h (Y b o h q)
def Q9{e it l:Lz}{k:Nat}{items:Lg}{st:Lm}{G:Lv}{Q:Lx Lv->La->Prop}(S:Src prog w A.in1 it l items st)(j:e≠it)(nl:l≠e)(c:IsEnum s.heap e it k G)(J:st k s.heap)
  (z:∀x,items[k]?=some x->∀a,IsEnumOut a e it ((k:Int)+1) x s.heap.objs.size->st (k+1) a->IsPair a s.heap.objs.size (.int k s.toks) x->(∀b o,b≠e->b≠it->s.heap.get? b=some o->a.get? b=some o)->Q (some (.ref s.heap.objs.size)) {s with heap:=a,toks:=s.toks+1})
  (n:items[k]?=none->∀a,(∀b o,b≠it->s.heap.get? b=some o->a.get? b=some o)->Q none {s with heap:=a}):wpAny (model prog w) A (pyNext (.ref e)) Q E s:=by
 have hT:s.TypeIs (.ref e) "enumerate":=⟨_,c,rfl⟩;unfold pyNext;refine qB (wpAny_attempt (wpAny_callSpecial?_slot hT F.slot_enumerate_next (wpAny_call_entry F.slot_enumerate_next hT F.entry_enumerate_next (en_next S j nl c J (λx M a Z g u H=>?_) λM a y V q=>?_) (F.args_enumerate_next_1 _))))
 ·exact qC (z x M a Z g u H)
 ·obtain⟨o,ho,i⟩:=q
  exact qB (wpAny_isInstance (T:="StopIteration") (b:=true) ⟨o,ho,i⟩ isSubtype_stop (qC (n M a λb o h e=>V b o h e)))
end
def Ite(K:qH)(t:Bool)(a:Lz):It :=
 ⟨λi H=>∃Y,SqH K H t a Y/\i<Y.length,
  λi H x H'=>∃q u,(∀Y,SqH K H t a Y->Y[i]?=some u)/\H q=none/\H'=upd H q (.t [.int i,u])/\x=.ref q,
  λi H=>∃Y,SqH K H t a Y/\Y.length<=i⟩
def ESt(e it:Lz)(t:Bool)(a:Lz)(i:Nat)(h:Heap):Prop:=(∃G,IsEnum h e it i G)/\ItA t h it a i
def zEc{P:Lc}{w:Le}{K:qH}{aa:Ls Lb}{x1}{g:Pos}{e it:Lz}(ne:e≠it)(t:Bool)(a:Lz):Turn P w K (.Tuple aa x1 g) (Ite K t a) [e,it] e (ESt e it t a) where
 mem:=by simp
 obj:=λi h V c S=>by
  obtain⟨⟨G,he⟩,J⟩:=V;dsimp[mem_cons,mem_nil_iff,or_false]at S;rcases S with rfl|rfl
  ·exact⟨_,he,λv z=>by cases z⟩
  ·exact zEb J
 keep:=λi h y V k=>by
  obtain⟨⟨G,he⟩,J⟩:=V;exact⟨⟨G,k e (by simp) _ he⟩,zID J λo q=>k it (by simp) o q⟩
 item:=by
  intro X r C D S i ab s O H E I hf V hg;subst r C D;obtain⟨⟨G,he⟩,J⟩:=V;obtain⟨Y,q1,l1⟩:=hg;obtain⟨us,l,Q⟩:=zA7 I q1;have T:∀c∈[e,it],a≠c:=λc S=>zIC I q1 (hf c S)
  have hh:X.A.in1.handled=none:=I.ok.hd S;obtain⟨u,n⟩:∃u,Y[i]?=some u:=⟨_,getElem?_eq_getElem l1⟩;obtain⟨u',L,ru⟩:=l.get n;refine Q9 (srcA hh t (T it (by simp)) us.toArray) ne (T e (by simp)) he ⟨J,Q⟩ (λx M y o1 R W j=>?_) (λM=>?_)
  ·have ex:x=u':=by simp[L]at M;exact M.symm
   subst ex;refine⟨_,rfl,wpAny_letOwnedTupleGo_enum o1 λh2 z2 b2=>?_⟩;have lt:∀{c o},s.heap.get? c=some o->s.heap.objs.size≠c:=λq=>ne_of_gt (lt_size q)
   have Z:IsPair h2 s.heap.objs.size (.int i s.toks) x:=b2.extBut _ _ (lt he) W;have k2:∀c o,c∉[e,it]->s.heap.get? c=some o->h2.get? c=some o:=λc o S q=>b2.extBut _ _ (λz=>S (by simp[z])) (j c o (λz=>S (by simp[z])) (λz=>S (by simp[z])) q)
   have p:JH X.prog X.w (upd H s.heap.objs.size (.t [.int i,u])) h2 s.heap.objs.size (.t [.int i,u]):=⟨by simp[sizeLine_eq],[.int i s.toks,x],.cons ⟨_,rfl⟩ (.cons ru .nil),⟨_,Z,rfl,_,rfl⟩⟩;have I2:=I.turnLay (t':=s.toks+1) hf k2 (le_refl _) p;have fresh:H s.heap.objs.size=none:=I.hok.fresh (le_refl _);refine⟨.ref s.heap.objs.size,_,I2,rfl,⟨_,u,λzs hz=>by rw[sqh_inj I hz q1];exact n,fresh,rfl,rfl⟩,⟨⟨_,by have:=z2;exists this⟩,zID R.1 λo q=>b2.extBut _ _ ne.symm q⟩,λc S=>?_⟩;have:c≠s.heap.objs.size:=λq=>by
    obtain⟨o,e⟩:∃o,s.heap.get? c=some o:=by
     dsimp[mem_cons,mem_nil_iff,or_false]at S;rcases S with rfl|rfl
     ·exact⟨_,he⟩
     ·obtain⟨o,e,_⟩:=zEb J;exact⟨o,e⟩
    exact lt e q.symm
   rw[z8 this];exact(hf c S).1
  ·exfalso
   simp[L]at M
 done:=by
  intro X r C D S i ab s O H E I hf V hg;subst r C D;obtain⟨⟨G,he⟩,J⟩:=V;obtain⟨Y,q1,l1⟩:=hg;obtain⟨us,l,Q⟩:=zA7 I q1;have T:∀c∈[e,it],a≠c:=λc S=>zIC I q1 (hf c S)
  have hh:X.A.in1.handled=none:=I.ok.hd S;have e1:=l.length;refine Q9 (srcA hh t (T it (by simp)) us.toArray) ne (T e (by simp)) he ⟨J,Q⟩ (λx M=>?_) (λM y j=>⟨rfl,?_⟩)
  ·exfalso
   simp at M
   have a1:=(qG.mp M).1;lia
  ·exact I.turnL (t':=s.toks) hf λc o S q=>j c o (λz=>S (by simp[z])) q
 self:=λ_ _ _ _ _ V h=>by
  obtain⟨⟨G,he⟩,_⟩:=V;exact wpAny_pyIter_enum he h
end DV
namespace DV
open PySem L2 PySem.Spec PyProof.Rows
open AutoSeq1 (wpAny_loadPart')
abbrev enH(h:Heap)(c:String)(l:Lz):Heap:=(h.push (itO c l)).push {cls:=.type "enumerate",data:=.fields #[.none,.bool false,.ref h.objs.size,rawInt 0,.none,.none]}
def en_newT(l:Lz)(items:Lg)(n:Nat)(o:Lx Lz)(D:Lj) :
  Meets (Builtin.«enumerate.__new__» ⟨[.type "enumerate",.ref l],[]⟩) (λ_ R s=>s.heap.get? l=some {cls:=.type "tuple",dict:=o,data:=.seq items n,slots:=D}/\R (.ok (.ret (.ref (s.heap.push (itO "tuple_iterator" l)).objs.size))) {s with heap:=enH s.heap "tuple_iterator" l}) :=
 .of_wp λG w A R s h=>by
  obtain⟨L,g,d,M,p⟩:=s;obtain⟨hl,h⟩:=h;have T:=sub_enumerate;have Z:Heap.IsTuple (Shared.heap ⟨L,g,d,M,p⟩) l items:=⟨_,hl,rfl,n,rfl⟩
  wp_walk using wpAny_loadPart' hl
  refine wpAny_stack_any λV=>qC ?_
  split
  ·rename_i c _ _ _ _ _
   cases (c==Value.type "enumerate")<;>(wp_walk using wpAny_loadPart' hl,wpAny_pyIter_tuple Z;exact⟨_,rfl,h⟩)
  ·wp_walk using wpAny_loadPart' hl,wpAny_pyIter_tuple Z;exact⟨_,rfl,h⟩
section
variable{prog:Lc}{w:Le}{A:Li}{E:Ly}{s:La}
structure En(h h':Heap)(c:String)(l:Lz):Prop where
 e:IsEnum h' (h.objs.size+1) h.objs.size 0 .none
 i:h'.get? h.objs.size=some (itO c l)
 kp:∀b o,h.get? b=some o->h'.get? b=some o
def en_call{Q:Ly}(J:SqO s.heap t l xs)(h:∀y,(IsEnum y (s.heap.objs.size+1) s.heap.objs.size 0 .none)->ItA t y s.heap.objs.size l 0->(∀b o,s.heap.get? b=some o->y.get? b=some o)->Q (.ref (s.heap.objs.size+1)) {s with heap:=y}):wpAny (model prog w) A (call (.type "enumerate") [.ref l]) Q E s:=by
 cases t with
 |false =>
  exact call_enumerate_list J λy a b c k=>h y a b k
 |true =>
  obtain⟨⟨M,dd,p,D⟩,e,c,n,d⟩:=(J:s.heap.IsTuple l xs);simp only at c d;subst c d;refine callType_new F.called_enumerate (by decide) (F.typeCall_enumerate_1 _) (F.newCall_enumerate_1 _) (λO=>F.args_object_init_2 O _) F.entry_enumerate_new (en_newT l xs n dd D) ⟨e,?_⟩;have hz:(s.heap.push (itO "tuple_iterator" l)).objs.size=s.heap.objs.size+1:=size_push ..;have I:(enH s.heap "tuple_iterator" l).get? (s.heap.push (itO "tuple_iterator" l)).objs.size=some _:=get?_push_size _ rfl;rw[hz]at I;show _/\_;rw[hz];exact⟨⟨_,I,rfl⟩,h _ I ⟨_,qA _ (get?_push_size _ rfl),rfl,rfl⟩ λb o x=>qA _ (qA _ x)⟩
end
section
variable{X:Cx}{K:qH}{mg:Str->Lx Lv}{O:L2.St}{H:Hp}
def iEnum(K:qH)(t:Bool)(w:TA):TI:=λO H R=>w O H λL H1=>∃a Y,L=[.ref a]/\SqH K H1 t a Y/\R (Ite K t a) H1
def bt_enum:bootBuiltins "enumerate"=some (.type "enumerate"):=by left
def pi_enum{x1}(n:Gl X "enumerate")(Y:X.mg "enumerate"=none)(C:PA X [e] ta)(T:starEach [e] X.env=[(false,eval e X.env)]:=by rfl) :
  PI X (.Tuple elts x1 tp) (.Call (.Name "enumerate" p) [e] [] pos) (iEnum X.K t ta):=by
 intro G s O H R I h;refine Call_ (Y1 I n Y bt_enum (PyProof.Rows.callWith_type1 (thn (C pos G s O H _ I h) λD j ⟨L,H1,I1,l,K⟩=>?_) T rfl));obtain⟨a,w,ev,i,q⟩:=K;subst ev;cases l with
 |cons r o =>
  cases o;cases r;obtain⟨u,k,Q⟩:=zA7 I1 i;refine en_call Q λy g v kp=>?_
  refine wpAny_pyIter_enum (s:={j with heap:=y}) g ?_
  have fr:∀c,j.heap.objs.size<=c->zCe X G H1 c:=λc S=>I1.fpOk S (I1.hok.fresh S)
  have nn:j.heap.objs.size+1≠j.heap.objs.size:=λz=>by have:=Nat.succ_ne_self j.heap.objs.size;exact this z
  refine⟨_,[j.heap.objs.size+1,j.heap.objs.size],_,_,H1,rfl,I1.kept (t':=j.toks) kp,zEc nn t a,⟨⟨_,g⟩,v⟩,λc S=>?_,q⟩;dsimp[mem_cons,mem_nil_iff,or_false]at S;rcases S with rfl|rfl
  ·exact fr _ (le_succ _)
  ·exact fr _ (le_refl _)
def zDK:Nat->Ls D->Ls D
 |_,[]=>[]|n,d::ds=>.t [.int (n:Int),d]::zDK (n+1) ds
theorem Wd:∀(G:Ls D) (n:Nat),(zDK n G).length=G.length
 | [],_=>rfl|d::G,n=>by simp[zDK,Wd G]
theorem Gs:∀(G:Ls D) (n i:Nat) (d:D),G[i]?=some d->(zDK n G)[i]?=some (.t [.int ((n+i:Nat):Int),d])
 | [],_,_,_,h=>by simp at h|e::G,n,0,d,h=>by simp at h;subst h;simp[zDK]
 |e::G,n,i+1,d,h=>by
  dsimp[List.getElem?_cons_succ]at h;have:=Gs G (n+1) i d h;dsimp[zDK,List.getElem?_cons_succ];rw[this,show n+1+i=n+(i+1)by lia]
def it_enum:ItOk K mg (Ite K t a) (zDK 0 ds) (λH=>SqH K H t a xs/\Reps K mg H ds xs) where
 mono:=λH H' s h=>⟨ZB s h.1,h.2.mono s⟩
 go:=λi Hh H s h R=>by
  rw[Wd]at R;exact⟨xs,ZB s h.1,by rw[h.2.length];lia⟩
 yld:=λi Hh H x H' s h R y=>by
  obtain⟨q,u,J,c,rfl,rfl⟩:=y;have W:=J xs (ZB s h.1);obtain⟨d,I,l⟩:=h.2.get W;refine⟨_,Gs ds 0 i d I,.inr ⟨q,[.int (i:Int),u],[.int ((0+i:Nat):Int),d],c,rfl,rfl,rfl,Reps.cons (by rw[zero_add];dsimp[Rep]) (Reps.cons l Reps.nil)⟩⟩
 stop:=λi Hh H s h R=>by
  rw[Wd]at R;exact⟨xs,ZB s h.1,by rw[h.2.length];lia⟩
def iE(t:Bool)(m:MA):MI:=λE=>match m E with
 | .z=>.z| .y x E1=>.y x E1
 | .ok ([r],E1)=>match seqD t r.d with
  |some G=>.ok (zDK 0 G,E1)|none=>.z
 |_=>.z
def io_enum{x1}(h:Gl X "enumerate")(i:X.mg "enumerate"=none)(C:AOk X [a] m)(T:za a=false:=by rfl) :
  IOk X (.Tuple elts x1 tp) (.Call (.Name "enumerate" p) [a] [] cpos) (iE t m):=uj (pi_enum h i C (zAx T)) λO H R ⟨M,E,hl,fr,k⟩=>by
 unfold iE at k;refine Jp (T0:=[]) hl fr ?_;exists ea,m E,k,rs,E1
 match rs,k with
 | [r],k =>
  intro L H1 hv I;have e:=Got.reps hv I;dsimp at k;exists ed,seqD t r.d,k,ds;dsimp[List.map]at e;obtain⟨v,rfl,J⟩:=JQ e;obtain⟨c,Y,rfl,g,j⟩:=rep_seq ed J;exact⟨c,Y,rfl,ZB zM g,k _ _ H1 it_enum ⟨g,j⟩ I.dropAll⟩
 | [],k=>exact k.elim|_::_::_,k=>exact k.elim
end
end DV
namespace PySem
open Sem (wp)
open AutoSeq1 (wpAny_loadPart')
end PySem
namespace L2
open PySem PySem.Spec PyProof.Rows
end L2
namespace DV
open PySem L2
mutual
/-- no list within -/
def nol:D->Bool
 | .non=>true| .bl _=>true| .int _=>true| .str _=>true| .fn _=>true| .t G=>nols G|_=>false
def nols:Ls D->Bool
 | []=>true|d::ds=>nol d&&nols ds
end
def zIE:Slot->Bool
 | .w G=>nols G| .p G=>nols G| .m _ _=>false|_=>true
open Classical in
def zEd(i:Nat)(t:MT):MT:=λE=>match E[i]? with
 |some (.w G)=>if(E.set i .e).all zIE=true then(match t (E.set i (.v (.l G)))with
  | .ok (b,E1)=>if E1=E.set i (.v (.l G))then .ok (b,E)else .z|_=>.z)else .z
 |some (.v _)=>t E|_=>.z
section
variable{X:Cx}{K:qH}{mg:Str->Lx Lv}{P P':Lf}{H:Hp}{a:Lz}{xs:Ls V}
mutual
theorem rep_nol(C:H a=some (.l xs))(L:∀b,P' b->P b\/b=a):∀(d:D) (v:V),nol d=true->Rep K mg (Hm P H) d v->Rep K mg (Hm P' H) d v
 | .non,v,_,h=>h| .bl _,v,_,h=>h| .int _,v,_,h=>h| .str _,v,_,h=>h| .fn _,v,_,h=>h
 | .t G,v,n,h=>by
  obtain⟨c,T,e,s,r⟩:=h;refine⟨c,T,e,?_,reps_nol C L G T n r⟩;rcases s with(s|⟨o,s⟩)|s
  ·obtain⟨R,g⟩:=zP.mp s
   refine .inl (.inl (zP.mpr ⟨λq=>?_,g⟩));rcases L c q with q|q
   ·exact R q
   ·subst q;rw[C]at g;cases g
  ·obtain⟨R,g⟩:=zP.mp s
   refine .inl (.inr ⟨o,zP.mpr ⟨λq=>?_,g⟩⟩);rcases L c q with q|q
   ·exact R q
   ·subst q;rw[C]at g;cases g
  ·exact .inr s
 | .l _,v,n,h=>by cases n| .dic,v,n,h=>by cases n| .exn _ _,v,n,h=>by cases n
theorem reps_nol(C:H a=some (.l xs))(c:∀b,P' b->P b\/b=a):∀(G:Ls D) (L:Ls V),nols G=true->Reps K mg (Hm P H) G L->Reps K mg (Hm P' H) G L
 | [],L,_,h=>h
 |d::G,L,n,h=>by
  obtain⟨v,r,e,J,h2⟩:=h;obtain⟨X,g⟩:=Bool.and_eq_true_iff.mp n;exact⟨v,r,e,rep_nol C c d v X J,reps_nol C c G r g h2⟩
end
def ok_bor(i:Nat)(h:TOk X e t):TOk X e (zEd i t):=Qp h λO H Q ⟨M,E,hl,f,k⟩=>by
 unfold zEd at k;cases P:E[i]? with
 |none=>rw[P]at k;exact k.elim
 |some sl =>
 rw[P]at k;cases sl with
 |e=>exact k.elim|p G=>exact k.elim|m _ _=>exact k.elim|v d=>exact⟨M,E,hl,f,k⟩
 |w G =>
  dsimp at k;by_cases Z:(E.set i .e).all zIE=true
  ·rw[if_pos Z]at k
   obtain⟨o,J,h2⟩:=JN hl P;obtain⟨a,xs,rfl,K,q2,q3⟩:=f.ownL o (.w G) G (mem_of_getElem? h2) rfl;have I:i<(O.zip E).length:=(qG.mp h2).1;have p:(O.zip E).Perm ((some (.ref a),R.slot (.w G))::(O.zip E).eraseIdx i):=by
    have:=zQ (some (V.ref a),Slot.w G) (O.zip E) i I;rw[JM h2]at this;exact this
   have f1:=(f.perm p).frz;have n:FR X.K X.mg M H ((O.zip E).set i (some (.ref a),.v (.l G))):=f1.perm (zQ _ _ _ I).symm;have ez:O.zip (E.set i (.v (.l G)))=(O.zip E).set i (some (.ref a),.v (.l G)):=zg (.v (.l G)) J;rw[<- ez]at n;have D:(O.zip (E.set i (.v (.l G)))).Perm ((some (.ref a),Slot.v (.l G))::(O.zip E).eraseIdx i):=by rw[ez];exact zQ _ _ _ I
   -- what the one yH and the other
   have oz:∀b,b∈yH (O.zip E)↔b=a\/b∈yH (O.zip (E.set i (.v (.l G)))):=λb=>by
    constructor
    ·intro q
     have q:=zB p b q;rcases mem_cons.mp (show b∈a::yH ((O.zip E).eraseIdx i)from q)with q|q
     ·exact .inl q
     ·exact .inr (zB D.symm b (by rw[zV];exact q))
    ·intro q
     rcases q with q|q
     ·subst q;exact Wy (mem_of_getElem? h2) rfl rfl
     ·have q:=zB D b q
      rw[zV]at q;exact zB p.symm b (qD a q)
   have T:¬Mo M (O.zip (E.set i (.v (.l G)))) a:=λq=>by
    rcases q with q|q
    ·exact q2 q
    ·have q:=zB D a q
     rw[zV]at q;have nd:(yH ((some (V.ref a),Slot.w G)::(O.zip E).eraseIdx i)).Nodup:=(p.filterMap zAo).nodup_iff.mp f.nd;exact(nodup_cons.mp nd).1 q
   have mo:∀b,Mo M (O.zip E) b->Mo M (O.zip (E.set i (.v (.l G)))) b\/b=a:=λb q=>by
    rcases q with q|q
    ·exact .inl (.inl q)
    ·rcases(oz b).mp q with q|q
     ·exact .inr q
     ·exact .inl (.inr q)
   have L:∀b,Mo M (O.zip (E.set i (.v (.l G)))) b->Mo M (O.zip E) b:=λb q=>by
    rcases q with q|q
    ·exact .inl q
    ·exact .inr ((oz b).mpr (.inr q))
   refine⟨M,E.set i (.v (.l G)),by simp[hl],n,?_⟩;cases C:t (E.set i (.v (.l G)))with
   |z=>rw[C]at k;exact k.elim|y x E1=>rw[C]at k;exact k.elim
   |ok pr =>
    obtain⟨b,E1⟩:=pr;rw[C]at k;dsimp at k;by_cases hE:E1=E.set i (.v (.l G))
    ·rw[if_pos hE]at k
     subst hE;intro H' g;refine k H' ⟨hl,?_,?_,PKp.refl⟩
     ·have ha:H' a=some (.l xs):=(zP.mp (g.st.same a _ (zP.mpr ⟨T,K⟩))).2
      have sm:Yr (Hm (Mo M (O.zip E)) H) (Hm (Mo M (O.zip E)) H'):=λc u x=>by
       obtain⟨x1,x2⟩:=zP.mp x;exact zP.mpr ⟨x1,(zP.mp (g.st.same c u (zP.mpr ⟨λq=>x1 (L c q),x2⟩))).2⟩
      refine⟨λo d q=>?_,λo s es q aa=>?_,f.nd,g.fr.mal⟩
      ·obtain⟨v,W,r⟩:=f.val o d q
       exact⟨v,W,r.mono sm⟩
      ·obtain⟨c,ys,W,e2,e3,r⟩:=f.own o s es q aa
       by_cases S:c=a
       ·subst S
        rw[e2]at K;cases K;exact⟨c,_,W,ha,e3,r.mono sm⟩
       ·-- another one's list
        subst W;obtain⟨j,l⟩:=List.getElem?_of_mem q;replace l:(O.zip E)[j]?=some (some (.ref c),s):=l;have Y:j≠i:=λq=>by
         subst q;rw[l]at h2;cases h2;exact S rfl
        have ac:(O.zip (E.set i (.v (.l G))))[j]?=some (some (.ref c),s):=by
         rw[ez,getElem?_set_ne (Ne.symm Y)];exact l
        have nb:∃ls,es=.l ls/\nols ls=true:=by
         have ad:(E.set i .e)[j]?=some s:=by
          rw[getElem?_set_ne (Ne.symm Y)];exact(getElem?_zip_eq_some.mp l).2
         have:=all_eq_true.mp Z s (mem_of_getElem? ad);cases s with
         |e=>cases aa|v d=>cases aa|w ag=>cases aa;exact⟨_,rfl,this⟩|p ag=>cases aa;exact⟨_,rfl,this⟩|m _ _=>cases this
        obtain⟨ls,rfl,nb⟩:=nb;obtain⟨c',_,af,ah,ae,ab,rfl,r'⟩:=g.fr.own _ s _ (mem_of_getElem? ac) aa;cases af;exact⟨c,_,rfl,ah,ae,ab,rfl,reps_nol ha mo ls ab nb r'⟩
     ·refine⟨λc u x=>?_,g.st.keep⟩
      obtain⟨x1,x2⟩:=zP.mp x;exact zP.mpr ⟨x1,(zP.mp (g.st.same c u (zP.mpr ⟨λq=>x1 (L c q),x2⟩))).2⟩
    ·rw[if_neg hE]at k;exact k.elim
  ·rw[if_neg Z]at k;exact k.elim
def zEe(mi:MI)(tg:MG)(body:MS):MS:=λE=>match mi E with
 | .y x E1=>.y x E1
 |_=>(match sForI mi tg body E with
  | .y _ _=>.z|o=>o)
def ps_forX(hi:PI X tg iter wi)(j:∀x,foldedSetIterable iter X.env x=pure x):PS X (.For tg iter body [] pos) (λD O H=>wi O H λ_ _=>False):=by
 intro G s O H D I h;refine wpAny_For (thn (hi G s O H _ I h) λv R c=>thn c λi g h2=>?_) j;obtain⟨it,a,P,J,H2,e,I2,T,q,n,f⟩:=h2;exact f.elim
end
def tupI:D->Lx (Ls Int)
 | .t G=>wg G|_=>none
def ZZ:Ls D->Lx (Ls (Ls Int))
 | []=>some []
 |d::G=>match tupI d,ZZ G with
  |some a,some as=>some (a::as)|_,_=>none
section
variable{X:Cx}{O:L2.St}{pins:Ls (Lz×Obj)}{H:Hp}{s:La}{K:qH}{mg:Str->Lx Lv}
def MtM.or{id:String}{r a:V->Ls V->Hp->VK->Prop}(h:MtM X id r)(h':MtM X id a):MtM X id (λx L H Q=>r x L H Q\/a x L H Q):=by
 intro G s O H x L v D Q I w j q;rcases q with q|q
 ·exact h G s O H x L v D Q I w j q
 ·exact h' G s O H x L v D Q I w j q
end
end DV
namespace DV
open PySem L2 PyProof.Rows PySem.Calls
section
variable{prog:Lc}{w:Le}{A:Li}{R:Result->La->Prop}{I:Lz}{fp wr:Ls Lz}{n:Nat}{P:Nat->Lv->Prop}{St:Lm}{J:Heap->Prop}
def CmpJ(prog:Lc)(w:Le)(A:Li)(op:CmpOp)(P:Nat->Lv->Prop)(a:Nat->Nat->Bool)(J:Heap->Prop):Prop :=
 ∀i j e n (s:La) (Q:Ly) (E:Ly),J s.heap->P i e->P j n->Q (.bool (a i j)) s->wpAny (model prog w) A (richCompare op e n) Q E s
def zEf(W:Walks prog w A.in1 I fp wr n P St)(a:Nat->Nat->Bool)(ab:CmpJ prog w A.in1 .Lt P a J)(S:Lz)(G:S∉fp)(H:∀h h':Heap,J h->(∀b o,b∉wr->b≠S->h.get? b=some o->h'.get? b=some o)->J h') :
  ∀(k j:Nat) (s:La) (y:Lv) (c:Nat),n-(j+1)=k->j+1<=n->St (j+1) s.heap->J s.heap->P (argBest a j) y ->
  s.heap.get? S=some {cls:=.type "list",dict:=none,data:=.seq #[y,y] c,slots:=#[]} ->
  (∀v h' M,P (argBest a (n-1)) v->(∀b o,b∉wr->b≠S->s.heap.get? b=some o->h'.get? b=some o)->R (.ok (.ret v)) {s with heap:=h',toks:=M}) ->
  codeAny (model prog w) A (.builtin "min.loop" ⟨[.ref I,.none,.ref S],[]⟩) R s:=by
 have Q:S∉wr:=λh=>G (W.sub _ h)
 have ac:(toString "min"++toString ".loop":String)="min.loop":=by decide
 intro k
 induction k with
 |zero =>
  intro j s y c hk hj T z D X C;have L:j+1=n:=by lia
  refine codeAny_builtin F.entry_min_loop ?_;refine qB (wpAny_seqItems X rfl ?_);refine qB (wpAny_tryCatch (W.done s _ _ (L▸T) λh' M O=>?_));have x:=O S _ Q X;refine qB ?_;refine wpAny_updateSeq x rfl (qB (wpAny_letGo (qC ?_)));refine C y _ M (by rw[<- L];exact D) λb o g i e=>(get?_update_other _ _ (Ne.symm i)).trans (O b o g e)
 |succ k u =>
  intro j s y c hk hj T z D X C;have aa:j+1<n:=by lia
  refine codeAny_builtin F.entry_min_loop ?_;refine qB (wpAny_seqItems X rfl ?_);refine qB (wpAny_tryCatch (W.item (j+1) s _ _ aa T λv h' M r Y O=>?_));have x:=O S _ Q X;have V:J h':=H s.heap h' z λb o g _ e=>O b o g e
  show wpAny _ A.in1 (tryCatch (holding [v,v] (richCompare .Lt v y >>= _)) _ >>= _) _ _ _
  refine qB (wpAny_tryCatch (wpAny_holding (qB (ab (j+1) (argBest a j) v y _ _ _ V r D ?_))));refine qB (wpAny_holding (wpAny_truthy_bool ?_));refine qB (wpAny_letGo (qC ?_));cases Z:a (j+1) (argBest a j)with
  |true =>
   refine qB ?_;refine wpAny_updateSeq x rfl (qB (wpAny_letGo ?_));refine qC ⟨plainId_quiet F.plain_min_loop _,u (j+1) _ v _ (by lia) aa (W.frame _ _ _ Y λb l o e=>?_) (H h' _ V λb o _ i e=>(get?_update_other _ _ (Ne.symm i)).trans e) (by dsimp[argBest,Z,if_true];exact r) (get?_update_self _ x rfl)
    λt E q p K=>?_⟩
   ·exact(get?_update_other _ _ (λh:S=b=>G (by rw[h];exact l))).trans e
   ·exact C t E q p λb o g i e=>K b o g i ((get?_update_other _ _ (Ne.symm i)).trans (O b o g e))
  |false =>
   refine qB (wpAny_letGo ?_);refine qC ⟨plainId_quiet F.plain_min_loop _,u (j+1) _ y c (by lia) aa Y V (by dsimp[argBest,Z,Bool.false_eq_true,if_false];exact D) x λt E q p K=>?_⟩;exact C t E q p λb o g i e=>K b o g i (O b o g e)
def zCx(W:Walks prog w A.in1 I fp wr n P St)(a:Nat->Nat->Bool)(D:CmpJ prog w A.in1 .Lt P a J)(S:Lz)(G:S∉fp)(H:∀h h':Heap,J h->(∀b o,b∉wr->b≠S->h.get? b=some o->h'.get? b=some o)->J h')(hn:0<n)(T:St 0 s.heap)(z:J s.heap)
  (X:s.heap.get? S=some {cls:=.type "list",dict:=none,data:=.seq #[] c,slots:=#[]})
  (C:∀v h' M,P (argBest a (n-1)) v->(∀b o,b∉wr->b≠S->s.heap.get? b=some o->h'.get? b=some o)->R (.ok (.ret v)) {s with heap:=h',toks:=M}) :
  codeAny (model prog w) A (.builtin "min.loop" ⟨[.ref I,.none,.ref S],[]⟩) R s:=by
 have Q:S∉wr:=λh=>G (W.sub _ h)
 have j:(toString "min"++toString ".loop":String)="min.loop":=by decide
 refine codeAny_builtin F.entry_min_loop ?_;refine qB (wpAny_seqItems X rfl ?_);refine qB (wpAny_tryCatch (W.item 0 s _ _ hn T λv h' M r Y O=>?_));have x:=O S _ Q X;have V:J h':=H s.heap h' z λb o g _ e=>O b o g e
 show wpAny _ A.in1 (updateSeq S (λ_=>#[v,v]) >>= _) _ _ _
 refine qB ?_;refine wpAny_updateSeq x rfl ?_;refine qC ⟨plainId_quiet F.plain_min_loop _,zEf W a D S G H _ 0 _ v _ rfl hn (W.frame _ _ _ Y λb l o e=>?_) (H h' _ V λb o _ i e=>(get?_update_other _ _ (Ne.symm i)).trans e) r (get?_update_self _ x rfl) λt E q p K=>?_⟩
 ·exact(get?_update_other _ _ (λh:S=b=>G (by rw[h];exact l))).trans e
 ·exact C t E q p λb o g i e=>K b o g i ((get?_update_other _ _ (Ne.symm i)).trans (O b o g e))
end
section
variable{prog:Lc}{w:Le}{A:Li}{E:Ly}{s:La}
def uH{Q:Ly}
  (h:wpAny (model prog w) A.in1 (pyIter x) (λit q=>∃(I:Lz) (fp a:Ls Lz) (n:Nat) (P:Nat->Lv->Prop) (St:Lm) (bt:Nat->Nat->Bool) (J:Heap->Prop),it=.ref I/\Walks prog w A.in1 I fp a n P St/\St 0 q.heap/\(∀b∈fp,b<q.heap.objs.size)/\0<n/\CmpJ prog w A.in1 .Lt P bt J/\J q.heap /\
   (∀S,q.heap.objs.size<=S->∀h y:Heap,J h->(∀b o,b∉a->b≠S->h.get? b=some o->y.get? b=some o)->J y) /\
   ∀v y M,P (argBest bt (n-1)) v->(∀b o,b∉a->q.heap.get? b=some o->y.get? b=some o)->Q v {q with heap:=y,toks:=M}) E s) :
  wpAny (model prog w) A (call (.builtin "min") [x]) Q E s:=by
 have j:(toString "min"++toString ".loop":String)="min.loop":=by decide
 refine call_function_tree F.kind_min F.plain_min F.entry_min (F.args_min1 _) ?_;refine qB (wpAny_of_eq (show Builtin.Builtins.bindParams "min" ["key","default"] 0 ⟨[],[]⟩=pure [none,none]from rfl) ?_);refine qB (qC ?_);refine qB (wpAny_mono h (λit q c=>?_) λ_ _ e=>e);obtain⟨I,fp,a,n,P,St,bt,J,rfl,W,T,i,K,D,z,H,k⟩:=c;refine qB (wpAny_newObj_type ?_);have G:q.heap.objs.size∉fp:=λY=>lt_irrefl _ (i _ Y)
 refine qC ⟨plainId_quiet F.plain_min_loop _,zCx W bt D q.heap.objs.size G (H _ (le_refl _)) K (W.frame _ _ _ T λb _ o e=>qA _ e) (H _ (le_refl _) _ _ z λb o _ _ e=>qA _ e) (get?_push_size _ rfl) λv y M r V=>?_⟩;exact k v y M r λb o g e=>V b o g (ne_of_lt (lt_size e)) (qA _ e)
end
def yl(as:Ls (Ls Int)):Nat:=argBest (λi j=>HT.lexLt (as.getD i []) (as.getD j [])) (as.length-1)
theorem vJ:∀{G:Ls D} {as:Ls (Ls Int)},ZZ G=some as->as.length=G.length
 | [],as,e=>by cases e;rfl
 |d::G,as,e=>by
  dsimp[ZZ]at e;cases h:tupI d with
  |none=>rw[h]at e;cases e
  |some a =>
   cases h2:ZZ G with
   |none=>rw[h,h2]at e;cases e|some bs=>rw[h,h2]at e;cases e;simp[vJ h2]
theorem zAA:∀{G:Ls D} {as:Ls (Ls Int)},ZZ G=some as->∀i,i<G.length->tupI (G.getD i .non)=some (as.getD i [])
 | [],as,e,i,h=>by simp at h
 |d::G,as,e,i,h=>by
  dsimp[ZZ]at e;cases J:tupI d with
  |none=>rw[J]at e;cases e
  |some a =>
   cases h2:ZZ G with
   |none=>rw[J,h2]at e;cases e
   |some bs =>
    rw[J,h2]at e;cases e;cases i with
    |zero=>exact J|succ i=>exact zAA h2 i (by exists h)
section
variable{X:Cx}{O:L2.St}{pins:Ls (Lz×Obj)}{H:Hp}{s:La}{K:qH}{mg:Str->Lx Lv}
def rMinT(K:qH)(g:Str->Lx Lv)(xs:Ls V)(H:Hp)(Q:VK):Prop:=∃(p:Lz) (T:Ls V) (G:Ls D) (as:Ls (Ls Int)),xs=[.ref p]/\SqL K H p T/\Reps K g H G T/\ZZ G=some as/\0<G.length/\Q (T.getD (yl as) .non) H
theorem Za(a:Nat->Nat->Bool):∀k,argBest a k<=k
 |0=>le_refl _
 |k+1=>by
  have:=Za a k;dsimp[argBest];split<;>lia
def zEg(hc:X.calm=true)(hu:X.A.units+20<cLine):jb X (.builtin "min") (rMinT X.K X.mg):=by
 intro af s O H xs D Q I r h;obtain⟨p,T,G,as,rfl,hq,rd,ht,z,q⟩:=h;obtain⟨u,rfl,w⟩:=ZT r;cases w;obtain⟨g,rv,k,hz⟩:=I.list hq;have l1:=rd.length;have l2:=rv.length;have l3:=vJ ht;have y:g.length=G.length:=by lia
 have L:p<s.heap.objs.size:=by obtain⟨o,n,e,_⟩:=k;exact lt_size e
 have V:∀b o,s.heap.get? b=some o->(s.heap.push {cls:=.type "list_iterator",data:=.fields #[.ref p,.int 0 0]}).get? b=some o:=λb o e=>qA _ e
 have aa:∀i v,g.toArray[i]?=some v->∃a D,v=.ref a/\IsTup s.heap a D/\IntsAre D.toList (as.getD i []):=λi v e=>by
  have C:g[i]?=some v:=by exists e
  obtain⟨R,ev⟩:=qG.mp C;obtain⟨hd,x,rep,ab⟩:=Gg rd rv R;rw[ev]at ab;have E:=zAA ht i hd;cases ac:G.getD i .non with
  |t es =>
   rw[ac]at E rep;obtain⟨a,zs,rfl,q1,q2⟩:=zh rep;cases (show v=Value.ref a from ab);obtain⟨js,rz,tp,_⟩:=I.tuple q1;rw[jM E q2]at rz;exact⟨a,js.toArray,rfl,tp,by exists zCk rz⟩
  |_=>rw[ac]at E;cases E
 refine uH (wpAny_pyIter_list k.isList ?_);refine⟨s.heap.objs.size,[s.heap.objs.size,p],[s.heap.objs.size],g.toArray.size,_,_,(λi j=>HT.lexLt (as.getD i []) (as.getD j [])),(λh=>∀b o,s.heap.get? b=some o->h.get? b=some o),rfl,
  Walks.list (by show X.A.handled=none;exact I.ok.hd hc) _ p (ne_of_lt L) g.toArray,⟨⟨_,get?_push_size _ rfl,rfl,rfl⟩,?_⟩,?_,?_,?_,V,?_,?_⟩
 ·obtain⟨o,e,c⟩:=k.isList
  exact⟨o,V _ _ e,c⟩
 ·intro b Z
  rw[size_push];rcases mem_cons.mp Z with rfl|Z
  ·exact lt_succ_self _
  ·have:b=p:=by exists Z
   subst this;exact lt_succ_of_lt L
 ·rw[size_toArray,y];exact z
 ·intro i j vi vj s' Q' E' hJ R l ad
  obtain⟨a,ua,rfl,⟨oa,Y,ca⟩,ia⟩:=aa i vi R;obtain⟨b,ub,rfl,⟨J,gb,cb⟩,ib⟩:=aa j vj l;exact HT.lt_tupInts ⟨oa,hJ _ _ Y,ca⟩ ⟨J,hJ _ _ gb,cb⟩ ia ib (by show X.A.units+1<cLine;lia) ad
 ·intro S hS h h' l ae b o e
  have Z:=lt_size e;rw[size_push]at hS;exact ae b o (λm=>ne_of_lt Z (by exists m)) (ne_of_lt (lt_of_lt_of_le Z (le_trans (le_succ _) hS))) (l b o e)
 ·intro v h' M hP kp
  have C:g[yl as]?=some v:=by
   have:g.toArray[argBest (λi j=>HT.lexLt (as.getD i []) (as.getD j [])) (g.toArray.size-1)]?=some v:=hP;rw[size_toArray,show g.length=as.length by lia]at this;simpa[yl]using this
  obtain⟨R,ev⟩:=qG.mp C;have hy:yl as<T.length:=by lia
  obtain⟨u,W,P⟩:=rv.get (i:=yl as) (x:=T[yl as]) (by simp[hy]);rw[C]at W;cases W;exact⟨T.getD (yl as) .non,H,I.kept (t':=M) λb o K=>kp b o (λm=>by
   have:b=s.heap.objs.size:=by exists m
   subst this;exact absurd (lt_size K) (lt_irrefl _)) (V b o K),by rw[getD_eq_getElem?_getD,getElem?_eq_getElem hy];exact P,q⟩
def minT:Ls D->Lx R
 | [.l G]=>match ZZ G with
  |some as=>if 0<G.length then some (.v (G.getD (yl as) .non))else none|none=>none
 |_=>none
def minH(ds:Ls D):Lx R:=match zIA ds with
 |some r=>some r|none=>minT ds
def co_minH:COk K mg (λY H Q=>((∃i j,Y=[.int i,.int j]/\Q (.int (if j<i then j else i)) H)\/∃(p:Lz) (E:Ls Int),Y=[.ref p]/\SqL K H p (E.map V.int)/\0<E.length/\Q (.int (zEK E)) H)\/rMinT K mg Y H Q) minH:=by
 intro M H Z Y G res Q f r e k;unfold minH at e;cases h:zIA G with
 |some z=>rw[h]at e;cases e;exact .inl (co_minG M H Z Y G res Q f r h k)
 |none =>
  rw[h]at e
  match G,e with
  | [.l G],e =>
   replace e:(match ZZ G with
    |some as=>if 0<G.length then some (R.v (G.getD (yl as) .non))else none|none=>none)=some res:=e
   exists ht,ZZ G,e,as;dsimp at e;split at e
   ·rename_i L
    cases e;obtain⟨v,rfl,hv⟩:=JQ r;obtain⟨p,T,rfl,J,h2⟩:=zU hv;have l:=vJ ht;have hl:yl as<G.length:=by
     have:=Za (λi j=>HT.lexLt (as.getD i []) (as.getD j [])) (as.length-1);unfold yl;lia
    obtain⟨v,W,P⟩:=h2.get' (i:=yl as) (d:=G[yl as]) (by simp[hl]);refine .inr ⟨p,T,G,as,rfl,zM.seq J,h2.mono zM,ht,L,?_⟩;rw[getD_eq_getElem?_getD,W];refine k.rep f ?_;rw[getD_eq_getElem?_getD,getElem?_eq_getElem hl];exact P
   ·cases e
end
end DV
namespace DV
open PySem L2
end DV
namespace DV
open PySem PyProof.Rows
section
variable{prog:Lc}{w:Le}{A:Li}{E:Ly}
theorem zAB(V:t≠it):∀(n i:Nat) (s:La) (Q:Ls Lv->La->Prop),s.heap.IsListIter it t i->s.heap.IsList t items->i+n<=items.size ->
  (∀y,y.IsListIter it t (i+n)->Heap.SameBut it s.heap y->Q ((items.toList.drop i).take n) {s with heap:=y})->wpAny (model prog w) A (draw (.ref it) n) Q E s
 |0,i,s,Q,a,_,_,z=>by
  show wpAny _ _ (pure []) Q E s
  exact qC (by exists z s.heap a (Heap.SameBut.refl ..))
 |n+1,i,s,Q,a,ht,G,z=>by
  have I:i<items.size:=by lia
  show wpAny _ _ (pyNext (.ref it) >>= _) Q E s
  refine qB (wpAny_pyNext_list_item a ht (x:=items[i]) (by simp[I]) λq l j=>?_);have p:q.IsList t items:=by
   obtain⟨o,ho,S,n,C⟩:=ht;exact⟨o,(j.2 t V).trans ho,S,n,C⟩
  refine qB (wpAny_holding (zAB V n (i+1) _ _ l p (by lia) λc h e=>qC ?_));have C:items.toList.drop i=items[i]::items.toList.drop (i+1):=by simp[drop_eq_getElem_cons,I]
  have:=z c (by rw[show i+(n+1)=i+1+n by lia];exact h) (j.trans e);rw[C,List.take_succ_cons]at this;exact this
variable{s:La}
def WS{Q:Ls Lv->La->Prop}(P:A.handled=none)(r:s.heap.IsList t items)
  (z:∀y,Heap.ExtBut s.heap.objs.size s.heap y->Q items.toList {s with heap:=y}):wpAny (model prog w) A (unpackItems (.ref t) items.size none) Q E s:=by
 have I:t≠s.heap.objs.size:=by obtain⟨o,ho,_⟩:=r;exact ne_of_lt (lt_size ho)
 have i:∀{h:Heap},(∀b o,b≠s.heap.objs.size->s.heap.get? b=some o->h.get? b=some o)->h.IsList t items:=λk=>by
  obtain⟨o,ho,S,n,C⟩:=r;exact⟨o,k t o I ho,S,n,C⟩
 unfold unpackItems;refine qB ?_
 ·unfold notIterableAtAll
  refine qB (wpAny_specialOf r.typeIs slot_list_iter.lookup ?_);refine qC ?_;dsimp[Bool.false_eq_true,if_false];refine qB (wpAny_holding (wpAny_pyIter_list r ?_));refine qB (wpAny_holding (zAB I items.size 0 _ _ ⟨_,get?_push_size _ rfl,rfl,rfl⟩ (i λb o _ e=>qA _ e) (by lia) λq l j=>?_));have g:List.take items.size (List.drop 0 items.toList)=items.toList:=by
   rw[drop_zero];exact take_of_length_le (by simp)
  rw[g];rw[if_neg (by simp)];have p:q.IsList t items:=i λb o Z e=>j.extBut b o Z (qA _ e)
  refine qB (wpAny_holding (wpAny_pyNext_list_end P l p (by simp) λc a=>?_));dsimp[Option.isSome_none,Bool.false_eq_true,if_false];refine qC (z c λb o Z e=>a b o Z (j.extBut b o Z (qA _ e)))
def Zb{x1}{Q:Unit->La->Prop}(P:A.handled=none)(r:s.heap.IsList t items)
  (hn:(assignEach elts env).length=items.size) (a:(assignEach elts env).findIdx? (·.1)=none)
  (h:∀y,Heap.ExtBut s.heap.objs.size s.heap y->wpAny (model prog w) A (assignInOrder ((assignEach elts env).map (·.2)) items.toList) Q E {s with heap:=y}) :
  wpAny (model prog w) A (assign (.Tuple elts x1 pos) env (.ref t)) Q E s:=by
 rw[assign_Tuple];refine qB (wpAny_standAt ?_);unfold unpack;rw[hn,a];exact qB (wpAny_holding (WS P r h))
end
end DV
namespace DV
open PySem L2
section
variable{X:Cx}{O:L2.St}{H:Hp}
def gLst(K:qH)(n:Nat)(t:TGs):TG:=λv O H Q=>∃a Y,v=.ref a/\SqL K H a Y/\Y.length=n/\t Y O H Q
def pg_lst(S:X.calm=true)(h:PGs X es t)
  (hn:(assignEach es X.env).length=n) (T:(assignEach es X.env).findIdx? (·.1)=none):PG X (.Tuple es k pos) (gLst X.K n t):=by
 intro G s O H v u Q I r C;obtain⟨a,Y,c,W,hl,C⟩:=C;subst c;cases r;obtain⟨g,j,ht,hz⟩:=I.list W;refine Zb (I.ok.hd S) ht.isList (by simp[hn,<- hl,j.length]) T λy M=>?_
 have I1:Inv X G O H {s with heap:=y}:=I.kept (t':=s.toks) λb o e=>M b o (ne_of_lt (lt_size e)) e
 exact h G _ O H Y _ Q I1 (by exists j) C
def gL(q:Ls Nat):MG:=λd E=>match d with
 | .l G=>gNs q G E|_=>.z
def gNs_len:∀(q:Ls Nat) (G:Ls D) (E E':zS),gNs q G E=.ok E'->G.length=q.length:=by
 intro q
 induction q with
 |nil=>intro G E E' h;cases G with|nil=>rfl|cons d G=>cases h
 |cons i q u =>
  intro G E E' h;cases G with
  |nil=>cases h
  |cons d G =>
   dsimp[gNs]at h;cases W:J9 i (.v d) E with
   |ok E1=>rw[W]at h;simp[u G E1 E' h]|z=>rw[W]at h;cases h|y _ _=>rw[W]at h;cases h
def go_lst(q:Ls Nat)(hn:q.length=n):GOk X (gLst X.K n (we q)) (gL q):=λM O E H T0 x d E' Q hl f e k=>by
 cases d with
 |l G =>
  obtain⟨v,ev,r⟩:=f.val _ _ qE;cases ev;obtain⟨a,Y,rfl,J,h2⟩:=zU r;rw[Wx]at h2;have y:=gNs_len q G E E' e;refine⟨a,Y,rfl,zM.seq J,by rw[h2.length,y,hn],?_⟩;exact Y5 q G Y (a:=a) (ts:=[]) (Got.refl hl f.tail) h2 e k
 |_=>cases e
def sLst(q:Ls Nat)(m:ME):MS:=λE=>match m E with
 | .z=>.z| .y x E1=>.y x E1
 | .ok (r,E1)=>match gL q r.d E1 with
  | .ok E2=>.ok (.nx,E2)|_=>.z
def zGq{q:Ls Nat}{m:ME}{D:Ends}(h:tS X (sLst q m) D O H):tAsg (tM X m) (gLst X.K q.length (we q)) D O H:=by
 obtain⟨M,E,hl,fr,k⟩:=h;unfold sLst at k;refine z9 (T0:=[]) hl fr ?_;cases R:m E with
 |z=>rw[R]at k;exact k|y x E1=>rw[R]at k;exact λH' g=>k O H' g
 |ok p =>
  obtain⟨r,E1⟩:=p;rw[R]at k;intro v H1 g;dsimp at k;cases n:gL q r.d E1 with
  |z=>rw[n]at k;exact k.elim|y _ _=>rw[n]at k;exact k.elim
  |ok E2 =>
   rw[n]at k;have J:=g.dropAll;exact go_lst (X:=X) q rfl M O E1 H1 [] v r.d E2 _ J.len (FR.add J.frame g.rep) n λO' u=>k O' H1 (J.trans' u)
def sk_lst(t:PG X (.Tuple es k p) (gLst X.K is.length (we is)))(c:EOk X e m)(T:swapsWithSole [.Tuple es k p] e pos.line X.env=pure false)(C:swappedStores [.Tuple es k p] e X.env=pure none)(J:(assignEach [.Tuple es k p] X.env).map (·.2)=[assign (.Tuple es k p) X.env]:=by rfl):SOk X (.Assign [.Tuple es k p] e pos) (sLst is m) :=
 jD (zDR c t T C) λD O H=>zGq
end
section
variable{prog:Lc}{w:Le}{A:Li}{R:Result->La->Prop}{s:La}{elt t0 i0 t1 i1:Lb}{f0 f1:Ls Lb}{scope:Scope}{pos:Pos}{it acc:Lv}{env:Env}
def start1(P:codeAny (model prog w) A (.compLoop (.ListComp elt [⟨t0,i0,f0,0⟩,⟨t1,i1,f1,0⟩] scope pos) 1 it acc env) R s)
  (h:wpAny (model prog w) A (pyIter it) (λi j=>codeAny (model prog w) A (.compLoop (.ListComp elt [⟨t0,i0,f0,0⟩,⟨t1,i1,f1,0⟩] scope pos) 1 i acc env) R j) (notedBy (model prog w) A env λx j=>R (.error x) j) s) :
  codeAny (model prog w) A (.compStart (.ListComp elt [⟨t0,i0,f0,0⟩,⟨t1,i1,f1,0⟩] scope pos) 1 it acc env) R s:=by
 refine codeAny_of_tree (wpAny_notedAt ?_);refine qB (wpAny_askSetting (wpAny_ite ?_));split
 ·exact qB (qC (qC ⟨rfl,P⟩))
 ·exact qB (wpAny_rule (qB (wpAny_standAt (qB (wpAny_mono h (λi j y=>qC ⟨rfl,y⟩) λx c a=>a)))))
end
def act2(o t i:Lb)(q:Ls Lb)(v Z:Lb)(l:Ls Lb)(Y:Scope)(g:Pos):Lv->Env->Sem PySem.Fin->Sem PySem.Fin:=λL p k=>do
 let x <- eval Z p
 standAt Z.pos
 let x <- foldedSetIterable Z p x
 let j <- holding [x] (pyIter x)
 let _ <- runOwn (.compStart (.ListComp o [⟨t,i,q,0⟩,⟨v,Z,l,0⟩] Y g) 1 j L p) p
 k
def pa_loop(M:∀e s,¬Y.xe e s)(S:Y.calm=true)(hi:PI Y t1 i1 wi)(t:PG Y t1 g)(r:zFo Y f1 tt)(c:PAc Y (act1 elt) ta)
  (v:∀x,foldedSetIterable i1 Y.env x=pure x):PAc Y (act2 elt t0 i0 f0 t1 i1 f1 scope pos) (taL wi g tt ta):=λD G s O H Nx k Q E I h V=>by
 unfold act2;refine qB (wpAny_mono (hi G s O H _ I h) (λo y w=>qB (wpAny_standAt ?_)) λ_ _ z=>absurd z (M _ _));rw[v];refine qB (qC (qB (wpAny_holding (wpAny_mono w (λi s2 h2=>qB ?_) λ_ _ z=>absurd z (M _ _)))));obtain⟨it,L,P,J,H2,e,I2,T,q,n,W⟩:=h2;subst e;have l:∀R:Result->La->Prop,(∀O' H' j,Inv Y G O' H' j->Nx O' H'->R (.ok .next) j)->codeAny (model Y.prog Y.w) Y.A (.compLoop (.ListComp elt [⟨t0,i0,f0,0⟩,⟨t1,i1,f1,0⟩] scope pos) 1 (.ref it) (.ref D) Y.env) R s2:=λR C =>
  W9 (p:=i1.pos) (λ_ _ _ _=>⟨rfl,λ_=>rfl,rfl⟩) M S t r c rfl T (λK b Z=>⟨K b Z,(n b Z).2⟩) I2 q (λb Z=>(n b Z).1) W C
 have a:∀R:Result->La->Prop,(∀O' H' j,Inv Y G O' H' j->Nx O' H'->R (.ok .next) j)->codeAny (model Y.prog Y.w) Y.A (.compStart (.ListComp elt [⟨t0,i0,f0,0⟩,⟨t1,i1,f1,0⟩] scope pos) 1 (.ref it) (.ref D) Y.env) R s2:=λR C=>start1 (l R C) (T.self Y.A 0 _ _ _ q (l R C))
 exact wpAny_runOwn (a _ λO' H' j I' u=>V O' H' j I' u)
def zBz:CNd P w (.ListComp elt [⟨target,iter,ifs,0⟩,⟨t1,i1,f1,0⟩] scope pos) target iter ifs (newList []) lstO (λ_=>.l []) (act2 elt target iter ifs t1 i1 f1 scope pos) [⟨t1,i1,f1,0⟩] iter.pos :=
 ⟨rfl,λ_ _ _ _=>⟨rfl,λ_=>rfl,rfl⟩,zEA,zBq,λa h=>codeAny_compStart_list a h,λ_ _ _=>rfl⟩
section
variable{X:Cx}{elt target iter t1 i1:Lb}{scope:Scope}{pos:Pos}{mi mi1:MI}{tg tg1:MG}{el:ME}{g g1:TG}{nl:Nat}{caps:Ls Nat}{N':Ls Str}
def zB0(C:CSc X scope nl caps N')(h:∀M C w s H,IOk (cxB X N' scope M C w s H) t1 i1 mi1)(G:∀M C w s H,PG (cxB X N' scope M C w s H) t1 g1)(c:∀M C w s H,EOk (cxB X N' scope M C w s H) elt el)(j:∀M C w s H x,foldedSetIterable i1 (cxB X N' scope M C w s H).env x=pure x)
  (M Ca w s H):PAc (cxB X N' scope M Ca w s H) (act2 elt target iter [] t1 i1 [] scope pos) (taL (tNI X.K X.mg mi1) g1 (tNT X.K X.mg jq) (ta1 (tN X.K X.mg el))) :=
 pa_loop (Y:=cxB X N' scope M Ca w s H) C.hx C.hc (uj (h M Ca w s H) λO H R q=>tNI_M q) (G M Ca w s H) (Wb Gb λO H Q q=>tNT_M q) (zA4 C c M Ca w s H) (j M Ca w s H)
def ok_lc2(C:CSc X scope nl caps N')(hi:IOk X target iter mi)(t:∀M C w s H,PG (cxB X N' scope M C w s H) target g)(J:GOk X g tg)(h:∀M C w s H,IOk (cxB X N' scope M C w s H) t1 i1 mi1)(G:∀M C w s H,PG (cxB X N' scope M C w s H) t1 g1)(a:GOk X g1 tg1)(c:∀M C w s H,EOk (cxB X N' scope M C w s H) elt el)
  (T:∀x,foldedSetIterable iter X.env x=pure x) (j:∀M C w s H x,foldedSetIterable i1 (cxB X N' scope M C w s H).env x=pure x):EOk X (.ListComp elt [⟨target,iter,[],0⟩,⟨t1,i1,[],0⟩] scope pos) (Jj akL nl caps mi tg jq (maL mi1 tg1 jq (ma1 el))) :=
 zEG C Gc (zBr a Gd) zBz (zB0 C h G c j) rfl hi t J (λ_ _ _ _ _=>Gb) T
def sk_lc2(E:X.N.Nodup)(K:X.N[i]?=some y)(Q:Loc X.env.scope y)(Y:X.fn y=true\/X.env.scope.names.lookup y=some .local)(C:CSc X scope nl caps N')(hi:IOk X target iter mi)(t:∀M C w s H,PG (cxB X N' scope M C w s H) target g)(J:GOk X g tg)(h:∀M C w s H,IOk (cxB X N' scope M C w s H) t1 i1 mi1)(G:∀M C w s H,PG (cxB X N' scope M C w s H) t1 g1)(a:GOk X g1 tg1)(c:∀M C w s H,EOk (cxB X N' scope M C w s H) elt el)
  (T:∀x,foldedSetIterable iter X.env x=pure x) (j:∀M C w s H x,foldedSetIterable i1 (cxB X N' scope M C w s H).env x=pure x)
  (k:swapsWith (.ListComp elt [⟨target,iter,[],0⟩,⟨t1,i1,[],0⟩] scope pos) (some (.Name y py)) spos.line X.env=pure true) :
  SOk X (.Assign [.Name y py] (.ListComp elt [⟨target,iter,[],0⟩,⟨t1,i1,[],0⟩] scope pos) spos) (sSet i (Jj akL nl caps mi tg jq (maL mi1 tg1 jq (ma1 el)))) :=
 zEH E K Q Y C Gc (zBr a Gd) zBz (zB0 C h G c j) (λ_=>rfl) hi t J (λ_ _ _ _ _=>Gb) T k
end
end DV
namespace DV
open PySem PySem.SetTable
def zFq(l:Ls Nat):Prop:=l.Pairwise (·<·)
theorem Gu(xs:Lk)(j:Nat)(T:zFq xs.toList):∀(g z hi:Nat),hi-z<=g->z<=hi->hi<=xs.size->(∀k (h:k<xs.size),k<z->xs[k]<j)->(∀k (h:k<xs.size),hi<=k->j<=xs[k]) ->
  below.go xs j g z hi<=xs.size/\(∀k (h:k<xs.size),k<below.go xs j g z hi->xs[k]<j)/\∀k (h:k<xs.size),below.go xs j g z hi<=k->j<=xs[k]
 |0,z,hi,J,h2,Q,h4,h5=>by
  have e:z=hi:=by lia
  subst e;exact⟨Q,h4,h5⟩
 |g+1,z,hi,J,h2,Q,h4,h5=>by
  unfold below.go;have L:∀a b (C:a<xs.size) (Z:b<xs.size),a<=b->xs[a]<=xs[b]:=λa b C Z o=>by
   rcases lt_or_eq_of_le o with hl|c
   ·have:=pairwise_iff_getElem.mp T a b (by exists C) (by exists Z) hl
    simp at this;lia
   ·subst c;exact le_refl _
  by_cases hl:z<hi
  ·rw[if_pos hl]
   have Y:(z+hi)/2<xs.size:=by lia
   have n:xs.getD ((z+hi)/2) j=xs[(z+hi)/2]:=by simp[Array.getD,Y]
   dsimp;rw[n];by_cases M:xs[(z+hi)/2]<j
   ·rw[if_pos M]
    exact Gu xs j T g _ _ (by lia) (by lia) Q (λk V I=>lt_of_le_of_lt (L k _ V Y (by lia)) M) h5
   ·rw[if_neg M]
    exact Gu xs j T g _ _ (by lia) (by lia) (by lia) h4 (λk V G=>le_trans (not_lt.mp M) (L _ k Y V G))
  ·rw[if_neg hl]
   have e:z=hi:=by lia
   subst e;exact⟨Q,h4,h5⟩
def zB1(xs:Lk)(j:Nat)(T:zFq xs.toList):below xs j<=xs.size/\(∀k (h:k<xs.size),k<below xs j->xs[k]<j)/\∀k (h:k<xs.size),below xs j<=k->j<=xs[k] :=
 Gu xs j T xs.size 0 xs.size (by lia) (by lia) (le_refl _) (λk _ h=>by lia) (λk h y=>by lia)
def ZC{α:Type}(xs:Array α)(p:Nat)(x:α):(insertAt xs p x).toList=xs.toList.take p++x::xs.toList.drop p:=by
 unfold insertAt;simp[Array.toList_append,Array.toList_extract,List.extract_eq_drop_take,take_of_length_le]
def zGr(xs:Lk)(j:Nat)(T:zFq xs.toList)(l:j∉xs.toList):zFq (insertAt xs (below xs j) j).toList:=by
 obtain⟨J,h2,Q⟩:=zB1 xs j T;rw[ZC];unfold zFq at *;have u:∀a∈xs.toList.take (below xs j),a<j:=λa C=>by
  obtain⟨i,R,e⟩:=getElem_of_mem C;simp at R e;rw[<- e];exact h2 i (by lia) (by lia)
 have c:∀a∈xs.toList.drop (below xs j),j<a:=λa C=>by
  have Y:a∈xs.toList:=List.mem_of_mem_drop C;obtain⟨i,R,e⟩:=getElem_of_mem C;simp at R e;have:=Q (below xs j+i) (by lia) (by lia);rw[e]at this;rcases lt_or_eq_of_le this with h|h
  ·exact h
  ·exact absurd (h▸Y) l
 rw[List.pairwise_append];refine⟨T.sublist (List.take_sublist _ _),?_,?_⟩
 ·rw[List.pairwise_cons]
  exact⟨c,T.sublist (List.drop_sublist _ _)⟩
 ·intro a C b Z
  rcases mem_cons.mp Z with rfl|Z
  ·exact u a C
  ·exact lt_trans (u a C) (c b Z)
def zEh{α:Type}(xs:Array α)(p:Nat)(x y:α):y∈(insertAt xs p x).toList↔y=x\/y∈xs.toList:=by
 rw[ZC]
 conv=>rhs;rw[<- List.take_append_drop p xs.toList]
 dsimp[mem_append,mem_cons];constructor
 ·rintro (h|h|h)
  ·exact .inr (.inl h)
  ·exact .inl h
  ·exact .inr (.inr h)
 ·rintro (h|h|h)
  ·exact .inr (.inl h)
  ·exact .inl h
  ·exact .inr (.inr h)
def zCy{t:SetTable}{j:Nat}(l:j∉t.place.toList)(hd:t.dummies=#[]):t.slot j=.empty:=by
 have J:(t.place[below t.place j]?==some j)=false:=by
  rw[Bool.eq_false_iff];intro h;exact l (by exists Array.mem_of_getElem? (eq_of_beq h))
 unfold slot;dsimp;rw[J,hd];rfl
def own(T:Ls Nat)(j:Nat):Lx Nat:=if j∈T then some (T.idxOf j)else none
def fm_eq(p:Nat->Bool)(g:Nat->Nat)(f:Nat->Lx Nat)(l:Ls Nat):(∀j∈l,f j=if p j=true then some (g j)else none)->l.filterMap (λj=>(f j).map (j,·))=(l.filter p).map λj=>(j,g j):=by
 induction l with
 |nil=>exact λ_=>rfl
 |cons a l u =>
  intro h;have i:=u λj c=>h j (qD _ c)
  have C:=h a qE;rw[filterMap_cons,List.filter_cons,C];cases L:p a
  ·exists i
  ·dsimp[if_true,Option.map_some,map_cons];rw[i]
def YA{α:Type}(xs:Array α)(p:Nat)(x:α):(insertAt xs p x).size=xs.size+1:=by
 rw[<- Array.length_toList,ZC];have:=congrArg length (List.take_append_drop p xs.toList);dsimp[length_append,length_cons,Array.length_toList]at this ⊢;lia
def zEi(T:Ls Nat)(nd:T.Nodup):T.map (λj=>T.idxOf j)=List.range T.length:=by
 apply List.ext_getElem
 ·simp
 ·intro i J h2
  dsimp[List.getElem_map,List.getElem_range];exact nd.idxOf_getElem i (by exists J)
def Ik(g h:Nat):Nat->Nat
 |0=>h%(g+1)|k+1=>(Ik g h k*5+1+h/32^k/32)%(g+1)
def Blk(g h k:Nat):Probe:=⟨Ik g h k,runEnd g (Ik g h k)-Ik g h k,Ik g h k,h/32^k,none⟩
def more_le(g i:Nat):runEnd g i-i<=9:=by unfold runEnd;split<;>lia
def zIF{mask i:Nat}(h:i<=mask):i+(runEnd mask i-i)<=mask:=by unfold runEnd;split<;>lia
def zEj(g h:Nat):∀k,Ik g h k<=g
 |0=>le_of_lt_succ (mod_lt _ (succ_pos _))|k+1=>le_of_lt_succ (mod_lt _ (succ_pos _))
def stand(t:SetTable)(p:Probe):Nat->Probe
 |0=>p|n+1=>t.advance (stand t p n)
theorem JB(t:SetTable)(p:Probe)(a:Nat):∀b,stand t p (a+b)=stand t (stand t p a) b
 |0=>rfl|b+1=>congrArg t.advance (JB t p a b)
theorem zEk(t:SetTable){p:Probe}:∀n,n<=p.more->stand t p n=⟨p.j+n,p.more-n,p.i,p.perturb,p.dummy⟩
 |0,_=>rfl
 |n+1,h=>by
  show t.advance (stand t p n)=_
  rw[zEk t n (by lia)];unfold advance;rw[if_pos (show p.more-n > 0 by lia)];show Probe.mk (p.j+n+1) (p.more-n-1) _ _ _=_;rw[Nat.sub_sub];rfl
def zGs(t:SetTable){h k:Nat}:stand t (Blk t.mask h k) (runEnd t.mask (Ik t.mask h k)-Ik t.mask h k+1)=Blk t.mask h (k+1):=by
 show t.advance (stand t (Blk t.mask h k) (Blk t.mask h k).more)=_
 rw[zEk t (p:=Blk t.mask h k) _ (le_refl _)];unfold advance;rw[if_neg (by show ¬(_-_ > 0);simp[Blk])];have e:h/32^(k+1)=h/32^k/32:=by rw[pow_succ,Nat.div_div_eq_div_mul]
 show Probe.mk (Ik t.mask h (k+1)) (runEnd t.mask (Ik t.mask h (k+1))-Ik t.mask h (k+1)) (Ik t.mask h (k+1)) (h/32^k/32) none=_
 unfold Blk;rw[e]
def Sk(g h:Nat):Nat->Nat
 |0=>0|k+1=>Sk g h k+(runEnd g (Ik g h k)-Ik g h k+1)
theorem Sk_le(g h:Nat):∀k,Sk g h k<=10*k
 |0=>le_refl _|k+1=>by have:=Sk_le g h k;have:=more_le g (Ik g h k);dsimp[Sk];lia
theorem zAC(t:SetTable)(h:Nat):∀k,stand t (Blk t.mask h 0) (Sk t.mask h k)=Blk t.mask h k
 |0=>rfl|k+1=>by rw[Sk,JB,zAC t h k,zGs]
def lcg(m i:Nat):Nat->Nat
 |0=>i|k+1=>(lcg m i k*5+1)%m
theorem zB2{g h:Nat}(P:h<2^64):∀k,Ik g h (13+k)=lcg (g+1) (Ik g h 13) k
 |0=>rfl
 |k+1=>by
  have e:h/32^(13+k)/32=0:=by
   rw[Nat.div_div_eq_div_mul,<- pow_succ];refine Nat.div_eq_of_lt (lt_of_lt_of_le P ?_);rw[show(32:Nat)=2^5 from rfl,<- Nat.pow_mul];exact Nat.pow_le_pow_right (by lia) (by lia)
  show(Ik g h (13+k)*5+1+h/32^(13+k)/32)%(g+1)=_
  rw[e,zB2 P k];rfl
def lcg8:∀i,i<8->∀e,e<8->∃k,k<8/\lcg 8 i k=e:=by left
def lcg32:((List.range 32).all λi=>(List.range 32).all λe=>(List.range 32).any λk=>lcg 32 i k==e)=true:=by left
abbrev M8(g:Nat):Prop:=g=7\/g=31
def zA8{g:Nat}(Y:M8 g){i e:Nat}(hi:i<=g)(c:e<=g):∃k,k<=g/\lcg (g+1) i k=e:=by
 rcases Y with rfl|rfl
 ·obtain⟨k,J,h2⟩:=lcg8 i (by lia) e (by lia)
  exact⟨k,by lia,h2⟩
 ·have:=all_eq_true.mp (all_eq_true.mp lcg32 i (by simp;lia)) e (by simp;lia)
  obtain⟨k,J,h2⟩:=List.any_eq_true.mp this;exact⟨k,by simp at J;lia,by exists h2⟩
def zA9(h:Int):bits h<2^64:=by unfold bits;lia
def blk0(t:SetTable)(h:Int):t.probeStart h=Blk t.mask (bits h) 0:=by
 unfold probeStart Blk Ik;simp
def meets(t:SetTable)(Y:M8 t.mask)(h:Int){e:Nat}(c:e<=t.mask):∃n,n<=10*(13+t.mask)/\(stand t (t.probeStart h) n).j=e:=by
 obtain⟨k,J,h2⟩:=zA8 Y (zEj t.mask (bits h) 13) c;refine⟨Sk t.mask (bits h) (13+k),le_trans (Sk_le _ _ _) (by lia),?_⟩;rw[blk0,zAC];show Ik t.mask (bits h) (13+k)=e;rw[zB2 (zA9 h),h2]
theorem Gv(t:SetTable)(h:Int):∀n,(stand t (t.probeStart h) n).j+(stand t (t.probeStart h) n).more<=t.mask/\(stand t (t.probeStart h) n).dummy=none
 |0=>by
  rw[stand,blk0];exact⟨zIF (zEj _ _ 0),rfl⟩
 |n+1=>by
  obtain⟨J,h2⟩:=Gv t h n;show(t.advance _).j+(t.advance _).more<=_/\(t.advance _).dummy=none;unfold advance;split
  ·exact⟨by show _+1+(_-1)<=_;lia,h2⟩
  ·exact⟨zIF (le_of_lt_succ (mod_lt _ (succ_pos _))),h2⟩
theorem ZD(p:Nat->Prop):∀n,p n->∃k,k<=n/\p k/\∀j,j<k->¬p j
 |0,h=>⟨0,le_refl _,h,λj l=>absurd l (not_lt_zero _)⟩
 |n+1,h=>by
  by_cases q:∃k,k<=n/\p k
  ·obtain⟨k,V,t⟩:=q
   obtain⟨i,J,h2,Q⟩:=ZD p k t;exact⟨i,by lia,h2,Q⟩
  ·exact⟨n+1,le_refl _,h,λj l pj=>q ⟨j,by lia,pj⟩⟩
termination_by n=>n
decreasing_by lia
structure Tb(t:SetTable):Prop where
 m:M8 t.mask
 rise:zFq t.place.toList
 nod:t.dummies=#[]
 low:∀j∈t.place.toList,j<=t.mask
 room:t.place.size<=t.mask
def pj(t:SetTable)(h:Int)(n:Nat):Nat:=(stand t (t.probeStart h) n).j
theorem Gw{α:Type}[DecidableEq α]:∀(a b:Ls α),a.Nodup->(∀x∈a,x∈b)->a.length<=b.length
 | [],b,_,_=>zero_le _
 |x::a,b,K,T=>by
  obtain⟨X,H⟩:=nodup_cons.mp K;have M:=T x qE;have:=Gw a (b.erase x) H λy Q=>(List.mem_erase_of_ne (λe=>X (by rw[<- e];exact Q))).mpr (T y (qD _ Q))
  rw[List.length_erase_of_mem M]at this;have:=List.length_pos_of_mem M;dsimp[length_cons];lia
def hole{l:Ls Nat}(nd:l.Nodup){m:Nat}(h:l.length<=m):∃e,e<=m/\e∉l:=by
 refine Classical.byContradiction λq=>?_
 have:=Gw (List.range (m+1)) l List.nodup_range λe c=>Classical.byContradiction λz=>q ⟨e,by have:=mem_range.mp c;lia,z⟩
 rw[length_range]at this;lia
structure Endz(t:SetTable)(h:Int)(N:Nat):Prop where
 few:N<=10*(13+t.mask)
 free:pj t h N∉t.place.toList
 taken:∀n,n<N->pj t h n∈t.place.toList
def Tb.ends{t:SetTable}(b:Tb t)(h:Int):∃N,Endz t h N:=by
 obtain⟨e,c,K⟩:=hole (b.rise.imp λh=>ne_of_lt h) (by rw[Array.length_toList];exact b.room);obtain⟨n,J,h2⟩:=meets t b.m h c;obtain⟨N,a,S,W⟩:=ZD (λn=>pj t h n∉t.place.toList) n (by show(stand t _ n).j∉_;rw[h2];exact K);exact⟨N,by lia,S,λn K=>Classical.byContradiction λz=>W n K z⟩
def zAD{t:SetTable}(z:zFq t.place.toList){j:Nat}(l:j∈t.place.toList):∃i,t.slot j=.live i/\t.place[i]?=some j:=by
 obtain⟨J,h2,Q⟩:=zB1 t.place j z;obtain⟨i,R,e⟩:=getElem_of_mem l;simp at R e;have I:below t.place j<t.place.size:=by
  rcases lt_or_ge (below t.place j) t.place.size with q|q
  ·exact q
  ·have:=h2 i R (by lia);lia
 have P:t.place[below t.place j]=j:=by
  have a:=Q _ I (le_refl _);rcases lt_or_ge i (below t.place j)with q|q
  ·have:=h2 i R q;lia
  ·rcases lt_or_eq_of_le q with q|q
   ·have:=pairwise_iff_getElem.mp z (below t.place j) i (by exists I) (by exists R) q
    simp at this;lia
   ·have g:∀(x:Nat) (M:x<t.place.size),x=i->t.place[x]=j:=λx M q=>by subst q;exact e
    exact g _ I q
 have n:t.place[below t.place j]?=some j:=by rw[Array.getElem?_eq_getElem I,P]
 refine⟨below t.place j,?_,n⟩;unfold slot;dsimp[n,beq_self_eq_true,if_true]
theorem go_to{t:SetTable}{hashAt:Nat->Int}{h:Int}:∀(n g:Nat) (p:Probe),n<g->(∀m,m<n->∃i,t.slot (stand t p m).j=.live i/\hashAt i≠h)->probe.go t hashAt h g p=probe.go t hashAt h (g-n) (stand t p n)
 |0,g,p,_,_=>rfl
 |n+1,g+1,p,hf,T=>by
  obtain⟨i,W,P⟩:=T 0 (succ_pos _);rw[probe.go,show t.slot p.j=.live i from W];dsimp;rw[if_neg (by exists P),go_to n g (t.advance p) (by lia) λm Y=>by
   have:=T (m+1) (by lia);rw[show m+1=1+m by lia,JB]at this;exact this,show g+1-(n+1)=g-n by lia,show n+1=1+n by lia,JB]
  rfl
def go_free{t:SetTable}{hashAt:Nat->Int}{h:Int}{g:Nat}{p:Probe}(Y:0<g)(e:t.slot p.j=.empty):probe.go t hashAt h g p=some (.empty p.j p.dummy):=by
 obtain⟨f,rfl⟩:∃f,g=f+1:=⟨g-1,by lia⟩;rw[probe.go,e]
def go_hit{t:SetTable}{hashAt:Nat->Int}{h:Int}{g:Nat}{p:Probe}{i:Nat}(Y:0<g)(e:t.slot p.j=.live i)(a:hashAt i=h):probe.go t hashAt h g p=some (.candidate p.j i (t.advance p)):=by
 obtain⟨f,rfl⟩:∃f,g=f+1:=⟨g-1,by lia⟩;rw[probe.go,e];dsimp;rw[if_pos (by exists a)]
def zB3{t:SetTable}(b:Tb t){hashAt:Nat->Int}{h:Int}{N:Nat}(E:Endz t h N){n:Nat}(hn:n<=N) :
  (t.probe hashAt h (stand t (t.probeStart h) n)=some (.empty (pj t h N) none)/\∀m,n<=m->m<N->∀i,t.place[i]?=some (pj t h m)->hashAt i≠h) \/
  ∃m i,n<=m/\m<N/\t.slot (pj t h m)=.live i/\t.place[i]?=some (pj t h m)/\hashAt i=h/\t.probe hashAt h (stand t (t.probeStart h) n)=some (.candidate (pj t h m) i (stand t (t.probeStart h) (m+1))) /\
   ∀k,n<=k->k<m->∀i,t.place[i]?=some (pj t h k)->hashAt i≠h:=by
 have D:∀m,m<N->∃i,t.slot (pj t h m)=.live i/\t.place[i]?=some (pj t h m):=λm Y=>zAD b.rise (E.taken m Y)
 have u:∀i j x,t.place[i]?=some x->t.place[j]?=some x->i=j:=λi j x J h2=>by
  obtain⟨z,W⟩:=Array.getElem?_eq_some_iff.mp J;obtain⟨G,P⟩:=Array.getElem?_eq_some_iff.mp h2;rcases Nat.lt_trichotomy i j with q|q|q
  ·have:=pairwise_iff_getElem.mp b.rise i j (by exists z) (by exists G) q
   simp at this;lia
  ·exact q
  ·have:=pairwise_iff_getElem.mp b.rise j i (by exists G) (by exists z) q
   simp at this;lia
 have y:N<10*turns t.mask:=by have:=E.few;unfold turns;lia
 let a:Nat->Prop:=λm=>n<=m/\m<N/\∃i,t.place[i]?=some (pj t h m)/\hashAt i=h
 have o:∀m,stand t (stand t (t.probeStart h) n) m=stand t (t.probeStart h) (n+m):=λm=>(JB t _ n m).symm
 by_cases c:∃m,a m
 ·obtain⟨m0,c⟩:=c
  obtain⟨m,_,⟨J,h2,i,Q,h4⟩,p⟩:=ZD a m0 c;obtain⟨l,R,g⟩:=D m h2;cases u l i _ g Q;have e:∀k,n<=k->k<m->∀i,t.place[i]?=some (pj t h k)->hashAt i≠h:=λk O r i K S=>p k r ⟨O,by lia,i,K,S⟩
  refine .inr ⟨m,_,J,h2,R,Q,h4,?_,e⟩;unfold probe;rw[go_to (m-n) _ _ (by lia) λk V=>by
   rw[o];obtain⟨i,R,g⟩:=D (n+k) (by lia);exact⟨i,R,e (n+k) (by lia) (by lia) i g⟩,o,show n+(m-n)=m by lia]
  exact go_hit (by lia) R h4
 ·have e:∀m,n<=m->m<N->∀i,t.place[i]?=some (pj t h m)->hashAt i≠h:=λm J h2 i K S=>c ⟨m,J,h2,i,K,S⟩
  refine .inl ⟨?_,e⟩;unfold probe;rw[go_to (N-n) _ _ (by lia) λk V=>by
   rw[o];obtain⟨i,R,g⟩:=D (n+k) (by lia);exact⟨i,R,e (n+k) (by lia) (by lia) i g⟩,o,show n+(N-n)=N by lia]
  rw[go_free (by lia) (zCy E.free b.nod),(Gv t h N).2];rfl
def zEl{t:SetTable}(b:Tb t){h:Int}{N:Nat}(E:Endz t h N):t.freeSlot h=some (pj t h N,false):=by
 unfold freeSlot;rcases zB3 b (hashAt:=λ_=>h+1) E (zero_le _)with⟨e,_⟩|⟨m,i,_,_,_,_,q,_⟩
 ·rw[show t.probe (λ_=>h+1) h (t.probeStart h)=_ from e];rfl
 ·exact absurd q (by lia)
def pj_le(t:SetTable)(h:Int)(n:Nat):pj t h n<=t.mask:=by have:=(Gv t h n).1;unfold pj;lia
def zBA(g h k:Nat):Sk g h (k+1)=Sk g h k+(runEnd g (Ik g h k)-Ik g h k+1):=rfl
def zEm(t:SetTable)(h:Int)(k d:Nat)(hd:d<=runEnd t.mask (Ik t.mask (bits h) k)-Ik t.mask (bits h) k):pj t h (Sk t.mask (bits h) k+d)=Ik t.mask (bits h) k+d:=by
 unfold pj;rw[blk0,JB,zAC,zEk t (p:=Blk t.mask (bits h) k) d hd];rfl
def zGt(g h k:Nat):leap g (Ik g h k) (h/32^k)=(Ik g h (k+1),h/32^(k+1)):=by
 have e:h/32^(k+1)=h/32^k/32:=by rw[pow_succ,Nat.div_div_eq_div_mul]
 rw[e];rfl
theorem zEn(t:SetTable)(h:Int)(v:Array (Lx Nat))(N:Nat)(T:v.size=t.mask+1)(Y:v[pj t h N]?=some none)(r:∀n,n<N->∃o,v[pj t h n]?=some (some o)) :
  ∀(g k:Nat),Sk t.mask (bits h) k<=N->N<Sk t.mask (bits h) (k+g)->layClean.free t.mask v g (Ik t.mask (bits h) k) (bits h/32^k)=some (pj t h N)
 |0,k,J,h2=>by rw[Nat.add_zero]at h2;lia
 |g+1,k,J,h2=>by
  unfold layClean.free;have G:=zEj t.mask (bits h) k;have C:Ik t.mask (bits h) k<=runEnd t.mask (Ik t.mask (bits h) k):=by unfold runEnd;split<;>lia
  by_cases c:N<Sk t.mask (bits h) (k+1)
  ·rw[zBA]at c
   obtain⟨d,rfl⟩:∃d,N=Sk t.mask (bits h) k+d:=⟨N-Sk t.mask (bits h) k,by lia⟩;have p:=zEm t h k d (by lia);have e:(List.range (runEnd t.mask (Ik t.mask (bits h) k)+1-Ik t.mask (bits h) k)).find? (λj=>(v.getD (Ik t.mask (bits h) k+j) (some 0)).isNone)=some d:=by
    rw[List.find?_range_eq_some];refine⟨?_,by simp;lia,λj l=>?_⟩
    ·rw[<- p,Array.getD_eq_getD_getElem?,Y];rfl
    ·obtain⟨o,q⟩:=r (Sk t.mask (bits h) k+j) (by lia)
     rw[zEm t h k j (by lia)]at q;rw[Array.getD_eq_getD_getElem?,q];rfl
   rw[e,p]
  ·have e:(List.range (runEnd t.mask (Ik t.mask (bits h) k)+1-Ik t.mask (bits h) k)).find? (λj=>(v.getD (Ik t.mask (bits h) k+j) (some 0)).isNone)=none:=by
    rw[List.find?_range_eq_none];intro j l;rw[zBA]at c;obtain⟨o,q⟩:=r (Sk t.mask (bits h) k+j) (by lia);rw[zEm t h k j (by lia)]at q;rw[Array.getD_eq_getD_getElem?,q];rfl
   rw[e];dsimp;rw[zGt];exact zEn t h v N T Y r g (k+1) (by lia) (by rw[show k+1+g=k+(g+1)by lia];exact h2)
def Rch(g:Nat)(k:Ls Nat)(h:Int)(j:Nat):Prop:=∃n,n<Sk g (bits h) (turns g)/\(∀t:SetTable,t.mask=g->pj t h n=j)/\∀m,m<n->∀t:SetTable,t.mask=g->pj t h m∈k
theorem uk{t t':SetTable}(e:t.mask=t'.mask)(h:Int):∀n,stand t (t.probeStart h) n=stand t' (t'.probeStart h) n
 |0=>by dsimp[stand,probeStart,e]
 |n+1=>by
  show t.advance _=t'.advance _
  rw[uk e h n];dsimp[advance,e]
def zEo{t t':SetTable}(e:t.mask=t'.mask)(h:Int)(n:Nat):pj t h n=pj t' h n:=by unfold pj;rw[uk e]
def Rch.of{t:SetTable}{h:Int}{j n:Nat}{k:Ls Nat}(hn:n<Sk t.mask (bits h) (turns t.mask))(e:pj t h n=j)(q:∀m,m<n->pj t h m∈k):Rch t.mask k h j :=
 ⟨n,hn,λV C=>by rw[zEo C,e],λm Y V C=>by rw[zEo C];exact q m Y⟩
def Rch.mono{g:Nat}{a b:Ls Nat}{h:Int}{j:Nat}(s:∀x∈a,x∈b):Rch g a h j->Rch g b h j:=λ⟨n,P,J,h2⟩=>⟨n,P,J,λm Y t e=>s _ (h2 m Y t e)⟩
def zEp(g h:Nat){a b:Nat}(c:a<b):Sk g h a<Sk g h b:=by
 induction b with
 |zero=>lia
 |succ b u =>
  rw[zBA];rcases lt_or_eq_of_le (le_of_lt_succ c)with q|q
  ·have:=u q;lia
  ·subst q;lia
structure Ene(t:SetTable)(h:Int)(N:Nat):Prop extends Endz t h N where
 near:N<Sk t.mask (bits h) (turns t.mask)
def Tb.ene{t:SetTable}(b:Tb t)(h:Int):∃N,Ene t h N:=by
 obtain⟨e,c,K⟩:=hole (b.rise.imp λh=>ne_of_lt h) (by rw[Array.length_toList];exact b.room);obtain⟨k,J,h2⟩:=zA8 b.m (zEj t.mask (bits h) 13) c;have l:pj t h (Sk t.mask (bits h) (13+k))=e:=by
  unfold pj;rw[blk0,zAC];show Ik t.mask (bits h) (13+k)=e;rw[zB2 (zA9 h),h2]
 obtain⟨N,a,S,W⟩:=ZD (λn=>pj t h n∉t.place.toList) (Sk t.mask (bits h) (13+k)) (by rw[l];exact K);refine⟨N,⟨le_trans a (le_trans (Sk_le _ _ _) (by lia)),S,λn K=>Classical.byContradiction λz=>W n K z⟩,lt_of_le_of_lt a (zEp _ _ (by unfold turns;lia))⟩
structure SetT(led:Bool)(es:Ld)(t:SetTable):Prop where
 m:M8 t.mask
 rise:zFq t.place.toList
 nod:t.dummies=#[]
 low:∀j∈t.place.toList,j<=t.mask
 sz:t.place.size=es.size
 led:t.led=led
 plain:t.plain=true
 few:t.tooFull=false
 reach:∀q∈List.zip t.place.toList es.toList,Rch t.mask t.place.toList q.2.1 q.1
theorem SetT.fill{led:Bool}{es:Ld}{t:SetTable}(g:SetT led es t):t.place.size*5<t.mask*3:=by
 have:=g.few;unfold tooFull SetTable.fill at this;rw[g.nod]at this;exists this
def SetT.tb{led:Bool}{es:Ld}{t:SetTable}(g:SetT led es t):Tb t:=⟨g.m,g.rise,g.nod,g.low,by have:=g.fill;lia⟩
theorem SetT.fits{led:Bool}{es:Ld}{t:SetTable}(g:SetT led es t):t.fits es.size=true:=by
 have:=g.fill;dsimp[SetTable.fits,SetTable.fill,g.nod,g.sz,beq_self_eq_true,Bool.true_and,decide_eq_true_eq];have:=g.sz;simp;lia
def zip_ins{α β:Type}(a:Array α)(b:Array β)(e:a.size=b.size)(p:Nat)(x:α)(y:β):∀q∈List.zip (insertAt a p x).toList (insertAt b p y).toList,q=(x,y)\/q∈List.zip a.toList b.toList:=by
 intro q W;rw[ZC,ZC,zip_append (by simp[e]),zip_cons_cons]at W;rcases mem_append.mp W with h|h
 ·refine .inr ?_
  rw[List.zip_eq_zipWith,<- List.take_zipWith]at h;exact List.mem_of_mem_take h
 ·rcases mem_cons.mp h with h|h
  ·exact .inl h
  ·refine .inr ?_
   rw[List.zip_eq_zipWith,<- List.drop_zipWith]at h;exact List.mem_of_mem_drop h
theorem SetT.put{led:Bool}{es:Ld}{t:SetTable}(g:SetT led es t){h:Int}{N:Nat}(E:Ene t h N)(x:Lv) :
  t.put (pj t h N)=({t with place:=insertAt t.place (below t.place (pj t h N)) (pj t h N)},below t.place (pj t h N)) /\
  (({t with place:=insertAt t.place (below t.place (pj t h N)) (pj t h N)}:SetTable).tooFull=false->SetT led (insertAt es (below t.place (pj t h N)) (h,x)) {t with place:=insertAt t.place (below t.place (pj t h N)) (pj t h N)}):=by
 refine⟨?_,λhf=>?_⟩
 ·unfold SetTable.put
  have:has t.dummies (pj t h N)=false:=by rw[g.nod];rfl
  rw[this];rfl
 ·refine⟨g.m,zGr _ _ g.rise E.free,g.nod,λj l=>?_,by show(insertAt t.place _ _).size=_;rw[YA,YA,g.sz],g.led,g.plain,hf,λq W=>?_⟩
  ·rcases(zEh _ _ _ _).mp l with rfl|l
   ·exact pj_le t h N
   ·exact g.low j l
  ·have sub:∀y∈t.place.toList,y∈(insertAt t.place (below t.place (pj t h N)) (pj t h N)).toList:=λy Q=>(zEh _ _ _ _).mpr (.inr Q)
   rcases zip_ins _ _ g.sz _ _ _ q W with rfl|W
   ·exact(Rch.of (t:=t) E.near rfl E.taken).mono sub
   ·exact(g.reach q W).mono sub
def SetT.at{led:Bool}{es:Ld}{t:SetTable}(g:SetT led es t){i:Nat}{e:Int×Lv}(c:es[i]?=some e):∃j,t.place[i]?=some j/\Rch t.mask t.place.toList e.1 j:=by
 obtain⟨R,W⟩:=Array.getElem?_eq_some_iff.mp c;have L:i<t.place.size:=by rw[g.sz];exact R
 refine⟨t.place[i],Array.getElem?_eq_getElem L,g.reach (t.place[i],e) ?_⟩;refine mem_iff_getElem?.mpr ⟨i,?_⟩;rw[getElem?_zip_eq_some];exact⟨by simp[L],by exists c⟩
def SetT.seen{led:Bool}{es:Ld}{t:SetTable}(g:SetT led es t){h:Int}{N:Nat}(E:Endz t h N){i:Nat}{e:Int×Lv}(c:es[i]?=some e)(P:e.1=h):∃n,n<N/\t.place[i]?=some (pj t h n):=by
 obtain⟨j,J,n,_,h2,Q⟩:=g.at c;rw[P]at h2 Q;refine⟨n,?_,by rw[J,h2 t rfl]⟩;have l:j∈t.place.toList:=by exists Array.mem_of_getElem? J
 rcases Nat.lt_trichotomy n N with q|q|q
 ·exact q
 ·exact absurd (by rw[<- q,h2 t rfl];exact l) E.free
 ·exact absurd (Q N q t rfl) E.free
def fresh_t(led:Bool):SetT led #[] (.fresh 0 0 led):=⟨.inl rfl,.nil,rfl,λj l=>by simp[SetTable.fresh]at l,rfl,rfl,rfl,by rfl,λq W=>by simp at W⟩
def zCz(t:SetTable)(Y:M8 t.mask)(h:Int){pl:Ls Nat}(nd:pl.Nodup)(r:pl.length<=t.mask):∃N,N<Sk t.mask (bits h) (turns t.mask)/\pj t h N∉pl/\∀n,n<N->pj t h n∈pl:=by
 obtain⟨e,c,K⟩:=hole nd r;obtain⟨k,J,h2⟩:=zA8 Y (zEj t.mask (bits h) 13) c;have l:pj t h (Sk t.mask (bits h) (13+k))=e:=by
  unfold pj;rw[blk0,zAC];show Ik t.mask (bits h) (13+k)=e;rw[zB2 (zA9 h),h2]
 obtain⟨N,a,S,W⟩:=ZD (λn=>pj t h n∉pl) (Sk t.mask (bits h) (13+k)) (by rw[l];exact K);exact⟨N,lt_of_le_of_lt a (zEp _ _ (by unfold turns;lia)),S,λn K=>Classical.byContradiction λz=>W n K z⟩
def T31:SetTable:=⟨31,#[],#[],0,true,0,true⟩
def lay_any(c:Ls Int):∀(g:Ls Int) (p:Ls Nat) (v:Array (Lx Nat)),(g++c).length<=31->p.length=g.length->p.Nodup->(∀j∈p,j<32)->v.size=32->(∀j,j<32->v[j]?=some (own p j))->(∀q∈List.zip p g,Rch 31 p q.2 q.1) ->
  ∃z o,c.foldl (init:=some (v,g.length)) (λL h=>do
   let (v,k) <- L
   let j <- layClean.free 31 v (SetTable.turns 31) (bits h%(31+1)) (bits h)
   pure (v.setIfInBounds j (some k),k+1))=some (z,(g++c).length)/\o.length=(g++c).length/\o.Nodup/\(∀j∈o,j<32)/\z.size=32/\(∀j,j<32->z[j]?=some (own o j))/\∀q∈List.zip o (g++c),Rch 31 o q.2 q.1:=by
 induction c with
 |nil=>intro g p v _ J h2 Q h4 h5 y;exact⟨v,p,by simp,by simpa using J,h2,Q,h4,h5,by exists y⟩
 |cons h c u =>
  intro g p v hl J h2 Q h4 h5 y;obtain⟨N,X,H,E⟩:=zCz T31 (.inr rfl) h h2 (by simp at hl;show _<=31;lia);have G:∀n,pj T31 h n<32:=λn=>Nat.lt_succ_of_le (pj_le T31 h n)
  have w:layClean.free 31 v (SetTable.turns 31) (bits h%(31+1)) (bits h)=some (pj T31 h N):=by
   have:=zEn T31 h v N h4 (by rw[h5 _ (G N)];unfold own;rw[if_neg H]) (λn K=>by rw[h5 _ (G n)];unfold own;rw[if_pos (E n K)];exact⟨_,rfl⟩) (turns 31) 0 (zero_le _) (by rw[zero_add];exact X);rw[Nat.pow_zero,Nat.div_one]at this;exact this
  generalize S:pj T31 h N=j at *;have l:j<32:=by rw[<- S];exact G N
  have D:=u (g++[h]) (p++[j]) (v.setIfInBounds j (some g.length)) (by exists hl) (by simp[J]) (nodup_append.mpr ⟨h2,by simp,λa C b Z e=>by simp at Z;subst Z;subst e;exact H C⟩) (λi R=>by
    rcases mem_append.mp R with R|R
    ·exact Q i R
    ·rw[mem_singleton]at R;subst R;exact l) (by exists h4) (λi R=>by
   rw[Array.getElem?_setIfInBounds];by_cases e:j=i
   ·subst e
    rw[if_pos rfl,if_pos (by lia)];unfold own;rw[if_pos (by simp),List.idxOf_append,if_neg H];simp[J]
   ·rw[if_neg e,h5 i R]
    unfold own;by_cases R:i∈p
    ·rw[if_pos R,if_pos (by simp[R]),List.idxOf_append,if_pos R]
    ·rw[if_neg R,if_neg (by simp[R];exact λh=>e h.symm)]) (λq W=>by
   rw[zip_append J]at W;rcases mem_append.mp W with W|W
   ·exact(y q W).mono λx M=>mem_append_left _ M
   ·simp at W
    subst W;exact(Rch.of (t:=T31) X S E).mono λx M=>mem_append_left _ M)
  obtain⟨z,o,O,r⟩:=D;rw[append_assoc]at r;refine⟨z,o,?_,r⟩;rw[foldl_cons];show foldl _ (do let j <- layClean.free 31 v (SetTable.turns 31) (bits h%(31+1)) (bits h);pure (v.setIfInBounds j (some g.length),g.length+1)) _=_;rw[w];have e:(g++[h]).length=g.length+1:=by simp
  rw[e]at O;have P:(g++[h]++c).length=(g++h::c).length:=by simp
  rw[P]at O;exact O
def laidT(T:Ls Int)(c:T.length<=31)(f m:Nat)(led pn:Bool):∃p:Ls Nat,p.length=T.length/\p.Nodup/\(∀j∈p,j<32)/\(∀q∈List.zip p T,Rch 31 p q.2 q.1) /\
  laid 31 f m led pn T.toArray=some (⟨31,((List.range 32).filter λj=>p.contains j).toArray,#[],f,led,m,pn⟩,(((List.range 32).filter λj=>p.contains j).map λj=>p.idxOf j).toArray):=by
 obtain⟨o,p,O,r,n,g,k,M,i⟩:=lay_any T [] [] (Array.replicate 32 none) (by exists c) rfl (by simp) (by simp) (by simp) (λj l=>by simp[own,l]) (λq W=>by simp at W);refine⟨p,r,n,g,i,?_⟩;have a:layClean 31 T.toArray=some o:=by
  unfold layClean;rw[List.foldl_toArray];dsimp[length_nil]at O;rw[O];rfl
 have P:((List.range (31+1)).filterMap λj=>(o.getD j none).map (j,·))=((List.range 32).filter λj=>p.contains j).map λj=>(j,p.idxOf j):=by
  refine fm_eq _ _ _ _ λj l=>?_
  rw[Array.getD_eq_getD_getElem?,M j (by exists l)];dsimp[own,Option.getD_some,List.contains_iff_mem]
 unfold laid;rw[a];show some _=_;rw[P,map_map,map_map];congr 1;simp[Function.comp_def]
def zGu{α:Type}(es:Array α)(l:Ls Nat)(h:∀i∈l,i<es.size)(d:α):l.filterMap (es[·]?)=l.map λi=>es.getD i d:=by
 induction l with
 |nil=>rfl
 |cons a l u =>
  have C:=h a qE;rw[filterMap_cons,Array.getElem?_eq_getElem C,map_cons,u λi R=>h i (qD _ R)];simp[Array.getD,C]
def SetT.relay{led:Bool}{es:Ld}{t:SetTable}(S:es.size=5)(w:t.mask=7)(c:t.led=led)(G:t.plain=true) :
  ∃z u v,t.relaid (es.map (·.1)) (grown 5)=some (u,v)/\v.filterMap (es[·]?)=z/\z.size=es.size/\SetT led z u/\z.toList.Perm es.toList/\coversAll v es.size=true:=by
 obtain⟨pls,O,r,n,g,k⟩:=laidT (es.toList.map (·.1)) (by simp;lia) t.finger (t.movedTo 31) t.led t.plain;generalize D:((List.range 32).filter λj=>pls.contains j)=p at k;replace O:pls.length=es.size:=by exists O
 have e:p.Perm pls:=by
  rw[<- D,List.perm_ext_iff_of_nodup (List.nodup_range.filter _) r];intro a;dsimp[mem_filter,mem_range,List.contains_iff_mem];exact⟨λh=>h.2,λh=>⟨n a h,h⟩⟩
 have L:∀i∈p.map (λj=>pls.idxOf j),i<es.size:=λi R=>by
  obtain⟨j,l,rfl⟩:=mem_map.mp R;rw[<- O];exact List.idxOf_lt_length_iff.mpr (e.mem_iff.mp l)
 have C:=e.map λj=>pls.idxOf j
 rw[zEi pls r,O]at C;have H:((p.map λj=>pls.idxOf j).filterMap (es[·]?)).Perm es.toList:=by
  have h2:=C.filterMap (es[·]?);rw[filterMap_getElem?_range]at h2;exact h2
 have y:((p.map λj=>pls.idxOf j).filterMap (es[·]?)).length=es.size:=by rw[H.length_eq,Array.length_toList]
 refine⟨(p.map λj=>pls.idxOf j).toArray.filterMap (es[·]?),⟨31,p.toArray,#[],t.finger,t.led,t.movedTo 31,t.plain⟩,(p.map λj=>pls.idxOf j).toArray,?_,rfl,by rw[<- Array.length_toList,Array.toList_filterMap];exact y,⟨.inr rfl,?_,rfl,?_,?_,c,G,?_,?_⟩,by rw[Array.toList_filterMap];exact H,List.isPerm_iff.mpr C⟩
 ·unfold relaid
  rw[<- k];show laid (sizeAbove (grown 5)-1) _ (t.movedTo (sizeAbove (grown 5)-1)) _ _ _=_;rw[show sizeAbove (grown 5)-1=31 by left];congr 1;apply Array.toList_inj.mp;simp
 ·show zFq p
  rw[<- D];exact List.pairwise_lt_range.filter _
 ·intro j l
  have:=n j (e.mem_iff.mp l);show j<=31;lia
 ·show p.toArray.size=_
  rw[size_toArray,<- Array.length_toList,Array.toList_filterMap,y,e.length_eq,O]
 ·have:p.length=5:=by rw[e.length_eq,O,S]
  simp[tooFull,SetTable.fill,this]
 ·intro q W
  rw[Array.toList_filterMap]at W
  change q∈List.zip p ((p.map λj=>pls.idxOf j).filterMap (es[·]?))at W
  rw[zGu es _ L (0,.none)]at W;obtain⟨i,R⟩:=mem_iff_getElem?.mp W;obtain⟨Z,o⟩:=getElem?_zip_eq_some.mp R;rw[getElem?_map,getElem?_map,Z]at o;have l:=e.mem_iff.mp (mem_of_getElem? Z);have I:=List.idxOf_lt_length_iff.mpr l;have E:pls.idxOf q.1<es.size:=by lia
  refine(g (q.1,q.2.1) (mem_iff_getElem?.mpr ⟨pls.idxOf q.1,getElem?_zip_eq_some.mpr ⟨?_,?_⟩⟩)).mono λx M=>e.mem_iff.mpr M
  ·rw[getElem?_eq_getElem I,List.getElem_idxOf I]
  ·simp[Array.getD,E]at o
   rw[getElem?_map,Array.getElem?_toList,Array.getElem?_eq_getElem E,o];rfl
section
variable{led:Bool}{es:Ld}{t:SetTable}
def SetT.fits1(g:SetT led es t)(j:Nat):({t with place:=insertAt t.place (below t.place j) j}:SetTable).fits (es.size+1)=true:=by
 have:=g.fill;have:=g.sz;dsimp[SetTable.fits,SetTable.fill,g.nod,YA,Bool.and_eq_true,beq_iff_eq,decide_eq_true_eq,Array.size_empty];lia
def SetT.full(g:SetT led es t)(z:es.size<=16){j:Nat}(h:({t with place:=insertAt t.place (below t.place j) j}:SetTable).tooFull=true):t.mask=7/\es.size=4:=by
 have P:=g.fill;unfold tooFull SetTable.fill at h;dsimp[g.nod,YA,g.sz]at h P;simp at h;rcases g.m with e|e<;>rw[e]at h P<;>lia
structure SetG(led:Bool)(es:Ld)(t:SetTable):Prop extends SetT led es t where
 ent:∀e∈es.toList,∃(n:Nat) (k:Tok),n<16/\e=((n:Int),.int (n:Int) k)
 nd:(es.toList.map (·.1)).Nodup
def SetG.le16(g:SetG led es t):es.size<=16:=by
 have:=Gw _ ((List.range 16).map λn:Nat=>(n:Int)) g.nd λx M=>by
  obtain⟨e,c,rfl⟩:=mem_map.mp M;obtain⟨n,k,K,rfl⟩:=g.ent e c;exact mem_map.mpr ⟨n,by simpa using K,rfl⟩
 exists this
def SetG.add(g:SetG led es t){n:Nat}(hn:n<16)(k:Tok)(W:∀e∈es.toList,e.1≠(n:Int)) :
  ∃i v,layNew t es (n:Int) (.int (n:Int) k)=(i,v,false,false)/\v.plain=true/\v.fits i.size=true/\i.toList.Perm (es.toList++[((n:Int),.int (n:Int) k)]) /\
   ((v.tooFull=false/\SetG led i v)\/(v.tooFull=true/\∃z u,relayAll v i (grown i.size)=(z,u,false)/\SetG led z u/\z.toList.Perm i.toList)):=by
 obtain⟨N,E⟩:=g.tb.ene n;obtain⟨S,G⟩:=g.put E (.int (n:Int) k);have R:=g.fits1 (pj t n N);have y:=g.toSetT.full g.le16 (j:=pj t n N);have I:=zEl g.tb E.toEndz;have H:=SetTable.insertAt_perm es (below t.place (pj t n N)) ((n:Int),Value.int (n:Int) k);rw[Array.toList_push]at H;have r:∀{l:Ls (Int×Lv)},l.Perm (es.toList++[((n:Int),Value.int (n:Int) k)])->(∀e∈l,∃(n:Nat) (k:Tok),n<16/\e=((n:Int),.int (n:Int) k))/\(l.map (·.1)).Nodup:=λp=>by
  refine⟨λe c=>?_,((p.map _).nodup_iff).mpr ?_⟩
  ·rcases mem_append.mp (p.mem_iff.mp c)with c|c
   ·exact g.ent e c
   ·rw[mem_singleton]at c;exact⟨n,k,hn,c⟩
  ·rw[map_append,nodup_append]
   refine⟨g.nd,by simp,λa C b Z=>?_⟩;simp at Z;subst Z;obtain⟨e,c,rfl⟩:=mem_map.mp C;exact W e c
 have T:=YA es (below t.place (pj t n N)) ((n:Int),Value.int (n:Int) k);generalize x:insertAt es (below t.place (pj t n N)) ((n:Int),Value.int (n:Int) k)=i at *;refine⟨i,{t with place:=insertAt t.place (below t.place (pj t n N)) (pj t n N)},?_,g.plain,by rw[T];exact R,H,?_⟩
 ·unfold layNew
  rw[I];dsimp;rw[S];dsimp;unfold SetTable.orStandIn;rw[x,T,if_pos R,R];rfl
 ·cases h:({t with place:=insertAt t.place (below t.place (pj t n N)) (pj t n N)}:SetTable).tooFull with
  |false=>exact .inl ⟨rfl,{G h with ent:=(r H).1,nd:=(r H).2}⟩
  |true =>
   obtain⟨w,h4⟩:=y h;obtain⟨z,u,K,J,o,L,q,V,D⟩:=SetT.relay (led:=led) (es:=i) (t:={t with place:=insertAt t.place (below t.place (pj t n N)) (pj t n N)}) (by lia) w g.led g.plain
   refine .inr ⟨rfl,z,u,?_,{q with ent:=(r (V.trans H)).1,nd:=(r (V.trans H)).2},V⟩
   unfold relayAll;rw[show grown i.size=grown 5 by rw[T,h4],J];dsimp;rw[if_pos (by rw[D,o,q.fits];rfl),o]
end
end DV
namespace PySem
open Sem (wp)
open DV
def JU(w:Le):Bool:=w.params.followText "set-order"
def YF(es:Ld)(D:Nat)(t:SetTable):Obj:={cls:=.type "set",dict:=none,data:=.set es D t,slots:=#[]}
end PySem
namespace PySem
open Sem (wp)
open DV PyProof.Rows
section
variable{prog:Lc}{w:Le}{A:Li}{E:Ly}{s:La}
def zC0(a:Lv){Q₁:Ly}
  (h:Q₁ (.ref s.heap.objs.size) {s with heap:=s.heap.push (YF #[] 0 (.fresh 0 0 (!JU w)))}) :
  codeAny (model prog w) A (.call (.builtin "set.__new__") ⟨[.type "set",a],[]⟩) (wants Q₁ E) s:=by
 refine codeAny_of_tree ?_;show wpAny _ A.in1 (do checkBuiltinCall "set.__new__" ⟨[.type "set",a],[]⟩;again (.builtin "set.__new__" ⟨[.type "set",a],[]⟩)) _ _ s;refine qB (wpAny_of_eq (F.newCall_set_1 a) (qC ⟨plainId_quiet F.plain_set_new _,codeAny_builtin F.entry_set_new ?_⟩));rw[Around.under_plainId F.plain_set_new _];unfold Builtin.«set.__new__» Builtin.Frozenset.newClass;have n:=sub_set_self;obtain⟨L,g,d,M,p⟩:=s;dsimp
 wp_walk
 refine wpAny_askSetting (qC ?_);dsimp;dsimp[newObj];refine qB (wpAny_alloc (qC ?_));exact qC h
def zAE{C:Ld->SetTable->Prop}{l:Lz}{items:Lg}{T:String}{nl:Nat}{Q:Ly}{od:Lx Lz}{u:Lj}
  (hh:A.handled=none) (L:T="list"\/T="tuple") (Z:s.heap.get? l=some {cls:=.type T,dict:=od,data:=.seq items nl,slots:=u})
  (g:∀(I S:Lz) (fp:Ls Lz) (St:Nat->La->Prop) (s1:La) (R:Result->La->Prop),WalksS prog w A.in1.in1.in1 I fp [I] (λa b=>b=a) items.size (λi v=>items[i]?=some v) St->S∉fp->s.heap.objs.size<=S->s.heap.objs.size<=I->St 0 s1 ->
   s1.heap.get? S=some (YF #[] 0 (.fresh 0 0 (!JU w)))->(∀b o,s.heap.get? b=some o->s1.heap.get? b=some o) ->
   (∀j H K V,Moved [S,I] (λa b=>b=a) s1 j->j.heap.get? S=some (YF H K V)->C H V->R (.ok (.ret .none)) j)->codeAny (model prog w) A.in1.in1 (.builtin "set.update.loop" ⟨[.ref S,.ref I],[]⟩) R s1)
  (h:∀(y:Heap) (M:Nat) es D t,y.get? s.heap.objs.size=some (YF es D t)->C es t ->
   (∀b o,b<s.heap.objs.size->s.heap.get? b=some o->y.get? b=some o)->Q (.ref s.heap.objs.size) {s with heap:=y,toks:=M}) :
  wpAny (model prog w) A (call (.type "set") [.ref l]) Q E s:=by
 obtain⟨c,tl,ar⟩:=F.called_set.mro;have ao:=F.called_set.made;have au:=F.called_set.sub;refine wpAny_call (codeAny_of_tree ?_);show wpAny _ _ (callAny (.type "set") _) _ _ _;refine qC ⟨Code.quiet_builtin _ (by left),codeAny_builtin F.entry_type_call ?_⟩;rw[Around.under_plain (weight_type_call_type "set" [.ref l] []) rfl];have h1:=F.called_set.notType;have h2:=F.called_set.canCreate;have ay:=F.typeCall_set_1 (.ref l)
 repeat (any_goals (first|assumption|wp_step))
 refine codeAny_mono (zC0 (.ref l) (E:=E) (Q₁:=λO p=>O=.ref s.heap.objs.size/\p={s with heap:=s.heap.push (YF #[] 0 (.fresh 0 0 (!JU w)))}) ⟨rfl,rfl⟩) λr p z=>?_
 cases r with
 |error e=>exact z
 |ok fl =>
  cases fl with
  |ret O =>
   obtain⟨rfl,rfl⟩:=z;have X:(s.heap.push (YF #[] 0 (.fresh 0 0 (!JU w)))).get? s.heap.objs.size=some (YF #[] 0 (.fresh 0 0 (!JU w))):=get?_push_size _ rfl;have af:Shared.TypeIs {s with heap:=s.heap.push (YF #[] 0 (.fresh 0 0 (!JU w)))} (.ref s.heap.objs.size) "set":=⟨_,X,rfl⟩
   have aw:=F.called_set.init.lookup;have ax:=F.called_set.init.bind (.ref s.heap.objs.size)
   repeat (any_goals (first|assumption|wp_step))
   refine codeAny_mono (codeAny_call_builtin (R:=wants (λr q=>r=.none/\∃y M es D t,q={s with heap:=y,toks:=M} /\
     y.get? s.heap.objs.size=some (YF es D t)/\C es t /\
     (∀b o,b<s.heap.objs.size->s.heap.get? b=some o->y.get? b=some o)) E) F.called_set.init.plain F.entry_set_init (check_set_init_1 af ?_)) λr₂ q ab=>?_
   ·have ac:(s.heap.push (YF #[] 0 (.fresh 0 0 (!JU w)))).get? l=some {cls:=.type T,dict:=od,data:=.seq items nl,slots:=u}:=qA _ Z
    have av:isSubtype (.type T) (.type "set")=pure false:=by rcases L with rfl|rfl;exact F.sub_list_set;exact F.sub_tuple_set
    have aq:isSubtype (.type T) (.type "frozenset")=pure false:=by rcases L with rfl|rfl;exact F.sub_list_frozenset;exact F.sub_tuple_frozenset
    have aa:(Value.type T==Value.type "dict")=false:=by rcases L with rfl|rfl<;>decide
    have x:(s.heap.push {cls:=.type "set",dict:=none,data:=.set #[] 0 (.fresh 0 0 (!JU w)),slots:=#[]}).get? s.heap.objs.size=some {cls:=.type "set",dict:=none,data:=.set #[] 0 (.fresh 0 0 (!JU w)),slots:=#[]}:=X;unfold YF at ac af ⊢;unfold Builtin.«set.__init__» noKeywords Builtin.Frozenset.updateFrom;generalize aj:pyIter=PI
    wp_walk
    subst aj;have ag:l<s.heap.objs.size:=lt_size Z;have n:A.in1.in1.in1.handled=none:=by simp[hh]
    have ad:l≠(s.heap.push (YF #[] 0 (.fresh 0 0 (!JU w)))).objs.size:=by
     rw[size_push];exact ne_of_lt (lt_succ_of_lt ag)
    have G:s.heap.objs.size∉[(s.heap.push (YF #[] 0 (.fresh 0 0 (!JU w)))).objs.size,l]:=by
     rw[size_push];dsimp[mem_cons,mem_singleton,List.not_mem_nil,or_false,not_or];exact⟨ne_of_lt (lt_succ_self _),ne_of_gt ag⟩
    have ah:∀(j:La) H K V (ci:Obj),Moved (s.heap.objs.size::[(s.heap.push (YF #[] 0 (.fresh 0 0 (!JU w)))).objs.size]) (λa b=>b=a) {s with heap:=(s.heap.push (YF #[] 0 (.fresh 0 0 (!JU w)))).push ci} j->j.heap.get? s.heap.objs.size=some (YF H K V)->C H V ->
      ∃y M es D t,j={s with heap:=y,toks:=M}/\y.get? s.heap.objs.size=some (YF es D t)/\C es t/\(∀b o,b<s.heap.objs.size->s.heap.get? b=some o->y.get? b=some o):=by
     intro j H K V ci Y W k;obtain⟨y,g',d',ap,am⟩:=j;have eg:g'=s.gens:=Y.gens;have ed:d'=s.drawn:=Y.drawn;have J:am=s.os:=Y.os;subst eg;subst ed;subst J;refine⟨y,ap,H,K,V,rfl,W,k,λb o hb e=>?_⟩;have ai:b≠s.heap.objs.size:=ne_of_lt hb;have an:b≠(s.heap.push (YF #[] 0 (.fresh 0 0 (!JU w)))).objs.size:=by
      rw[size_push];exact ne_of_lt (lt_succ_of_lt hb)
     exact Y.heap b o (by dsimp[mem_cons,mem_singleton,List.not_mem_nil,or_false,not_or];exact⟨ai,an⟩) (qA _ (qA _ e))
    rcases L with rfl|rfl
    ·have P:(s.heap.push (YF #[] 0 (.fresh 0 0 (!JU w)))).IsList l items:=⟨_,ac,rfl,nl,rfl⟩
     refine wpAny_pyIter_list P ?_;refine qB (wpAny_runValue ?_);refine g _ _ _ _ _ _ ((Walks.list n _ l ad items).toS) G (le_refl _) (by rw[size_push];exact le_succ _) ⟨⟨_,get?_push_size _ rfl,rfl,rfl⟩,(P.push _)⟩ (qA _ X) (λb o e=>qA _ (qA _ e)) λj H K V Y W k=>?_
     show wpAny _ _ _ _ _ _
     refine qC ?_;show wpAny _ _ (ret Value.none) _ _ _;exact qC ⟨rfl,ah j H K V _ Y W k⟩
    ·have P:(s.heap.push (YF #[] 0 (.fresh 0 0 (!JU w)))).IsTuple l items:=⟨_,ac,rfl,nl,rfl⟩
     refine wpAny_pyIter_tuple P ?_;refine qB (wpAny_runValue ?_);refine g _ _ _ _ _ _ ((Walks.tuple n _ l ad items).toS) G (le_refl _) (by rw[size_push];exact le_succ _) ⟨⟨_,get?_push_size _ rfl,rfl,rfl⟩,(P.push _)⟩ (qA _ X) (λb o e=>qA _ (qA _ e)) λj H K V Y W k=>?_
     show wpAny _ _ _ _ _ _
     refine qC ?_;show wpAny _ _ (ret Value.none) _ _ _;exact qC ⟨rfl,ah j H K V _ Y W k⟩
   ·cases r₂ with
    |error e=>exact ab
    |ok ae =>
     cases ae with
     |ret r =>
      obtain⟨rfl,y,M,es,D,t,rfl,x,g',ak⟩:=ab
      repeat (any_goals (first|assumption|wp_step))
      exact h _ _ es D t x g' ak
     |_=>exact ab.elim
  |_=>exact z.elim
end
end PySem
namespace PySem
open Sem (wp)
open DV
section
variable{prog:Lc}{w:Le}{A:Li}{E:Ly}{s:La}{key:Lv->Ls Int}
def j8(prog:Lc)(w:Le)(key:Lv->Ls Int)(h:Heap)(v:Lv):Prop:=∃a,v=.ref a/\IsTupleKey (intKind prog w) h (key v) a
abbrev jr(prog:Lc)(w:Le)(a:Ls Int):Int:=tupleKeyHash (intKind prog w) a
structure TupsOf(prog:Lc)(w:Le)(key:Lv->List Int)(h:Heap)(es:Ld):Prop where
 ent:∀e∈es.toList,e.1=jr prog w (key e.2)/\j8 prog w key h e.2
 nd:(es.toList.map λe=>key e.2).Nodup
def zB4{v:Lv}{Q:Ln}(P:j8 prog w key s.heap v)(h:Q false s):wpAny (model prog w) A (ofAClassStatement 8 v) Q E s:=by
 obtain⟨a,rfl,V⟩:=P;have hT:=V.typeIs;obtain⟨o,i,n,ho,_,C,R⟩:=V;unfold ofAClassStatement;refine qB (wpAny_typeOf hT ?_);dsimp;rw[if_pos (by rfl)];refine qB (qC ?_);dsimp[Bool.not_true,Bool.false_eq_true,if_false];refine qB (wpAny_seqItems ho C ?_);dsimp;refine qB ?_;show wpAny _ _ (forIn i _ _) _ _ s;rw[<- Array.forIn_toList];refine wpAny_forIn_list _ (λjk r j=>r.1=none/\j=s/\∀v∈jk,carriedByValue v=true) _ ?_ ?_ _ _ ⟨rfl,rfl,R.byValue⟩
 ·rintro v jk r j ⟨z,rfl,g⟩
  have e:ofAClassStatement 7 v=pure false:=by
   have:=g v qE;cases v<;>first|rfl|cases this
  rw[e];refine qB (qC ?_);dsimp[Bool.false_eq_true,if_false];exact qC ⟨rfl,rfl,λu q=>g u (qD _ q)⟩
 ·rintro ⟨l,c⟩ j ⟨z,rfl,_⟩
  simp only at z;subst z;exact qC h
def zB5{v:Lv}{Q:Ln}(P:j8 prog w key s.heap v)(h:Q true s):wpAny (model prog w) A (eqIsQuiet 8 v) Q E s:=by
 obtain⟨a,rfl,V⟩:=P;exact wpAny_eqIsQuiet_tuple V h
def zEq{x:Lv}{l:Ls Lv}{Q:Ln}(M:j8 prog w key s.heap x)(c:∀v∈l,j8 prog w key s.heap v)(h:Q false s):wpAny (model prog w) A (searchCouldBeSeen x l) Q E s:=by
 unfold searchCouldBeSeen;refine qB ?_;refine wpAny_forIn_list _ (λjk r j=>r.1=none/\j=s/\∀v∈jk,j8 prog w key s.heap v) _ ?_ ?_ _ _ ⟨rfl,rfl,c⟩
 ·rintro v jk r j ⟨z,rfl,g⟩
  have hv:=g v qE;have n:∀u∈jk,j8 prog w key j.heap u:=λu q=>g u (qD _ q)
  dsimp;generalize (_||_:Bool)=b;cases b with
  |true =>
   dsimp[if_true];exact qC ⟨rfl,rfl,n⟩
  |false =>
   dsimp[Bool.false_eq_true,if_false];refine qB (zB5 M ?_);dsimp[Bool.not_true,Bool.false_eq_true,if_false];refine qB (zB5 hv ?_);dsimp[Bool.not_true,Bool.false_eq_true,if_false];refine qB (zB4 M ?_);dsimp[Bool.false_eq_true,if_false];refine qB (zB4 hv ?_);dsimp[Bool.false_eq_true,if_false];exact qC ⟨rfl,rfl,n⟩
 ·rintro ⟨a,o⟩ j ⟨z,rfl,_⟩
  simp only at z;subst z;exact qC h
def zGv{c:Bool}{m:Sem Bool}{U R:Sem SetFound}{Q:SetFound->La->Prop}(Y:∀Q':Ln,Q' false s->wpAny (model prog w) A m Q' E s)(C:wpAny (model prog w) A R Q E s):wpAny (model prog w) A (if c=true then(m >>= λb=>if b=true then U else R)else R) Q E s:=by
 cases c with
 |true =>
  dsimp[if_true];refine qB (Y _ ?_);exists C
 |false=>exists C
def zEr{a:Lz}{x:Lv}{es:Ld}{D:Nat}{t:SetTable}{led:Bool}{N:Nat}{Q:SetFound->La->Prop}(p:A.units<cLine)(J:s.heap.get? a=some (YF es D t))(g:SetT led es t)(c:TupsOf prog w key s.heap es)(hx:j8 prog w key s.heap x)(r:Ene t (jr prog w (key x)) N)
  (ae:(∃e∈es.toList,key e.2=key x)->Q (.there none) s) (I:(∀e∈es.toList,key e.2≠key x)->Q (.free (pj t (jr prog w (key x)) N) false) s) :
  ∀(f n:Nat) (V:Lx SetTable.Probe),n<=N->N<n+f->V.getD (t.probeStart (jr prog w (key x)))=stand t (t.probeStart (jr prog w (key x))) n->(∀m,m<n->∀(i:Nat) (e:Int×Lv),t.place[i]?=some (pj t (jr prog w (key x)) m)->es[i]?=some e->key e.2≠key x) ->
   wpAny (model prog w) A (setSearchFrom a x (jr prog w (key x)) true f V) Q E s:=by
 intro f
 induction f with
 |zero=>intro n V h1 h2;lia
 |succ f u =>
  intro n V hn hf T O;have hd:(YF es D t).data=.set es D t:=rfl;have h:=g.fits;rw[setSearchFrom];refine qB (wpAny_setState_of J hd h ?_);dsimp;have ab:t.gaveWay=false:=by
   unfold SetTable.gaveWay;rcases g.m with e|e<;>rw[e]<;>rfl
  rw[ab,T];dsimp[Bool.false_eq_true,if_false];have l:∀(i:Nat) (e:Int×Lv),es[i]?=some e->(es[i]?.map λz:Int×Lv=>z.1).getD 0=e.1:=λi e q=>by rw[q];rfl
  have L:∀(i:Nat) (e:Int×Lv),es[i]?=some e->e∈es.toList:=λi e q=>by exists Array.mem_of_getElem? q
  have aa:∀m,m<N->(∀i:Nat,t.place[i]?=some (pj t (jr prog w (key x)) m)->(es[i]?.map λz:Int×Lv=>z.1).getD 0≠jr prog w (key x))->∀(i:Nat) (e:Int×Lv),t.place[i]?=some (pj t (jr prog w (key x)) m)->es[i]?=some e->key e.2≠key x:=λm _ q i e Z o M=>by
   have:=q i Z;rw[l i e o,(c.ent e (L i e o)).1,M]at this;exact this rfl
  rcases zB3 g.tb (hashAt:=λi=>(es[i]?.map λz:Int×Lv=>z.1).getD 0) r.toEndz hn with⟨p1,p2⟩|⟨m,i,m1,m2,m3,m4,m5,p1,p2⟩
  ·generalize W:t.probe _ (jr prog w (key x)) (stand t (t.probeStart (jr prog w (key x))) n)=pr
   obtain rfl:=W.symm.trans p1;dsimp;refine qC (I λe Y M=>?_);obtain⟨i,R⟩:=mem_iff_getElem?.mp Y;rw[Array.getElem?_toList]at R;obtain⟨n',X,H⟩:=g.seen r.toEndz R (by rw[(c.ent e Y).1,M]);rcases lt_or_ge n' n with q|q
   ·exact O n' q i e H R M
   ·exact aa n' X (p2 n' q X) i e H R M
  ·generalize W:t.probe _ (jr prog w (key x)) (stand t (t.probeStart (jr prog w (key x))) n)=pr
   obtain rfl:=W.symm.trans p1;dsimp;have ac:i<es.size:=by
    rw[<- g.sz];exact(Array.getElem?_eq_some_iff.mp m4).1
   have R:es[i]?=some es[i]:=Array.getElem?_eq_getElem ac;have Y:=L i _ R;generalize es[i]=e at R Y;obtain⟨e1,P⟩:=c.ent e Y;refine zGv (λQ' W=>zEq hx (λv hv=>?_) W) ?_
   ·obtain⟨q,K,rfl⟩:=mem_map.mp hv
    rw[Array.toList_filter]at K;exact(c.ent q (mem_filter.mp K).1).2
   rw[R];obtain⟨eh,y⟩:=e;obtain⟨ya,rfl,hy⟩:=P;obtain⟨xa,rfl,ad⟩:=id hx;dsimp;refine qB (wpAny_holding (wpAny_eqBool_tuple p hy ad ?_));refine qB (wpAny_setState_of J hd h ?_);dsimp;by_cases M:key (.ref ya)=key (.ref xa)
   ·rw[decide_eq_true M]
    dsimp[Bool.and_self,if_true];exact qC (ae ⟨_,Y,M⟩)
   ·rw[decide_eq_false M]
    dsimp[Bool.and_false,Bool.false_eq_true,if_false];rw[show t.sameMemory t.moves t.mask=some true by unfold SetTable.sameMemory;simp];dsimp;rw[if_pos rfl,m3];dsimp;rw[R];dsimp;refine qB (wpAny_isSame_ref_self ?_);refine qB (qC ?_);dsimp[if_true];refine u (m+1) _ m2 (by lia) rfl λk hk i' C K S j=>?_
    rcases lt_or_ge k n with q|q
    ·exact O k q i' C K S j
    ·rcases lt_or_eq_of_le (le_of_lt_succ hk)with G|G
     ·exact aa k (by lia) (p2 k q G) i' C K S j
     ·subst G
      obtain⟨_,z1,z2⟩:=zAD g.rise (r.taken k m2);have:i'=i:=by
       obtain⟨l1,v1⟩:=Array.getElem?_eq_some_iff.mp K;obtain⟨l2,v2⟩:=Array.getElem?_eq_some_iff.mp m4;rcases Nat.lt_trichotomy i' i with z|z|z
       ·have:=pairwise_iff_getElem.mp g.rise i' i (by exists l1) (by exists l2) z
        simp at this;lia
       ·exact z
       ·have:=pairwise_iff_getElem.mp g.rise i i' (by exists l2) (by exists l1) z
        simp at this;lia
      subst this;rw[R]at S;cases S;exact M j
end
section
variable{prog:Lc}{w:Le}{A:Li}{E:Ly}{s:La}{key:Lv->Ls Int}
def items_int{a:Ls Int}{vs:Ls Lv}(h:ItemsAre (intKind prog w) a vs):∀v∈vs,∃k t,v=.int k t:=by
 induction h with
 |nil=>intro v hv;cases hv
 |cons J _ u =>
  intro v hv;rcases mem_cons.mp hv with rfl|hv
  ·obtain⟨t,e⟩:=Value.isInt_shape J;exact⟨_,t,e⟩
  ·exact u v hv
def zGw{v:Lv}{Q:Ln}(P:j8 prog w key s.heap v)(h:Q true s):wpAny (model prog w) A (hashByValue 8 v) Q E s:=by
 obtain⟨a,rfl,V⟩:=P;have hT:=V.typeIs;obtain⟨o,i,n,ho,_,C,R⟩:=V;unfold hashByValue;refine qB (wpAny_specialOf hT F.slot_tuple_hash.lookup ?_);dsimp;refine qB (wpAny_seqItems ho C ?_);refine qB ?_;show wpAny _ _ (forIn i _ _) _ _ s;rw[<- Array.forIn_toList];refine wpAny_forIn_list _ (λjk r j=>r.1=none/\j=s/\∀v∈jk,∃k t,v=.int k t) _ ?_ ?_ _ _ ⟨rfl,rfl,items_int R⟩
 ·rintro v jk r j ⟨z,rfl,g⟩
  obtain⟨k,t,rfl⟩:=g v qE;refine qB (wpAny_of_eq (a:=true) rfl ?_);dsimp[Bool.not_true,Bool.false_eq_true,if_false];exact qC ⟨rfl,rfl,λu q=>g u (qD _ q)⟩
 ·rintro ⟨l,c⟩ j ⟨z,rfl,_⟩
  simp only at z;subst z;exact qC h
def uI(key:Lv->Ls Int)(l:Ls Lv)(x:Lv):Ls Lv:=if key x∈l.map key then l else l++[x]
def j8.same{h h':Heap}{a:Lz}{v:Lv}{es:Ld}{D:Nat}{t:SetTable}(k:j8 prog w key h v)(J:h.get? a=some (YF es D t))(T:Heap.SameBut a h h'):j8 prog w key h' v:=by
 obtain⟨b,rfl,o,i,n,K,S,W,E⟩:=k;refine⟨b,rfl,o,i,n,?_,S,W,E⟩;rw[T.2 b λe=>?_]
 ·exact K
 ·subst e
  obtain rfl:=qJ (K.symm.trans J);exact absurd S (by show ¬Value.type "set"=Value.type "tuple";decide)
def zEs{es H:Ld}(p:H.toList.Perm es.toList):(H.toList.map (·.2)).Perm (es.toList.map (·.2)):=p.map _
def TupsOf.of_perm{h:Heap}{l:Ls (Int×Lv)}{es':Ld}(p:es'.toList.Perm l)(J:∀e∈l,e.1=jr prog w (key e.2)/\j8 prog w key h e.2)(Y:(l.map λe=>key e.2).Nodup):TupsOf prog w key h es' :=
 ⟨λe c=>J e (p.mem_iff.mp c),(p.map _).nodup_iff.mpr Y⟩
def zC1{a:Lz}{x:Lv}{es:Ld}{D:Nat}{t:SetTable}{led:Bool}{Q:Ln}(hu:A.units<cLine)(J:s.heap.get? a=some (YF es D t))(g:SetT led es t)(c:TupsOf prog w key s.heap es)(M:j8 prog w key s.heap x)(ac:es.size<=16)
  (h:∀(b:Bool) y H ag V,Heap.SameBut a s.heap y->y.get? a=some (YF H ag V)->SetT led H V->TupsOf prog w key y H->(H.toList.map (·.2)).Perm (uI key (es.toList.map (·.2)) x)->Q b {s with heap:=y}) :
  wpAny (model prog w) A (setAddHashed a x (jr prog w (key x))) Q E s:=by
 have C:(YF es D t).data=.set es D t:=rfl;have hf:=g.fits;obtain⟨N,E0⟩:=g.tb.ene (jr prog w (key x));have X:byScan x es=false:=by obtain⟨xa,rfl,_⟩:=M;rfl
 have aa:(∃e∈es.toList,key e.2=key x)↔key x∈(es.toList.map (·.2)).map key:=by simp
 unfold setAddHashed setAddHashedIn;refine wpAny_holding (qB (wpAny_setState_of J C hf ?_));dsimp;rw[X];dsimp[Bool.false_eq_true,if_false];unfold setSearch;refine qB (zEr hu J g c M E0 (λL=>?_) (λp=>?_) 100000 0 none (zero_le _) (by have:=E0.few;rcases g.m with e|e<;>rw[e]at this<;>lia) rfl λm Y=>absurd Y (not_lt_zero _))
 ·dsimp
  refine qC ?_;have e:s={s with heap:=s.heap}:=by cases s;rfl
  have:=h false s.heap es D t (Heap.SameBut.refl a s.heap) J g c (by unfold uI;rw[if_pos (aa.mp L)]);rw[e];exact this
 ·dsimp
  refine qB (wpAny_setState_of J C hf ?_);dsimp;obtain⟨S,ae⟩:=g.put E0 x;rw[S];generalize ej:pj t (jr prog w (key x)) N=j at *;generalize i:({t with place:=SetTable.insertAt t.place (SetTable.below t.place j) j}:SetTable)=t1 at *
  generalize r:SetTable.insertAt es (SetTable.below t.place j) (jr prog w (key x),x)=es1 at *;have af:t1.plain=true:=by rw[<- i];exact g.plain
  dsimp;rw[af];dsimp[if_true];refine qB (zGw M ?_);dsimp[if_true];have ab:es1.size=es.size+1:=by rw[<- r];exact YA ..
  have I:es1.toList.Perm (es.toList++[(jr prog w (key x),x)]):=by
   rw[<- r];have:=SetTable.insertAt_perm es (SetTable.below t.place j) (jr prog w (key x),x)
   rwa [Array.toList_push]at this
  have hv1:(es1.toList.map (·.2)).Perm (uI key (es.toList.map (·.2)) x):=by
   unfold uI;rw[if_neg λq=>by obtain⟨e,W,P⟩:=aa.mpr q;exact p e W P];have:=I.map (·.2);exists this
  have v:∀{y:Heap},Heap.SameBut a s.heap y->∀e∈es.toList++[(jr prog w (key x),x)],e.1=jr prog w (key e.2)/\j8 prog w key y e.2:=λT e Y=>by
   rcases mem_append.mp Y with Y|Y
   ·exact⟨(c.ent e Y).1,(c.ent e Y).2.same J T⟩
   ·rw[mem_singleton]at Y;subst Y;exact⟨rfl,M.same J T⟩
  have G:((es.toList++[(jr prog w (key x),x)]).map λe=>key e.2).Nodup:=by
   rw[map_append,nodup_append];refine⟨c.nd,by simp,λa ha b Z=>?_⟩;simp at Z;subst Z;obtain⟨e,Y,rfl⟩:=mem_map.mp ha;exact p e Y
  refine qB (wpAny_storeSet_of J C ?_ (by rw[sizeLine_eq];lia));have l:(s.heap.update a (Obj.putSet es1 t1)).get? a=some (YF es1 (D+1) t1):=by
   have:=get?_update_self (Obj.putSet es1 t1) J (by rw[putSet_of es1 t1 C];rfl);rw[putSet_of es1 t1 C]at this;exact this
  have n:=Heap.SameBut.update s.heap a (Obj.putSet es1 t1);cases K:t1.tooFull with
  |false =>
   dsimp[Bool.not_false,Bool.true_and,Bool.false_eq_true,if_false];exact qC (h true _ es1 (D+1) t1 n l (ae K) (TupsOf.of_perm I (v n) G) hv1)
  |true =>
   obtain⟨ah,h4⟩:=g.full ac (by rw[i];exact K);have h5:es.size+1=5:=by lia
   obtain⟨z,u,ai,O,k2,k3,k4,k,_⟩:=SetT.relay (led:=led) (es:=es1) (t:=t1) (by lia) (by rw[<- i];exact ah) (by rw[<- i];exact g.led) (by rw[<- i];exact g.plain);dsimp[Bool.not_false,Bool.and_self,if_true];rw[h5];unfold setRelay;have R:t1.fits es1.size=true:=by rw[<- i,ab];exact g.fits1 _
   refine qB (qB (wpAny_setState_of l (show(YF es1 (D+1) t1).data=.set es1 (D+1) t1 from rfl) R ?_));dsimp;rw[if_neg (by rw[show SetTable.sizeAbove (SetTable.grown 5)=32 by left,sizeLine_eq];lia),O];refine qB (wpAny_of_eq (a:=(z,u)) ?_ ?_)
   ·show(if((ai.filterMap (es1[·]?)).size != es1.size)=true then _ else _)=_
    rw[k2,k3];simp
   ·dsimp
    refine wpAny_storeSet_of l rfl ?_ (by rw[sizeLine_eq];lia);have ad:((s.heap.update a (Obj.putSet es1 t1)).update a (Obj.putSet z u)).get? a=some (YF z (D+1+1) u):=by
     have:=get?_update_self (Obj.putSet z u) l (by rw[putSet_of z u rfl];rfl);rw[putSet_of z u rfl]at this;exact this
    have o:=n.trans (Heap.SameBut.update _ a (Obj.putSet z u));exact qC (h true _ z (D+1+1) u o ad k4 (TupsOf.of_perm (k.trans I) (v o) G) ((zEs k).trans hv1))
def zEt{l c:Ls Lv}(p:l.Perm c)(x:Lv):(uI key l x).Perm (uI key c x):=by
 unfold uI;by_cases q:key x∈l.map key
 ·rw[if_pos q,if_pos ((p.map key).mem_iff.mp q)];exact p
 ·rw[if_neg q,if_neg λz=>q ((p.map key).mem_iff.mpr z)];exact p.append_right _
end
end PySem
namespace PySem
namespace F
end F
open Sem (wp)
open DV PyProof.Rows
structure SetW(led:Bool)(es:Ld)(t:SetTable):Prop where
 fits:t.fits es.size=true
 sz:t.place.size=es.size
 rise:zFq t.place.toList
 plain:t.plain=true
 led:t.led=led
 few:es.size<=17
end PySem
namespace PySem
open Sem (wp)
open DV PyProof.Rows
end PySem
namespace L2
open PySem PySem.Spec PyProof.Rows DV
end L2
namespace DV
open PySem L2
section
variable{X:Cx}
def bt_set:bootBuiltins "set"=some (.type "set"):=by left
end
end DV
namespace PySem
open Sem (wp)
open DV PyProof.Rows
def zGx{key:Lv->Ls Int}{l:Ls Lv}{x:Lv}:(uI key l x).length<=l.length+1:=by
 unfold uI;split<;>simp
theorem Gy{key:Lv->Ls Int}:∀(Y l:Ls Lv),(Y.foldl (uI key) l).length<=l.length+Y.length
 | [],l=>by simp
 |x::Y,l=>by
  have:=Gy (key:=key) Y (uI key l x);have:=zGx (key:=key) (l:=l) (x:=x);dsimp[foldl_cons,length_cons];lia
section
variable{prog:Lc}{w:Le}{A:Li}{R:Result->La->Prop}{I:Lz}{fp wr:Ls Lz}{G:Array GenState->Array GenState->Prop}{P:Nat->Lv->Prop}{St:Nat->La->Prop}{key:Lv->Ls Int}
def vK{items:Lg}(hu:A.in1.units<cLine)(W:WalksS prog w A.in1 I fp wr G items.size P St)(S:Lz)(ai:S∉fp)(led:Bool)
  (ak:∀i v,P i v->i<items.size->items[i]?=some v) (ac:∀v∈items.toList,∀a,v=.ref a->a∉S::wr) (aa:items.size<=16) :
  ∀(k i:Nat) (s:La) (es:Ld) (D:Nat) (t:SetTable),items.size-i=k->i<=items.size->St i s ->
   s.heap.get? S=some (YF es D t)->SetT led es t->TupsOf prog w key s.heap es->(∀v∈items.toList,j8 prog w key s.heap v)->(es.toList.map (·.2)).Perm ((items.toList.take i).foldl (uI key) []) ->
   (∀j H K V,Moved (S::wr) G s j->j.heap.get? S=some (YF H K V)->SetT led H V->TupsOf prog w key j.heap H->(H.toList.map (·.2)).Perm (items.toList.foldl (uI key) [])->R (.ok (.ret .none)) j) ->
   codeAny (model prog w) A (.builtin "set.update.loop" ⟨[.ref S,.ref I],[]⟩) R s:=by
 have Q:S∉wr:=λh=>ai (W.sub _ h)
 have ab:∀b∈wr,b∈S::wr:=λb Z=>qD _ Z
 have few:∀(i:Nat) (es:Ld),(es.toList.map (·.2)).Perm ((items.toList.take i).foldl (uI key) [])->es.size<=16:=λi es p=>by
  have h1:=p.length_eq;have h2:=Gy (key:=key) (items.toList.take i) [];rw[length_map,Array.length_toList]at h1;dsimp[length_take,Array.length_toList,length_nil]at h2;lia
 have E:∀{h h':Heap} {v:Lv},(∀b o,b∉S::wr->h.get? b=some o->h'.get? b=some o)->(∀a,v=.ref a->a∉S::wr)->j8 prog w key h v->j8 prog w key h' v:=λhm hv ⟨a,e,o,aw,n,q1,q⟩=>⟨a,e,o,aw,n,hm a o (hv a e) q1,q⟩
 have ad:∀(i:Nat) (es:Ld),(es.toList.map (·.2)).Perm ((items.toList.take i).foldl (uI key) [])->∀e∈es.toList,e.2∈items.toList:=λi es p e c=>by
  have h1:=p.mem_iff.mp (List.mem_map_of_mem (f:=(·.2)) c);have ap:∀(xs l:Ls Lv) (v:Lv),v∈xs.foldl (uI key) l->v∈l\/v∈xs:=by
   intro xs
   induction xs with
   |nil=>exact λl v h=>.inl h
   |cons x xs ih =>
    intro l v h;rcases ih _ v h with h|h
    ·unfold uI at h
     split at h
     ·exact .inl h
     ·rcases mem_append.mp h with h|h
      ·exact .inl h
      ·rw[mem_singleton]at h;exact .inr (h▸qE)
    ·exact .inr (qD _ h)
  rcases ap _ _ _ h1 with h|h
  ·cases h
  ·exact List.mem_of_mem_take h
 intro k
 induction k with
 |zero =>
  intro i s es D t hk hi T X g hT hI L C;have a1:i=items.size:=by lia
  subst a1;refine codeAny_builtin PyProof.Rows.F.entry_set_update_loop ?_;rw[Around.under_plainId PyProof.Rows.F.plain_set_update_loop _];show wpAny _ A.in1 (pyNext (.ref I) >>= _) _ _ s;refine qB (W.done s _ _ T λj z=>?_);show wpAny _ A.in1 (ret Value.none) _ _ j;refine qC (C j es D t (z.mono ab) (z.heap S _ Q X) g ⟨λe c=>⟨(hT.ent e c).1,E (λb o Z=>z.heap b o (λh=>Z (ab b h))) (ac _ (ad _ es L e c)) (hT.ent e c).2⟩,hT.nd⟩ ?_)
  rwa [take_of_length_le (by simp)]at L
 |succ k ih =>
  intro i s es D tb hk hi T X g hT hI L C;have af:i<items.size:=by lia
  refine codeAny_builtin PyProof.Rows.F.entry_set_update_loop ?_;rw[Around.under_plainId PyProof.Rows.F.plain_set_update_loop _];show wpAny _ A.in1 (pyNext (.ref I) >>= _) _ _ s;refine qB (W.item i s _ _ af T λv j r Y z=>?_);have hv:=ak i v r af;have an:v∈items.toList:=by exists Array.mem_of_getElem? hv
  have O:∀b o,b∉S::wr->s.heap.get? b=some o->j.heap.get? b=some o:=λb o Z=>z.heap b o (λh=>Z (ab b h))
  have ao:=z.heap S _ Q X;have hx:=E O (ac v an) (hI v an);have ar:TupsOf prog w key j.heap es:=⟨λe c=>⟨(hT.ent e c).1,E O (ac _ (ad i es L e c)) (hT.ent e c).2⟩,hT.nd⟩;show wpAny _ A.in1 (holding [v] (setAdd S v) >>= _) _ _ j;refine qB (wpAny_holding ?_);unfold setAdd;refine wpAny_holding ?_;obtain⟨va,rfl,ay⟩:=id hx;refine qB (wpAny_pyHash_tuple hu ay ?_);refine zC1 (s:={j with toks:=j.toks+((key (.ref va)).length+1)}) (key:=key) hu ao g ar hx (few i es L) λb h' H K V M az g2 aq a0=>?_
  have k2:∀b o,b∉S::wr->j.heap.get? b=some o->h'.get? b=some o:=λb o Z e=>by
   rw[M.2 b (λh:b=S=>Z (by rw[h];exact qE))];exact e
  refine qC ⟨plainId_quiet PyProof.Rows.F.plain_set_update_loop _,ih (i+1) _ H K V (by lia) af (W.frame _ j _ _ Y (Nat.le_add_right _ _) λb Z o e=>?_) az g2 aq (λu ae=>E k2 (ac u ae) (E O (ac u ae) (hI u ae))) ?_ λau y J av ah am ax aj ag=>?_⟩
  ·rw[M.2 b (λh:b=S=>ai (by rw[<- h];exact Z))];exact e
  ·have e:items.toList.take (i+1)=items.toList.take i++[.ref va]:=by
    rw[take_add_one,Array.getElem?_toList,hv];rfl
   rw[e,List.foldl_append];exact a0.trans (zEt L _)
  ·refine C au y J av (Moved.trans W.gtrans ((z.mono ab).then_heap (Nat.le_add_right _ _) λb o Z e=>?_) ah) am ax aj ag
   rw[M.2 b (λh:b=S=>Z (by rw[h];exact qE))];exact e
end
section
variable{prog:Lc}{w:Le}{A:Li}{E:Ly}{s:La}{key:Lv->Ls Int}
def j8.ext{h h':Heap}{v:Lv}(k:j8 prog w key h v)(e:∀b o,h.get? b=some o->h'.get? b=some o):j8 prog w key h' v:=by
 obtain⟨a,q,o,g,n,K,S⟩:=k;exact⟨a,q,o,g,n,e a o K,S⟩
def zAF{l:Lz}{items:Lg}{T:String}{nl:Nat}{Q:Ly}{od:Lx Lz}{u:Lj} 
  (p:A.units+8<cLine) (P:A.handled=none) (L:T="list"\/T="tuple") (Z:s.heap.get? l=some {cls:=.type T,dict:=od,data:=.seq items nl,slots:=u})
  (x:∀v∈items.toList,j8 prog w key s.heap v) (z:items.size<=16)
  (h:∀(y:Heap) (M:Nat) es D t,y.get? s.heap.objs.size=some (YF es D t)->SetT (!JU w) es t->es.size<=16->(es.toList.map (·.2)).Perm (items.toList.foldl (uI key) []) ->
   (∀b o,b<s.heap.objs.size->s.heap.get? b=some o->y.get? b=some o)->Q (.ref s.heap.objs.size) {s with heap:=y,toks:=M}) :
  wpAny (model prog w) A (call (.type "set") [.ref l]) Q E s :=
 zAE (C:=λes t=>SetT (!JU w) es t/\es.size<=16/\(es.toList.map (·.2)).Perm (items.toList.foldl (uI key) [])) P L Z (λI S fp St s1 R W G k g h0 X ext hR =>
  vK (key:=key) (by show _+1+1+1<cLine;lia) W S G (!JU w) (λi v hv _=>hv) (λv hv a e q=>by
    obtain⟨a',e',o,aa,n,q1,_⟩:=x v hv;rw[e]at e';cases e';have:=lt_size q1;dsimp[mem_cons,List.not_mem_nil,or_false]at q;rcases q with rfl|rfl
    ·exact absurd this (not_lt.mpr k)
    ·exact absurd this (not_lt.mpr g)) z (items.size-0) 0 s1 #[] 0 _ rfl (zero_le _) h0 X (fresh_t _) ⟨λe c=>by simp at c,by simp⟩ (λv hv=>(x v hv).ext ext) (by simp)
   λj H K V Y O r _ hq=>hR j H K V Y O ⟨r,by
    have J:=hq.length_eq;have h2:=Gy (key:=key) items.toList [];rw[length_map,Array.length_toList]at J;dsimp[Array.length_toList,length_nil]at h2;lia,hq⟩) λy M es D t O r k3=>h y M es D t O r.1 r.2.1 r.2.2 k3
end
end PySem
namespace TM
open PySem L2 DV PyProof.Rows
theorem Gz:∀a:Ls Int,HT.lexLt a a=false
 | []=>rfl|x::a=>by dsimp[HT.lexLt,if_true,Gz a]
theorem vL:∀a b:Ls Int,HT.lexLt a b=false->HT.lexLt b a=false->a=b
 | [],[],_,_=>rfl| [],_::_,h,_=>by cases h|_::_,[],_,h=>by cases h
 |x::a,y::b,J,h2=>by
  dsimp[HT.lexLt]at J h2;by_cases e:x=y
  ·subst e
   dsimp[if_true]at J h2;rw[vL a b J h2]
  ·rw[if_neg e]at J
   rw[if_neg (λh=>e h.symm)]at h2;simp at J h2;lia
theorem vM:∀a b c:Ls Int,HT.lexLt a b=true->HT.lexLt b c=true->HT.lexLt a c=true
 | [],[],_,h,_=>by cases h| [],_::_,[],_,h=>by cases h| [],_::_,_::_,_,_=>rfl|_::_,[],_,h,_=>by cases h|_::_,_::_,[],_,h=>by cases h
 |x::a,y::b,z::c,J,h2=>by
  dsimp[HT.lexLt]at J h2 ⊢;by_cases e:x=y
  ·subst e
   rw[if_pos rfl]at J;by_cases f:x=z
   ·subst f
    rw[if_pos rfl]at h2 ⊢;exact vM a b c J h2
   ·rw[if_neg f]at h2 ⊢
    exact h2
  ·rw[if_neg e]at J
   simp at J
   by_cases f:y=z
   ·subst f
    rw[if_neg e];exists J
   ·rw[if_neg f]at h2
    simp at h2
    rw[if_neg (by lia)];simp;lia
abbrev tD(a:Ls Int):D:=.t (a.map D.int)
theorem zB6:∀a b:Ls Int,tlt (a.map D.int) (b.map D.int)=some (HT.lexLt a b)
 | [],[]=>rfl| [],_::_=>rfl|_::_,[]=>rfl
 |x::a,y::b=>by
  have e:deq (.int x) (.int y)=decide (x=y):=by dsimp[deq,flV,eqV];rfl
  dsimp[map_cons,tlt,e,HT.lexLt];by_cases h:x=y
  ·subst h
   dsimp[decide_true,if_true];exact zB6 a b
  ·dsimp[h,decide_false,Bool.false_eq_true,if_false]
theorem zAG{p q:Nat->Bool}:∀(l:Ls Nat) (x:Nat),(∀k,p k=true->q k=true)->x∈l->q x=true->p x=false->l.countP p<l.countP q
 | [],x,_,h,_,_=>by cases h
 |y::l,x,a,h,J,h2=>by
  have mono:l.countP p<=l.countP q:=List.countP_mono_left λk _=>a k
  rw[List.countP_cons,List.countP_cons];rcases mem_cons.mp h with rfl|h
  ·rw[J,h2];simp;lia
  ·have u:=zAG l x a h J h2
   cases L:p y with
   |true=>rw[a y L];simp;lia
   |false =>
    cases q y<;>simp<;>lia
section
variable{L:Ls (Ls Int)}
def gd(i:Nat)(h:i<L.length):(L.map tD).getD i .non=tD (L.getD i []):=by
 rw[getD_eq_getElem?_getD,getD_eq_getElem?_getD,getElem?_map,getElem?_eq_getElem h];rfl
def zAH(i j:Nat)(hi:i<L.length)(l:j<L.length):zEU (L.map tD) i j=some (HT.lexLt (L.getD i []) (L.getD j [])):=by
 unfold zEU;rw[gd i hi,gd j l];exact zB6 _ _
def G0(i:Nat)(hi:i<L.length):rkD (L.map tD) i=(((List.range L.length).countP λk=>HT.lexLt (L.getD k []) (L.getD i [])):Nat):=by
 unfold rkD;rw[length_map,<- List.countP_eq_length_filter];congr 1;refine List.countP_congr λk V=>?_
 rw[zAH k i (mem_range.mp V) hi];cases HT.lexLt (L.getD k []) (L.getD i [])<;>simp
def rk_lt(i j:Nat)(hi:i<L.length)(l:j<L.length)(h:HT.lexLt (L.getD i []) (L.getD j [])=true):rkD (L.map tD) i<rkD (L.map tD) j:=by
 rw[G0 i hi,G0 j l];have:=zAG (p:=λk=>HT.lexLt (L.getD k []) (L.getD i [])) (q:=λk=>HT.lexLt (L.getD k []) (L.getD j [])) (List.range L.length) i (λk V=>vM _ _ _ V h) (mem_range.mpr hi) h (Gz _);lia
def zB7(i j:Nat)(hi:i<L.length)(l:j<L.length):HT.lexLt (L.getD i []) (L.getD j [])=decide (rkD (L.map tD) i<rkD (L.map tD) j):=by
 cases h:HT.lexLt (L.getD i []) (L.getD j [])with
 |true=>exact(decide_eq_true (rk_lt i j hi l h)).symm
 |false =>
  refine(decide_eq_false ?_).symm;cases h2:HT.lexLt (L.getD j []) (L.getD i [])with
  |true=>have:=rk_lt j i l hi h2;lia
  |false =>
   have e:=vL _ _ h h2;rw[G0 i hi,G0 j l,e];lia
def sort_ok(z:L.length<64)(Y:2<=L.length->∀a∈L,a≠[]):SortOk (L.map tD) where
 few:=by exists z
 tups:=λd h=>by
  obtain⟨a,C,rfl⟩:=mem_map.mp h;refine⟨a.map D.int,rfl,λe c=>?_,λhl=>?_⟩
  ·obtain⟨x,_,rfl⟩:=mem_map.mp c;rfl
  ·have:=Y (by exists hl) a C
   cases a with
   |nil=>exact absurd rfl this|cons x r=>exact⟨x,r.map D.int,rfl⟩
 lt:=λi j R l=>by
  rw[length_map]at R l;rw[zAH i j R l,zB7 i j R l]
 one:=λi j R l e=>by
  rw[length_map]at R l;rw[gd i R,gd j l];have Z:=zB7 i j R l;have g:=zB7 j i l R;rw[e]at Z g;have q:=vL (L.getD i []) (L.getD j []) (by rw[Z];simp) (by rw[g];simp);rw[q]
end
end TM
namespace L2
open PySem PySem.Spec PyProof.Rows PySem.W DV
end L2
namespace DV
open PySem L2 PyProof.Rows PySem.W
end DV
namespace TM
open PySem L2 DV PyProof.Rows
def Zc(L:Ls (Ls Int)):∃M:Ls (Ls Int),Gp (L.map tD)=M.map tD/\M.Perm L/\M.Pairwise λa b=>HT.lexLt b a=false:=by
 unfold Gp;have m1:((List.range (L.map tD).length).mergeSort λi j=>decide (rkD (L.map tD) i<=rkD (L.map tD) j)).Perm (List.range (L.map tD).length):=List.mergeSort_perm _ _;have z:=List.pairwise_mergeSort (le:=λi j=>decide (rkD (L.map tD) i<=rkD (L.map tD) j)) (λa b c J h2=>by simp at J h2 ⊢;lia) (λa b=>by simp;lia) (List.range (L.map tD).length);generalize (List.range (L.map tD).length).mergeSort (λi j=>decide (rkD (L.map tD) i<=rkD (L.map tD) j))=q at m1 z;have Z:∀i∈q,i<L.length:=λi R=>by exists m1.mem_iff.mp R
 refine⟨q.map λi=>L.getD i [],?_,?_,?_⟩
 ·rw[map_map]
  exact map_congr_left λi R=>gd i (Z i R)
 ·have:=m1.map λi=>L.getD i []
  rw[length_map]at this;refine this.trans (List.Perm.of_eq ?_);apply List.ext_getElem
  ·simp
  ·intro i J h2
   simp at J
   simp[J]
 ·refine List.pairwise_map.mpr (z.imp_of_mem λ{i j} R l h=>?_)
  rw[zB7 j i (Z j l) (Z i R)];simp at h;exact decide_eq_false (by lia)
def zEu{L c:Ls (Ls Int)}(p:L.Perm c):Gp (L.map tD)=Gp (c.map tD):=by
 obtain⟨M,e,Q,V⟩:=Zc L;obtain⟨M',C,t,u⟩:=Zc c;rw[e,C,List.Perm.eq_of_pairwise (le:=λa b=>HT.lexLt b a=false) (λa b _ _ J h2=>vL _ _ h2 J) V u (Q.trans (p.trans t.symm))]
end TM
namespace DV
open PySem L2 PyProof.Rows TM
def G1:Ls D->Lx (Ls Int)
 | []=>some []| .int i::ds=>(G1 ds).map (i::·)|_=>none
def zAI:Ls D->Lx (Ls (Ls Int))
 | []=>some []| .t (.int i::es)::ds=>(G1 es).bind λa=>(zAI ds).map ((i::a)::·)|_=>none
def dd(l:Ls (Ls Int)):Ls (Ls Int):=l.foldl (λl x=>if x∈l then l else l++[x]) []
theorem zB8:∀(G:Ls D) (a:Ls Int),G1 G=some a->G=a.map D.int
 | [],a,h=>by cases h;rfl
 | .int i::G,a,h=>by
  unfold G1 at h;cases e:G1 G with
  |none=>rw[e]at h;cases h|some b=>rw[e]at h;cases h;rw[zB8 G b e];rfl
theorem zB9:∀(G:Ls D) (L:Ls (Ls Int)),zAI G=some L->G=L.map tD/\∀a∈L,a≠[]
 | [],L,h=>by cases h;exact⟨rfl,λa h=>by cases h⟩
 | .t (.int i::E)::G,L,h=>by
  unfold zAI at h;exists e,G1 E,h,a;exists e2,zAI G,h,M;cases h;obtain⟨K,S⟩:=zB9 G M e2;rw[zB8 E a e,K];exact⟨rfl,λb Z=>by
   rcases mem_cons.mp Z with rfl|Z
   ·simp
   ·exact S b Z⟩
section
variable{prog:Lc}{w:Le}{K:qH}{mg:Str->Lx Lv}
def Yi:Lv->Int
 | .int i _=>i|_=>0
def zEv(h:Heap):Lv->Ls Int
 | .ref a=>match h.get? a with
  |some o=>match o.data with
   | .seq g _=>g.toList.map Yi|_=>[]
  |none=>[]
 |_=>[]
theorem Jn{H:Hp}:∀(a:Ls Int) (Y:Ls V) (c:Ls Lv),Reps K mg H (a.map D.int) Y->zq Y c->ItemsAre (intKind prog w) a c/\c.map Yi=a
 | [],Y,c,r,v=>by
  dsimp[map_nil,Reps]at r;subst r;cases v;exact⟨.nil,rfl⟩
 |i::a,Y,c,r,v=>by
  dsimp[map_cons,Reps]at r;obtain⟨x,R,rfl,l,o⟩:=r;cases v with
  |cons u e =>
   rw[zI l]at u;obtain⟨t,rfl⟩:=u;obtain⟨O,g⟩:=Jn a R _ o e;exact⟨.cons (by simp[intKind,Value.isInt]) O,by rw[map_cons,g];rfl⟩
theorem zAJ{key:Lv->Ls Int}:∀(L l:Ls Lv),((L.foldl (uI key) l).map key)=(L.map key).foldl (λl x=>if x∈l then l else l++[x]) (l.map key)
 | [],l=>rfl
 |v::L,l=>by
  rw[foldl_cons,zAJ L,map_cons,foldl_cons];congr 1;unfold uI;by_cases h:key v∈l.map key
  ·rw[if_pos h,if_pos h]
  ·rw[if_neg h,if_neg h,map_append];rfl
end
section
variable{X:Cx}
theorem zEw{G:Ls (Lz×Obj)}{O:L2.St}{H:Hp}{s:La}(I:Inv X G O H s):∀(L:Ls (Ls Int)) (T:Ls V) (D:Ls Lv),Reps X.K X.mg H (L.map tD) T->zq T D->D.map (zEv s.heap)=L/\∀v∈D,j8 X.prog X.w (zEv s.heap) s.heap v
 | [],T,D,r,v=>by
  dsimp[map_nil,Reps]at r;subst r;cases v;exact⟨rfl,λv h=>by cases h⟩
 |a::L,T,D,r,v=>by
  dsimp[map_cons,Reps]at r;obtain⟨x,R,rfl,l,j⟩:=r;cases v with
  |cons u e =>
   obtain⟨b,zs,rfl,K,p⟩:=zh l;obtain⟨g,q,⟨o,c,Z,n,S⟩,_⟩:=I.tuple K;cases u;obtain⟨k,i⟩:=Jn (prog:=X.prog) (w:=X.w) a zs g p q;have M:zEv s.heap (.ref b)=a:=by
    unfold zEv;dsimp;rw[c];dsimp;rw[S];exists i
   obtain⟨m1,z⟩:=zEw I L R _ j e;refine⟨by rw[map_cons,M,m1],λv hv=>?_⟩;rcases mem_cons.mp hv with rfl|hv
   ·exact⟨b,rfl,o,g.toArray,n,c,Z,S,by rw[M];exists k⟩
   ·exact z v hv
end
section
variable{X:Cx}
def zIG(K:qH)(g:Str->Lx Lv):Ls V->Hp->VK->Prop:=λa H Q=>∃(p:Lz) (T:Ls V) (L:Ls (Ls Int)),a=[.ref p]/\(SqL K H p T\/SqT K H p T)/\Reps K g H (L.map tD) T/\L.length<=16/\Q (.int ((dd L).length:Nat)) H
def zGy{a:Lb}{w:TA}{p p0 ac c:Pos}(hu:X.A.units+40<cLine)(S:X.calm=true)(Z:Gl X "len")(af:X.mg "len"=none)(ae:bootBuiltins "len"=some (.builtin "len"))(hg:Gl X "set")(Y:X.mg "set"=none)(ag:bootBuiltins "set"=some (.type "set"))(C:PA X [a] w)(hs:starEach [a] X.env=[(false,eval a X.env)]:=by rfl) :
  PE X (.Call (.Name "len" p0) [.Call (.Name "set" p) [a] [] ac] [] c) (tCB (zIG X.K X.mg) w):=by
 intro G s O H Q I h;refine wpAny_Call_Name_kw (Y1 (hn:=by decide) (hd:=by decide) I Z af ae (PyProof.Rows.callWith_builtin1 (Calls.spliced_cons ?_) rfl rfl));refine Call_ (Y1 I hg Y ag (PyProof.Rows.callWith_type1 (thn (C ac G s O H _ I h) λus R ⟨vs,H1,I1,l,q1⟩=>?_) hs rfl));obtain⟨p,ys,L,e,W,rd,aa,q⟩:=q1;subst e;cases l with
 |cons r rr =>
  cases rr;cases r;have P:X.A.handled=none:=I1.ok.hd S;obtain⟨T,its,nl,i,u,hT,ab,j⟩:∃(T:String) (its:Ls Lv) (nl:Nat) (i:Lx Lz) (u:Lj),(T="list"\/T="tuple")/\R.heap.get? p=some {cls:=.type T,dict:=i,data:=.seq its.toArray nl,slots:=u}/\zq ys its:=by
   rcases W with W|W
   ·obtain⟨its,j,k,_⟩:=I1.list W
    obtain⟨⟨cl,i,x,D⟩,ho,V,n,hd⟩:=k.isList;simp only at V hd;subst V;subst hd;exact⟨"list",its,n,i,D,.inl rfl,ho,j⟩
   ·obtain⟨its,j,⟨⟨cl,i,x,D⟩,ho,V,n,hd⟩,_⟩:=I1.tuple W
    simp only at V hd;subst V;subst hd;exact⟨"tuple",its,n,i,D,.inr rfl,ho,j⟩
  obtain⟨m1,z⟩:=zEw I1 L ys its rd j;generalize ah:zEv R.heap=key at m1 z;have hl:its.length=L.length:=by rw[<- m1,length_map]
  refine zAF (key:=key) (by lia) P hT ab (λv hv=>z v (by exists hv)) (by exists(by lia:its.length<=16)) λy M E ep t ho g hf hp ext=>Calls.spliced_nil ?_
  have I2:Inv X G O H1 {R with heap:=y,toks:=M}:=I1.kept (t':=M) λb o K=>ext b o (lt_size K) K
  have ad:E.size=(dd L).length:=by
   have J:=hp.length_eq;have h2:=congrArg length (zAJ (key:=key) its []);rw[m1]at h2;dsimp[length_map,Array.length_toList,map_nil]at J h2;rw[J,h2];rfl
  refine call_len_set (o:=YF E ep t) ho ⟨rfl,rfl,rfl⟩ rfl g.fits (by lia) ?_;have I3:=I2.tok (R.toks+1+1);exact⟨.int ((dd L).length:Nat),H1,I2.tok _,⟨_,by rw[ad]⟩,q⟩
def ul(ds:Ls D):Lx R:=(zAI ds).bind λL=>if L.length<=16 then some (.v (.int ((dd L).length:Nat)))else none
def um:Ls D->Lx R
 | [.l G]=>ul G| [.t G]=>ul G|_=>none
def zGz{K:qH}{g:Str->Lx Lv}:COk K g (zIG K g) um:=by
 intro M H Z Y G res Q f r e k;obtain⟨E,C,e⟩:∃E,(G=[.l E]\/G=[.t E])/\ul E=some res:=by
  match G,e with
  | [.l E],e=>exact⟨E,.inl rfl,e⟩| [.t E],e=>exact⟨E,.inr rfl,e⟩
 unfold ul at e;exists et,zAI E,e,L
 change (if L.length<=16 then _ else none)=_ at e
 by_cases z:L.length<=16
 ·rw[if_pos z]at e
  cases e;obtain⟨a,_⟩:=zB9 E L et;subst a;have x:∃p ys,Y=[.ref p]/\(SqL K H p ys\/SqT K H p ys)/\Reps K g (Hm (Mo M Z) H) (L.map tD) ys:=by
   rcases C with rfl|rfl
   ·obtain⟨v,rfl,h⟩:=JQ r
    obtain⟨p,ys,rfl,J,h2⟩:=zU h;exact⟨p,ys,rfl,.inl (zM.seq J),h2⟩
   ·obtain⟨v,rfl,h⟩:=JQ r
    obtain⟨p,ys,rfl,J,h2⟩:=zh h;exact⟨p,ys,rfl,.inr (zm zM J),h2⟩
  obtain⟨p,ys,rfl,J,h2⟩:=x;exact⟨p,ys,L,rfl,J,h2.mono zM,z,k.flat f rfl⟩
 ·rw[if_neg z]at e;cases e
def zG0{a:Lb}{m:MA}{p l g c:Pos}(e:X.A.units+40<cLine)(S:X.calm=true)(Z:Gl X "len")(h:X.mg "len"=none)(t:Gl X "set")(Y:X.mg "set"=none)(C:AOk X [a] m)(T:za a=false:=by rfl) :
  EOk X (.Call (.Name "len" l) [.Call (.Name "set" p) [a] [] g] [] c) (eCB um m) :=
 yW (zGy e S Z h (by left) t Y bt_set C (zAx T)) λO H Q q=>Qu zGz q
end
end DV
namespace DV
open PySem L2
end DV
namespace DV
open PySem PyProof.Rows
end DV
namespace DV
open PySem L2
end DV
namespace DV
open PySem PySem.W L2
def EA(h:Heap)(d:Lz)(es:Array DictEntry)(D:Nat):Prop:=∃o,h.get? d=some o/\o.ExactDict/\o.data=.dict es D
section
variable{prog:Lc}{w:Le}{A:Li}{E:Ly}{s:La}{d it:Lz}{es:Array DictEntry}{ep i:Nat}
def EA.ty(m:EA s.heap d es ep):s.TypeIs (.ref d) "dict":=let ⟨o,h,c,_⟩:=m;⟨o,h,c.1⟩
def EA.lt{h:Heap}(m:EA h d es ep):d<h.objs.size:=let ⟨_,h,_⟩:=m;lt_size h
def EA.kp{h h':Heap}(m:EA h d es ep)(k:∀o,h.get? d=some o->h'.get? d=some o):EA h' d es ep:=let ⟨o,h,r⟩:=m;⟨o,k o h,r⟩
end
end DV
namespace DV
open PySem L2
end DV
namespace DV
open PySem
section
variable{prog:Lc}{w:Le}{A:Li}{E:Ly}{s:La}
theorem SqO.at{h h':Heap}{t:Bool}{l:Lz}{us:Lg}(x:SqO h t l us)(e:∀o,h.get? l=some o->h'.get? l=some o):SqO h' t l us:=by
 cases t with
 |true=>exact Heap.IsTuple.at x e|false=>exact Heap.IsList.at x e
end
open L2 PySem.Spec PyProof.Rows
section
variable{X:Cx}{K:qH}{mg:Str->Lx Lv}{O:L2.St}{H:Hp}
def fE(es:Ls DE):Ls DE:=es.foldl (λa e=>putE a e.1 e.2.1 e.2.2) []
end
end DV
namespace DV
open PySem L2
theorem zBB(u:∀d,eqb n d=true->∃x,pyD d=some x/\x.canLay0=true/\x.depth<=n+1):∀G:Ls D,G.all (eqb n)=true->∃Y,pyDs G=some Y/\PyData.canLayAll0 Y=true/\PyData.depthAll Y<=n+1
 | [],_=>⟨[],rfl,rfl,by simp[PyData.depthAll]⟩
 |d::G,h=>by
  rw[all_cons,Bool.and_eq_true]at h;obtain⟨x,W,M,Q⟩:=u d h.1;obtain⟨Y,P,j,t⟩:=zBB u G h.2;refine⟨x::Y,by dsimp[pyDs,W,P],?_,by dsimp[PyData.depthAll];lia⟩;dsimp[PyData.canLayAll0,M,j];rfl
def zCA:∀(n:Nat) (d:D),eqb n d=true->∃x,pyD d=some x/\x.canLay0=true/\x.depth<=n+1:=by
 intro n
 induction n with
 |zero =>
  intro d h;cases d with
  |non=>exact⟨_,rfl,rfl,by simp[PyData.depth]⟩|bl b=>exact⟨_,rfl,rfl,by simp[PyData.depth]⟩|int i=>exact⟨_,rfl,rfl,by simp[PyData.depth]⟩|str i=>exact⟨_,rfl,h,by simp[PyData.depth]⟩|_=>cases h
 |succ n u =>
  intro d h;cases d with
  |non=>exact⟨_,rfl,rfl,by simp[PyData.depth]⟩|bl b=>exact⟨_,rfl,rfl,by simp[PyData.depth]⟩|int i=>exact⟨_,rfl,rfl,by simp[PyData.depth]⟩|str i=>exact⟨_,rfl,h,by simp[PyData.depth]⟩
  |t G =>
   obtain⟨Y,e,c,p⟩:=zBB u G h;exact⟨.tuple Y,by dsimp[pyD,e];rfl,by dsimp[PyData.canLay0];exact c,by dsimp[PyData.depth];lia⟩
  |l G =>
   obtain⟨Y,e,c,p⟩:=zBB u G h;exact⟨.list Y,by dsimp[pyD,e];rfl,by dsimp[PyData.canLay0];exact c,by dsimp[PyData.depth];lia⟩
  |_=>cases h
def vN(h:pyDs (d::ds)=some xs):∃y ys,xs=y::ys/\pyD d=some y/\pyDs ds=some ys:=by
 dsimp[pyDs]at h;cases J:pyD d with
 |none=>rw[J]at h;cases h
 |some y =>
  cases h2:pyDs ds with
  |none=>rw[J,h2]at h;cases h|some ys=>rw[J,h2]at h;cases h;exact⟨y,ys,rfl,rfl,rfl⟩
def zCB(h:pyDs (d::ds)=some xs):∃y ys,xs=y::ys:=by
 obtain⟨y,ys,e,_⟩:=vN h;exact⟨y,ys,e⟩
mutual
theorem zBC:∀{d e:D} {x y:PyData},pyD d=some x->pyD e=some y->x.canLay0=true->y.canLay0=true->PyData.eqv x y=deq d e
 | .t G,e,x,y,J,h2,M,j=>by
  dsimp[pyD,Option.map_eq_some_iff]at J;obtain⟨Y,J,rfl⟩:=J;cases e with
  |t E =>
   dsimp[pyD,Option.map_eq_some_iff]at h2;obtain⟨T,h2,rfl⟩:=h2;dsimp[PyData.eqv,deq];exact eqvs_deq J h2 (by simpa[PyData.canLay0]using M) (by simpa[PyData.canLay0]using j)
  |l E=>dsimp[pyD,Option.map_eq_some_iff]at h2;obtain⟨T,_,rfl⟩:=h2;rfl|non=>cases h2;rfl|bl _=>cases h2;rfl|int _=>cases h2;rfl|str _=>cases h2;rfl|dic=>cases h2;cases j|_=>cases h2
 | .l G,e,x,y,J,h2,M,j=>by
  dsimp[pyD,Option.map_eq_some_iff]at J;obtain⟨Y,J,rfl⟩:=J;cases e with
  |l E =>
   dsimp[pyD,Option.map_eq_some_iff]at h2;obtain⟨T,h2,rfl⟩:=h2;dsimp[PyData.eqv,deq];exact eqvs_deq J h2 (by simpa[PyData.canLay0]using M) (by simpa[PyData.canLay0]using j)
  |t E=>dsimp[pyD,Option.map_eq_some_iff]at h2;obtain⟨T,_,rfl⟩:=h2;rfl|non=>cases h2;rfl|bl _=>cases h2;rfl|int _=>cases h2;rfl|str _=>cases h2;rfl|dic=>cases h2;cases j|_=>cases h2
 | .non,e,x,y,J,h2,M,j=>by
  cases J;cases e with
  |t E=>dsimp[pyD,Option.map_eq_some_iff]at h2;obtain⟨T,_,rfl⟩:=h2;rfl|l E=>dsimp[pyD,Option.map_eq_some_iff]at h2;obtain⟨T,_,rfl⟩:=h2;rfl|dic=>cases h2;cases j
  |_=>first|(cases h2;rfl)|(cases h2)
 | .bl _,e,x,y,J,h2,M,j=>by
  cases J;cases e with
  |t E=>dsimp[pyD,Option.map_eq_some_iff]at h2;obtain⟨T,_,rfl⟩:=h2;rfl|l E=>dsimp[pyD,Option.map_eq_some_iff]at h2;obtain⟨T,_,rfl⟩:=h2;rfl|dic=>cases h2;cases j
  |_=>first|(cases h2;rfl)|(cases h2)
 | .int _,e,x,y,J,h2,M,j=>by
  cases J;cases e with
  |t E=>dsimp[pyD,Option.map_eq_some_iff]at h2;obtain⟨T,_,rfl⟩:=h2;rfl|l E=>dsimp[pyD,Option.map_eq_some_iff]at h2;obtain⟨T,_,rfl⟩:=h2;rfl|dic=>cases h2;cases j
  |_=>first|(cases h2;rfl)|(cases h2)
 | .str _,e,x,y,J,h2,M,j=>by
  cases J;cases e with
  |t E=>dsimp[pyD,Option.map_eq_some_iff]at h2;obtain⟨T,_,rfl⟩:=h2;rfl|l E=>dsimp[pyD,Option.map_eq_some_iff]at h2;obtain⟨T,_,rfl⟩:=h2;rfl|dic=>cases h2;cases j
  |_=>first|(cases h2;rfl)|(cases h2)
 | .dic,_,_,_,J,_,M,_=>by cases J;cases M| .fn _,_,_,_,J,_,_,_=>by cases J| .exn _ _,_,_,_,J,_,_,_=>by cases J| .m _ _,_,_,_,J,_,_,_=>by cases J
theorem eqvs_deq:∀{G E:Ls D} {Y T:Ls PyData},pyDs G=some Y->pyDs E=some T->PyData.canLayAll0 Y=true->PyData.canLayAll0 T=true->PyData.eqvAll Y T=deqs G E
 | [],[],Y,T,J,h2,_,_=>by cases J;cases h2;rfl
 | [],e::E,Y,T,J,h2,_,_=>by
  cases J;obtain⟨y,T,rfl⟩:=zCB h2;rfl
 |d::G,[],Y,T,J,h2,_,_=>by
  cases h2;obtain⟨y,T,rfl⟩:=zCB J;rfl
 |d::G,e::E,Y,T,J,h2,M,j=>by
  obtain⟨x,Y,rfl,Q,t⟩:=vN J;obtain⟨y,T,rfl,K,S⟩:=vN h2;dsimp[PyData.canLayAll0,Bool.and_eq_true]at M j;dsimp[PyData.eqvAll,deqs];rw[zBC Q K M.1 j.1,eqvs_deq t S M.2 j.2]
end
section
variable{X:Cx}
def zIH(S:zIB X.K)(p:X.A.units+21<cLine):OpR X (compareOp .Eq) (rEqD X.K X.mg false):=by
 intro G s O H x y v u Q I w P h;obtain⟨d,e,J,h2,l,o,q⟩:=h;obtain⟨a,g,M,z⟩:=zCA 20 d J;obtain⟨b,t,j,i⟩:=zCA 20 e h2;obtain⟨_,c,_⟩:=ZA I S l w g;obtain⟨_,r,_⟩:=ZA I S o P t;have k:=SeqAt.rcAt_reads (A:=X.A) c r M j (by lia);rw[zBC g t M j]at k;exact k X.prog X.w _ _ ⟨.bl (deq d e),H,I,rfl,q⟩
def zII(S:zIB X.K)(p:X.A.units+21<cLine):OpR X (compareOp .NotEq) (rEqD X.K X.mg true):=by
 intro G s O H x y v u Q I w P h;obtain⟨d,e,J,h2,l,o,q⟩:=h;obtain⟨a,g,M,z⟩:=zCA 20 d J;obtain⟨b,t,j,i⟩:=zCA 20 e h2;obtain⟨_,c,_⟩:=ZA I S l w g;obtain⟨_,r,_⟩:=ZA I S o P t;have k:=SeqAt.rcNeAt_reads (A:=X.A) c r M j (by lia);rw[zBC g t M j]at k;exact k X.prog X.w _ _ ⟨.bl (!deq d e),H,I,rfl,q⟩
end
inductive Op2 where
 |add|sub|mul|fdiv|mod|pow
def Op2.op:Op2->Operator
 | .add=>.Add | .sub=>.Sub | .mul=>.Mult | .fdiv=>.FloorDiv | .mod=>.Mod | .pow=>.Pow
def Op2.f:Op2->D->D->Lx R
 | .add=>Yt | .sub=>zCq | .mul=>YU | .fdiv=>zCr | .mod=>zHr | .pow=>powD
inductive Cp where
 |lt|le|gt|ge|eq|ne|is
def Cp.op:Cp->CmpOp
 | .lt=>.Lt | .le=>.LtE | .gt=>.Gt | .ge=>.GtE | .eq=>.Eq | .ne=>.NotEq | .is=>.Is
def Cp.f:Cp->D->D->Lx R
 | .lt=>ltD | .le=>leD | .gt=>gtD | .ge=>geD | .eq=>eqG | .ne=>neG | .is=>isG false
def Cp.isI:Cp->Bool
 | .lt | .le | .gt | .ge=>true
 |_=>false
def Cp.b:Cp->Ll
 | .lt=>ltB | .le=>leB | .gt=>gtB|_=>geB
inductive Bi where
 |len|max|all|int|tuple|min|sum|abs|sorted
def Bi.nm:Bi->Str
 | .len=>"len" | .max=>"max" | .all=>"all" | .int=>"int" | .tuple=>"tuple" | .min=>"min" | .sum=>"sum" | .abs=>"abs" | .sorted=>"sorted"
def Bi.f:Bi->Ls D->Lx R
 | .len=>zCs | .max=>vH | .all=>allD | .int=>intF | .tuple=>zHs | .min=>minH | .sum=>zFp | .abs=>absG | .sorted=>zGi
inductive Ty where
 |int|bool|tuple|list|str|dict
def Ty.s:Ty->String
 | .int=>"int" | .bool=>"bool" | .tuple=>"tuple" | .list=>"list" | .str=>"str" | .dict=>"dict"
def Ty.nm:Ty->Str
 | .int=>"int" | .bool=>"bool" | .tuple=>"tuple" | .list=>"list" | .str=>"str" | .dict=>"dict"
inductive Tg where
 |n (i:Nat)
 |t (is:List Nat)
def Tg.m:Tg->MG
 | .n i=>gN i| .t q=>gT q
mutual
inductive Ex where
 |c (d:D)|gl (d:D)|x (i:Nat)|mov (i:Nat)
 |bin (o:Op2) (a b:Ex)|cmp (o:Cp) (a b:Ex)|chain (o o':Cp) (a b c:Ex)
 |neg (a:Ex)|not (a:Ex)|and (a b:Ex)
 |ifx (t:Tx) (a b:Ex)|t (as:Ax)|l (as:Ax)
 |ix (a b:Ex)|ixO (i:Nat) (b:Ex)|sl (a:Ex) (l h:Ox)
 |comp (nl:Nat) (loc capn:Lo) (caps:List Nat) (it:Ix) (tg:Tg) (tt:Tx) (el:Ex)
 |comp2 (nl:Nat) (loc capn:Lo) (caps:List Nat) (it:Ix) (tg:Tg) (jt:Ix) (tg2:Tg) (el:Ex)
 |is (T:Ty) (a:Ex)|cB (b:Bi) (as:Ax)|call (k:Nat) (as:Gx)
 |maxd (a d:Ex)|ltset (as:Ax)
inductive Tx where
 |tAnd (a b:Tx)|tOr (a b:Tx)|tNot (a:Tx)|tE (a:Ex)|tBor (i:Nat) (a:Tx)|tTr
inductive Ax where
 |nil|cons (a:Ex) (as:Ax)
inductive Gx where
 |nil|ev (a:Ex) (as:Gx)|lend (i:Nat) (as:Gx)
inductive Ox where
 |oN|oS (a:Ex)
inductive Ix where
 |iL (a:Ex)|iT (a:Ex)|iR1 (as:Ax)|iR2 (as:Ax)|iE (t1:Bool) (as:Ax)
end
mutual
inductive Sx where
 |sIf (t:Tx) (a b:Bx)|sSet (i:Nat) (a:Ex)|sRet (a:Ex)|sDrop (a:Ex)|sIx (i:Nat) (b a:Ex)|sApp (i:Nat) (a:Ex)
 |sForL (a:Ex) (tg:Tg) (b:Bx)|sForR1 (as:Ax) (tg:Tg) (b:Bx)|sForR2 (as:Ax) (tg:Tg) (b:Bx)|sForI (it:Ix) (tg:Tg) (b:Bx)
 |sAny|sTup (is:List Nat) (a:Ex)|sLst (is:List Nat) (a:Ex)|sPar (i j:Nat) (as:Ax)
 |sWhile (t:Tx) (b:Bx)|sAug (i:Nat) (o:Op2) (a:Ex)
inductive Bx where
 |bNil|o (s:Sx)|s (s:Sx) (b:Bx)
end
structure FI where
 x:Str
 n:Nat
 lv:Nat
 wild:Bool
 F:MF
def fiF(fs:Ls FI)(k:Nat):MF:=match fs[k]? with
 |some i=>i.F|none=>λ_=>.z
def fiX(fs:Ls FI)(k:Nat):Str:=match fs[k]? with
 |some i=>i.x|none=>""
def Op2.aug:Op2->Int->Int->Lx Int
 | .add=>λa b=>some (a+b)| .sub=>λa b=>some (a-b)| .mul=>Q8|_=>λ_ _=>none
def Op2.isAug:Op2->Bool
 | .add | .sub | .mul=>true
 |_=>false
def ZS(m:ME):ME:=λE=>match m E with
 | .y _ _=>.z|o=>o
def YG(m:MS):MS:=λE=>match m E with
 | .y _ _=>.z|o=>o
def zBD{m:ME}{E:zS}{p:R×zS}(h:m E=.ok p):ZS m E=.ok p:=by dsimp[ZS,h]
def G2{m:MS}{E:zS}{p:Fl×zS}(h:m E=.ok p):YG m E=.ok p:=by dsimp[YG,h]
def no_E{X:Cx}{e:Lb}{m:ME}(h:EOk X.nox e m):EOk X e (ZS m):=yW h.nox λO H Q ⟨M,E,hl,fr,k⟩=>by
 unfold ZS at k;refine⟨M,E,hl,fr,?_⟩;cases e:m E with
 |z=>rw[e]at k;exact k|y x E1=>rw[e]at k;exact k.elim|ok p=>rw[e]at k;exact k
def no_S{X:Cx}{st:Lh}{m:MS}(h:SOk X.nox st m):SOk X st (YG m):=λG s O H D I ⟨M,E,hl,fr,k⟩=>by
 refine wpAny_mono (h G s O H D (I.wish _) ⟨M,E,hl,fr,?_⟩) (λ_ _ q=>q.unwish) λ_ _ z=>False.elim z
 unfold YG at k;cases e:m E with
 |z=>rw[e]at k;exact k|y x E1=>rw[e]at k;exact k.elim
 |ok p =>
  rw[e]at k;obtain⟨L,E1⟩:=p;cases L<;>exact k
def sk_forN{X:Cx}{st:Lh}{mi:MI}{tg:MG}{body:MS}(J:PS X st (λD O H=>tMI X mi O H λ_ _=>False))(Y:SOk X st (YG (sForI mi tg body))):SOk X st (zEe mi tg body):=λG s O H D I ⟨M,E,hl,fr,k⟩=>by
 unfold zEe at k;cases e:mi E with
 |y x E1=>rw[e]at k;exact J G s O H D I ⟨M,E,hl,fr,by rw[e];exact λH' g=>k O H' g⟩|z=>rw[e]at k;exact Y G s O H D I ⟨M,E,hl,fr,k⟩|ok p=>rw[e]at k;exact Y G s O H D I ⟨M,E,hl,fr,k⟩
def zIJ{i:Nat}{m:ME}:YG (sSet i m)=sSet i (ZS m):=by
 funext E
 dsimp[YG,sSet,ZS];cases m E with
 |z=>rfl|y x E1=>rfl
 |ok p =>
  obtain⟨r,E1⟩:=p;dsimp;cases J9 i r E1<;>rfl
mutual
def dE(fs:Ls FI):Ex->ME
 | .c d=>eC d| .gl d=>eC d| .x i=>Ys i| .mov i=>zD2 i| .bin o a b=>wy o.f (dE fs a) (dE fs b)| .cmp o a b=>wy o.f (dE fs a) (dE fs b)| .chain o R a b c=>yI o.b R.b (dE fs a) (dE fs b) (dE fs c)| .neg a=>eNeg (dE fs a)| .not a=>v5 (dE fs a)| .and a b=>W2 (dE fs a) (dE fs b)| .ifx t a b=>eIf (dT fs t) (dE fs a) (dE fs b)| .t as=>v7 (dA fs as)| .l as=>v8 (dA fs as)| .ix a b=>wy ixD (dE fs a) (dE fs b)| .ixO i b=>zHv i (dE fs b)| .sl a l h=>eSl slD (dE fs a) (dO fs l) (dO fs h)| .comp Q _ _ n it L x O=>ZS (zA2 Q n (dI fs it) L.m (dT fs x) (dE fs O))| .comp2 Q _ _ n it L z q O=>ZS (Jj akL Q n (dI fs it) L.m jq (maL (dI fs z) q.m jq (ma1 (dE fs O))))| .is T a=>eIs T.s (dE fs a)| .cB b as=>eCB b.f (dA fs as)| .call k as=>y2 (fiF fs k) (dG fs as)| .maxd a d=>wy zCw (dE fs a) (dE fs d)| .ltset as=>eCB um (dA fs as)
def dT(fs:Ls FI):Tx->MT
 | .tAnd a b=>jc (dT fs a) (dT fs b)| .tOr a b=>WQ (dT fs a) (dT fs b)| .tNot a=>jn (dT fs a)| .tE a=>tT (dE fs a)| .tBor i a=>zEd i (dT fs a)| .tTr=>jq
def dA(fs:Ls FI):Ax->MA
 | .nil=>v6| .cons a as=>jo (dE fs a) (dA fs as)
def dG(fs:Ls FI):Gx->Ls Arg
 | .ev a as=>.ev (dE fs a)::dG fs as| .lend i as=>.lend i::dG fs as| .nil=>[]
def dO(fs:Ls FI):Ox->MO
 | .oN=>zGP| .oS a=>zCt (dE fs a)
def dI(fs:Ls FI):Ix->MI
 | .iL a=>iL (dE fs a)| .iT a=>iT (dE fs a)| .iR1 as=>iR1 (dA fs as)| .iR2 as=>iR2 (dA fs as)| .iE v as=>iE v (dA fs as)
end
mutual
def dS(fs:Ls FI):Sx->MS
 | .sIf t a b=>sIf (dT fs t) (dB fs a) (dB fs b)| .sSet i a=>sSet i (dE fs a)| .sRet a=>sRet (dE fs a)| .sDrop a=>sDrop (dE fs a)| .sIx i b a=>W4 i (dE fs b) (dE fs a)| .sApp i a=>sApp i (dE fs a)| .sTup q a=>sTup q (dE fs a)| .sLst q a=>DV.sLst q (dE fs a)| .sPar i j as=>sPar i j (dA fs as)| .sForL a L b=>YG (sForL (dE fs a) L.m (dB fs b))| .sForI it L b=>zEe (dI fs it) L.m (dB fs b)| .sForR1 a L b=>YG (sForR1 (dA fs a) L.m (dB fs b))| .sForR2 a L b=>YG (sForR2 (dA fs a) L.m (dB fs b))| .sAny=>λ_=>.z| .sWhile t b=>YG (DV.sWhile (dT fs t) (dB fs b))| .sAug i o a=>DV.sAug i o.aug (dE fs a)
def dB(fs:Ls FI):Bx->MS
 | .bNil=>uA| .o s=>dS fs s| .s s b=>Z0 (dS fs s) (dB fs b)
end
def zAK{fs d}:dE fs (.c d)=eC d:=rfl
def rE_gl{fs d}:dE fs (.gl d)=eC d:=rfl
def y9{fs i}:dE fs (.x i)=Ys i:=rfl
def Z5{fs i}:dE fs (.mov i)=zD2 i:=rfl
def JC{fs o a b}:dE fs (.bin o a b)=wy o.f (dE fs a) (dE fs b):=rfl
def j9{fs o a b}:dE fs (.cmp o a b)=wy o.f (dE fs a) (dE fs b):=rfl
def We{fs o o' a b c}:dE fs (.chain o o' a b c)=yI o.b o'.b (dE fs a) (dE fs b) (dE fs c):=rfl
def zAL{fs a}:dE fs (.neg a)=eNeg (dE fs a):=rfl
def zIK{fs a b}:dE fs (.and a b)=W2 (dE fs a) (dE fs b):=rfl
def zIL{fs t a b}:dE fs (.ifx t a b)=eIf (dT fs t) (dE fs a) (dE fs b):=rfl
def Jq{fs as}:dE fs (.t as)=v7 (dA fs as):=rfl
def wA{fs as}:dE fs (.l as)=v8 (dA fs as):=rfl
def WT{fs a b}:dE fs (.ix a b)=wy ixD (dE fs a) (dE fs b):=rfl
def zEx{fs i b}:dE fs (.ixO i b)=zHv i (dE fs b):=rfl
def zEy{fs a l h}:dE fs (.sl a l h)=eSl slD (dE fs a) (dO fs l) (dO fs h):=rfl
def G3{fs nl u1 u2 caps it tg tt el}:dE fs (.comp nl u1 u2 caps it tg tt el)=ZS (zA2 nl caps (dI fs it) tg.m (dT fs tt) (dE fs el)):=rfl
def zG1{fs nl u1 u2 caps it tg jt tg2 el}:dE fs (.comp2 nl u1 u2 caps it tg jt tg2 el)=ZS (Jj akL nl caps (dI fs it) tg.m jq (maL (dI fs jt) tg2.m jq (ma1 (dE fs el)))):=rfl
def vO{fs b as}:dE fs (.cB b as)=eCB b.f (dA fs as):=rfl
def yM{fs k as}:dE fs (.call k as)=y2 (fiF fs k) (dG fs as):=rfl
def rE_maxd{fs a d}:dE fs (.maxd a d)=wy zCw (dE fs a) (dE fs d):=rfl
def zG2{fs as}:dE fs (.ltset as)=eCB um (dA fs as):=rfl
def zEz{fs a b}:dT fs (.tAnd a b)=jc (dT fs a) (dT fs b):=rfl
def Jr{fs a b}:dT fs (.tOr a b)=WQ (dT fs a) (dT fs b):=rfl
def rT_tNot{fs a}:dT fs (.tNot a)=jn (dT fs a):=rfl
def Yj{fs a}:dT fs (.tE a)=tT (dE fs a):=rfl
def rT_tBor{fs i a}:dT fs (.tBor i a)=zEd i (dT fs a):=rfl
def zCC{fs}:dT fs (.tTr)=jq:=rfl
def wB{fs}:dA fs (.nil)=v6:=rfl
def wC{fs a as}:dA fs (.cons a as)=jo (dE fs a) (dA fs as):=rfl
def JV{fs a as}:dG fs (.ev a as)=.ev (dE fs a)::dG fs as:=rfl
def zBE{fs i as}:dG fs (.lend i as)=.lend i::dG fs as:=rfl
def yy{fs}:dG fs (.nil)=[]:=rfl
def rO_oN{fs}:dO fs (.oN)=zGP:=rfl
def zE0{fs a}:dO fs (.oS a)=zCt (dE fs a):=rfl
def zG3{fs a}:dI fs (.iL a)=iL (dE fs a):=rfl
def rI_iT{fs a}:dI fs (.iT a)=iT (dE fs a):=rfl
def rI_iR1{fs as}:dI fs (.iR1 as)=iR1 (dA fs as):=rfl
def rI_iR2{fs as}:dI fs (.iR2 as)=iR2 (dA fs as):=rfl
def rI_iE{fs t1 as}:dI fs (.iE t1 as)=iE t1 (dA fs as):=rfl
def JD{fs t a b}:dS fs (.sIf t a b)=sIf (dT fs t) (dB fs a) (dB fs b):=rfl
def jN{fs i a}:dS fs (.sSet i a)=sSet i (dE fs a):=rfl
def yN{fs a}:dS fs (.sRet a)=sRet (dE fs a):=rfl
def jv{fs a}:dS fs (.sDrop a)=sDrop (dE fs a):=rfl
def zIM{fs i b a}:dS fs (.sIx i b a)=W4 i (dE fs b) (dE fs a):=rfl
def JW{fs i a}:dS fs (.sApp i a)=sApp i (dE fs a):=rfl
def vP{fs is a}:dS fs (.sTup is a)=sTup is (dE fs a):=rfl
def rS_sLst{fs is a}:dS fs (.sLst is a)=DV.sLst is (dE fs a):=rfl
def rS_sPar{fs i j as}:dS fs (.sPar i j as)=sPar i j (dA fs as):=rfl
def zG4{fs a tg b}:dS fs (.sForL a tg b)=YG (sForL (dE fs a) tg.m (dB fs b)):=rfl
def zG5{fs it tg b}:dS fs (.sForI it tg b)=zEe (dI fs it) tg.m (dB fs b):=rfl
def zE1{fs a tg b}:dS fs (.sForR1 a tg b)=YG (sForR1 (dA fs a) tg.m (dB fs b)):=rfl
def jE{fs a tg b}:dS fs (.sForR2 a tg b)=YG (sForR2 (dA fs a) tg.m (dB fs b)):=rfl
def zE2{fs t b}:dS fs (.sWhile t b)=YG (DV.sWhile (dT fs t) (dB fs b)):=rfl
def rS_sAug{fs i o a}:dS fs (.sAug i o a)=DV.sAug i o.aug (dE fs a):=rfl
def je{fs}:dB fs (.bNil)=uA:=rfl
def yG{fs s}:dB fs (.o s)=dS fs s:=rfl
def yu{fs s b}:dB fs (.s s b)=Z0 (dS fs s) (dB fs b):=rfl
structure Sg where
 N:Lo
 sc:Scope
 top:Bool
 cs:List (Str×D)
 fs:List FI
 bs:Lo
 lv:Nat
 calm:Bool
 cl:Lo
 rs:Lo
 oc:Lo
 ri:Lo
def kIs(sg:Sg)(x:Str)(k:NameKind):Bool:=sg.sc.names.lookup x==some k
def vis(sg:Sg)(i:Nat)(x:Str):Bool:=sg.N[i]?==some x&&(kIs sg x .local||(kIs sg x .cell||kIs sg x .free))&&(!(x==("__debug__":Str))&&!(x==("__classdict__":Str)))
def glb(sg:Sg)(x:Str):Bool:=kIs sg x .globalImplicit&&!(x==("__debug__":Str))
def locd(sg:Sg)(i:Nat)(x:Str):Bool:=sg.N[i]?==some x&&(kIs sg x .local||(kIs sg x .cell&&(sg.top||sg.oc.contains x)))
def cIs:D->Const->Bool
 | .non,.none=>true| .bl b,.bool c=>b==c| .int i,.int j=>i==j| .str x,.str y=>x==y|_,_=>false
def feq:D->D->Bool
 | .non,.non=>true| .bl b,.bl c=>b==c| .int i,.int j=>i==j| .str x,.str y=>x==y|_,_=>false
abbrev geq(d e:D):Bool:=feq d e
def gIs(sg:Sg)(x:Str)(d:D):Bool:=match sg.cs.lookup x with
 |some T=>geq d T|none=>false
def fIs(sg:Sg)(k:Nat)(x:Str):Bool:=match sg.fs[k]? with
 |some i=>i.x==x|none=>false
def fArg(sg:Sg)(n:Nat)(k:Nat):Bool:=match sg.fs[k]? with
 |some i=>i.n==n&&decide (i.lv<=sg.lv)&&(sg.calm||i.wild)
 |none=>false
def bIn(sg:Sg)(x:Str):Bool:=sg.bs.contains x
def gLen:Gx->Nat
 | .ev _ as=>gLen as+1| .lend _ as=>gLen as+1| .nil=>0
def zAM:Tg->Sg->Lb->Bool
 | .n i,a,e=>match e with
  | .Name x _=>locd a i x|_=>false
 | .t q,a,e=>match e with
  | .Tuple E _ _=>all2 a q E|_=>false
where all2 (a:Sg):Ls Nat->Ls Lb->Bool
 | [],[]=>true
 |i::q,e::E=>(match e with | .Name x _=>locd a i x|_=>false)&&all2 a q E
 |_,_=>false
def relab(Y:Scope)(sc:Scope):Scope:={Y with names:=Y.names.map λ(n,k)=>if(k==NameKind.free&&sc.kind==.function&&sc.names.lookup n==some .cell)then(n,NameKind.cell)else(n,k)}
def capB(sg:Sg)(Y:Scope):Ls Nat->Ls Str->Bool
 | [],[]=>true|j::js,x::xs=>sg.N[j]?==some x&&Y.names.lookup x==some .free&&capB sg Y js xs|_,_=>false
def Wf(sg:Sg)(N:Ls Str)(Y:Scope):Sg:={sg with N:=N,sc:=relab Y sg.sc,top:=false,oc:=(Y.names.filter λy=>y.2==.cell).map Prod.fst}
def zC2(sg:Sg)(nl:Nat)(loc v:Ls Str)(caps:Ls Nat)(Y:Scope):Bool :=
 loc.length==nl&&Y.kind==.function&&decide (loc++v).Nodup&&Y.names.all (λy=>y.2 != .local||Y.names.lookup y.1==some .local)&&Y.names.all (λy=>y.2 != .cell||Y.names.lookup y.1==some .cell)
  && Y.names.all (λy=>y.2 != .free||sg.sc.names.lookup y.1==some .cell)&&capB sg Y caps v
def swOk(sg:Sg)(es:Ls Lb)(v:Lb):Bool:=match v with
 | .Tuple L _ _=>es.any (λe=>match e with | .Name x _=>!(kIs sg x .local)|_=>true)||L.all (foldedForSure 8)
 |_=>true
def zIN:Lb->Bool
 | .Tuple _ _ _=>false|_=>true
def swB(sg:Sg)(x:Str)(T:Pos)(Y:Scope)(c:Pos):Bool:=kIs sg x .local&&T.line==c.line&&!(Y.names.any λy=>y.1==x&&(y.2==.local||y.2==.cell))
def isCo:Ex->Bool
 | .comp _ _ _ _ _ _ _ _=>true| .comp2 _ _ _ _ _ _ _ _ _=>true|_=>false
def setOk(sg:Sg)(x:Str)(T:Pos)(a:Ex)(v:Lb):Bool:=match v with
 | .ListComp _ _ Y c=>sg.sc.kind==.function&&(!swB sg x T Y c||isCo a)
 |v=>Wz v
def zG6(sg:Sg)(i j:Nat)(x y:Str)(T R:Pos)(a b:Lb):Bool :=
 sg.sc.kind==.function&&sg.N[i]?==some x&&sg.N[j]?==some y&&i != j&&kIs sg x .local&&kIs sg y .local&&R.line==T.line&&!(x==y)&&!za a&&!za b&&!([a,b].all (foldedForSure 8))&&!([a,b].all (constantsAlone 8))
def isTr:Tx->Bool
 | .tTr=>true|_=>false
def zIO:Ix->Lb->Bool
 | .iE _ _,e=>match e with
  | .Tuple _ _ _=>true|_=>false
 |_,_=>true
structure SgOk(X:Cx)(sg:Sg):Prop where
 N:X.N=sg.N
 sc:X.env.scope=sg.sc
 fn:sg.top=true->∀x,X.fn x=true
 oc:∀x∈sg.oc,X.env.scope.names.lookup x=some .cell->X.fn x=true
 calm:sg.calm=true->X.calm=true
 hd:sg.calm=true->X.A.handled=none
 stk:sg.top=true->X.stack=X.env::X.outer/\X.env.frame=some X.env.locals
 nd:X.N.Nodup
 cs:∀x d,sg.cs.lookup x=some d->∃u v,X.mg x=some u/\yo v u/\∀H,Rep X.K X.mg H d v
 fs:∀i∈sg.fs,∃f fd ps,X.mg i.x=some (.ref f)/\keepIn X.K (.ref f)=true/\ZU X.K fd ps []/\ps.length=i.n/\FnOkN (!i.wild) X.prog X.w X.K X.mg X.base i.lv f fd ps (spM X.K X.mg i.n i.F)
 bs:∀x∈sg.bs,X.mg x=none
 room:RoomN sg.lv X.A
 cl:sg.cl≠[]->∃T,X.mg "ThrowError"=some (.ref T)/\TCls X.K T/\∀c∈sg.cl,∃C,X.mg c=some (.ref C)/\XCls X.K c C T/\C≠T
 rs:∀c∈sg.rs,∃C,X.mg c=some (.ref C)/\excJ X.K C=true
 sm:zIB X.K
 ri:∀c∈sg.ri,RIok X.prog X.w X.K X.mg X.base c/\RAok X.K X.mg c
section
variable{X:Cx}{sg:Sg}
def Jk(G:SgOk X sg){x:Str}{k:NameKind}(h:kIs sg x k=true):X.env.scope.names.lookup x=some k:=by
 rw[G.sc];simpa[kIs]using h
def wR(G:SgOk X sg){x:Str}(h:glb sg x=true):Gl X x/\(x==("__debug__":Str))=false:=by
 dsimp[glb,Bool.and_eq_true,Bool.not_eq_true']at h;exact⟨Jk G h.1,h.2⟩
def uo(G:SgOk X sg){x:Str}{i:Nat}{g:Pos}(h:vis sg i x=true):PE X (.Name x g) (zDN i):=by
 dsimp[vis,Bool.and_eq_true,Bool.or_eq_true,Bool.not_eq_true']at h;refine pe_var (by rw[G.N];exists h.1.1) ?_ h.2.1 h.2.2;rcases h.1.2 with q|q|q
 ·exact .inl (Jk G q)
 ·exact .inr (.inl (Jk G q))
 ·exact .inr (.inr (Jk G q))
def G4(G:SgOk X sg){x:Str}{i:Nat}(h:locd sg i x=true):X.N[i]?=some x/\Loc X.env.scope x/\(X.fn x=true\/X.env.scope.names.lookup x=some .local):=by
 dsimp[locd,Bool.and_eq_true,Bool.or_eq_true]at h;refine⟨by rw[G.N];simpa using h.1,?_⟩;rcases h.2 with q|q
 ·exact⟨.inl (Jk G q),.inr (Jk G q)⟩
 ·refine⟨.inr (Jk G q.1),.inl ?_⟩
  rcases q.2 with S|S
  ·exact G.fn S x
  ·exact G.oc x (by exists S) (Jk G q.1)
def Js(G:SgOk X sg){x:Str}(h:bIn sg x=true):X.mg x=none:=G.bs x (by simpa[bIn]using h)
def feq_of{d d':D}(h:feq d d'=true):d=d':=by
 cases d<;>cases d'<;>simp[feq]at h<;>first|rfl|(subst h;rfl)
def geq_of{d d':D}(h:geq d d'=true):d=d':=feq_of h
def ok_glR{x:Str}{d:D}{u:Lv}{v:V}{g:Pos}(t:Gl X x)(Y:X.mg x=some u)(r:yo v u)(z:∀H,Rep X.K X.mg H d v)(hd:(x==("__debug__":Str))=false):EOk X (.Name x g) (eC d) :=
 yW (pe_glob t Y r hd) λO H Q ⟨M,E,hl,fr,k⟩=>k _ H ((Got.refl (T0:=[]) hl fr).more (T:=[(some v,.v d)]) (FR.add fr (z _)) Step.refl.add)
def fIs_of{k:Nat}{x:Str}(h:fIs sg k x=true):∃i,sg.fs[k]?=some i/\i.x=x:=by
 unfold fIs at h;split at h
 ·rename_i i e;exact⟨i,e,by exists h⟩
 ·cases h
def fArg_of{k n:Nat}(h:fArg sg n k=true):∃i,sg.fs[k]?=some i/\i.n=n/\i.lv<=sg.lv/\(sg.calm||i.wild)=true:=by
 unfold fArg at h;split at h
 ·rename_i i e
  dsimp[Bool.and_eq_true,decide_eq_true_eq,beq_iff_eq]at h;exact⟨i,e,h.1.1,h.1.2,by exists h.2⟩
 ·cases h
def hd_of(G:SgOk X sg){b:Bool}(h:(sg.calm||b)=true):(!b)=true->X.A.handled=none:=λZ=>G.hd (by
 cases b with
 |true=>cases Z|false=>exists h)
def fiF_of{fs:Ls FI}{k:Nat}{i:FI}(h:fs[k]?=some i):fiF fs k=i.F/\fiX fs k=i.x:=by
 unfold fiF fiX;rw[h];exact⟨rfl,rfl⟩
def uq{b:Lb}(h:zDu b=true):GL b:=by
 intro o i;cases b<;>first|rfl|(cases h)
def Jt(E:Ls Lb)(q:Ls Nat)(G:SgOk X sg)(h:zAM.all2 sg q E=true):PGs X E (we q)/\(assignEach E X.env).length=q.length/\(assignEach E X.env).findIdx? (·.1)=none:=by
 induction E generalizing q with
 |nil =>
  cases q with
  |nil=>exact⟨pgs_nil,rfl,rfl⟩|cons i q=>cases h
 |cons e E u =>
  cases q with
  |nil=>cases h
  |cons i q =>
   dsimp[zAM.all2,Bool.and_eq_true]at h;obtain⟨J,h2⟩:=h;cases e with
   |Name x g =>
    obtain⟨K,S,W⟩:=G4 G J;obtain⟨Z,o,a⟩:=u q h2;refine⟨zFx (zDQ G.nd K S W) Z rfl,?_,?_⟩
    ·show(assignEach E X.env).length+1=_
     rw[o];rfl
    ·show List.findIdx? _ ((false,_)::assignEach E X.env)=none
     dsimp[List.findIdx?_cons,a];rfl
   |_=>cases J
def gOf(K:qH):Tg->TG
 | .n i=>zAs i| .t q=>gTup K q.length (we q)
def Y2(tg:Tg):GOk X (gOf X.K tg) tg.m:=by
 cases tg with
 |n i=>exact go_name i|t q=>exact zHw q rfl
def uJ{tg:Tg}{t:Lb}(D:sg.calm=true)(G:SgOk X sg)(h:zAM tg sg t=true):PG X t (gOf X.K tg):=by
 cases tg with
 |n i =>
  dsimp[zAM]at h;cases t with
  |Name x g =>
   obtain⟨K,S,W⟩:=G4 G h;exact zDQ G.nd K S W
  |_=>cases h
 |t q =>
  dsimp[zAM]at h;cases t with
  |Tuple E k g =>
   obtain⟨K,S,W⟩:=Jt E q G h;exact zHb (G.calm D) K S W
  |_=>cases h
def zG7(G:SgOk X sg){N:Ls Str}{Y:Scope}(hn:N.Nodup)(n:∀y∈Y.names,y.2=.cell->Y.names.lookup y.1=some .cell){cl C ex s H}:SgOk (cxB X N Y cl C ex s H) (Wf sg N Y) where
 N:=rfl
 sc:=by
  show relabel Y X.env=relab Y sg.sc
  rw[<- G.sc];rfl
 fn:=λh=>by cases h
 oc:=λx h _=>by
  obtain⟨y,Q,rfl⟩:=mem_map.mp (show x∈(Y.names.filter λy=>y.2==.cell).map Prod.fst from h);obtain⟨K,S⟩:=mem_filter.mp Q;show(Y.names.lookup y.1==some NameKind.cell)=true;rw[n y K (by exists S)];rfl
 calm:=G.calm
 hd:=G.hd
 stk:=λh=>by cases h
 nd:=hn
 cs:=G.cs
 fs:=G.fs
 bs:=G.bs
 room:=G.room
 cl:=G.cl
 rs:=G.rs
 sm:=G.sm
 ri:=G.ri
def yf(G:SgOk X sg):SgOk X.nox sg:=⟨G.N,G.sc,G.fn,G.oc,G.calm,G.hd,G.stk,G.nd,G.cs,G.fs,G.bs,G.room,G.cl,G.rs,G.sm,G.ri⟩
end
section
open Bool
def kit_of(K:qH)(T:Ty):Kit K T.s:=by
 cases T
 ·exact kit_int K
 ·exact zGb K
 ·exact zEI K
 ·exact zGc K
 ·exact kit_str K
 ·exact zGd K
def bt_of(T:Ty):bootBuiltins T.nm=some (.type T.s):=by
 cases T
 ·exact zH2
 ·exact bt_bool
 ·exact zBt
 ·exact bt_list
 ·exact bt_str
 ·exact bt_dict
def nm_of(T:Ty):T.nm≠"__name__":=by cases T<;>left
def bin_of{X:Cx}{o:Op2}{a b:Lb}{t i:ME}{g:Pos}(C:EOk X a t)(Z:EOk X b i):EOk X (.BinOp a o.op b g) (wy o.f t i):=by
 cases o
 ·exact zCp op_addD ro_add C Z
 ·exact zCp op_sub ro_sub C Z
 ·exact zCp (op_mulD.or op_repL) ro_mulG C Z
 ·exact zCp zGM ro_fdiv C Z
 ·exact zCp op_mod ro_mod C Z
 ·exact zCp op_pow ro_pow C Z
def zCD{X:Cx}{sg:Sg}(G:SgOk X sg):X.A.units+21<cLine:=by have:=G.room.un;lia
def room20{X:Cx}{sg:Sg}(G:SgOk X sg):X.A.units+20<cLine:=by have:=G.room.un;lia
def zIP{X:Cx}{sg:Sg}(G:SgOk X sg):X.A.units+40<cLine:=by have:=G.room.un;lia
def bt_sum:bootBuiltins "sum"=some (.builtin "sum"):=by left
def bt_abs:bootBuiltins "abs"=some (.builtin "abs"):=by left
def zE3:bootBuiltins "sorted"=some (.builtin "sorted"):=by left
def yO{op:CmpOp}{b:Lb}(h:jX b=true):behindInMarks op b=false:=by
 cases b<;>first|rfl|(cases h)
def cmp_of{X:Cx}{sg:Sg}(G:SgOk X sg){o:Cp}{a b:Lb}{t i:ME}{g:Pos}(hn:jX b=true)(C:EOk X a t)(Z:EOk X b i):EOk X (.Compare a [o.op] [b] g) (wy o.f t i):=by
 cases o
 ·exact W1 op_lt ro_lt (yO hn) C Z
 ·exact W1 op_le ro_le (yO hn) C Z
 ·exact W1 op_gt ro_gt (yO hn) C Z
 ·exact W1 op_ge ro_ge (yO hn) C Z
 ·exact W1 (op_eq.or (zIH G.sm (zCD G))) zH8 (yO hn) C Z
 ·exact W1 (op_ne.or (zII G.sm (zCD G))) zH9 (yO hn) C Z
 ·exact W1 op_is ro_is (yO hn) C Z
def cmpT_of{X:Cx}{sg:Sg}(G:SgOk X sg){o:Cp}{a b:Lb}{t i:ME}{g:Pos}(hn:jX b=true)(C:EOk X a t)(Z:EOk X b i):TOk X (.Compare a [o.op] [b] g) (tT (wy o.f t i)):=by
 cases o
 ·exact Yh op_lt ro_lt (yO hn) C Z
 ·exact Yh op_le ro_le (yO hn) C Z
 ·exact Yh op_gt ro_gt (yO hn) C Z
 ·exact Yh op_ge ro_ge (yO hn) C Z
 ·exact Yh (op_eq.or (zIH G.sm (zCD G))) zH8 (yO hn) C Z
 ·exact Yh (op_ne.or (zII G.sm (zCD G))) zH9 (yO hn) C Z
 ·exact Yh op_is ro_is (yO hn) C Z
def zE4{o R:CmpOp}{b c:Lb}(h:jX c=true):lastMarks [o,R] [b,c]=false:=yO h
def zCE{X:Cx}{o:Cp}(h:o.isI=true):OpR X (compareOp o.op) (rI0 λi j=>.bl (o.b i j)):=by
 cases o<;>first|exact op_lt|exact op_le|exact op_gt|exact op_ge|(cases h)
def bi_of{X:Cx}{sg:Sg}(D:sg.calm=true)(G:SgOk X sg)(b:Bi){x:Lb}{es:Ls Lb}{m:MA}{p g:Pos}(t:Gl X b.nm)(Y:X.mg b.nm=none)(T:j7 (x::es)=true)(C:AOk X (x::es) m):EOk X (.Call (.Name b.nm p) (x::es) [] g) (eCB b.f m):=by
 have J:za x=false:=by dsimp[j7,Bool.and_eq_true,Bool.not_eq_true']at T;exact T.1
 have h2:j7 es=true:=by dsimp[j7,Bool.and_eq_true,Bool.not_eq_true']at T;exact T.2
 cases b with
 |len=>exact JP Qn co_len t Y bt_len C (by left) (by left) J h2|max=>exact JP (Gr (zDb (G.calm D)) (zEL (G.calm D))) co_maxG t Y zH1 C (by left) (by left) J h2|all=>exact JP (zGI (G.calm D)) co_all t Y bt_all C (by left) (by left) J h2|int=>exact Qv zDd co_int t Y zH2 C (by left) (by left) J h2|tuple=>exact Qv GN zGO t Y zBt C (by left) (by left) J h2|min=>exact JP (Gr (Gr (zDc (G.calm D)) (zEM (G.calm D))) (zEg (G.calm D) (room20 G))) co_minH t Y bt_min C (by left) (by left) J h2|sum=>exact JP (Gr (zEN (G.calm D)) (zEO (G.calm D))) co_sumG t Y bt_sum C (by left) (by left) J h2|abs=>exact JP zF2 co_absG t Y bt_abs C (by left) (by left) J h2|sorted=>exact JP (Q6 (zIP G)) zGj t Y zE3 C (by left) (by left) J h2
theorem zE5(fs:Ls FI):∀as:Gx,(dG fs as).length=gLen as
 | .nil=>rfl| .ev a as=>congrArg (·+1) (zE5 fs as)| .lend i as=>congrArg (·+1) (zE5 fs as)
def call_ok{X:Cx}{sg:Sg}(G:SgOk X sg){k:Nat}{as:Gx}{f:Str}{x:Lb}{es:Ls Lb}{p g:Pos}(J:glb sg f=true)(Y:fIs sg k f=true)(Q:fArg sg (gLen as) k=true)(h:j7 (x::es)=true)(C:zHx X (x::es) (dG sg.fs as)):EOk X (.Call (.Name f p) (x::es) [] g) (y2 (fiF sg.fs k) (dG sg.fs as)):=by
 obtain⟨I,Z⟩:=wR G J;obtain⟨i,W,P⟩:=fIs_of Y;obtain⟨l,j,n,u,H⟩:=fArg_of Q;rw[W]at j;cases j;obtain⟨a,M,q,m1,z,o,e,c⟩:=G.fs i (mem_of_getElem? W);rw[(fiF_of W).1];subst P;dsimp[j7,Bool.and_eq_true,Bool.not_eq_true']at h;rw[<- e]at c;exact ok_call c (hd_of G H) (G.room.mono u) I m1 z o C (by rw[zE5,e,n]) Z h.1 h.2
theorem zIQ{X:Cx}{sg:Sg}(G:SgOk X sg){Y:Scope}:∀{n:Ls Nat} {v:Ls Str},capB sg Y n v=true->zGf X Y n v
 | [],[],_=>trivial| [],_::_,h=>by cases h|_::_,[],h=>by cases h
 |j::c,x::a,h=>by
  dsimp[capB,Bool.and_eq_true]at h;exact⟨by rw[G.N];simpa using h.1.1,by simpa using h.1.2,zIQ G h.2⟩
end
section
def set_of{x:Str}{p Q:Pos}{b:Lb}{env:Env}(h:zDu b=true):∀v,assign (.Subscript (.Name x p) b Q) env v=(do
   let ov <- holding [v] (eval (.Name x p) env)
   let iv <- holding [v,ov] (eval b env)
   standAt Q
   holding [v,ov,iv] (setItem ov iv v)
   release [v,ov,iv] []):=by
 intro v;cases b<;>first|rfl|(cases h)
def zG8{es:Ls Lb}{k:Nat}{p:Pos}{e:Lb}{l:Nat}{env:Env}:swapsWithSole [.Tuple es k p] e l env=pure false:=by
 show swapsWith e (some (.Tuple es k p)) l env=pure false
 cases e<;>rfl
def swp_of{es:Ls Lb}{k:Nat}{p:Pos}{e:Lb}{env:Env}(h:zIN e=true):swappedStores [.Tuple es k p] e env=pure none:=by
 cases e<;>first|rfl|(cases h)
def zE6{t e:Lb}{l:Nat}{env:Env}(h:Wz e=true):swapsWithSole [t] e l env=pure false:=by
 show swapsWith e (some t) l env=pure false
 exact GT h
def zG9{a b e:Lb}{p:Pos}{l:Nat}{env:Env}:swapsWithSole [.Subscript a b p] e l env=pure false:=by cases e<;>rfl
def zE7{X:Cx}{sg:Sg}(G:SgOk X sg)(h:(sg.sc.kind==ScopeKind.function)=true):X.env.blockKind=.function:=by
 have:X.env.scope.kind=.function:=by rw[G.sc];exact beq_iff_eq.mp h
 unfold Env.blockKind;rw[this];rfl
def zIR{X:Cx}{sg:Sg}(G:SgOk X sg)(V:(sg.sc.kind==ScopeKind.function)=true){el:Lb}{e:Ls Comprehension}{Y:Scope}{c T:Pos}{x:Str}{l:Nat}:swapsWith (.ListComp el e Y c) (some (.Name x T)) l X.env=pure (swB sg x T Y c):=by
 show(pure (X.env.blockKind==.function&&X.env.kindOf x==some .local&&T.line==c.line&&!(Y.names.any λ(n,k)=>n==x&&(k==.local||k==.cell))):Sem Bool)=_
 rw[zE7 G V];unfold swB kIs Env.kindOf;rw[G.sc];simp
theorem zIS{α β:Type}(f:α->Lx β):∀l:Ls α,(l.filterMap f).length<=l.length
 | []=>le_refl _
 |a::l=>by
  have:=zIS f l;rw[filterMap_cons];split
  ·dsimp[length_cons];lia
  ·dsimp[length_cons];lia
theorem fm_lt{α β:Type}(f:α->Lx β):∀l:Ls α,(∃a∈l,f a=none)->(l.filterMap f).length<l.length
 | [],h=>by obtain⟨a,h,_⟩:=h;cases h
 |b::l,h=>by
  obtain⟨a,Y,hf⟩:=h;rw[filterMap_cons];rcases mem_cons.mp Y with rfl|Y
  ·rw[hf]
   have:=zIS f l;dsimp[length_cons];lia
  ·have:=fm_lt f l ⟨a,Y,hf⟩
   split
   ·dsimp[length_cons];lia
   ·dsimp[length_cons];lia
def sw_ok{X:Cx}{sg:Sg}(G:SgOk X sg){es:Ls Lb}{k:Nat}{p:Pos}{v:Lb}(h:swOk sg es v=true):swappedStores [.Tuple es k p] v X.env=pure none:=by
 cases v with
 |Tuple L r t =>
  unfold swappedStores;dsimp;split
  ·rfl
  split
  ·rfl
  split
  ·rfl
  rename_i K;split
  ·rfl
  rename_i hf
  exfalso
  rcases Bool.or_eq_true _ _ |>.mp h with h|h
  ·obtain⟨e,c,V⟩:=List.any_eq_true.mp h
   refine K (Bool.or_eq_true _ _ |>.mpr (.inl ?_));refine bne_iff_ne.mpr (ne_of_lt (fm_lt _ es ⟨e,c,?_⟩));cases e with
   |Name x q =>
    have:X.env.kindOf x≠some .local:=λz=>by
     have Q:sg.sc.names.lookup x=some .local:=by rw[<- G.sc];exact z
     simp[kIs,Q]at V
    have W:(X.env.kindOf x==some NameKind.local)=false:=by exists this
    simp[W]
   |_=>rfl
  ·exact hf h
 |_=>rfl
def sw_par0{env:Env}{x y:Str}{T R p t:Pos}{a b:Lb}{o r:Nat}(V:env.blockKind=.function)(M:env.kindOf x=some .local)(Q:env.kindOf y=some .local)(c:R.line=T.line)(h:(x==y)=false)(C:za a=false)(Z:za b=false)(Y:[a,b].all (foldedForSure 8)=false)(S:[a,b].all (constantsAlone 8)=false) :
  swappedStores [.Tuple [.Name x T,.Name y R] o p] (.Tuple [a,b] r t) env=pure (some [x,y]):=by
 have k:∀e:Lb,(match e with | .Starred _ _=>true|_=>false)=za e:=λe=>by cases e<;>rfl
 have W:([Expr.Name x T,Expr.Name y R].filterMap fun
  | .Name id g=>if env.kindOf id==some .local&&g.line==T.line then some id else none|_=>none)=[x,y]:=by simp[M,Q,c]
 have P:[x,y].eraseDups.length=2:=by
  have:y≠x:=λz=>by subst z;simp at h
  have h2:(y==x)=false:=by exists this
  simp[List.eraseDups,List.eraseDupsBy,List.eraseDupsBy.loop,h2]
 have n:([a,b].any fun | .Starred ..=>true|_=>false)=false:=by
  dsimp[List.any_cons,List.any_nil,Bool.or_false];rw[k,k,C,Z];rfl
 show(if !(2==2||2==3)||2 != 2||env.blockKind != .function then pure none else if([a,b].any fun | .Starred ..=>true|_=>false)then pure none else
  (let i:=([Expr.Name x T,Expr.Name y R].filterMap fun
  | .Name id g=>if env.kindOf id==some .local&&g.line==T.line then some id else none|_=>none)
  if i.length != 2||i.eraseDups.length != i.length then pure none else if [a,b].all (foldedForSure 8)then pure none else if [a,b].all (constantsAlone 8)then(do unsupported "assign.tuple-of-constant-expressions:order-of-the-stores";pure (some i))else pure (some i)):Sem (Lx (Ls Str)))=_
 rw[V,n,W,Y,S];simp[P]
def sw_par{X:Cx}{sg:Sg}(G:SgOk X sg){i j:Nat}{x y:Str}{T R p t:Pos}{a b:Lb}{o r:Nat}(h:zG6 sg i j x y T R a b=true):swappedStores [.Tuple [.Name x T,.Name y R] o p] (.Tuple [a,b] r t) X.env=pure (some [x,y]):=by
 unfold zG6 at h;dsimp[Bool.and_eq_true,Bool.not_eq_true',beq_iff_eq,bne_iff_ne]at h;obtain⟨⟨⟨⟨⟨⟨⟨⟨⟨⟨⟨q,_⟩,_⟩,_⟩,z⟩,g⟩,e⟩,c⟩,k⟩,O⟩,l⟩,n⟩:=h;exact sw_par0 (zE7 G (by rw[q];rfl)) (Jk G z) (Jk G g) e c k O l n
def zIT{X:Cx}{op:BoolOp}{vs:Ls Lb}{p:Pos}{m:MT}(h:TOk X (.BoolOp op vs p) m):WOk X (.BoolOp op vs p) m:=λw=>h
def few_of{e:Lb}{env:Env}{c:Pos}(h:za e=false):((backTo c (starEach (e::[]) env)).all (λx=>!x.1)&&(backToKw c (keywordEach [] env)).all (λx=>x.1.isSome)
   && decide ((e::([]:Ls Lb)).length+([]:Ls Keyword).length+(if([]:Ls Keyword).isEmpty then 0 else 1)<30))=true:=by
 rw[zw h];rfl
def zCF{a b:Bool}(h:(a&&b)=true):a=true/\b=true:=by exists h
def nst{a:Bool}(h:(!a)=true):a=false:=by exists h
def zCG{X:Cx}{sg:Sg}(G:SgOk X sg)(D:sg.calm=true){nl:Nat}{loc v:Ls Str}{caps:Ls Nat}{Y:Scope}(J:zC2 sg nl loc v caps Y=true):CSc X.nox Y nl caps (loc++v)/\∀c C w s H,SgOk (cxB X.nox (loc++v) Y c C w s H) (Wf sg (loc++v) Y):=by
 unfold zC2 at J;obtain⟨J,i⟩:=zCF J;obtain⟨J,M⟩:=zCF J;obtain⟨J,k⟩:=zCF J;obtain⟨J,g⟩:=zCF J;obtain⟨J,h⟩:=zCF J;obtain⟨O,r⟩:=zCF J;have a:∀y∈Y.names,y.2=.cell->Y.names.lookup y.1=some .cell:=λy Q S=>by
  have:=all_eq_true.mp k y Q;rw[S]at this;exists this
 refine⟨csc_of loc v (beq_iff_eq.mp O) (λe s z=>z) (G.calm D) (beq_iff_eq.mp r) (λy Q hl=>?_) a (by rw[show X.nox.env.kindOf=λn=>X.env.scope.names.lookup n from rfl,G.sc];exact M) (zIQ (yf G) i),λ_ _ _ _ _=>zG7 (yf G) (of_decide_eq_true h) a⟩;have:=all_eq_true.mp g y Q;rw[hl]at this;exists this
def zIU{X:Cx}{fs:Ls FI}{tt:Tx}(h:isTr tt=true):IfOk X [] (dT fs tt):=by
 cases tt<;>first|(cases h;done)|exact Gb
def gkE{t:Ex}{sg:Sg}{e:Lb}{X:Cx}{c:Ck (∀X,SgOk X sg->EOk X e (dE sg.fs t))}(h:c.yes=true)(G:SgOk X sg):EOk X e (dE sg.fs t):=c.why h X G
def gkT{t:Tx}{sg:Sg}{e:Lb}{X:Cx}{c:Ck (∀X,SgOk X sg->TOk X e (dT sg.fs t))}(h:c.yes=true)(G:SgOk X sg):TOk X e (dT sg.fs t):=c.why h X G
def gkB{t:Bx}{sg:Sg}{e:Ls Lh}{X:Cx}{c:Ck (∀X,SgOk X sg->zAp X e (dB sg.fs t))}(h:c.yes=true)(G:SgOk X sg):zAp X e (dB sg.fs t):=c.why h X G
mutual
noncomputable def cE:(t:Ex)->(sg:Sg)->(e:Lb)->Ck (∀X,SgOk X sg->EOk X e (dE sg.fs t))
 | .c d,sg,e=>qConstant e λk _ _=>bk (cIs d k) λh=>rt λX G=>by
   unfold cIs at h;split at h
   ·exact ok_non
   ·have:=(beq_iff_eq.mp h);subst this;exact ok_bl
   ·have:=(beq_iff_eq.mp h);subst this;exact ok_int
   ·have:=(beq_iff_eq.mp h);subst this;exact ok_str
   ·cases h
 | .gl d,sg,e=>qName e λx _=>bk (glb sg x) λJ=>bk (gIs sg x d) λh2=>rt λX G=>by
   obtain⟨g1,g2⟩:=wR G J;unfold gIs at h2;split at h2
   ·rename_i d' e
    have:=geq_of h2;subst this;obtain⟨u,v,K,S,W⟩:=G.cs x d e;exact ok_glR g1 K S W g2
   ·cases h2
 | .x i,sg,e=>qName e λx _=>bk (vis sg i x) λh=>rt λX G=>ok_var i (uo G h)| .mov i,sg,e=>qName e λx _=>bk (vis sg i x) λh=>rt λX G=>ok_move i (uo G h)| .bin o a b,sg,e=>qBinOp e λx op y _=>bq op o.op λJ=>(cE a sg x).d λh2=>(cE b sg y).d λQ=>rt λX G=>by subst J;exact bin_of (h2 _ G) (Q _ G)
 | .cmp o a b,sg,e=>qCompare e λx V w2 _=>qCons V λop q=>qNil q <| qCons w2 λy w3=>qNil w3 <| bq op o.op λJ=>bk (jX y) λh0=>(cE a sg x).d λh2=>(cE b sg y).d λQ=>rt λX G=>by subst J;exact cmp_of G h0 (h2 _ G) (Q _ G)
 | .chain o R a b c,sg,e=>qCompare e λx V w2 _=>qCons V λop Z=>qCons Z λak j=>qNil j <| qCons w2 λy w3=>qCons w3 λz q=>qNil q <| bq op o.op λO=>bq (ak) (R.op) λk2=>bk (o.isI) λn=>bk (R.isI) λk4=>bk (jX z) λk5=>(cE a sg x).d λh2=>(cE b sg y).d λQ=>(cE c sg z).d λh4=>rt λX G=>by subst O k2;exact zGe (zCE n) (zCE k4) (h2 _ G) (Q _ G) (h4 _ G) (zE4 k5)
 | .neg a,sg,e=>qUnaryOp e λV x _=>qUSub V <| (cE a sg x).d λh=>rt λX G=>ok_neg (h _ G)
 | .not a,sg,e=>qUnaryOp e λV x _=>qNot V <| (cE a sg x).d λh=>rt λX G=>ok_not (h _ G)
 | .and a b,sg,e=>qBoolOp e λV w2 p=>qAnd V <| qCons w2 λx w3=>qCons w3 λy r=>(cE a sg x).d λJ=>bk (match r with | []=>(cE b sg y).yes|z::r'=>(cE b sg (.BoolOp .And (y::z::r') p)).yes) λh2=>rt λX G=>by
   cases r with
   |nil=>exact zHq (J _ G) (ok_one (gkE h2 G))|cons z r'=>exact zHq (J _ G) (gkE h2 G)
 | .ifx t a b,sg,e=>qIfExp e λc x y _=>(cT t sg c).d λJ=>(cE a sg x).d λh2=>(cE b sg y).d λQ=>rt λX G=>ok_if (J _ G) (h2 _ G) (Q _ G)| .t as,sg,e=>qTuple e λE _ _=>(cA as sg E).d λh=>rt λX G=>ok_tup (h _ G)| .l as,sg,e=>qList e λE _=>(cA as sg E).d λh=>rt λX G=>ok_lst (h _ G)| .ix a b,sg,e=>qSubscript e λx y _=>bk (zDu y) λJ=>(cE a sg x).d λh2=>(cE b sg y).d λQ=>rt λX G=>ok_ix ix_both ro_ix (uq J) (h2 _ G) (Q _ G)| .ixO i b,sg,e=>qSubscript e λV y _=>qName V λx _=>bk (vis sg i x) λJ=>bk (zDu y) λQ=>(cE b sg y).d λh2=>rt λX G=>ok_ixO i (uo G J) (h2 _ G) (uq Q)
 | .sl a l hh,sg,e=>qSubscript e λx V _=>qSlice V λlo hi w2 _=>qNone w2 <| (cE a sg x).d λJ=>(cO l sg lo).d λh2=>(cO hh sg hi).d λQ=>rt λX G=>ok_sl (J _ G) (h2 _ G) (Q _ G)
 | .comp nl ab aa ae it L tt el,sg,e=>qListComp e λag V Y _=>qCons V λw2 w3=>qCm w2 λP ad ai=>qNil w3 <| bk (sg.calm) λD=>bk (zC2 sg nl ab aa ae Y) λJ=>bk (jX ad) λk9=>bk (zIO it P) λq0=>(cI it sg ad).d λK=>bk (zAM L (Wf sg (ab++aa) Y) P) λS=>bk (match ai with | []=>isTr tt|c::cs=>cs.isEmpty&&(cT tt (Wf sg (ab++aa) Y) c).yes) λW=>(cE el (Wf sg (ab++aa) Y) ag).d λq4=>rt λX G=>by
   have⟨C,I⟩:=zCG G D J;refine no_E (ok_lc C (K _ _ (yf G) q0) (g:=gOf X.K L) (λM C w s H=>uJ (sg:=Wf sg (ab++aa) Y) D (I M C w s H) S) (Y2 L) (λM C w s H=>?_) (λM C w s H=>q4 _ (I M C w s H)) (yj k9));cases ai with
   |nil=>exact zIU W
   |cons c cs =>
    obtain⟨W,q5⟩:=zCF W;have:=isEmpty_iff.mp W;subst this;exact zEC (gkT (sg:=Wf sg (ab++aa) Y) q5 (I M C w s H))
 | .comp2 nl ab aa ae it L jt ah el,sg,e=>qListComp e λag V Y _=>qCons V λw2 w3=>qCm w2 λP ad w7=>qNil w7 <| qCons w3 λq Z=>qCm q λac af j=>qNil j <| qNil Z <| bk (sg.calm) λD=>bk (zC2 sg nl ab aa ae Y) λJ=>bk (jX ad) λk9=>bk (zIO it P) λq0=>(cI it sg ad).d λK=>bk (zAM L (Wf sg (ab++aa) Y) P) λS=>bk (jX af) λW=>bk (zIO jt ac) λaj=>(cI jt (Wf sg (ab++aa) Y) af).d λq4=>bk (zAM ah (Wf sg (ab++aa) Y) ac) λq5=>(cE el (Wf sg (ab++aa) Y) ag).d λq6=>rt λX G=>by
   have⟨C,I⟩:=zCG G D J;exact no_E (ok_lc2 C (K _ _ (yf G) q0) (g:=gOf X.K L) (λM C w s H=>uJ (sg:=Wf sg (ab++aa) Y) D (I M C w s H) S) (Y2 L) (λM C w s H=>q4 _ _ (I M C w s H) aj) (g1:=gOf X.K ah) (λM C w s H=>uJ (sg:=Wf sg (ab++aa) Y) D (I M C w s H) q5) (Y2 ah) (λM C w s H=>q6 _ (I M C w s H)) (yj k9) (λM C w s H=>yj W))
 | .is T a,sg,e=>qCall e λV w2 w3 _=>qName V λf _=>qCons w2 λx q=>qCons q λZ j=>qName Z λy _=>qNil j <| qNil w3 <| bq f "isinstance" λO=>bq y T.nm λk2=>bk (glb sg "isinstance") λn=>bk (bIn sg "isinstance") λk4=>bk (glb sg T.nm) λk5=>bk (bIn sg T.nm) λk6=>bk (!za x) λk7=>(cE a sg x).d λh2=>rt λX G=>by subst O k2;exact ok_is (kit_of _ T) (wR G n).1 (Js G k4) (wR G k5).1 (Js G k6) (bt_of T) (h2 _ G) Ge (nm_of T) (wR G k5).2 (nst k7)
 | .cB b as,sg,e=>qCall e λV w2 w3 _=>qName V λf _=>qCons w2 λx E=>qNil w3 <| bk (sg.calm) λD=>bq f b.nm λO=>bk (glb sg b.nm) λk2=>bk (bIn sg b.nm) λn=>bk (j7 (x::E)) λk4=>(cA as sg (x::E)).d λh2=>rt λX G=>by subst O;exact bi_of D G b (wR G k2).1 (Js G n) k4 (h2 _ G)
 | .call k as,sg,e=>qCall e λV w2 w3 _=>qName V λf _=>qCons w2 λx E=>qNil w3 <| bk (glb sg f) λO=>bk (fIs sg k f) λk2=>bk (fArg sg (gLen as) k) λn=>bk (j7 (x::E)) λk4=>(cG as sg (x::E)).d λh2=>rt λX G=>call_ok G O k2 n k4 (h2 _ G)
 | .ltset as,sg,e=>qCall e λV w2 w3 _=>qName V λt _=>qCons w2 λq Z=>qCall q λj w7 w8 _=>qName j λf _=>qCons w7 λx w9=>qNil w9 <| qNil w8 <| qNil Z <| qNil w3 <| bk (sg.calm) λD=>bq t "len" λO=>bq f "set" λk2=>bk (glb sg "len") λn=>bk (bIn sg "len") λk4=>bk (glb sg "set") λk5=>bk (bIn sg "set") λk6=>bk (!za x) λk7=>(cA as sg [x]).d λh2=>rt λX G=>by subst O k2;exact zG0 (zIP G) (G.calm D) (wR G n).1 (Js G k4) (wR G k5).1 (Js G k6) (h2 _ G) (nst k7)
 | .maxd a d,sg,e=>qCall e λV w2 w3 _=>qName V λf _=>qCons w2 λx w7=>qNil w7 <| qCons w3 λq Z=>qKw q λj y _=>qSome j λnm=>qNil Z <| bk (sg.calm) λD=>bq f "max" λO=>bq nm (Str.ofString "default") λk2=>bk (glb sg "max") λn=>bk (bIn sg "max") λk4=>bk (!za x) λk5=>(cE a sg x).d λh2=>(cE d sg y).d λQ=>rt λX G=>by subst O k2;exact ok_maxd (G.calm D) (wR G n).1 (Js G k4) (h2 _ G) (Q _ G) (nst k5)
noncomputable def cT:(t:Tx)->(sg:Sg)->(e:Lb)->Ck (∀X,SgOk X sg->TOk X e (dT sg.fs t))
 | .tAnd a b,sg,e=>qBoolOp e λV u p=>qAnd V <| qCons u λx l=>qCons l λy r=>(cT a sg x).d λJ=>bk (match r with | []=>(cT b sg y).yes|z::L=>(cT b sg (.BoolOp .And (y::z::L) p)).yes) λh2=>rt λX G=>by
   cases r with
   |nil=>exact tk_w (zHp (J _ G) (wk_and1 (gkT h2 G)))|cons z L=>exact tk_w (zHp (J _ G) (zIT (gkT h2 G)))
 | .tOr a b,sg,e=>qBoolOp e λV u p=>qOr V <| qCons u λx l=>qCons l λy r=>(cT a sg x).d λJ=>bk (match r with | []=>(cT b sg y).yes|z::L=>(cT b sg (.BoolOp .Or (y::z::L) p)).yes) λh2=>rt λX G=>by
   cases r with
   |nil=>exact tk_w (wk_or (J _ G) (wk_or1 (gkT h2 G)))|cons z L=>exact tk_w (wk_or (J _ G) (zIT (gkT h2 G)))
 | .tNot a,sg,e=>qUnaryOp e λV x _=>qNot V <| (cT a sg x).d λh=>rt λX G=>tk_not (h _ G)
 | .tE (.cmp o a b),sg,e=>qCompare e λx V u _=>qCons V λop q=>qNil q <| qCons u λy l=>qNil l <| bq op o.op λJ=>bk (jX y) λP=>(cE a sg x).d λD=>(cE b sg y).d λn=>rt λX G=>by subst J;exact cmpT_of G P (D _ G) (n _ G)
 | .tE (.chain o R a b c),sg,e=>qCompare e λx V u _=>qCons V λop Z=>qCons Z λH j=>qNil j <| qCons u λy l=>qCons l λz q=>qNil q <| bq op o.op λO=>bq (H) (R.op) λD=>bk (o.isI) λn=>bk (R.isI) λg=>bk (jX z) λk=>(cE a sg x).d λw=>(cE b sg y).d λC=>(cE c sg z).d λv=>rt λX G=>by subst O D;exact zEJ (zCE n) (zCE g) (w _ G) (C _ G) (v _ G) (zE4 k)
 | .tE a,sg,e=>bk (zHn e&&(cE a sg e).yes) λh=>rt λX G=>by
  obtain⟨J,h2⟩:=zCF h;exact ok_test (gkE h2 G) (test_of J)
 | .tBor i a,sg,e=>(cT a sg e).d λh=>rt λX G=>ok_bor i (h _ G)| .tTr,sg,e=>bk (false) λh=>rt λX G=>absurd h qF
noncomputable def cA:(t:Ax)->(sg:Sg)->(e:Ls Lb)->Ck (∀X,SgOk X sg->AOk X e (dA sg.fs t))
 | .nil,sg,e=>bk (e.isEmpty) λh=>rt λX G=>by
  have:=isEmpty_iff.mp h;subst this;exact ak_nil
 | .cons a as,sg,e=>qCons e λx r=>bk (!za x) λJ=>(cE a sg x).d λh2=>(cA as sg r).d λQ=>rt λX G=>ak_cons (h2 _ G) (Q _ G) (nst J)
noncomputable def cG:(t:Gx)->(sg:Sg)->(e:Ls Lb)->Ck (∀X,SgOk X sg->zHx X e (dG sg.fs t))
 | .nil,sg,e=>bk (e.isEmpty) λh=>rt λX G=>by
  have:=isEmpty_iff.mp h;subst this;exact ga_nil
 | .ev a as,sg,e=>qCons e λx r=>bk (!za x) λJ=>(cE a sg x).d λh2=>(cG as sg r).d λQ=>rt λX G=>ga_ev (h2 _ G) (Q _ G) (nst J)| .lend i as,sg,e=>qCons e λV r=>qName V λx _=>bk (vis sg i x) λJ=>(cG as sg r).d λh2=>rt λX G=>ga_lend (uo G J) (h2 _ G)
noncomputable def cO:(t:Ox)->(sg:Sg)->(e:Lx Lb)->Ck (∀X,SgOk X sg->OOk X e (dO sg.fs t))
 | .oN,sg,e=>bk (e.isNone) λh=>rt λX G=>by
  cases e with
  |none=>exact oo_none|some e=>cases h
 | .oS a,sg,e=>qSome e λe=>(cE a sg e).d λh=>rt λX G=>oo_some (h _ G)
noncomputable def cI:(t:Ix)->(sg:Sg)->(e:Lb)->Ck (∀X L,SgOk X sg->zIO t L=true->IOk X L e (dI sg.fs t))
 | .iL a,sg,e=>(cE a sg e).d λh=>rt λX L G hz=>io_list (h _ G)| .iT a,sg,e=>(cE a sg e).d λh=>rt λX L G hz=>io_tup (h _ G)
 | .iR1 as,sg,e=>qCall e λV u l _=>qName V λf _=>qCons u λx q=>qNil q <| qNil l <| bq f "range" λO=>bk (glb sg "range") λr=>bk (bIn sg "range") λn=>bk (!za x) λg=>(cA as sg [x]).d λh2=>rt λX L G hz=>by subst O;exact io_r1 (wR G r).1 (Js G n) (h2 _ G) (nst g)
 | .iR2 as,sg,e=>qCall e λV u l _=>qName V λf _=>qCons u λx q=>qCons q λy Z=>qNil Z <| qNil l <| bq f "range" λO=>bk (glb sg "range") λr=>bk (bIn sg "range") λn=>bk (!za x) λg=>bk (!za y) λk=>(cA as sg [x,y]).d λh2=>rt λX L G hz=>by subst O;exact io_r2 (wR G r).1 (Js G n) (h2 _ G) (nst g) (nst k)
 | .iE v as,sg,e=>qCall e λV u l _=>qName V λf _=>qCons u λx q=>qNil q <| qNil l <| bq f "enumerate" λO=>bk (glb sg "enumerate") λr=>bk (bIn sg "enumerate") λn=>bk (!za x) λg=>(cA as sg [x]).d λh2=>rt λX L G hz=>by
   subst O;cases L with
   |Tuple i c j=>exact io_enum (wR G r).1 (Js G n) (h2 _ G) (nst g)|_=>exact absurd hz qF
end
def SwOk(X:Cx)(e:Lb)(m:ME):Prop:=∀i x T r,X.N[i]?=some x->Loc X.env.scope x->(X.fn x=true\/X.env.scope.names.lookup x=some .local)->swapsWith e (some (.Name x T)) r.line X.env=pure true->SOk X (.Assign [.Name x T] e r) (sSet i m)
def cW:(t:Ex)->(sg:Sg)->(e:Lb)->Ck (∀X,SgOk X sg->SwOk X e (dE sg.fs t))
 | .comp2 Q p v n it L z q O,sg,e=>qListComp e λo V Y _=>qCons V λu l=>qCm u λP a w7=>qNil w7 <| qCons l λw4 Z=>qCm w4 λaa ab w6=>qNil w6 <| qNil Z <| bk (sg.calm) λD=>bk (zC2 sg Q p v n Y) λJ=>bk (jX a) λk9=>bk (zIO it P) λq0=>(cI it sg a).d λK=>bk (zAM L (Wf sg (p++v) Y) P) λS=>bk (jX ab) λW=>bk (zIO z aa) λac=>(cI z (Wf sg (p++v) Y) ab).d λE=>bk (zAM q (Wf sg (p++v) Y) aa) λh=>(cE O (Wf sg (p++v) Y) o).d λq6=>rt λX G i x T r R hx hf k=>by
   have⟨C,I⟩:=zCG G D J;exact zIJ▸no_S (sk_lc2 G.nd R hx hf C (K _ _ (yf G) q0) (g:=gOf X.K L) (λM C w s H=>uJ (sg:=Wf sg (p++v) Y) D (I M C w s H) S) (Y2 L) (λM C w s H=>E _ _ (I M C w s H) ac) (g1:=gOf X.K q) (λM C w s H=>uJ (sg:=Wf sg (p++v) Y) D (I M C w s H) h) (Y2 q) (λM C w s H=>q6 _ (I M C w s H)) (yj k9) (λM C w s H=>yj W) k)
 | .comp Q p v n it L tt O,sg,e=>qListComp e λo V Y _=>qCons V λu l=>qCm u λP a y=>qNil l <| bk (sg.calm) λD=>bk (zC2 sg Q p v n Y) λJ=>bk (jX a) λk9=>bk (zIO it P) λq0=>(cI it sg a).d λK=>bk (zAM L (Wf sg (p++v) Y) P) λS=>bk (match y with | []=>isTr tt|c::j=>j.isEmpty&&(cT tt (Wf sg (p++v) Y) c).yes) λW=>(cE O (Wf sg (p++v) Y) o).d λE=>rt λX G i x T r R hx hf k=>by
   have⟨C,I⟩:=zCG G D J;refine zIJ▸no_S (sk_lc G.nd R hx hf C (K _ _ (yf G) q0) (g:=gOf X.K L) (λM C w s H=>uJ (sg:=Wf sg (p++v) Y) D (I M C w s H) S) (Y2 L) (λM C w s H=>?_) (λM C w s H=>E _ (I M C w s H)) (yj k9) k);cases y with
   |nil=>exact zIU W
   |cons c j =>
    obtain⟨W,h⟩:=zCF W;have:=isEmpty_iff.mp W;subst this;exact zEC (gkT (sg:=Wf sg (p++v) Y) h (I M C w s H))
 |_,_,_=>default
mutual
noncomputable def cS:(t:Sx)->(sg:Sg)->(e:Lh)->Ck (∀X,SgOk X sg->SOk X e (dS sg.fs t))
 | .sIf t a b,sg,e=>qIf e λc x y _=>(cT t sg c).d λJ=>(cB a sg x).d λh2=>(cB b sg y).d λQ=>rt λX G=>sk_if (J _ G) (h2 _ G) (Q _ G)
 | .sSet i a,sg,e=>qAssign e λV v p=>qCons V λu l=>qNil l <| qName u λx T=>bk (locd sg i x) λJ=>bk (setOk sg x T a v) λQ=>(cE a sg v).d λh2=>bk (!isCo a||(cW a sg v).yes) λC=>rt λX G=>by
   obtain⟨K,S,W⟩:=G4 G J;unfold setOk at Q;split at Q
   ·obtain⟨k1,r⟩:=zCF Q
    rename_i el gs Y vp;cases hb:swB sg _ _ Y vp with
    |false=>exact zHu G.nd K S (h2 _ G) (by rw[zIR G k1,hb]) W
    |true =>
     rw[hb]at r;have n:isCo a=true:=by exists r
     rw[n]at C;exact(cW a sg _).why (by exists C) X G _ _ _ _ K S W (by rw[zIR G k1,hb])
   ·exact zHu G.nd K S (h2 _ G) (GT Q) W
 | .sAny,sg,e=>rt λX G=>sk_any
 | .sTup is a,sg,e=>qAssign e λV v _=>qCons V λu l=>qTuple u λE k p=>qNil l <| bk (sg.calm) λaa=>bk (zAM.all2 sg is E) λk1=>bk (Wz v) λr=>bk (swOk sg E v) λn=>(cE a sg v).d λh2=>rt λX G=>by
   obtain⟨K,S,W⟩:=Jt _ is G k1;exact sk_tup (zHb (G.calm aa) K S W) (h2 _ G) (zE6 r) (sw_ok G n)
 | .sLst is a,sg,e=>qAssign e λV v _=>qCons V λu l=>qTuple u λE k p=>qNil l <| bk (sg.calm) λaa=>bk (zAM.all2 sg is E) λk1=>bk (zIN v) λr=>(cE a sg v).d λh2=>rt λX G=>by
   obtain⟨K,S,W⟩:=Jt _ is G k1;exact sk_lst (pg_lst (G.calm aa) K S W) (h2 _ G) zG8 (swp_of r)
 | .sPar i j as,sg,e=>qAssign e λV u _=>qCons V λw6 w=>qTuple w6 λw8 _ _=>qCons w8 λw9 ad=>qName w9 λx T=>qCons ad λac ae=>qName ac λy R=>qNil ae <| qNil w <| qTuple u λl _ _=>qCons l λa q=>qCons q λb Z=>qNil Z <| bk (sg.calm) λaa=>bk (zG6 sg i j x y T R a b) λJ=>(cA as sg [a,b]).d λh2=>rt λX G=>by
   have I:=J;unfold zG6 at J;dsimp[Bool.and_eq_true,Bool.not_eq_true',beq_iff_eq,bne_iff_ne]at J;obtain⟨⟨⟨⟨⟨⟨⟨⟨⟨⟨⟨_,n1⟩,n2⟩,n3⟩,z⟩,l2⟩,_⟩,_⟩,_⟩,_⟩,_⟩,_⟩:=J;exact jD (ps_par (G.calm aa) G.nd (by rw[G.N];exact n1) (by rw[G.N];exact n2) n3 (Jk G z) (Jk G l2) (h2 _ G) (sw_par G I) (zE6 rfl)) λD O H=>zGl
 | .sRet a,sg,e=>qReturn e λV _=>qSome V λv=>(cE a sg v).d λh=>rt λX G=>sk_ret (h _ G)| .sDrop a,sg,e=>qExpr e λv _=>bk (Wz v) λJ=>(cE a sg v).d λh2=>rt λX G=>sk_drop (h2 _ G) (GT J)
 | .sIx i b a,sg,e=>qAssign e λV v _=>qCons V λu l=>qSubscript u λq y _=>qName q λx _=>qNil l <| bk (vis sg i x) λJ=>bk (zDu y) λh4=>(cE b sg y).d λh2=>(cE a sg v).d λQ=>rt λX G=>zGS i (uo G J) (h2 _ G) (Q _ G) (set_of h4) zG9
 | .sApp i a,sg,e=>qExpr e λV _=>qCall V λu l q cp=>qAttribute u λw6 m ap=>qName w6 λx _=>qCons l λv Z=>qNil Z <| qNil q <| bq m "append" λk1=>bk (ap.endLine==cp.line) λr=>bk (vis sg i x) λn=>bk (!za v) λg=>(cE a sg v).d λh2=>rt λX G=>by subst k1;exact sk_app i (uo G n) (h2 _ G) rfl (few_of (nst g)) r (zw (nst g)) rfl rfl
 | .sForL a L b,sg,e=>qFor e λt it ab V _=>qNil V <| bk (sg.calm) λaa=>bk (jX it) λJ=>bk (zAM L sg t) λP=>(cE a sg it).d λh2=>(cB b sg ab).d λQ=>rt λX G=>no_S (sk_forL (X:=X.nox) PassesOwn.never (G.calm aa) (h2 _ (yf G)) (uJ aa (yf G) P) (Y2 L) (Q _ (yf G)) (yj J))
 | .sForI ix L b,sg,e=>qFor e λt it ab V _=>qNil V <| bk (sg.calm) λaa=>bk (jX it) λJ=>bk (zAM L sg t) λP=>bk (zIO ix t) λh4=>(cI ix sg it).d λh2=>(cB b sg ab).d λQ=>rt λX G=>sk_forN (ps_forX (h2 _ _ G h4) (yj J)) (no_S (sk_forI (X:=X.nox) PassesOwn.never (G.calm aa) (h2 _ _ (yf G) h4) (uJ aa (yf G) P) (Y2 L) (Q _ (yf G)) (yj J)))
 | .sForR1 as L b,sg,e=>qFor e λt V ab u _=>qCall V λl q Z _=>qName l λf _=>qCons q λx w6=>qNil w6 <| qNil Z <| qNil u <| bk (sg.calm) λaa=>bq f "range" λk1=>bk (glb sg "range") λr=>bk (bIn sg "range") λn=>bk (!za x) λg=>bk (zAM L sg t) λk5=>(cA as sg [x]).d λh2=>(cB b sg ab).d λQ=>rt λX G=>by subst k1;exact no_S (zGU (X:=X.nox) PassesOwn.never (G.calm aa) (wR (yf G) r).1 (Js (yf G) n) (h2 _ (yf G)) (uJ aa (yf G) k5) (Y2 L) (Q _ (yf G)) (nst g) (yj rfl))
 | .sForR2 as L b,sg,e=>qFor e λt V ab u _=>qCall V λl q Z _=>qName l λf _=>qCons q λx w6=>qCons w6 λy w=>qNil w <| qNil Z <| qNil u <| bk (sg.calm) λaa=>bq f "range" λk1=>bk (glb sg "range") λr=>bk (bIn sg "range") λn=>bk (!za x) λg=>bk (!za y) λk5=>bk (zAM L sg t) λM=>(cA as sg [x,y]).d λh2=>(cB b sg ab).d λQ=>rt λX G=>by subst k1;exact no_S (zGV (X:=X.nox) PassesOwn.never (G.calm aa) (wR (yf G) r).1 (Js (yf G) n) (h2 _ (yf G)) (uJ aa (yf G) M) (Y2 L) (Q _ (yf G)) (nst g) (nst k5) (yj rfl))
 | .sWhile t b,sg,e=>qWhile e λc ab V _=>qNil V <| (cT t sg c).d λJ=>(cB b sg ab).d λh2=>rt λX G=>no_S (zGm (X:=X.nox) PassesOwn.never (J _ (yf G)) (h2 _ (yf G)))
 | .sAug i o a,sg,e=>qAugAssign e λV op v _=>qName V λx _=>bk (locd sg i x) λJ=>bq op o.op λk1=>bk (o.isAug) λr=>(cE a sg v).d λh2=>rt λX G=>by
   obtain⟨K,S,W⟩:=G4 G J;subst k1;cases o with
   |add=>exact zEY G.nd K S W (h2 _ G)|sub=>exact zEZ G.nd K S W (h2 _ G)|mul=>exact zEa G.nd K S W (h2 _ G)|_=>cases r
noncomputable def cB:(t:Bx)->(sg:Sg)->(e:Ls Lh)->Ck (∀X,SgOk X sg->zAp X e (dB sg.fs t))
 | .bNil,sg,e=>bk (e.isEmpty) λh=>rt λX G=>by
  have:=isEmpty_iff.mp h;subst this;exact sk_nil
 | .o a,sg,e=>qCons e λs V=>qNil V <| (cS a sg s).d λh=>rt λX G=>sk_one (h _ G)
 | .s a b,sg,e=>qCons e λs r=>(cS a sg s).d λJ=>(cB b sg r).d λh2=>rt λX G=>sk_cons (J _ G) (h2 _ G)
end
def sB(t:Bx){X:Cx}{sg:Sg}{e:Ls Lh}(G:SgOk X sg)(h:(cB t sg e).yes=true):zAp X e (dB sg.fs t):=gkB h G
abbrev chkB(t:Bx)(sg:Sg)(e:Ls Lh):Bool:=(cB t sg e).yes
end
def ClOk(K:qH)(g:Str->Lx Lv)(cl rs:Ls Str):Prop :=
 (cl≠[]->∃T,g "ThrowError"=some (.ref T)/\TCls K T/\∀c∈cl,∃C,g c=some (.ref C)/\XCls K c C T/\C≠T)/\(∀c∈rs,∃C,g c=some (.ref C)/\excJ K C=true)/\zIB K
abbrev zE8(P:Lc)(w:Le)(K:qH)(g:Str->Lx Lv)(base:Heap)(e:Ls Str):Prop:=∀c∈e,RIok P w K g base c/\RAok K g c
def def_ok{P:Lc}{w:Le}{K:qH}{g:Str->Lx Lv}{base:Heap}{x:Str}{st:Lh}{G N:Ls Str}{n lv:Nat}{j:Ls (Str×D)}{fs:Ls FI}{k:Ls Str}{c:Bool}{cl rs:Ls Str}(t:Bx)(T:jj K g x st G)(S:FnScope N G (zc st))(hn:N.length=n)
  (o:∀x d,j.lookup x=some d->∃u v,g x=some u/\yo v u/\∀H,Rep K g H d v)
  (l:∀i∈fs,∃f M G,g i.x=some (.ref f)/\keepIn K (.ref f)=true/\ZU K M G []/\G.length=i.n/\FnOkN (!i.wild) P w K g base i.lv f M G (spM K g i.n i.F))
  (X:∀x∈k,g x=none) (V:ClOk K g cl rs) {e:Ls Str} (I:zE8 P w K g base e) (h:(cB t ⟨N,zc st,true,j,fs,k,lv,c,cl,rs,[],e⟩ (jL st)).yes=true):FOk P w K g base c x (lv+1) G (fnM n (dB fs t)):=by
 obtain⟨a,M,Y,F,q⟩:=T;subst hn;refine⟨a,M,Y,F.kp,q,fn_ok F S λR A outer s H E C z=>?_⟩;exact gkB h ⟨rfl,rfl,λ_ _=>rfl,(λx h=>by cases h),id,C,λ_=>⟨rfl,rfl⟩,S.nd,o,l,X,z,V.1,V.2.1,V.2.2,I⟩
def zHA(K:qH)(g:Str->Lx Lv)(j:Ls (Str×D)):Prop:=∀x d,j.lookup x=some d->∃u v,g x=some u/\yo v u/\∀H,Rep K g H d v
def BsOk(g:Str->Lx Lv)(k:Ls Str):Prop:=∀x∈k,g x=none
def FsOk(P:Lc)(w:Le)(K:qH)(g:Str->Lx Lv)(base:Heap)(fs:Ls FI):Prop :=
 ∀i∈fs,∃f M G,g i.x=some (.ref f)/\keepIn K (.ref f)=true/\ZU K M G []/\G.length=i.n/\FnOkN (!i.wild) P w K g base i.lv f M G (spM K g i.n i.F)
section
variable{P:Lc}{w:Le}{K:qH}{mg:Str->Lx Lv}{base:Heap}
def cs_nil:zHA K mg []:=λx d h=>by cases h
def cs_put{x:Str}{d:D}{j:Ls (Str×D)}(h:∃u v,mg x=some u/\yo v u/\∀H,Rep K mg H d v)(t:zHA K mg j):zHA K mg ((x,d)::j):=λy T e=>by
 rw[lookup_cons]at e;cases Q:y==x with
 |true =>
  rw[Q]at e;cases e;have:y=x:=by exists Q
  subst this;exact h
 |false=>rw[Q]at e;exact t y T e
def JX{x:Str}{i:Int}{j:Ls (Str×D)}(h:∃t,mg x=some (.int i t))(t:zHA K mg j):zHA K mg ((x,.int i)::j):=by
 obtain⟨k,h⟩:=h;exact cs_put ⟨_,.int i,h,⟨_,rfl⟩,λH=>by dsimp[Rep]⟩ t
def bs_nil:BsOk mg []:=λx h=>by cases h
def jF{x:Str}{k:Ls Str}(h:mg x=none)(t:BsOk mg k):BsOk mg (x::k):=λy e=>by
 rcases mem_cons.mp e with e|e
 ·subst e;exact h
 ·exact t y e
def zR:FsOk P w K mg base []:=λx h=>by cases h
def zC{x:Str}{n lv:Nat}{F:MF}{fs:Ls FI}{G:Ls Str}{g:Bool}(h:FOk P w K mg base (!g) x lv G F)(c:G.length=n)(t:FsOk P w K mg base fs):FsOk P w K mg base (⟨x,n,lv,g,F⟩::fs):=λi e=>by
 rcases mem_cons.mp e with e|e
 ·subst e
  subst c;obtain⟨a,M,J,h2,Q,h4⟩:=h;exact⟨a,M,G,J,h2,Q,rfl,h4⟩
 ·exact t i e
def def_at{x:Str}{st:Lh}{G N:Ls Str}{n lv:Nat}{j:Ls (Str×D)}{fs:Ls FI}{k:Ls Str}{cl rs:Ls Str}(t:Bx){a:Lz}{M:FuncData}(F:Fun K x x st a M)(S:FnScope N G (zc st))(hn:N.length=n)
  (o:zHA K mg j) (l:FsOk P w K mg base fs) (X:BsOk mg k) (V:ClOk K mg cl rs) {e:Ls Str} (I:zE8 P w K mg base e) (h:chkB t ⟨N,zc st,true,j,fs,k,lv,true,cl,rs,[],e⟩ (jL st)=true):FnOk P w K mg base (CXx P w) (lv+1) a M G (spM K mg G.length (fnM n (dB fs t))):=by
 subst hn;refine(fn_ok (c:=true) F S λR A outer s H E C z=>?_).fn;exact sB (sg:=⟨N,zc st,true,j,fs,k,lv,true,cl,rs,[],e⟩) t ⟨rfl,rfl,λ_ _=>rfl,(λx h=>by cases h),id,C,λ_=>⟨rfl,rfl⟩,S.nd,o,l,X,z,V.1,V.2.1,V.2.2,I⟩ h
def scP(N P:Ls Str)(sc:Scope):Prop:=sc.kind=.function/\sc.isCoroutine=false/\sc.isGenerator=false/\N.Nodup/\N.take P.length=P/\(∀x∈P,sc.names.lookup x=some .local\/sc.names.lookup x=some .cell)/\∀y∈sc.names,y.2≠.free
instance scD (N P:Ls Str) (sc:Scope):Decidable (scP N P sc):=by unfold scP;infer_instance
def sc_of{N P:Ls Str}{sc:Scope}(h:scP N P sc):FnScope N P sc:=⟨h.1,h.2.1,h.2.2.1,h.2.2.2.1,h.2.2.2.2.1,h.2.2.2.2.2.1,h.2.2.2.2.2.2⟩
def zK{x:Str}{st:Lh}{G:Ls Str}{lv:Nat}{j:Ls (Str×D)}{fs:Ls FI}{k:Ls Str}{c:Bool}{cl rs:Ls Str}(t:Bx)(N:Ls Str)(T:jj K mg x st G)
  (o:zHA K mg j) (l:FsOk P w K mg base fs) (X:BsOk mg k) (V:ClOk K mg cl rs) {e:Ls Str} (I:zE8 P w K mg base e) (h:(decide (scP N G (zc st))&&chkB t ⟨N,zc st,true,j,fs,k,lv,c,cl,rs,[],e⟩ (jL st))=true):FOk P w K mg base c x (lv+1) G (fnM N.length (dB fs t)) :=
 def_ok t T (sc_of (of_decide_eq_true (Bool.and_eq_true_iff.mp h).1)) rfl o l X V I (Bool.and_eq_true_iff.mp h).2
def def_atB{x:Str}{st:Lh}{G:Ls Str}{lv:Nat}{j:Ls (Str×D)}{fs:Ls FI}{k:Ls Str}{cl rs:Ls Str}(t:Bx)(N:Ls Str){a:Lz}{M:FuncData}(F:Fun K x x st a M)
  (o:zHA K mg j) (l:FsOk P w K mg base fs) (X:BsOk mg k) (V:ClOk K mg cl rs) {e:Ls Str} (I:zE8 P w K mg base e) (h:(decide (scP N G (zc st))&&chkB t ⟨N,zc st,true,j,fs,k,lv,true,cl,rs,[],e⟩ (jL st))=true):FnOk P w K mg base (CXx P w) (lv+1) a M G (spM K mg G.length (fnM N.length (dB fs t))) :=
 def_at t F (sc_of (of_decide_eq_true (Bool.and_eq_true_iff.mp h).1)) rfl o l X V I (Bool.and_eq_true_iff.mp h).2
def zE9{c:Str}{C T:Lz}(h:xIn K c C T=true):XCls K c C T/\C≠T:=by
 unfold xIn at h;dsimp[Bool.and_eq_true,beq_iff_eq,Bool.not_eq_true']at h;obtain⟨⟨⟨⟨⟨⟨⟨J,h2⟩,Q⟩,h4⟩,h5⟩,y⟩,w⟩,a⟩:=h;refine⟨⟨?_,h2,Q,h4,h5,y,w⟩,by exists a⟩;exists e,clsIn K C,J,cd;dsimp[Bool.and_eq_true,beq_iff_eq]at J;exact⟨cd,rfl,J.1,J.2⟩
def tcls_of{T:Lz}(h:tIn K T=true):TCls K T:=by
 unfold tIn at h;dsimp[Bool.and_eq_true,beq_iff_eq]at h;obtain⟨J,h2⟩:=h;refine⟨?_,h2⟩;cases e:clsIn K T with
 |none=>rw[e]at J;cases J|some Z=>rw[e]at J;exact⟨Z,rfl,by exists J⟩
def spLaw(K:qH):Sp:=λL H Q _=>∃(a:Lz) (E:Ls Int),L=[.ref a]/\SqL K H a (E.map V.int)/\E.length<=63/\∀H',Q (.bl true) H'
theorem zAN{H:Hp}:∀E:Ls Int,Reps K mg H (E.map D.int) (E.map V.int)
 | []=>Reps.nil|n::E=>Reps.cons (by dsimp[Rep]) (zAN E)
def law_imp{F:MF}(Y:∀c:Ls Int,c.length<=63->∃S,F [.v (.l (c.map D.int))]=.ok (.v (.bl true),S))(vs:Ls V)(H:Hp)(Q:VK)(E:XK)(h:spLaw K vs H Q E):spM K mg 1 F vs H Q E:=by
 obtain⟨a,c,rfl,X,hl,k⟩:=h;obtain⟨S,i⟩:=Y c hl;have u:∀b,¬Mo (λ_=>False) [(some (V.ref a),Slot.v (.l (c.map D.int)))] b:=by
  intro b q;rcases q with q|q
  ·exact q
  ·rw[zV]at q;cases q
 have z:Yr H (Hm (Mo (λ_=>False) [(some (V.ref a),Slot.v (.l (c.map D.int)))]) H):=λb o q=>zP.mpr ⟨u b,q⟩
 refine⟨rfl,λ_=>False,[.v (.l (c.map D.int))],rfl,⟨?_,?_,?_,?_⟩,?_⟩
 ·intro o d q
  have G:=mem_singleton.mp q
  cases G;refine⟨_,rfl,?_⟩;dsimp[Rep];exact⟨a,_,rfl,z.seq X,zAN c⟩
 ·intro o s g q e
  have G:=mem_singleton.mp q
  cases G;cases e
 ·show(yH [(some (V.ref a),Slot.v (.l (c.map D.int)))]).Nodup
  rw[zV];exact List.nodup_nil
 ·intro b q;cases q
 ·rw[i]
  intro v H' _ fr _;obtain⟨t,e,r⟩:=fr.val (some v) (.bl true) qE;cases e;dsimp[Rep]at r;subst r;exact k H'
end
def yP{E:zS}:zt [] E=[]:=rfl
def yc{ds:Ls D}{c:Ls Slot}{s:Slot}{E:zS}:zt (.p ds::c) (s::E)=s::zt c E:=rfl
def yQ{d:D}{c:Ls Slot}{s:Slot}{E:zS}:zt (.v d::c) (s::E)=.e::zt c E:=rfl
def yd{d:Ls D}{c:Ls Slot}{s:Slot}{E:zS}:zt (.w d::c) (s::E)=.e::zt c E:=rfl
def ye{c:Ls Slot}{s:Slot}{E:zS}:zt (.e::c) (s::E)=.e::zt c E:=rfl
theorem zAO{tg:MG}{tt:MT}{el:ME}(I:Nat->zS->Ls D->Prop):∀(G:Ls D) (k:Nat) (E:zS) (L:Ls D),I k E L->L.length+G.length<=cap ->
  (∀i d,G[i]?=some d->∀E L,I (k+i) E L->L.length<cap->∃E1 E2 r E3,tg d E=.ok E1/\tt E1=.ok (true,E2)/\el E2=.ok (r,E3)/\I (k+i+1) E3 (L++[r.d])) ->
  ∃a E',Q1 tg tt el G E L=.ok (a,E')/\I (k+G.length) E' a
 | [],k,E,L,h,S,step=>⟨L,E,rfl,h⟩
 |d::G,k,E,L,h,S,step=>by
  dsimp[length_cons]at S;obtain⟨E1,E2,r,E3,J,h2,Q,h4⟩:=step 0 d rfl E L h (by lia);obtain⟨a,E',K,c⟩:=zAO I G (k+1) E3 (L++[r.d]) h4 (by simp;lia) λi T e E L h hl=>by
   have:=step (i+1) T (by exists e) E L (by rw[show k+(i+1)=k+1+i by lia];exact h) hl;rw[show k+(i+1)=k+1+i by lia]at this;exact this
  refine⟨a,E',?_,?_⟩
  ·dsimp[Q1,wf,ma1,J,h2,Q]
   rw[if_pos (by lia)];exact K
  ·rw[length_cons,show k+(G.length+1)=k+1+G.length by lia];exact c
theorem jT{tg:MG}{body:MS}(I:Nat->zS->Prop):∀(G:Ls D) (k:Nat) (E:zS),I k E ->
  (∀i d,G[i]?=some d->∀E,I (k+i) E->∃E1 E2,tg d E=.ok E1/\body E1=.ok (.nx,E2)/\I (k+i+1) E2) ->
  ∃E',Z3 tg body G E=.ok (.nx,E')/\I (k+G.length) E'
 | [],k,E,h,step=>⟨E,rfl,h⟩
 |d::G,k,E,h,step=>by
  obtain⟨E1,E2,J,h2,h4⟩:=step 0 d rfl E h;obtain⟨E',K,S⟩:=jT I G (k+1) E2 h4 λi T e E h=>by
   have:=step (i+1) T (by exists e) E (by rw[show k+(i+1)=k+1+i by lia];exact h);rw[show k+(i+1)=k+1+i by lia]at this;exact this
  refine⟨E',?_,?_⟩
  ·dsimp[Z3,J,h2]
   exact K
  ·rw[length_cons,show k+(G.length+1)=k+1+G.length by lia];exact S
theorem y1:∀(n:Nat) (z:Int) (i:Nat) (d:D),(zG z n)[i]?=some d->i<n/\d=.int (z+i)
 |0,_,_,_,h=>by simp[zG]at h
 |n+1,z,0,d,h=>by
  simp[zG]at h;exact⟨by lia,by rw[<- h];simp⟩
 |n+1,z,i+1,d,h=>by
  dsimp[zG,List.getElem?_cons_succ]at h;obtain⟨J,h2⟩:=y1 n (z+1) i d h;refine⟨by lia,?_⟩;rw[h2];congr 1
  push_cast
  lia
theorem yg:∀(n:Nat) (z:Int),(zG z n).length=n
 |0,_=>rfl|n+1,z=>by simp[zG,yg n]
def jw:Slot->Bool
 | .p _=>false|_=>true
theorem G5:∀(L:Ls D) (E:zS),zJ (L.map AR.tmp) E=.ok (L.map Slot.v,E)
 | [],_=>rfl|d::L,E=>by dsimp[map_cons,zJ,G5 L E]
theorem G6:∀(L:Ls D) (S:Ls Slot) (E0 E:zS),S.length=L.length->zF (L.map AR.tmp) S E0 E=.ok E
 | [],[],_,_,_=>rfl| [],_::_,_,_,h=>by cases h|_::_,[],_,_,h=>by cases h|d::L,s::S,E0,E,h=>by dsimp[map_cons,zF];exact G6 L S E0 E (by exists h)
theorem zAP{vs:Ls D}{tg:MG}{tt:MT}{el:ME}{nl:Nat}(p:D->Ls DV.Slot)(f:D->Bool)(g:D->D):∀(G:Ls D),
  (∀d∈G,∀S:Ls DV.Slot,S.length=nl->(∀s∈S,jw s=true)->tg d (S++vs.map Slot.v)=.ok (p d++vs.map Slot.v)) ->
  (∀d∈G,(p d).length=nl/\∀s∈p d,jw s=true) ->
  (∀d∈G,tt (p d++vs.map Slot.v)=.ok (f d,p d++vs.map Slot.v)) ->
  (∀d∈G,f d=true->∃r,el (p d++vs.map Slot.v)=.ok (r,p d++vs.map Slot.v)/\r.d=g d) ->
  ∀(S:Ls DV.Slot) (L:Ls D),S.length=nl->(∀s∈S,jw s=true)->L.length+G.length<=cap->∃S',S'.length=nl/\Q1 tg tt el G (S++vs.map Slot.v) L=.ok (L++(G.filter f).map g,S'++vs.map Slot.v)
 | [],_,_,_,_,S,L,X,_,_=>⟨S,X,by simp[Q1,wf]⟩
 |d::G,J,h2,Q,h4,S,L,X,K,i=>by
  have m:=qE (a:=d) (l:=G);have e:=J d m S X K;have t:=Q d m;have o:=h2 d m;dsimp[length_cons]at i;have h:=zAP p f g G (λz hz=>J z (qD _ hz)) (λz hz=>h2 z (qD _ hz)) (λz hz=>Q z (qD _ hz)) (λz hz=>h4 z (qD _ hz)) (p d);cases hf:f d with
  |false =>
   rw[hf]at t;obtain⟨S',c,C⟩:=h L o.1 o.2 (by lia);refine⟨S',c,?_⟩;dsimp[Q1,wf,ma1,e,t,C,List.filter_cons,hf];simp
  |true =>
   rw[hf]at t;obtain⟨r,q,V⟩:=h4 d m hf;obtain⟨S',c,C⟩:=h (L++[r.d]) o.1 o.2 (by simp;lia);refine⟨S',c,?_⟩;dsimp[Q1,wf,ma1,e,t,q];rw[if_pos (by lia)];show Q1 tg tt el G _ _=_;rw[C,V];simp[List.filter_cons,hf]
def G7{vs:Ls D}{tg:MG}{tt:MT}{el:ME}{nl:Nat}{caps:Ls Nat}(p:D->Ls DV.Slot)(f:D->Bool)(g:D->D)(ds:Ls D)
  (J:∀d∈ds,∀S:Ls DV.Slot,S.length=nl->(∀s∈S,jw s=true)->tg d (S++vs.map Slot.v)=.ok (p d++vs.map Slot.v))
  (Y:∀d∈ds,(p d).length=nl/\∀s∈p d,jw s=true)
  (Q:∀d∈ds,tt (p d++vs.map Slot.v)=.ok (f d,p d++vs.map Slot.v))
  (h:∀d∈ds,f d=true->∃r,el (p d++vs.map Slot.v)=.ok (r,p d++vs.map Slot.v)/\r.d=g d) (a:ds.length<=cap)
  {mi:MI} {E E1:zS} (hi:mi E=.ok (ds,E1)) (o:YE E1 caps=.ok (vs.map AR.tmp)):zA2 nl caps mi tg tt el E=.ok (.w ((ds.filter f).map g),E1):=by
 obtain⟨S',c,C⟩:=zAP (vs:=vs) (tg:=tg) (tt:=tt) (el:=el) (nl:=nl) p f g ds J Y Q h (replicate nl .e) [] (by simp) (λs T=>by rw[(List.mem_replicate.mp T).2];rfl) (by exists a);dsimp[zA2,Jj,hi,o,G5,C];rw[G6 vs _ _ _ (by rw[length_drop,zZ];simp)];simp
def zIV{a b c:D}{S:Ls DV.Slot}{R:Ls DV.Slot}(X:S.length=3)(K:∀s∈S,jw s=true):gT [0,1,2] (.t [a,b,c]) (S++R)=.ok ([.v a,.v b,.v c]++R):=by
 match S,X,K with
 | [x,y,z],_,K =>
  have M:=K x (by simp);have Q:=K y (by simp);have hz:=K z (by simp);cases x<;>first|(cases M;done)|(cases y<;>first|(cases Q;done)|(cases z<;>first|(cases hz;done)|rfl))
def gT_ok2{a b:D}{S:Ls DV.Slot}{R:Ls DV.Slot}(X:S.length=2)(K:∀s∈S,jw s=true):gT [0,1] (.t [a,b]) (S++R)=.ok ([.v a,.v b]++R):=by
 match S,X,K with
 | [x,y],_,K =>
  have M:=K x (by simp);have Q:=K y (by simp);cases x<;>first|(cases M;done)|(cases y<;>first|(cases Q;done)|rfl)
def zIW{a:D}{S:Ls DV.Slot}{R:Ls DV.Slot}(X:S.length=1)(K:∀s∈S,jw s=true):gN 0 a (S++R)=.ok ([.v a]++R):=by
 match S,X,K with
 | [x],_,K =>
  have M:=K x (by simp);cases x<;>first|(cases M;done)|rfl
theorem zCH:∀(l:Ls Obj) (i:Nat) (as:Ls Lz) (a:Lz) (o:Obj),(QZ l i as).lookup a=some o->∃j,a=i+j/\l[j]?=some o/\isFr o=false
 | [],_,_,a,o,e=>by cases e|_::_,_,[],a,o,e=>by cases e
 |x::p,i,b::as,a,o,e=>by
  have K:∀{as:Ls Lz},(QZ p (i+1) as).lookup a=some o->∃j,a=i+j/\(x::p)[j]?=some o/\isFr o=false:=λe=>by
   obtain⟨j,J,h2,Q⟩:=zCH p (i+1) _ a o e;exact⟨j+1,J.trans ((Nat.add_assoc i 1 j).trans (congrArg (i+·) (Nat.add_comm 1 j))),by simpa using h2,Q⟩
  unfold QZ at e;cases Z:Nat.beq i b with
  |false=>rw[Z]at e;exact K e
  |true =>
   rw[Z]at e;cases hf:isFr x with
   |true=>rw[hf]at e;exact K e
   |false =>
    rw[hf]at e;replace e:(match a==i with|true=>some x|false=>List.lookup a (QZ p (i+1) as))=some o:=e
    cases C:a==i with
    |true =>
     rw[C]at e;cases e;exact⟨0,beq_iff_eq.mp C,rfl,hf⟩
    |false=>rw[C]at e;exact K e
def zFA{h:Heap}(as:Ls Lz):(Yu h as).In h:=λa o e=>by
 obtain⟨j,J,h2,Q⟩:=zCH _ _ _ _ _ e;rw[zero_add]at J;subst J;have h4:h.objs[a]?=some o:=by rw[<- Array.getElem?_toList];exact h2
 unfold Heap.get?;rw[h4];obtain⟨c,d,x,D⟩:=o;cases x<;>first|rfl|(cases Q)
def zCI(as:Ls Lz)(α:Type)(L:qH->α)(v:α):PySem.W.Hook :=
 ⟨α,λs=>L (Yu s.heap as),λ_=>v,λ_ h=>∃K:qH,K.In h/\L K=v,λ_ s e=>⟨_,zFA as,e⟩,λ_ _ _ ⟨K,x,e⟩ k=>⟨K,x.keeps k,e⟩⟩
def zHB{K:qH}{n:Str}{st:Lh}(e:zn K n=zo n st):∃(f:Lz) (w:Lv) (i:Lx Lz) (kV c J:Lv) (g:Lx Lz) (Z o:Lv) (D:Lj),
  nsIn K mainGlobals n=some (some (.ref f))/\K.lookup f=some ⟨w,i,.func (fnOf n n (Yd st) (jL st) (zc st) .none kV c J g Z o),D⟩/\codeIn K Z n=true/\keepIn K (.ref f)=true:=by
 unfold zn at e;split at e
 ·rename_i a C
  split at e
  ·rename_i w i M D hl
   have e:=qJ e;unfold fvOf at e;injection e with e1 e
   injection e with e2 e
   injection e with e3 e
   injection e with e4 e
   injection e with e5 e
   injection e with e6 e
   injection e with e7 e
   injection e with e8 e
   injection e with e9 e10
   obtain⟨k,p⟩:=zCF e1;cases M;simp only at e2 e3 e4 e5 e6 e7 e8 e9 e10;subst e2 e3 e4 e5 e6 e7 e8 e9 e10;exact⟨_,_,_,_,_,_,_,_,_,_,C,hl,k,p⟩
  ·cases e
 ·cases e
def nth{α:Type}:Ls α->Nat->Lx α
 | [],_=>none|a::_,0=>some a|_::l,n+1=>nth l n
def ix{α:Type}{l c:Ls α}(n:Nat)(h:l=c):nth l n=nth c n:=congrArg (λl=>nth l n) h
section
variable{K:qH}{h:Heap}{mg:Str->Lx Lv}
def ar0{P:Ls Lv->Prop}(h:P []):∀D:Ls Lv,D.length=0->P D
 | [],_=>h
def arS{P:Ls Lv->Prop}{n:Nat}(h:∀a us,us.length=n->P (a::us)):∀us:Ls Lv,us.length=n+1->P us:=by intro us e;cases us with|nil=>cases e|cons a t=>exact h a t (Nat.succ.inj e)
def ar1{P:Ls Lv->Prop}(h:∀a:Lv,P [a]):∀us:Ls Lv,us.length=1->P us:=arS λa=>ar0 (P:=λus=>P (a::us)) (h a)
def ar2{P:Ls Lv->Prop}(h:∀a b:Lv,P [a,b]):∀us:Ls Lv,us.length=2->P us:=arS λa=>ar1 (P:=λus=>P (a::us)) (h a)
def ar3{P:Ls Lv->Prop}(h:∀a b c:Lv,P [a,b,c]):∀us:Ls Lv,us.length=3->P us:=arS λa=>ar2 (P:=λus=>P (a::us)) (h a)
def ar4{P:Ls Lv->Prop}(h:∀a b c d:Lv,P [a,b,c,d]):∀D:Ls Lv,D.length=4->P D
 | [a,b,c,d],_=>h a b c d
def zy{n:Str}{st:Lh}{ps:Ls Str}(X:K.In h)(G:h.Ns mainGlobals mg)(e:some (zn K n)=some (zo n st))
  (b:∀(kV I J:Lv) (g:Lx Lz) (R o:Lv) (D:Ls Lv),D.length=ps.length->bindArgs (fnOf n n (Yd st) (jL st) (zc st) .none kV I J g R o) ⟨D,[]⟩=pure (ps.zip D):=by intro _ _ _ _ _ _;first|exact ar1 (λ_=>rfl)|exact ar2 (λ_ _=>rfl)|exact ar3 (λ_ _ _=>rfl)|exact ar4 (λ_ _ _ _=>rfl)|exact ar0 rfl):jj K mg n st ps:=by
 obtain⟨f,w,i,kV,c,J,g,Z,o,j,a,l,k,p⟩:=zHB (qJ e);exact⟨_,_,mg_of X G a,zHh (st:=st) l k p,(zHh (st:=st) l k p).binds b⟩
def G8{n:Str}{i:Int}(X:K.In h)(G:h.Ns mainGlobals mg)(e:some (Jl K n)=some (some i)):∃t,mg n=some (.int i t):=by
 have e:=qJ e;unfold Jl at e;split at e
 ·rename_i j t l
  cases e;exact⟨_,mg_of X G l⟩
 ·cases e
def ZE{n:Str}(X:K.In h)(G:h.Ns mainGlobals mg)(e:some (ji K n)=some true):mg n=none:=by
 have e:=qJ e;unfold ji at e;split at e
 ·rename_i l
  exact PySem.W.mg_none_of X G l
 ·cases e
def zBF{n:Str}{a:Lz}(X:K.In h)(G:h.Ns mainGlobals mg)(e:YL K n=some a):mg n=some (.ref a):=by
 unfold YL at e;split at e
 ·rename_i b Z
  cases e;exact mg_of X G Z
 ·cases e
def sm_at(e:zDL K=true):zIB K:=by
 unfold zDL at e;exists h,K.lookup sysModules,e,o;dsimp at e;cases C:o.data with
 |dict E n=>exact⟨o,E,n,h,C⟩|_=>rw[C]at e;cases e
def cl_at{cl rs:Ls Str}(X:K.In h)(G:h.Ns mainGlobals mg)(e:zHa K cl rs=true):ClOk K mg cl rs:=by
 obtain⟨e,n⟩:=zCF e;obtain⟨W,P⟩:=zCF e;refine⟨λS=>?_,λc S=>?_,sm_at n⟩
 ·cases cl with
  |nil=>exact absurd rfl S
  |cons a j =>
   replace W:(match YL K "ThrowError" with
    |some T=>tIn K T&&(a::j).all λc=>(match YL K c with|some C=>xIn K c C T|none=>false)
    |none=>false)=true:=W
   exists hT,YL K "ThrowError",W,T;obtain⟨v,u⟩:=zCF W;refine⟨T,zBF X G hT,tcls_of v,λc S=>?_⟩;have q:=all_eq_true.mp u c S;exists hC,YL K c,q,C;exact⟨C,zBF X G hC,(zE9 q).1,(zE9 q).2⟩
 ·have q:=all_eq_true.mp P c S
  exists hC,YL K c,q,C;exact⟨C,zBF X G hC,q⟩
end
def walkE{l:PySem.W.OpenLaw}{q:Lc}{loose:Ls Str}{XP:(Str->Lx Lv)->Heap->Prop}{d:DefRec}{as:Ls Lz}{α:Type}{L:qH->α}{v:α}{x:Str}{F:MF}(hm:∀E:Ls Int,E.length<=63->∃S,F [.v (.l (E.map D.int))]=.ok (.v (.bl true),S))
  (hn:l.most=some 63) (T:d.params.defaults=[])
  (n:∀(w:Le) (K:qH) (g:Str->Lx Lv) (R:Lz) (h:Heap),K.In h->L K=v->h.Ns mainGlobals g->g d.name=some (.ref R) ->
   ∃M:FuncData,(∀(s:La) (u:Lv),BindsTo s M ⟨[u],[]⟩ [(x,u)])/\∀I:Heap,FnOk l.prog w K g I (CXx l.prog w) 40 R M [x] (spM K g 1 F)) :
  PySem.W.WalkO q loose XP (zCI as α L v).says l.row.toRowW d [] (λf Q=>PySem.call f Q):=by
 refine Att.attach_call hn T λw P p g mb R o J cd aa a Q E G Y ho C W c O V y t=>?_
 obtain⟨K,KX,e⟩:=Y;obtain⟨M,Z,i⟩:=n w K g R _ KX e G.T.g c;exact zGA (sp:=spLaw K) (k:=40) KX G.T.g G.T.b G.T.builtins G.T.nolimit t O V (le_trans y (by decide)) ⟨rfl,rfl,by decide,by decide⟩ (λI _ _=>(i I).imp (law_imp hm)) Z (λH r X=>⟨a,E,rfl,X,y,λ_=>rfl⟩) λH e j ⟨_,_,_,_,_,_,_,_,_,_,_,_,z⟩=>z
end DV
namespace My
open PySem L2 DV
def cs_:Ls (Str×D):=[("LEAST_SIGNS",.int 2),("LEAST_WEIGHT",.int 1),("MOST_COUNTED",.int 40),("MOST_KINDS",.int 300),("MOST_OF_KIND",.int 12),("MOST_ROUND",.int 30),("MOST_SIGNS",.int 3),("MOST_THROWS",.int 20),("MOST_WEIGHT",.int 9)]
def bs_:Ls Str:=["abs","all","bool","enumerate","int","isinstance","len","max","min","range","set","sorted","sum","tuple"]
def ri_:Ls Str:=[]
def ur:Bx :=
  (.o (.sRet (.and (.is .int (.x 0)) (.not (.is .bool (.x 0))))))
def zBG:Ls FI:=[]
def Zd:MF:=fnM 1 (dB zBG ur)
def yq:Bx :=
  (.o (.sRet (.and (.call 0 (.ev (.x 0) .nil)) (.chain .le .le (.x 1) (.x 0) (.x 2)))))
def jG:Ls FI:=[⟨"is_whole",1,1,false,Zd⟩]
def zi:MF:=fnM 3 (dB jG yq)
abbrev YH:Bx :=
  (.o (.sPar 0 1 (.cons (.x 1) (.cons (.bin .mod (.x 0) (.x 1)) .nil))))
def wS:Bx :=
  (.s (.sPar 0 1 (.cons (.cB .abs (.cons (.x 0) .nil)) (.cons (.cB .abs (.cons (.x 1) .nil)) .nil)))
  (.s (.sWhile (.tE (.cmp .ne (.x 1) (.c (.int 0))))
  YH)
  (.o (.sRet (.x 0)))))
def y3:Ls FI:=[]
def yA:MF:=fnM 2 (dB y3 wS)
abbrev vQ:Bx :=
  (.o (.sAug 2 .mul (.x 0)))
def ZF:Bx :=
  (.s (.sSet 2 (.c (.int 1)))
  (.s (.sForR1 (.cons (.x 1) .nil) (.n 3)
  vQ)
  (.o (.sRet (.x 2)))))
def YV:Ls FI:=[]
def yR:MF:=fnM 4 (dB YV ZF)
def ut:Bx :=
  (.s (.sIf (.tE (.cmp .eq (.x 1) (.c (.int 0)))) (.o .sAny) .bNil)
  (.s (.sSet 2 (.call 0 (.ev (.x 0) (.ev (.x 1) .nil))))
  (.s (.sIf (.tE (.cmp .lt (.x 1) (.c (.int 0)))) (.o (.sSet 2 (.neg (.x 2)))) .bNil)
  (.o (.sRet (.t (.cons (.bin .fdiv (.x 0) (.x 2)) (.cons (.bin .fdiv (.x 1) (.x 2)) .nil))))))))
def zBH:Ls FI:=[⟨"greatest_divisor",2,1,false,yA⟩]
def YB:MF:=fnM 3 (dB zBH ut)
def uu:Bx :=
  (.s (.sIf (.tOr (.tNot (.tE (.is .tuple (.x 0)))) (.tNot (.tE (.chain .le .le (.gl (.int 2)) (.cB .len (.cons (.x 0) .nil)) (.gl (.int 3)))))) (.o (.sRet (.c (.bl false)))) .bNil)
  (.o (.sRet (.cB .all (.cons (.comp 1 ["weight"] [] [] (.iT (.x 0)) (.n 0) .tTr (.call 0 (.ev (.x 0) (.ev (.gl (.int 1)) (.ev (.gl (.int 9)) .nil))))) .nil)))))
def Yk:Ls FI:=[⟨"is_whole_within",3,2,false,zi⟩]
def Ze:MF:=fnM 1 (dB Yk uu)
def vR:Bx :=
  (.o (.sRet (.call 0 (.ev (.x 0) (.ev (.c (.int 0)) (.ev (.bin .sub (.gl (.int 3)) (.c (.int 1))) .nil))))))
def zAQ:Ls FI:=[⟨"is_whole_within",3,2,false,zi⟩]
def Yl:MF:=fnM 1 (dB zAQ vR)
def uv:Bx :=
  (.s (.sIf (.tOr (.tNot (.tE (.is .tuple (.x 0)))) (.tE (.cmp .gt (.cB .len (.cons (.x 0) .nil)) (.gl (.int 20))))) (.o (.sRet (.c (.bl false)))) .bNil)
  (.o (.sRet (.cB .all (.cons (.comp 1 ["sign"] [] [] (.iT (.x 0)) (.n 0) .tTr (.call 0 (.ev (.x 0) .nil))) .nil)))))
def wD:Ls FI:=[⟨"sign_good",1,3,false,Yl⟩]
def Zf:MF:=fnM 1 (dB wD uv)
def uw:Bx :=
  (.o (.sIf (.tNot (.tE (.call 0 (.ev (.x 0) .nil)))) (.o .sAny) .bNil))
def zBI:Ls FI:=[⟨"die_good",1,3,false,Ze⟩]
def YC:MF:=fnM 1 (dB zBI uw)
def ux:Bx :=
  (.o (.sIf (.tNot (.tE (.call 0 (.ev (.x 0) .nil)))) (.o .sAny) .bNil))
def zBJ:Ls FI:=[⟨"row_good",1,4,false,Zf⟩]
def z7:MF:=fnM 1 (dB zBJ ux)
def ZG:Bx :=
  (.o (.sIf (.tNot (.tE (.call 0 (.ev (.x 0) (.ev (.x 1) (.ev (.x 2) .nil)))))) (.o .sAny) .bNil))
def uK:Ls FI:=[⟨"is_whole_within",3,2,false,zi⟩]
def zH:MF:=fnM 3 (dB uK ZG)
def Z6:Bx :=
  (.o (.sDrop (.call 0 (.ev (.x 0) (.ev (.gl (.int 2)) (.ev (.gl (.int 3)) .nil))))))
def G9:Ls FI:=[⟨"need_number",3,3,false,zH⟩]
def yB:MF:=fnM 1 (dB G9 Z6)
def vS:Bx :=
  (.o (.sDrop (.call 0 (.ev (.x 0) (.ev (.c (.int 0)) (.ev (.bin .sub (.x 1) (.c (.int 1))) .nil))))))
def zAR:Ls FI:=[⟨"need_number",3,3,false,zH⟩]
def wE:MF:=fnM 2 (dB zAR vS)
def jO:Bx :=
  (.o (.sRet (.maxd (.comp 3 ["sign","begin","length"] [] [] (.iL (.x 0)) (.t [0,1,2]) .tTr (.x 2)) (.c (.int 0)))))
def wT:Ls FI:=[]
def yt:MF:=fnM 1 (dB wT jO)
def wj:Bx :=
  (.o (.sRet (.comp 1 ["run"] ["wanted"] [1] (.iL (.x 0)) (.n 0) (.tE (.cmp .eq (.ix (.x 0) (.c (.int 0))) (.x 1))) (.x 0))))
def Ju:Ls FI:=[]
def jU:MF:=fnM 2 (dB Ju wj)
abbrev zBK:Bx :=
  (.o (.sIf (.tOr (.tE (.cmp .eq (.x 3) (.cB .len (.cons (.x 0) .nil)))) (.tE (.cmp .ne (.ix (.x 0) (.x 3)) (.ix (.x 0) (.x 2))))) (.s (.sApp 1 (.t (.cons (.ix (.x 0) (.x 2)) (.cons (.x 2) (.cons (.bin .sub (.x 3) (.x 2)) .nil)))))
  (.o (.sSet 2 (.x 3)))) .bNil))
def zAS:Bx :=
  (.s (.sDrop (.call 0 (.ev (.x 0) .nil)))
  (.s (.sSet 1 (.l .nil))
  (.s (.sSet 2 (.c (.int 0)))
  (.s (.sForR2 (.cons (.c (.int 1)) (.cons (.bin .add (.cB .len (.cons (.x 0) .nil)) (.c (.int 1))) .nil)) (.n 3)
  zBK)
  (.o (.sRet (.mov 1)))))))
def zj:Ls FI:=[⟨"need_row",1,5,false,z7⟩]
def Jv:MF:=fnM 4 (dB zj zAS)
def jP:Bx :=
  (.s (.sSet 1 (.call 0 (.ev (.x 0) .nil)))
  (.s (.sIf (.tOr (.tE (.cmp .lt (.cB .len (.cons (.x 1) .nil)) (.c (.int 2)))) (.tE (.cmp .ne (.ix (.ix (.x 1) (.c (.int 0))) (.c (.int 0))) (.ix (.ix (.x 1) (.neg (.c (.int 1)))) (.c (.int 0)))))) (.o (.sRet (.x 1))) .bNil)
  (.s (.sTup [2,3,4] (.ix (.x 1) (.neg (.c (.int 1)))))
  (.o (.sRet (.bin .add (.sl (.x 1) (.oS (.c (.int 1))) (.oS (.neg (.c (.int 1))))) (.l (.cons (.t (.cons (.x 2) (.cons (.x 3) (.cons (.bin .add (.x 4) (.ix (.ix (.x 1) (.c (.int 0))) (.c (.int 2)))) .nil)))) .nil))))))))
def jZ:Ls FI:=[⟨"runs_of",1,6,false,Jv⟩]
def yS:MF:=fnM 5 (dB jZ jP)
def YW:Bx :=
  (.s (.sDrop (.call 4 (.ev (.x 0) .nil)))
  (.s (.sDrop (.call 3 (.ev (.x 1) (.ev (.gl (.int 3)) .nil))))
  (.o (.sRet (.call 0 (.ev (.call 1 (.ev (.call 2 (.ev (.x 0) .nil)) (.ev (.x 1) .nil))) .nil))))))
def vT:Ls FI:=[⟨"greatest_length",1,1,false,yt⟩,⟨"runs_of_sign",2,1,false,jU⟩,⟨"ring_runs",1,7,false,yS⟩,⟨"need_sign",2,4,false,wE⟩,⟨"need_row",1,5,false,z7⟩]
def yZ:MF:=fnM 2 (dB vT YW)
abbrev uL:Bx :=
  (.o (.sSet 4 (.bin .add (.l (.cons (.bin .mul (.x 1) (.cB .sum (.cons (.x 4) .nil))) .nil)) (.comp 1 ["end"] ["weight"] [0] (.iL (.sl (.x 4) .oN (.oS (.neg (.c (.int 1)))))) (.n 0) .tTr (.bin .mul (.x 1) (.x 0))))))
def Z7:Bx :=
  (.s (.sSet 4 (.bin .add (.l (.cons (.c (.int 1)) .nil)) (.bin .mul (.l (.cons (.c (.int 0)) .nil)) (.x 3))))
  (.s (.sForR1 (.cons (.x 2) .nil) (.n 5)
  uL)
  (.o (.sRet (.cB .sum (.cons (.x 4) .nil))))))
def JY:Ls FI:=[]
def jA:MF:=fnM 6 (dB JY Z7)
def YX:Bx :=
  (.s (.sDrop (.call 1 (.ev (.x 0) .nil)))
  (.o (.sDrop (.call 0 (.ev (.x 1) (.ev (.c (.int 0)) (.ev (.gl (.int 40)) .nil)))))))
def vU:Ls FI:=[⟨"need_number",3,3,false,zH⟩,⟨"need_signs",1,4,false,yB⟩]
def jV:MF:=fnM 2 (dB vU YX)
def vV:Bx :=
  (.s (.sDrop (.call 2 (.ev (.x 0) (.ev (.x 1) .nil))))
  (.s (.sDrop (.call 1 (.ev (.x 2) (.ev (.c (.int 0)) (.ev (.gl (.int 40)) .nil)))))
  (.o (.sRet (.call 0 (.ev (.c (.int 1)) (.ev (.bin .sub (.x 0) (.c (.int 1))) (.ev (.x 1) (.ev (.x 2) .nil)))))))))
def zAT:Ls FI:=[⟨"weigh_upto",4,1,false,jA⟩,⟨"need_number",3,3,false,zH⟩,⟨"need_counted",2,5,false,jV⟩]
def JZ:MF:=fnM 3 (dB zAT vV)
def Jw:Bx :=
  (.s (.sIf (.tE (.cmp .eq (.x 2) (.c (.int 1)))) (.o (.sRet (.x 1))) .bNil)
  (.o (.sRet (.bin .mul (.bin .mul (.x 1) (.x 1)) (.call 0 (.ev (.x 0) (.ev (.x 1) (.ev (.bin .sub (.x 2) (.c (.int 2))) (.ev (.x 3) .nil)))))))))
def WU:Ls FI:=[⟨"weigh_upto",4,1,false,jA⟩]
def jH:MF:=fnM 4 (dB WU Jw)
abbrev Ym:Bx :=
  (.s (.sSet 6 (.bin .mul (.bin .add (.x 5) (.c (.int 1))) (.call 1 (.ev (.x 0) (.ev (.x 5) .nil)))))
  (.o (.sAug 4 .add (.bin .mul (.x 6) (.call 0 (.ev (.x 0) (.ev (.x 1) (.ev (.bin .sub (.x 2) (.x 5)) (.ev (.x 3) .nil)))))))))
def JE:Bx :=
  (.s (.sIf (.tE (.cmp .le (.x 2) (.x 3))) (.o (.sRet (.call 1 (.ev (.bin .add (.x 0) (.x 1)) (.ev (.x 2) .nil))))) .bNil)
  (.s (.sSet 4 (.c (.int 0)))
  (.s (.sForR1 (.cons (.bin .add (.x 3) (.c (.int 1))) .nil) (.n 5)
  Ym)
  (.o (.sRet (.x 4))))))
def wU:Ls FI:=[⟨"weigh_between",4,2,false,jH⟩,⟨"whole_power",2,1,false,yR⟩]
def zL:MF:=fnM 7 (dB wU JE)
def JF:Bx :=
  (.s (.sIf (.tE (.cmp .eq (.x 3) (.c (.int 0)))) (.o (.sRet (.call 0 (.ev (.x 0) (.ev (.x 1) (.ev (.x 2) (.ev (.c (.int 0)) .nil))))))) .bNil)
  (.o (.sRet (.bin .sub (.call 0 (.ev (.x 0) (.ev (.x 1) (.ev (.x 2) (.ev (.x 3) .nil))))) (.call 0 (.ev (.x 0) (.ev (.x 1) (.ev (.x 2) (.ev (.bin .sub (.x 3) (.c (.int 1))) .nil)))))))))
def ZH:Ls FI:=[⟨"weigh_ring_upto",4,3,false,zL⟩]
def zu:MF:=fnM 4 (dB ZH JF)
def Z8:Bx :=
  (.s (.sDrop (.call 1 (.ev (.x 0) .nil)))
  (.o (.sDrop (.call 0 (.ev (.x 1) (.ev (.c (.int 0)) (.ev (.gl (.int 30)) .nil)))))))
def QA:Ls FI:=[⟨"need_number",3,3,false,zH⟩,⟨"need_signs",1,4,false,yB⟩]
def yJ:MF:=fnM 2 (dB QA Z8)
def vW:Bx :=
  (.s (.sDrop (.call 2 (.ev (.x 0) (.ev (.x 1) .nil))))
  (.s (.sDrop (.call 1 (.ev (.x 2) (.ev (.c (.int 0)) (.ev (.gl (.int 30)) .nil)))))
  (.o (.sRet (.call 0 (.ev (.c (.int 1)) (.ev (.bin .sub (.x 0) (.c (.int 1))) (.ev (.x 1) (.ev (.x 2) .nil)))))))))
def zAU:Ls FI:=[⟨"weigh_ring_upto",4,3,false,zL⟩,⟨"need_number",3,3,false,zH⟩,⟨"need_round",2,5,false,yJ⟩]
def ym:MF:=fnM 3 (dB zAU vW)
def vX:Bx :=
  (.s (.sDrop (.call 2 (.ev (.x 0) (.ev (.x 1) .nil))))
  (.s (.sDrop (.call 1 (.ev (.x 2) (.ev (.c (.int 0)) (.ev (.gl (.int 30)) .nil)))))
  (.o (.sRet (.call 0 (.ev (.c (.int 1)) (.ev (.bin .sub (.x 0) (.c (.int 1))) (.ev (.x 1) (.ev (.x 2) .nil)))))))))
def zAV:Ls FI:=[⟨"weigh_ring_just",4,4,false,zu⟩,⟨"need_number",3,3,false,zH⟩,⟨"need_round",2,5,false,yJ⟩]
def Ja:MF:=fnM 3 (dB zAV vX)
def Z9:Bx :=
  (.s (.sDrop (.call 1 (.ev (.x 0) (.ev (.x 1) .nil))))
  (.o (.sRet (.comp 1 ["k"] ["m","n"] [0,1] (.iR1 (.cons (.bin .add (.x 1) (.c (.int 1))) .nil)) (.n 0) .tTr (.call 0 (.ev (.c (.int 1)) (.ev (.bin .sub (.x 1) (.c (.int 1))) (.ev (.x 2) (.ev (.x 0) .nil)))))))))
def QB:Ls FI:=[⟨"weigh_ring_just",4,4,false,zu⟩,⟨"need_round",2,5,false,yJ⟩]
def wV:MF:=fnM 2 (dB QB Z9)
def WA:Bx :=
  (.s (.sDrop (.call 5 (.ev (.x 0) .nil)))
  (.s (.sDrop (.call 4 (.ev (.x 1) (.ev (.cB .len (.cons (.x 0) .nil)) .nil))))
  (.s (.sDrop (.call 3 (.ev (.x 2) (.ev (.c (.int 0)) (.ev (.gl (.int 30)) .nil)))))
  (.s (.sDrop (.call 3 (.ev (.x 3) (.ev (.c (.int 0)) (.ev (.gl (.int 30)) .nil)))))
  (.s (.sSet 4 (.call 2 (.ev (.ix (.x 0) (.x 1)) (.ev (.bin .sub (.cB .sum (.cons (.x 0) .nil)) (.ix (.x 0) (.x 1))) (.ev (.x 2) (.ev (.x 3) .nil))))))
  (.o (.sRet (.call 0 (.ev (.x 4) (.ev (.call 1 (.ev (.cB .sum (.cons (.x 0) .nil)) (.ev (.x 2) .nil))) .nil))))))))))
def QC:Ls FI:=[⟨"share_of",2,2,false,YB⟩,⟨"whole_power",2,1,false,yR⟩,⟨"weigh_ring_upto",4,3,false,zL⟩,⟨"need_number",3,3,false,zH⟩,⟨"need_sign",2,4,false,wE⟩,⟨"need_die",1,4,false,YC⟩]
def wW:MF:=fnM 5 (dB QC WA)
def uy:Bx :=
  (.o (.sRet (.comp 1 ["t"] ["row"] [0] (.iR1 (.cons (.cB .max (.cons (.cB .len (.cons (.x 0) .nil)) (.cons (.c (.int 1)) .nil))) .nil)) (.n 0) .tTr (.bin .add (.sl (.x 1) (.oS (.x 0)) .oN) (.sl (.x 1) .oN (.oS (.x 0)))))))
def zBL:Ls FI:=[]
def jQ:MF:=fnM 1 (dB zBL uy)
def WB:Bx :=
  (.s (.sDrop (.call 1 (.ev (.x 0) .nil)))
  (.o (.sRet (.cB .min (.cons (.call 0 (.ev (.x 0) .nil)) .nil)))))
def QD:Ls FI:=[⟨"turns_of",1,1,false,jQ⟩,⟨"need_row",1,5,false,z7⟩]
def yK:MF:=fnM 1 (dB QD WB)
abbrev vY:Bx :=
  (.o (.sIf (.tE (.cmp .eq (.x 3) (.x 1))) (.o (.sRet (.x 2))) .bNil))
def zAW:Bx :=
  (.s (.sDrop (.call 1 (.ev (.x 0) .nil)))
  (.s (.sDrop (.call 1 (.ev (.x 1) .nil)))
  (.s (.sForI (.iE false (.cons (.call 0 (.ev (.x 0) .nil)) .nil)) (.t [2,3])
  vY)
  (.o (.sRet (.c .non))))))
def uz:Ls FI:=[⟨"turns_of",1,1,false,jQ⟩,⟨"need_row",1,5,false,z7⟩]
def Jx:MF:=fnM 4 (dB uz zAW)
def vZ:Bx :=
  (.s (.sDrop (.call 1 (.ev (.x 0) .nil)))
  (.s (.sDrop (.call 0 (.ev (.x 1) (.ev (.c (.int 1)) (.ev (.gl (.int 12)) .nil)))))
  (.o (.sDrop (.call 0 (.ev (.x 2) (.ev (.c (.int 0)) (.ev (.gl (.int 30)) .nil))))))))
def zAX:Ls FI:=[⟨"need_number",3,3,false,zH⟩,⟨"need_signs",1,4,false,yB⟩]
def Jb:MF:=fnM 3 (dB zAX vZ)
def YY:Bx :=
  (.s (.sSet 4 (.call 1 (.ev (.x 1) (.ev (.x 3) .nil))))
  (.s (.sSet 5 (.call 0 (.ev (.c (.int 1)) (.ev (.bin .sub (.x 0) (.c (.int 1))) (.ev (.x 4) (.ev (.cB .min (.cons (.x 2) (.cons (.bin .sub (.x 4) (.c (.int 1))) .nil))) .nil))))))
  (.o (.sRet (.ifx (.tE (.cmp .le (.x 1) (.x 2))) (.bin .add (.x 5) (.c (.int 1))) (.x 5))))))
def vc:Ls FI:=[⟨"weigh_ring_upto",4,3,false,zL⟩,⟨"greatest_divisor",2,1,false,yA⟩]
def jW:MF:=fnM 6 (dB vc YY)
def WC:Bx :=
  (.s (.sDrop (.call 1 (.ev (.x 0) (.ev (.x 1) (.ev (.x 2) .nil)))))
  (.o (.sRet (.bin .fdiv (.cB .sum (.cons (.comp 1 ["t"] ["m","n","k"] [0,1,2] (.iR1 (.cons (.x 1) .nil)) (.n 0) .tTr (.call 0 (.ev (.x 1) (.ev (.x 2) (.ev (.x 3) (.ev (.x 0) .nil)))))) .nil)) (.x 1)))))
def ZI:Ls FI:=[⟨"kept_by_turn",4,4,false,jW⟩,⟨"need_kind",3,5,false,Jb⟩]
def yn:MF:=fnM 3 (dB ZI WC)
def ZJ:Bx :=
  (.s (.sTup [2,3] (.x 0))
  (.s (.sIf (.tE (.cmp .eq (.x 2) (.t .nil))) (.o (.sRet (.comp 1 ["thrown"] [] [] (.iR1 (.cons (.x 1) .nil)) (.n 0) .tTr (.t (.cons (.t (.cons (.x 0) .nil)) (.cons (.c (.int 1)) .nil)))))) .bNil)
  (.s (.sSet 4 (.ix (.x 2) (.neg (.x 3))))
  (.s (.sSet 5 (.comp 1 ["thrown"] ["row"] [2] (.iR2 (.cons (.bin .add (.x 4) (.c (.int 1))) (.cons (.x 1) .nil))) (.n 0) .tTr (.t (.cons (.bin .add (.x 1) (.t (.cons (.x 0) .nil))) (.cons (.bin .add (.cB .len (.cons (.x 1) .nil)) (.c (.int 1))) .nil)))))
  (.o (.sRet (.bin .add (.l (.cons (.t (.cons (.bin .add (.x 2) (.t (.cons (.x 4) .nil))) (.cons (.x 3) .nil))) .nil)) (.x 5))))))))
def yz:Ls FI:=[]
def jx:MF:=fnM 6 (dB yz ZJ)
abbrev wk:Bx :=
  (.s (.sSet 7 (.comp2 2 ["begun","kind"] ["m"] [0] (.iL (.x 5)) (.n 0) (.iL (.call 0 (.ev (.x 0) (.ev (.x 2) .nil)))) (.n 1) (.x 1)))
  (.o (.sSet 5 (.comp 2 ["row","part"] ["k","too_long"] [2,4] (.iL (.x 7)) (.t [0,1]) (.tE (.cmp .ne (.sl (.x 0) .oN (.oS (.bin .add (.x 2) (.c (.int 1))))) (.x 3))) (.t (.cons (.x 0) (.cons (.x 1) .nil)))))))
def WD:Bx :=
  (.s (.sSet 3 (.call 1 (.ev (.x 0) (.ev (.x 1) (.ev (.x 2) .nil)))))
  (.s (.sIf (.tE (.cmp .gt (.x 3) (.gl (.int 300)))) (.o .sAny) .bNil)
  (.s (.sSet 4 (.bin .mul (.t (.cons (.c (.int 0)) .nil)) (.bin .add (.x 2) (.c (.int 1)))))
  (.s (.sSet 5 (.l (.cons (.t (.cons (.t .nil) (.cons (.c (.int 1)) .nil))) .nil)))
  (.s (.sForR1 (.cons (.x 1) .nil) (.n 6)
  wk)
  (.o (.sRet (.comp 2 ["row","part"] ["n"] [1] (.iL (.x 5)) (.t [0,1]) (.tE (.cmp .eq (.bin .mod (.x 2) (.x 1)) (.c (.int 0)))) (.x 0)))))))))
def yC:Ls FI:=[⟨"grown_kinds",2,1,false,jx⟩,⟨"kinds_many",3,6,false,yn⟩]
def wX:MF:=fnM 8 (dB yC WD)
def wm:Bx :=
  (.s (.sIf (.tE (.cmp .lt (.x 1) (.cB .len (.cons (.x 0) .nil)))) (.o (.sRet (.ix (.x 0) (.x 1)))) .bNil)
  (.o (.sRet (.c (.int 0)))))
def Jy:Ls FI:=[]
def y0:MF:=fnM 2 (dB Jy wm)
def Yn:Bx :=
  (.s (.sSet 0 (.bin .mod (.bin .add (.x 0) (.c (.int 7919))) (.c (.int 2147483647))))
  (.o (.sRet (.bin .mod (.bin .add (.bin .add (.bin .mul (.x 0) (.x 0)) (.bin .mul (.c (.int 48271)) (.x 0))) (.c (.int 12345))) (.c (.int 2147483629))))))
def WE:Ls FI:=[]
def Jc:MF:=fnM 1 (dB WE Yn)
def Jd:Bx :=
  (.s (.sSet 1 (.cB .max (.cons (.x 0) (.cons (.bin .sub (.c (.int 0)) (.x 0)) .nil))))
  (.o (.sRet (.l (.cons (.x 1) (.cons (.cB .int (.cons (.cmp .ge (.x 1) (.bin .pow (.c (.int 10)) (.c (.int 18)))) .nil)) (.cons (.bin .mod (.x 1) (.c (.int 1000003))) .nil)))))))
def YZ:Ls FI:=[]
def jI:MF:=fnM 2 (dB YZ Jd)
def Je:Bx :=
  (.s (.sIf (.tE (.cmp .eq (.ixO 0 (.c (.int 1))) (.c (.int 1)))) (.s (.sSet 2 (.bin .mod (.ixO 0 (.c (.int 0))) (.x 1)))
  (.s (.sIx 0 (.c (.int 0)) (.bin .fdiv (.ixO 0 (.c (.int 0))) (.x 1)))
  (.o (.sRet (.x 2))))) .bNil)
  (.s (.sIx 0 (.c (.int 2)) (.call 0 (.ev (.bin .add (.call 0 (.ev (.ixO 0 (.c (.int 2))) .nil)) (.c (.int 7))) .nil)))
  (.o (.sRet (.bin .mod (.bin .fdiv (.ixO 0 (.c (.int 2))) (.c (.int 64))) (.x 1))))))
def Jz:Ls FI:=[⟨"_law_next",1,1,false,Jc⟩]
def zO:MF:=fnM 3 (dB Jz Je)
abbrev wF:Bx :=
  (.s (.sSet 6 (.call 0 (.lend 0 (.ev (.x 1) .nil))))
  (.s (.sIf (.tAnd (.tBor 3 (.tE (.cmp .ne (.x 3) (.l .nil)))) (.tE (.cmp .gt (.call 0 (.lend 0 (.ev (.x 4) .nil))) (.c (.int 0))))) (.o (.sSet 6 (.ixO 3 (.neg (.c (.int 1)))))) .bNil)
  (.o (.sApp 3 (.x 6)))))
def ZK:Bx :=
  (.s (.sSet 3 (.l .nil))
  (.s (.sSet 4 (.bin .add (.c (.int 1)) (.call 0 (.lend 0 (.ev (.c (.int 4)) .nil)))))
  (.s (.sForR1 (.cons (.call 0 (.lend 0 (.ev (.bin .add (.x 2) (.c (.int 1))) .nil))) .nil) (.n 5)
  wF)
  (.o (.sRet (.cB .tuple (.cons (.x 3) .nil)))))))
def yE:Ls FI:=[⟨"_law_draw",2,2,false,zO⟩]
def jy:MF:=fnM 7 (dB yE ZK)
abbrev uM:Bx :=
  (.o (.sSet 2 (.bin .mul (.x 2) (.x 0))))
def WF:Bx :=
  (.s (.sSet 2 (.c (.int 1)))
  (.s (.sForR1 (.cons (.x 1) .nil) (.n 3)
  uM)
  (.o (.sRet (.x 2)))))
def ZL:Ls FI:=[]
def ja:MF:=fnM 4 (dB ZL WF)
def wG:Bx :=
  (.s (.sSet 3 (.call 5 (.ev (.x 0) (.ev (.x 1) .nil))))
  (.s (.sIf (.tOr (.tE (.cmp .ne (.cB .sum (.cons (.x 3) .nil)) (.call 0 (.ev (.x 0) (.ev (.x 1) .nil))))) (.tE (.cmp .ne (.call 1 (.ev (.x 0) (.ev (.x 1) (.ev (.x 2) .nil)))) (.cB .sum (.cons (.sl (.x 3) .oN (.oS (.bin .add (.x 2) (.c (.int 1))))) .nil))))) (.o (.sRet (.c (.bl false)))) .bNil)
  (.s (.sIf (.tOr (.tE (.cmp .ne (.call 4 (.ev (.x 0) (.ev (.x 1) (.ev (.x 2) .nil)))) (.cB .sum (.cons (.sl (.x 3) (.oS (.x 2)) (.oS (.bin .add (.x 2) (.c (.int 1))))) .nil)))) (.tE (.cmp .gt (.call 1 (.ev (.x 0) (.ev (.x 1) (.ev (.x 2) .nil)))) (.call 3 (.ev (.x 0) (.ev (.x 1) (.ev (.x 2) .nil))))))) (.o (.sRet (.c (.bl false)))) .bNil)
  (.s (.sSet 4 (.call 2 (.ev (.bin .mul (.t (.cons (.c (.int 7)) .nil)) (.x 0)) (.ev (.bin .sub (.x 0) (.c (.int 1))) (.ev (.x 1) (.ev (.x 2) .nil))))))
  (.o (.sRet (.cmp .eq (.bin .mul (.ix (.x 4) (.c (.int 0))) (.call 0 (.ev (.x 0) (.ev (.x 1) .nil)))) (.bin .mul (.call 1 (.ev (.x 0) (.ev (.x 1) (.ev (.x 2) .nil)))) (.ix (.x 4) (.c (.int 1)))))))))))
def YI:Ls FI:=[⟨"_law_power",2,1,false,ja⟩,⟨"ring_upto",3,6,false,ym⟩,⟨"ring_share",4,5,false,wW⟩,⟨"rows_upto",3,6,false,JZ⟩,⟨"ring_just",3,6,false,Ja⟩,⟨"ring_table",2,6,false,wV⟩]
def yT:MF:=fnM 5 (dB YI wG)
def wH:Bx :=
  (.s (.sSet 2 (.bin .add (.sl (.x 0) (.oS (.x 1)) .oN) (.sl (.x 0) .oN (.oS (.x 1)))))
  (.s (.sSet 3 (.call 1 (.ev (.x 0) (.ev (.x 2) .nil))))
  (.s (.sIf (.tOr (.tE (.cmp .is (.x 3) (.c .non))) (.tOr (.tE (.cmp .gt (.x 3) (.x 1))) (.tOr (.tE (.cmp .ne (.bin .add (.sl (.x 0) (.oS (.x 3)) .oN) (.sl (.x 0) .oN (.oS (.x 3)))) (.x 2))) (.tE (.cmp .ne (.call 2 (.ev (.x 0) .nil)) (.call 2 (.ev (.x 2) .nil))))))) (.o (.sRet (.c (.bl false)))) .bNil)
  (.s (.sLst [4,5] (.comp 1 ["_law_some"] [] [] (.iT (.t (.cons (.x 0) (.cons (.x 2) .nil)))) (.n 0) .tTr (.cB .sorted (.cons (.comp 3 ["_law_sign","_law_begin","_law_length"] [] [] (.iL (.call 3 (.ev (.x 0) .nil))) (.t [0,1,2]) .tTr (.t (.cons (.x 0) (.cons (.x 2) .nil)))) .nil))))
  (.s (.sIf (.tOr (.tE (.cmp .ne (.x 4) (.x 5))) (.tE (.cmp .is (.call 1 (.ev (.x 2) (.ev (.call 2 (.ev (.x 0) .nil)) .nil))) (.c .non)))) (.o (.sRet (.c (.bl false)))) .bNil)
  (.o (.sRet (.cmp .eq (.comp 1 ["_law_sign"] ["_law_row"] [0] (.iR1 (.cons (.c (.int 3)) .nil)) (.n 0) .tTr (.call 0 (.ev (.x 1) (.ev (.x 0) .nil)))) (.comp 1 ["_law_sign"] ["_law_other"] [2] (.iR1 (.cons (.c (.int 3)) .nil)) (.n 0) .tTr (.call 0 (.ev (.x 1) (.ev (.x 0) .nil))))))))))))
def ze:Ls FI:=[⟨"ring_longest",2,8,false,yZ⟩,⟨"turn_to",2,6,false,Jx⟩,⟨"least_turn",1,6,false,yK⟩,⟨"ring_runs",1,7,false,yS⟩]
def yU:MF:=fnM 6 (dB ze wH)
abbrev yw:Bx :=
  (.s (.sIf (.tOr (.tE (.cmp .ne (.call 2 (.ev (.x 4) .nil)) (.x 4))) (.tE (.cmp .gt (.call 1 (.ev (.x 4) (.ev (.c (.int 0)) .nil))) (.x 2)))) (.o (.sRet (.c (.bl false)))) .bNil)
  (.o (.sSet 3 (.bin .add (.x 3) (.ltset (.cons (.comp 1 ["_law_at"] ["_law_row"] [4] (.iR1 (.cons (.x 1) .nil)) (.n 0) .tTr (.bin .add (.sl (.x 1) (.oS (.x 0)) .oN) (.sl (.x 1) .oN (.oS (.x 0))))) .nil))))))
def wY:Bx :=
  (.s (.sIf (.tE (.cmp .gt (.call 4 (.ev (.x 0) (.ev (.x 1) (.ev (.x 2) .nil)))) (.c (.int 150)))) (.o (.sRet (.c (.bl true)))) .bNil)
  (.s (.sSet 3 (.c (.int 0)))
  (.s (.sForL (.call 3 (.ev (.x 0) (.ev (.x 1) (.ev (.x 2) .nil)))) (.n 4)
  yw)
  (.o (.sRet (.cmp .eq (.x 3) (.call 0 (.ev (.x 0) (.ev (.x 1) (.ev (.x 2) .nil))))))))))
def yV:Ls FI:=[⟨"ring_upto",3,6,false,ym⟩,⟨"ring_longest",2,8,false,yZ⟩,⟨"least_turn",1,6,false,yK⟩,⟨"kinds_list",3,7,false,wX⟩,⟨"kinds_many",3,6,false,yn⟩]
def yh:MF:=fnM 5 (dB yV wY)
abbrev QE:Bx :=
  (.s (.sSet 2 (.call 5 (.ev (.x 1) .nil)))
  (.s (.sPar 3 4 (.cons (.bin .add (.c (.int 2)) (.call 1 (.lend 2 (.ev (.c (.int 2)) .nil)))) (.cons (.call 1 (.lend 2 (.ev (.c (.int 31)) .nil))) .nil)))
  (.s (.sIf (.tNot (.tE (.call 4 (.ev (.x 3) (.ev (.x 4) (.ev (.ix (.l (.cons (.call 1 (.lend 2 (.ev (.c (.int 5)) .nil))) (.cons (.call 1 (.lend 2 (.ev (.c (.int 31)) .nil))) .nil))) (.call 1 (.lend 2 (.ev (.c (.int 2)) .nil)))) .nil)))))) (.o (.sRet (.c (.bl false)))) .bNil)
  (.s (.sSet 5 (.call 3 (.lend 2 (.ev (.c (.int 3)) (.ev (.c (.int 20)) .nil)))))
  (.s (.sIf (.tNot (.tE (.call 2 (.ev (.x 5) (.ev (.call 1 (.lend 2 (.ev (.bin .add (.cB .len (.cons (.x 5) .nil)) (.c (.int 1))) .nil))) .nil))))) (.o (.sRet (.c (.bl false)))) .bNil)
  (.o (.sIf (.tNot (.tE (.call 0 (.ev (.x 3) (.ev (.bin .add (.c (.int 1)) (.call 1 (.lend 2 (.ev (.c (.int 8)) .nil)))) (.ev (.call 1 (.lend 2 (.ev (.c (.int 9)) .nil))) .nil)))))) (.o (.sRet (.c (.bl false)))) .bNil)))))))
def t_law:Bx :=
  (.s (.sForL (.bin .add (.l (.cons (.call 6 (.ev (.x 0) (.ev (.c (.int 0)) .nil))) .nil)) (.sl (.x 0) (.oS (.c (.int 1))) (.oS (.c (.int 8))))) (.n 1)
  QE)
  (.o (.sRet (.c (.bl true)))))
def u6:Ls FI:=[⟨"_law_kinds_right",3,9,false,yh⟩,⟨"_law_draw",2,2,false,zO⟩,⟨"_law_turned_right",2,9,false,yU⟩,⟨"_law_row_of",3,3,false,jy⟩,⟨"_law_counts_right",3,7,false,yT⟩,⟨"_law_pen_of",1,1,false,jI⟩,⟨"_law_cell_at",2,1,false,y0⟩]
def m_law:MF:=fnM 6 (dB u6 t_law)
structure Txt(K:qH)(mg:Str->Lp):Prop where
 n_abs:mg "abs"=none
 n_all:mg "all"=none
 n_bool:mg "bool"=none
 n_enumerate:mg "enumerate"=none
 n_int:mg "int"=none
 n_isinstance:mg "isinstance"=none
 n_len:mg "len"=none
 n_max:mg "max"=none
 n_min:mg "min"=none
 n_range:mg "range"=none
 n_set:mg "set"=none
 n_sorted:mg "sorted"=none
 n_sum:mg "sum"=none
 n_tuple:mg "tuple"=none
 c_LEAST_SIGNS:∃t,mg "LEAST_SIGNS"=some (.int 2 t)
 c_LEAST_WEIGHT:∃t,mg "LEAST_WEIGHT"=some (.int 1 t)
 c_MOST_COUNTED:∃t,mg "MOST_COUNTED"=some (.int 40 t)
 c_MOST_KINDS:∃t,mg "MOST_KINDS"=some (.int 300 t)
 c_MOST_OF_KIND:∃t,mg "MOST_OF_KIND"=some (.int 12 t)
 c_MOST_ROUND:∃t,mg "MOST_ROUND"=some (.int 30 t)
 c_MOST_SIGNS:∃t,mg "MOST_SIGNS"=some (.int 3 t)
 c_MOST_THROWS:∃t,mg "MOST_THROWS"=some (.int 20 t)
 c_MOST_WEIGHT:∃t,mg "MOST_WEIGHT"=some (.int 9 t)
 f_is_whole:jj K mg "is_whole" uU ["thing"]
 f_is_whole_within:jj K mg "is_whole_within" wt ["thing","low","high"]
 f_greatest_divisor:jj K mg "greatest_divisor" wL ["one","other"]
 f_whole_power:jj K mg "whole_power" Yv ["base","exponent"]
 f_share_of:jj K mg "share_of" uV ["top","bottom"]
 f_die_good:jj K mg "die_good" uW ["thing"]
 f_sign_good:jj K mg "sign_good" Wj ["thing"]
 f_row_good:jj K mg "row_good" uX ["thing"]
 f_need_die:jj K mg "need_die" uY ["thing"]
 f_need_row:jj K mg "need_row" uZ ["thing"]
 f_need_number:jj K mg "need_number" Yw ["thing","low","high"]
 f_need_signs:jj K mg "need_signs" Zn ["thing"]
 f_need_sign:jj K mg "need_sign" Wk ["thing","signs"]
 f_greatest_length:jj K mg "greatest_length" wu ["runs"]
 f_runs_of_sign:jj K mg "runs_of_sign" YM ["runs","wanted"]
 f_runs_of:jj K mg "runs_of" Qa ["row"]
 f_ring_runs:jj K mg "ring_runs" Wl ["row"]
 f_ring_longest:jj K mg "ring_longest" YN ["row","sign"]
 f_weigh_upto:jj K mg "weigh_upto" Zo ["weight","others","n","k"]
 f_need_counted:jj K mg "need_counted" YO ["m","n"]
 f_rows_upto:jj K mg "rows_upto" Wm ["m","n","k"]
 f_weigh_between:jj K mg "weigh_between" Jm ["weight","others","n","k"]
 f_weigh_ring_upto:jj K mg "weigh_ring_upto" wv ["weight","others","n","k"]
 f_weigh_ring_just:jj K mg "weigh_ring_just" ww ["weight","others","n","k"]
 f_need_round:jj K mg "need_round" Zq ["m","n"]
 f_ring_upto:jj K mg "ring_upto" Wn ["m","n","k"]
 f_ring_just:jj K mg "ring_just" Wo ["m","n","k"]
 f_ring_table:jj K mg "ring_table" Zr ["m","n"]
 f_ring_share:jj K mg "ring_share" Zs ["die","sign","n","k"]
 f_turns_of:jj K mg "turns_of" uc ["row"]
 f_least_turn:jj K mg "least_turn" Zt ["row"]
 f_turn_to:jj K mg "turn_to" Qb ["row","other"]
 f_need_kind:jj K mg "need_kind" Wp ["m","n","k"]
 f_kept_by_turn:jj K mg "kept_by_turn" YQ ["m","n","k","t"]
 f_kinds_many:jj K mg "kinds_many" Zu ["m","n","k"]
 f_grown_kinds:jj K mg "grown_kinds" Yx ["begun","m"]
 f_kinds_list:jj K mg "kinds_list" Zv ["m","n","k"]
 f__law_cell_at:jj K mg "_law_cell_at" YR ["_law_script","_law_k"]
 f__law_next:jj K mg "_law_next" Wq ["_law_seed"]
 f__law_pen_of:jj K mg "_law_pen_of" Yy ["_law_cell"]
 f__law_draw:jj K mg "_law_draw" Wr ["_law_pen","_law_many"]
 f__law_row_of:jj K mg "_law_row_of" Yz ["_law_pen","_law_signs","_law_most"]
 f__law_power:jj K mg "_law_power" Zw ["_law_one","_law_many"]
 f__law_counts_right:jj K mg "_law_counts_right" j0 ["_law_m","_law_n","_law_k"]
 f__law_turned_right:jj K mg "_law_turned_right" j1 ["_law_row","_law_many"]
 f__law_kinds_right:jj K mg "_law_kinds_right" wM ["_law_m","_law_n","_law_k"]
 f_law:jj K mg "law" s_law ["_law_script"]
 cl:ClOk K mg cl_ rs_
section
variable{P:Lc}{w:Le}{K:qH}{mg:Str->Lx Lv}{base:Heap}
def zz(T:Txt K mg):zHA K mg cs_:=(JX T.c_LEAST_SIGNS (JX T.c_LEAST_WEIGHT (JX T.c_MOST_COUNTED (JX T.c_MOST_KINDS (JX T.c_MOST_OF_KIND (JX T.c_MOST_ROUND (JX T.c_MOST_SIGNS (JX T.c_MOST_THROWS (JX T.c_MOST_WEIGHT cs_nil)))))))))
def z3(T:Txt K mg):zE8 P w K mg base ri_:=ris_nil
def z4(T:Txt K mg):BsOk mg bs_:=(jF T.n_abs (jF T.n_all (jF T.n_bool (jF T.n_enumerate (jF T.n_int (jF T.n_isinstance (jF T.n_len (jF T.n_max (jF T.n_min (jF T.n_range (jF T.n_set (jF T.n_sorted (jF T.n_sum (jF T.n_tuple bs_nil))))))))))))))
def zBM(T:Txt K mg):FOk P w K mg base true "is_whole" 1 ["thing"] Zd:=zK ur ["thing"] T.f_is_whole (zz T) zR (z4 T) T.cl (z3 T) (by left)
def jJ(T:Txt K mg):FOk P w K mg base true "is_whole_within" 2 ["thing","low","high"] zi:=zK yq ["thing","low","high"] T.f_is_whole_within (zz T) (zC (zBM T) rfl zR) (z4 T) T.cl (z3 T) (by left)
def wI(T:Txt K mg):FOk P w K mg base true "greatest_divisor" 1 ["one","other"] yA:=zK wS ["one","other"] T.f_greatest_divisor (zz T) zR (z4 T) T.cl (z3 T) (by left)
def Yb(T:Txt K mg):FOk P w K mg base true "whole_power" 1 ["base","exponent"] yR:=zK ZF ["base","exponent","power","step"] T.f_whole_power (zz T) zR (z4 T) T.cl (z3 T) (by left)
def zBN(T:Txt K mg):FOk P w K mg base true "share_of" 2 ["top","bottom"] YB:=zK ut ["top","bottom","divisor"] T.f_share_of (zz T) (zC (wI T) rfl zR) (z4 T) T.cl (z3 T) (by left)
def zBO(T:Txt K mg):FOk P w K mg base true "die_good" 3 ["thing"] Ze:=zK uu ["thing"] T.f_die_good (zz T) (zC (jJ T) rfl zR) (z4 T) T.cl (z3 T) (by left)
def zAY(T:Txt K mg):FOk P w K mg base true "sign_good" 3 ["thing"] Yl:=zK vR ["thing"] T.f_sign_good (zz T) (zC (jJ T) rfl zR) (z4 T) T.cl (z3 T) (by left)
def zBP(T:Txt K mg):FOk P w K mg base true "row_good" 4 ["thing"] Zf:=zK uv ["thing"] T.f_row_good (zz T) (zC (zAY T) rfl zR) (z4 T) T.cl (z3 T) (by left)
def zBQ(T:Txt K mg):FOk P w K mg base true "need_die" 4 ["thing"] YC:=zK uw ["thing"] T.f_need_die (zz T) (zC (zBO T) rfl zR) (z4 T) T.cl (z3 T) (by left)
def Jf(T:Txt K mg):FOk P w K mg base true "need_row" 5 ["thing"] z7:=zK ux ["thing"] T.f_need_row (zz T) (zC (zBP T) rfl zR) (z4 T) T.cl (z3 T) (by left)
def zl(T:Txt K mg):FOk P w K mg base true "need_number" 3 ["thing","low","high"] zH:=zK ZG ["thing","low","high"] T.f_need_number (zz T) (zC (jJ T) rfl zR) (z4 T) T.cl (z3 T) (by left)
def Jg(T:Txt K mg):FOk P w K mg base true "need_signs" 4 ["thing"] yB:=zK Z6 ["thing"] T.f_need_signs (zz T) (zC (zl T) rfl zR) (z4 T) T.cl (z3 T) (by left)
def WG(T:Txt K mg):FOk P w K mg base true "need_sign" 4 ["thing","signs"] wE:=zK vS ["thing","signs"] T.f_need_sign (zz T) (zC (zl T) rfl zR) (z4 T) T.cl (z3 T) (by left)
def ZM(T:Txt K mg):FOk P w K mg base true "greatest_length" 1 ["runs"] yt:=zK jO ["runs"] T.f_greatest_length (zz T) zR (z4 T) T.cl (z3 T) (by left)
def vd(T:Txt K mg):FOk P w K mg base true "runs_of_sign" 1 ["runs","wanted"] jU:=zK wj ["runs","wanted"] T.f_runs_of_sign (zz T) zR (z4 T) T.cl (z3 T) (by left)
def zC3(T:Txt K mg):FOk P w K mg base true "runs_of" 6 ["row"] Jv:=zK zAS ["row","runs","begin","end"] T.f_runs_of (zz T) (zC (Jf T) rfl zR) (z4 T) T.cl (z3 T) (by left)
def WH(T:Txt K mg):FOk P w K mg base true "ring_runs" 7 ["row"] yS:=zK jP ["row","runs","sign","begin","length"] T.f_ring_runs (zz T) (zC (zC3 T) rfl zR) (z4 T) T.cl (z3 T) (by left)
def J0(T:Txt K mg):FOk P w K mg base true "ring_longest" 8 ["row","sign"] yZ:=zK YW ["row","sign"] T.f_ring_longest (zz T) (zC (ZM T) rfl (zC (vd T) rfl (zC (WH T) rfl (zC (WG T) rfl (zC (Jf T) rfl zR))))) (z4 T) T.cl (z3 T) (by left)
def ZN(T:Txt K mg):FOk P w K mg base true "weigh_upto" 1 ["weight","others","n","k"] jA:=zK Z7 ["weight","others","n","k","ends","throw"] T.f_weigh_upto (zz T) zR (z4 T) T.cl (z3 T) (by left)
def vf(T:Txt K mg):FOk P w K mg base true "need_counted" 5 ["m","n"] jV:=zK YX ["m","n"] T.f_need_counted (zz T) (zC (zl T) rfl (zC (Jg T) rfl zR)) (z4 T) T.cl (z3 T) (by left)
def zAZ(T:Txt K mg):FOk P w K mg base true "rows_upto" 6 ["m","n","k"] JZ:=zK vV ["m","n","k"] T.f_rows_upto (zz T) (zC (ZN T) rfl (zC (zl T) rfl (zC (vf T) rfl zR))) (z4 T) T.cl (z3 T) (by left)
def WV(T:Txt K mg):FOk P w K mg base true "weigh_between" 2 ["weight","others","n","k"] jH:=zK Jw ["weight","others","n","k"] T.f_weigh_between (zz T) (zC (ZN T) rfl zR) (z4 T) T.cl (z3 T) (by left)
def yi(T:Txt K mg):FOk P w K mg base true "weigh_ring_upto" 3 ["weight","others","n","k"] zL:=zK JE ["weight","others","n","k","total","seam","ways"] T.f_weigh_ring_upto (zz T) (zC (WV T) rfl (zC (Yb T) rfl zR)) (z4 T) T.cl (z3 T) (by left)
def wZ(T:Txt K mg):FOk P w K mg base true "weigh_ring_just" 4 ["weight","others","n","k"] zu:=zK JF ["weight","others","n","k"] T.f_weigh_ring_just (zz T) (zC (yi T) rfl zR) (z4 T) T.cl (z3 T) (by left)
def Jh(T:Txt K mg):FOk P w K mg base true "need_round" 5 ["m","n"] yJ:=zK Z8 ["m","n"] T.f_need_round (zz T) (zC (zl T) rfl (zC (Jg T) rfl zR)) (z4 T) T.cl (z3 T) (by left)
def WI(T:Txt K mg):FOk P w K mg base true "ring_upto" 6 ["m","n","k"] ym:=zK vW ["m","n","k"] T.f_ring_upto (zz T) (zC (yi T) rfl (zC (zl T) rfl (zC (Jh T) rfl zR))) (z4 T) T.cl (z3 T) (by left)
def zAa(T:Txt K mg):FOk P w K mg base true "ring_just" 6 ["m","n","k"] Ja:=zK vX ["m","n","k"] T.f_ring_just (zz T) (zC (wZ T) rfl (zC (zl T) rfl (zC (Jh T) rfl zR))) (z4 T) T.cl (z3 T) (by left)
def QF(T:Txt K mg):FOk P w K mg base true "ring_table" 6 ["m","n"] wV:=zK Z9 ["m","n"] T.f_ring_table (zz T) (zC (wZ T) rfl (zC (Jh T) rfl zR)) (z4 T) T.cl (z3 T) (by left)
def QG(T:Txt K mg):FOk P w K mg base true "ring_share" 5 ["die","sign","n","k"] wW:=zK WA ["die","sign","n","k","weight"] T.f_ring_share (zz T) (zC (zBN T) rfl (zC (Yb T) rfl (zC (yi T) rfl (zC (zl T) rfl (zC (WG T) rfl (zC (zBQ T) rfl zR)))))) (z4 T) T.cl (z3 T) (by left)
def vg(T:Txt K mg):FOk P w K mg base true "turns_of" 1 ["row"] jQ:=zK uy ["row"] T.f_turns_of (zz T) zR (z4 T) T.cl (z3 T) (by left)
def ZO(T:Txt K mg):FOk P w K mg base true "least_turn" 6 ["row"] yK:=zK WB ["row"] T.f_least_turn (zz T) (zC (vg T) rfl (zC (Jf T) rfl zR)) (z4 T) T.cl (z3 T) (by left)
def zC4(T:Txt K mg):FOk P w K mg base true "turn_to" 6 ["row","other"] Jx:=zK zAW ["row","other","t","turned"] T.f_turn_to (zz T) (zC (vg T) rfl (zC (Jf T) rfl zR)) (z4 T) T.cl (z3 T) (by left)
def zAb(T:Txt K mg):FOk P w K mg base true "need_kind" 5 ["m","n","k"] Jb:=zK vZ ["m","n","k"] T.f_need_kind (zz T) (zC (zl T) rfl (zC (Jg T) rfl zR)) (z4 T) T.cl (z3 T) (by left)
def vh(T:Txt K mg):FOk P w K mg base true "kept_by_turn" 4 ["m","n","k","t"] jW:=zK YY ["m","n","k","t","part","mixed"] T.f_kept_by_turn (zz T) (zC (yi T) rfl (zC (wI T) rfl zR)) (z4 T) T.cl (z3 T) (by left)
def ZP(T:Txt K mg):FOk P w K mg base true "kinds_many" 6 ["m","n","k"] yn:=zK WC ["m","n","k"] T.f_kinds_many (zz T) (zC (vh T) rfl (zC (zAb T) rfl zR)) (z4 T) T.cl (z3 T) (by left)
def uN(T:Txt K mg):FOk P w K mg base true "grown_kinds" 1 ["begun","m"] jx:=zK ZJ ["begun","m","row","part","same","greater"] T.f_grown_kinds (zz T) zR (z4 T) T.cl (z3 T) (by left)
def QH(T:Txt K mg):FOk P w K mg base true "kinds_list" 7 ["m","n","k"] wX:=zK WD ["m","n","k","many","too_long","begun_kinds","throw","grown"] T.f_kinds_list (zz T) (zC (uN T) rfl (zC (ZP T) rfl zR)) (z4 T) T.cl (z3 T) (by left)
def vk(T:Txt K mg):FOk P w K mg base true "_law_cell_at" 1 ["_law_script","_law_k"] y0:=zK wm ["_law_script","_law_k"] T.f__law_cell_at (zz T) zR (z4 T) T.cl (z3 T) (by left)
def zAc(T:Txt K mg):FOk P w K mg base true "_law_next" 1 ["_law_seed"] Jc:=zK Yn ["_law_seed"] T.f__law_next (zz T) zR (z4 T) T.cl (z3 T) (by left)
def uO(T:Txt K mg):FOk P w K mg base true "_law_pen_of" 1 ["_law_cell"] jI:=zK Jd ["_law_cell","_law_left"] T.f__law_pen_of (zz T) zR (z4 T) T.cl (z3 T) (by left)
def WJ(T:Txt K mg):FOk P w K mg base true "_law_draw" 2 ["_law_pen","_law_many"] zO:=zK Je ["_law_pen","_law_many","_law_found"] T.f__law_draw (zz T) (zC (zAc T) rfl zR) (z4 T) T.cl (z3 T) (by left)
def uP(T:Txt K mg):FOk P w K mg base true "_law_row_of" 3 ["_law_pen","_law_signs","_law_most"] jy:=zK ZK ["_law_pen","_law_signs","_law_most","_law_found","_law_often","_law_turn","_law_sign"] T.f__law_row_of (zz T) (zC (WJ T) rfl zR) (z4 T) T.cl (z3 T) (by left)
def QI(T:Txt K mg):FOk P w K mg base true "_law_power" 1 ["_law_one","_law_many"] ja:=zK WF ["_law_one","_law_many","_law_found","_law_turn"] T.f__law_power (zz T) zR (z4 T) T.cl (z3 T) (by left)
def YJ(T:Txt K mg):FOk P w K mg base true "_law_counts_right" 7 ["_law_m","_law_n","_law_k"] yT:=zK wG ["_law_m","_law_n","_law_k","_law_found","_law_part"] T.f__law_counts_right (zz T) (zC (QI T) rfl (zC (WI T) rfl (zC (QG T) rfl (zC (zAZ T) rfl (zC (zAa T) rfl (zC (QF T) rfl zR)))))) (z4 T) T.cl (z3 T) (by left)
def YK(T:Txt K mg):FOk P w K mg base true "_law_turned_right" 9 ["_law_row","_law_many"] yU:=zK wH ["_law_row","_law_many","_law_other","_law_told","_law_one","_law_two"] T.f__law_turned_right (zz T) (zC (J0 T) rfl (zC (zC4 T) rfl (zC (ZO T) rfl (zC (WH T) rfl zR)))) (z4 T) T.cl (z3 T) (by left)
def Yo(T:Txt K mg):FOk P w K mg base true "_law_kinds_right" 9 ["_law_m","_law_n","_law_k"] yh:=zK wY ["_law_m","_law_n","_law_k","_law_found","_law_row"] T.f__law_kinds_right (zz T) (zC (WI T) rfl (zC (J0 T) rfl (zC (ZO T) rfl (zC (QH T) rfl (zC (ZP T) rfl zR))))) (z4 T) T.cl (z3 T) (by left)
end
def law_fd{P:Lc}{w:Le}{K:qH}{g:Str->Lx Lv}{R:Lz}(h:g "law"=some (.ref R))(T:Txt K g):∃M:FuncData,(∀(s:La) (u:Lv),BindsTo s M ⟨[u],[]⟩ [("_law_script",u)])/\∀base:Heap,FnOk P w K g base (CXx P w) 40 R M ["_law_script"] (spM K g 1 m_law):=by
 obtain⟨a,M,Y,F,q⟩:=T.f_law;have e:=h.symm.trans Y;cases e;refine⟨M,?_,λbase=>(def_atB (P:=P) (w:=w) (base:=base) (fs:=u6) (lv:=9) t_law ["_law_script","_law_cell","_law_pen","_law_m","_law_n","_law_row"] F (zz T) (zC (Yo T) rfl (zC (WJ T) rfl (zC (YK T) rfl (zC (uP T) rfl (zC (YJ T) rfl (zC (uO T) rfl (zC (vk T) rfl zR))))))) (z4 T) T.cl (z3 T) (by left)).mono (by decide)⟩;obtain⟨l,i,kV,I,J,k,c,o,j,rfl,y,p⟩:=F.ex;exact λs u=>.of_eq rfl
end My
namespace DV
open PySem L2
section
variable{fs:Ls FI}{E E1 E2 E3:zS}
def x_c:dE fs (.c d) E=.ok (.v d,E):=by dsimp[zAK,eC]
def vm:dE fs (.gl d) E=.ok (.v d,E):=by dsimp[rE_gl,eC]
def zA(h:E[i]?=some (.v d)):dE fs (.x i) E=.ok (.v d,E):=by dsimp[y9,Ys,h]
def vn(h:E[i]?=some (.w ds))(h':E.set i (.v (.l ds))=E1):dE fs (.x i) E=.ok (.v (.l ds),E1):=by dsimp[y9,wA,Ys,h,h']
def zb(J:dE fs a E=.ok (r1,E1))(Y:dE fs b E1=.ok (r2,E2))(Q:o.f r1.d r2.d=some r):dE fs (.bin o a b) E=.ok (r,E2):=by dsimp[JC,wy,J,Y,Q]
def yD(J:dE fs a E=.ok (r1,E1))(Y:dE fs b E1=.ok (r2,E2))(Q:o.f r1.d r2.d=some r):dE fs (.cmp o a b) E=.ok (r,E2):=by dsimp[j9,wy,J,Y,Q]
def zFB(J:dE fs a E=.ok (r1,E1))(Y:dE fs b E1=.ok (r2,E2))(Q:ixD r1.d r2.d=some r):dE fs (.ix a b) E=.ok (r,E2):=by dsimp[WT,wy,J,Y,Q]
def Zg{as:_}(J:dA fs as E=.ok (rs,E1))(Y:b.f (rs.map R.d)=some r):dE fs (.cB b as) E=.ok (r,E1):=by dsimp[vO,eCB,J,Y]
def J1{as:_}(J:dA fs as E=.ok (rs,E1))(Y:rs.map R.d=ds)(Q:ds.length<=cap):dE fs (.t as) E=.ok (.v (.t ds),E1):=by
 subst Y;dsimp[Jq,v7,eCB,J];rw[if_pos Q]
def QJ{as:_}(J:dA fs as E=.ok (rs,E1))(Y:rs.map R.d=ds)(Q:ds.length<=cap):dE fs (.l as) E=.ok (.w ds,E1):=by
 subst Y;dsimp[wA,v8,eCB,J];rw[if_pos Q]
def zC5(J:dE fs a E=.ok (r,E1))(Y:dO fs l E1=.ok (lo,E2))(Q:dO fs u E2=.ok (hi,E3))(h:slD r.d lo hi=some r'):dE fs (.sl a l u) E=.ok (r',E3):=by dsimp[zEy,eSl,J,Y,Q,h]
def zp(P:fiF fs k=F)(J:dE fs a E=.ok (r,E1))(Y:F [.v r.d]=.ok (r',[o])):dE fs (.call k (.ev a .nil)) E=.ok (r',E1):=by
 subst P;dsimp[yM,JV,yy,y2,zY,J,zJ,Y,zF]
def z5(P:fiF fs k=F)(J:dE fs a E=.ok (r,E1))(I:dE fs b E1=.ok (r2,E2))(Y:F [.v r.d,.v r2.d]=.ok (r',[o,o2])):dE fs (.call k (.ev a (.ev b .nil))) E=.ok (r',E2):=by
 subst P;dsimp[yM,JV,yy,y2,zY,J,I,zJ,Y,zF]
def zFC(J:dE fs a E=.ok (.v (.int i),E1))(Y:dE fs b E1=.ok (.v (.int j),E2))(Q:o.b i j=true)(h:dE fs c E2=.ok (.v (.int k),E3))(S:o'.b j k=v):dE fs (.chain o o' a b c) E=.ok (.v (.bl v),E3):=by
 subst S;dsimp[We,yI,J,Y,h];rw[if_pos Q]
def zHC(J:dE fs a E=.ok (.v (.int i),E1))(Y:dE fs b E1=.ok (.v (.int j),E2))(Q:o.b i j=false):dE fs (.chain o o' a b c) E=.ok (.v (.bl false),E2):=by
 dsimp[We,yI,J,Y];rw[if_neg (by rw[Q];decide)]
def wa(P:fiF fs k=F)(G:E[i]?=some (.w p))(J:dE fs a E=.ok (r,E))(Y:F [.p p,.v r.d]=.ok (r',[.p p',o]))(Q:E.set i (.w p')=E1):dE fs (.call k (.lend i (.ev a .nil))) E=.ok (r',E1):=by
 subst P Q;have R:i<E.length:=(qG.mp G).1;have T:(E.set i .e)[i]?=some .e:=by simp[R]
 dsimp[yM,JV,zBE,yy,y2,zY,G,Y4,Bool.false_eq_true,if_false,J,zJ,Slot.list?,Y,zF,T,Slot.put,set_set]
def zHD(P:fiF fs k=F)(G:E[i]?=some (.w p))(J:dE fs a E=.ok (r,E))(I:dE fs b E=.ok (r2,E))(Y:F [.p p,.v r.d,.v r2.d]=.ok (r',[.p p',o,o2]))(Q:E.set i (.w p')=E1):dE fs (.call k (.lend i (.ev a (.ev b .nil)))) E=.ok (r',E1):=by
 subst P Q;have R:i<E.length:=(qG.mp G).1;have T:(E.set i .e)[i]?=some .e:=by simp[R]
 dsimp[yM,JV,zBE,yy,y2,zY,G,Y4,Bool.false_eq_true,if_false,J,I,zJ,Slot.list?,Y,zF,T,Slot.put,set_set]
def zk(P:fiF fs k=F)(J:dE fs a E=.ok (r,E1))(I:dE fs b E1=.ok (r2,E2))(e:dE fs c E2=.ok (r3,E3))(Y:F [.v r.d,.v r2.d,.v r3.d]=.ok (r',[o,o2,o3])):dE fs (.call k (.ev a (.ev b (.ev c .nil)))) E=.ok (r',E3):=by
 subst P;dsimp[yM,JV,yy,y2,zY,J,I,e,zJ,Y,zF]
def yX(h:body (ss++replicate (n-ss.length) .e)=.ok (.ret r,E1))(J:zt ss E1=o):fnM n body ss=.ok (r,o):=by
 subst J;dsimp[fnM,h]
def zIX(h:body (ss++replicate (n-ss.length) .e)=.ok (.nx,E1))(J:zt ss E1=o):fnM n body ss=.ok (.v .non,o):=by
 subst J;dsimp[fnM,h]
def zT:dA fs .nil E=.ok ([],E):=by dsimp[wB,v6]
def zE{a as:_}(J:dE fs a E=.ok (r,E1))(Y:dA fs as E1=.ok (rs,E2)):dA fs (.cons a as) E=.ok (r::rs,E2):=by dsimp[wC,jo,J,Y]
def o_N:dO fs .oN E=.ok (none,E):=by dsimp[rO_oN,zGP]
def o_S(h:dE fs a E=.ok (.v (.int i),E1)):dO fs (.oS a) E=.ok (some i,E1):=by dsimp[zE0,zCt,h]
def t_E(h:dE fs a E=.ok (.v (.bl b),E1)):dT fs (.tE a) E=.ok (b,E1):=by dsimp[Yj,tT,h]
def zCJ(J:dT fs a E=.ok (false,E1))(Y:dT fs b E1=.ok (c,E2)):dT fs (.tOr a b) E=.ok (c,E2):=by dsimp[Jr,WQ,J,Y]
def t_orT(J:dT fs a E=.ok (true,E1)):dT fs (.tOr a b) E=.ok (true,E1):=by dsimp[Jr,WQ,J]
def vo(J:dT fs a E=.ok (b,E1))(Y:(!b)=c):dT fs (.tNot a) E=.ok (c,E1):=by subst Y;dsimp[rT_tNot,jn,J]
def y4(J:dE fs a E=.ok (r,E1))(Y:J9 i r E1=.ok E2):dS fs (.sSet i a) E=.ok (.nx,E2):=by dsimp[jN,sSet,J,Y]
def jf(J:dT fs t E=.ok (false,E1))(Y:dB fs b E1=o):dS fs (.sIf t a b) E=o:=by subst Y;dsimp[JD,sIf,J]
def WW(J:dT fs t E=.ok (true,E1))(Y:dB fs a E1=o):dS fs (.sIf t a b) E=o:=by subst Y;dsimp[JD,sIf,J]
def yY(J:dE fs a E=.ok (r,E1)):dS fs (.sRet a) E=.ok (.ret r,E1):=by dsimp[yN,sRet,J]
def yF(J:dE fs a E=.ok (r,E1)):dS fs (.sDrop a) E=.ok (.nx,E1):=by dsimp[jv,sDrop,J]
def s_tup(J:dE fs a E=.ok (r,E1))(Y:gT is r.d E1=.ok E2):dS fs (.sTup is a) E=.ok (.nx,E2):=by dsimp[vP,sTup,J,Y]
def s_par{as:_}(J:dA fs as E=.ok ([r1,r2],E1))(Y:gNs [i,j] [r1.d,r2.d] E1=.ok E2):dS fs (.sPar i j as) E=.ok (.nx,E2):=by dsimp[rS_sPar,sPar,J,Y]
def zIY(J:dE fs a E=.ok (r,E1))(Y:r.d=.l ds)(Q:Z3 tg.m (dB fs b) ds E1=.ok p):dS fs (.sForL a tg b) E=.ok p:=by dsimp[zG4];exact G2 (by dsimp[sForL,J,Y,Q])
def Zh(J:dA fs a E=.ok ([r],E1))(Y:r.d=.int j)(l:-1000000<=j/\j<=1000000)(Q:Z3 tg.m (dB fs b) (zG 0 j.toNat) E1=.ok p):dS fs (.sForR1 a tg b) E=.ok p:=by
 dsimp[zE1];refine G2 ?_;dsimp[sForR1,J,Y];rw[if_pos ⟨by lia,by lia⟩,Q]
def s_forR2(J:dA fs a E=.ok ([r1,r2],E1))(Y:r1.d=.int i)(c:r2.d=.int j)(hi:-1000000<=i/\i<=1000000)(l:-1000000<=j/\j<=1000000)(Q:Z3 tg.m (dB fs b) (zG i (j-i).toNat) E1=.ok p):dS fs (.sForR2 a tg b) E=.ok p:=by
 dsimp[jE];refine G2 ?_;dsimp[sForR2,J,Y,c];rw[if_pos ⟨by lia,by lia,by lia,by lia⟩,Q]
def i_L(J:dE fs a E=.ok (r,E1))(Y:r.d=.l ds):dI fs (.iL a) E=.ok (ds,E1):=by dsimp[zG3,iL,J,Y]
def i_T(J:dE fs a E=.ok (r,E1))(Y:r.d=.t ds):dI fs (.iT a) E=.ok (ds,E1):=by dsimp[rI_iT,iT,J,Y]
def i_R1(J:dA fs a E=.ok ([r],E1))(Y:r.d=.int j)(l:-1000000<=j/\j<=1000000):dI fs (.iR1 a) E=.ok (zG 0 j.toNat,E1):=by
 dsimp[rI_iR1,iR1,J,Y];rw[if_pos ⟨by lia,by lia⟩]
def jg:dB fs .bNil E=.ok (.nx,E):=by dsimp[je,uA]
def zW(h:dS fs s E=o):dB fs (.o s) E=o:=by dsimp[yG,h]
def zN(h:dS fs s E=.ok (.nx,E1))(Y:dB fs b E1=o):dB fs (.s s b) E=o:=by dsimp[yu,Z0,h,Y]
def QK(h:dS fs s E=.ok (.ret r,E1)):dB fs (.s s b) E=.ok (.ret r,E1):=by dsimp[yu,Z0,h]
def wJ:[d].length<=cap:=by dsimp[List.length_singleton,cap];lia
def vq:([]:Ls D).length<=cap:=by dsimp[length_nil,cap];lia
def wn:[d,e].length<=cap:=by dsimp[length_cons,length_nil,cap];lia
def zCK{nl:Nat}{xs ys:Ls Str}{caps:Ls Nat}{it tt el:_}{tg:Tg}{ds rs:Ls D}{vs:Ls D}(p:D->Ls DV.Slot)(f:D->Bool)(g:D->D)(hi:dI fs it E=.ok (ds,E1))(o:YE E1 caps=.ok (vs.map AR.tmp))
  (J:∀d∈ds,∀S:Ls DV.Slot,S.length=nl->(∀s∈S,jw s=true)->tg.m d (S++vs.map Slot.v)=.ok (p d++vs.map Slot.v))
  (Y:∀d∈ds,(p d).length=nl/\∀s∈p d,jw s=true)
  (Q:∀d∈ds,dT fs tt (p d++vs.map Slot.v)=.ok (f d,p d++vs.map Slot.v))
  (h:∀d∈ds,f d=true->∃r,dE fs el (p d++vs.map Slot.v)=.ok (r,p d++vs.map Slot.v)/\r.d=g d) (a:ds.length<=cap) (z:(ds.filter f).map g=rs):dE fs (.comp nl xs ys caps it tg tt el) E=.ok (.w rs,E1):=by
 subst z;exact zBD <| G7 p f g ds J Y Q h a hi o
def wq{xs ys:Ls Str}{caps:Ls Nat}{it el:_}{ds rs:Ls D}{vs:Ls D}(g:D->D)(hi:dI fs it E=.ok (ds,E1))(o:YE E1 caps=.ok (vs.map AR.tmp))
  (h:∀d∈ds,∃r,dE fs el (.v d::vs.map Slot.v)=.ok (r,.v d::vs.map Slot.v)/\r.d=g d) (a:ds.length<=cap) (z:ds.map g=rs):dE fs (.comp 1 xs ys caps it (.n 0) .tTr el) E=.ok (.w rs,E1):=by
 refine zCK (λd=>[.v d]) (λ_=>true) g hi o (λd C S X K=>zIW X K) (λd C=>⟨rfl,λs T=>?_⟩) (λd C=>?_) (λd C _=>h d C) a ?_
 ·rw[mem_singleton]at T;subst T;rfl
 ·dsimp[zCC,jq]
 ·rw[List.filter_eq_self.mpr (λ_ _=>rfl),z]
end
end DV
namespace SM
open PySem L2 DV
def ends(w o k:Nat):Nat->Ls Nat
 |0=>1::replicate k 0|n+1=>(o*(ends w o k n).sum)::((ends w o k n).dropLast.map (w*·))
def U(w o k n:Nat):Nat:=(ends w o k n).sum
theorem zCL(w o k:Nat):∀n,(ends w o k n).length=k+1
 |0=>by simp[ends]|n+1=>by simp[ends,zCL w o k n]
def F(w o k m:Nat):Nat->Nat
 |0=>0|r+1=>F w o k m r+w^r*o*U w o k (m-1-r)
def fE(w o k n j:Nat):Nat:=if j<n then w^j*o*U w o k (n-1-j)else if j=n then w^n else 0
theorem QL(w o k:Nat):∀n,ends w o k n=(List.range (k+1)).map (fE w o k n)
 |0=>by
  rw[range_succ_eq_map,map_cons,map_map];dsimp[ends];congr 1;refine(List.eq_replicate_iff.mpr ⟨by simp,λb Z=>?_⟩).symm;simp at Z;obtain⟨a,_,rfl⟩:=Z;simp[fE]
 |n+1=>by
  have u:=QL w o k n;have e:(ends w o k n).dropLast=(List.range k).map (fE w o k n):=by
   rw[u,range_succ,map_append,List.map_singleton,List.dropLast_concat]
  rw[range_succ_eq_map,map_cons,map_map];dsimp[ends];rw[e,map_map];congr 1
  ·simp[fE,U]
  ·refine map_congr_left λj _=>?_
   dsimp[Function.comp,fE];by_cases J:j<n
   ·rw[if_pos J,if_pos (by lia),show n+1-1-(j+1)=n-1-j by lia,pow_succ]
    rw[<- mul_assoc,<- mul_assoc,mul_comm w]
   ·by_cases h2:j=n
    ·subst h2;simp[pow_succ,mul_comm]
    ·simp[J,h2]
def zC6(f:Nat->Nat)(n:Nat):((List.range (n+1)).map f).sum=((List.range n).map f).sum+f n:=by
 rw[range_succ,map_append,sum_append];simp
theorem zFD(w o k n:Nat):∀t,((List.range t).map (fE w o k n)).sum=F w o k n (min n t)+(if n<t then w^n else 0)
 |0=>by simp[F]
 |t+1=>by
  rw[zC6,zFD w o k n t];by_cases J:t<n
  ·rw[show min n t=t by lia,show min n (t+1)=t+1 by lia,if_neg (by lia),if_neg (by lia)]
   simp[F,fE,J]
  ·by_cases h2:t=n
   ·subst h2
    rw[show min t t=t by lia,show min t (t+1)=t by lia,if_neg (by lia),if_pos (by lia)];simp[fE]
   ·rw[show min n t=n by lia,show min n (t+1)=n by lia,if_pos (by lia),if_pos (by lia)]
    simp[fE,J,h2]
def U_rec(w o k n:Nat):U w o k n=F w o k n (min n (k+1))+(if n<=k then w^n else 0):=by
 unfold U;rw[QL,zFD];by_cases h:n<=k
 ·rw[if_pos h,if_pos (by lia)]
 ·rw[if_neg h,if_neg (by lia)]
theorem vt(w:Nat):∀l:Ls Nat,(l.map (w*·)).sum=w*l.sum
 | []=>by simp|a::l=>by simp[vt w l,mul_add]
theorem zCM:∀l:Ls Nat,l.dropLast.sum<=l.sum
 | []=>by simp| [a]=>by simp
 |a::b::l=>by
  have:=zCM (b::l);dsimp[List.dropLast_cons₂,sum_cons]at this ⊢;lia
def U_succ(w o k n:Nat):U w o k (n+1)<=(w+o)*U w o k n:=by
 unfold U;dsimp[ends,sum_cons,vt];have:=zCM (ends w o k n);have h:=Nat.mul_le_mul_left w this;rw[add_mul];lia
theorem U_le(w o k:Nat):∀n,U w o k n<=(w+o)^n
 |0=>by simp[U,ends]
 |n+1=>by
  have J:=U_succ w o k n;have h2:=Nat.mul_le_mul_left (w+o) (U_le w o k n);rw[pow_succ,mul_comm ((w+o)^n)];lia
def rowsN(m:Nat):Nat->Ls (Ls Nat)
 |0=>[[]]|n+1=>(rowsN m n).flatMap λr=>(List.range m).map λx=>r++[x]
def stp(s:Nat)(p:Nat×Nat)(x:Nat):Nat×Nat:=(max p.1 (if x=s then p.2+1 else 0),if x=s then p.2+1 else 0)
def stt(s:Nat)(r:Ls Nat):Nat×Nat:=r.foldl (stp s) (0,0)
def Die(a:Ls Nat):Prop:=(a.length=2\/a.length=3)/\∀x∈a,1<=x/\x<=9
def top'(t:Int)(b:Nat):Int:=t/(t.natAbs.gcd b:Nat)
def bot'(t:Int)(b:Nat):Nat:=b/t.natAbs.gcd b
def nrm(t:Int)(b:Nat):D:=.t [.int (top' t b),.int (bot' t b:Nat)]
def top_nat(n b:Nat):top' (n:Int) b=((n/n.gcd b:Nat):Int):=by
 simp[top']
theorem zCN{c:MT}{bd:MS}(mk:Nat->Nat->zS)(S:∀a b,c (mk a b)=.ok (decide (b≠0),mk a b))(Z:∀a b,b≠0->bd (mk a b)=.ok (.nx,mk b (a%b))) :
  ∀(k n a b:Nat),b<2^k->2*k+1<=n->whN c bd n (mk a b)=.ok (.nx,mk (a.gcd b) 0)
 |0,n,a,b,h,K=>by
  have:b=0:=by lia
  subst this;obtain⟨m,rfl⟩:∃m,n=m+1:=⟨n-1,by lia⟩;dsimp[whN,S,ne_eq,not_true_eq_false,decide_false,Nat.gcd_zero_right]
 |k+1,n,a,b,h,K=>by
  obtain⟨m,rfl⟩:∃m,n=m+2:=⟨n-2,by lia⟩;by_cases i:b=0
  ·subst i
   dsimp[whN,S,ne_eq,not_true_eq_false,decide_false,Nat.gcd_zero_right]
  ·by_cases r:a%b=0
   ·dsimp[whN,S,Z a b i,ne_eq,i,not_false_eq_true,decide_true,r,not_true_eq_false,decide_false]
    rw[gcd_comm,gcd_rec,r,Nat.gcd_zero_left]
   ·have lt:a%b<b:=mod_lt _ (by lia)
    have l:b%(a%b)<a%b:=mod_lt _ (by lia);have e:b%(a%b)<2^k:=by
     have:2*(b%(a%b))<b:=by
      by_cases q:2*(a%b)<=b
      ·lia
      ·have:b%(a%b)=b-a%b:=by
        rw[Nat.mod_eq_sub_mod (by lia),Nat.mod_eq_of_lt (by lia)]
       lia
     rw[pow_succ]at h;lia
    have u:=zCN mk S Z k m (a%b) (b%(a%b)) e (by lia);dsimp[whN,S,Z a b i,Z b (a%b) r,ne_eq,i,r,not_false_eq_true,decide_true];rw[u];rw[gcd_comm a b,gcd_rec b a,gcd_comm (a%b) b,gcd_comm (a%b),<- gcd_rec,gcd_comm b]
theorem zIZ(w o:Nat):∀n,n<=k->U w o k n=(w+o)^n
 |0,_=>by simp[U,ends]
 |n+1,h=>by
  have u:=zIZ w o n (Nat.le_of_succ_le h);have e:(ends w o k n).dropLast.sum=(ends w o k n).sum:=by
   rw[QL,range_succ,map_append,List.map_singleton,List.dropLast_concat,sum_append];have:fE w o k n k=0:=by unfold fE;rw[if_neg (by lia),if_neg (by lia)]
   simp[this]
  unfold U at u ⊢;dsimp[ends,sum_cons,vt];rw[e,u,pow_succ,mul_comm _ (w+o),add_mul];lia
theorem GB(c w o k:Nat):∀n,ends (c*w) (c*o) k n=(ends w o k n).map (c^n*·)
 |0=>by simp[ends]
 |n+1=>by
  dsimp[ends,GB c w o k n,map_cons,vt,List.map_dropLast,map_map];congr 1
  ·rw[pow_succ];grind
  ·congr 1
   apply map_congr_left;intro x _;dsimp[Function.comp];rw[pow_succ];grind
def U_scale(c w o k n:Nat):U (c*w) (c*o) k n=c^n*U w o k n:=by
 unfold U;rw[GB,vt]
def tot(es:Ls (Ls Nat)):Nat:=(es.map List.sum).sum
def al(O:Ls Nat)(k:Nat):Nat->Ls (Ls Nat)
 |0=>O.map λw=>w::replicate (k-1) 0|n+1=>List.zipWith (λw e=>(w*(tot (al O k n)-e.sum))::e.dropLast.map (w*·)) O (al O k n)
def A(O:Ls Nat)(n k:Nat):Nat:=if n=0 then 1 else if k=0 then 0 else tot (al O k (n-1))
def cross(t:Int)(b:Nat):top' t b*b=t*(bot' t b:Nat):=by
 unfold top' bot';have J:((t.natAbs.gcd b:Nat):Int)∣t:=by
  have:=Nat.gcd_dvd_left t.natAbs b;exact Int.ofNat_dvd_left.mpr this
 have h2:t.natAbs.gcd b∣b:=Nat.gcd_dvd_right _ _;obtain⟨x,M⟩:=J;obtain⟨y,Q⟩:=h2;generalize a:t.natAbs.gcd b=g at *;by_cases c:g=0
 ·subst c
  simp at M Q
  subst M;subst Q;simp
 ·have W:t/(g:Int)=x:=by rw[M];exact Int.mul_ediv_cancel_left _ (by lia)
  have P:b/g=y:=by rw[Q];exact Nat.mul_div_cancel_left _ (by lia)
  rw[W,P,M,Q,Int.natCast_mul]
  grind
def Bt(w o k j:Nat):Nat:=if j=1 then o else o*o*U w o k (j-2)
def Rp(w o n k:Nat):Nat:=if n<=k then(w+o)^n else((List.range (k+1)).map λs=>(s+1)*w^s*Bt w o k (n-s)).sum
def Rl(w o n k:Nat):Nat:=if n=0 then 1 else(if n<=k then w^n else 0)+((List.range (min k (n-1)+1)).map λa=>w^a*o*((ends w o k (n-a-1)).take (k-a+1)).sum).sum
def zAd(w o k n t:Nat)(h:t<=k+1):((ends w o k n).take t).sum=((List.range t).map (fE w o k n)).sum:=by
 rw[QL,<- map_take,List.take_range,show min t (k+1)=t by lia]
theorem tri(G:Nat->Nat):∀K,((List.range K).map λa=>((List.range (K-a)).map λi=>G (a+i)).sum).sum=((List.range K).map λs=>(s+1)*G s).sum
 |0=>rfl
 |K+1=>by
  have u:=tri G K;rw[zC6,zC6,show K+1-K=1 by lia];have e:((List.range K).map λa=>((List.range (K+1-a)).map λi=>G (a+i)).sum)=(List.range K).map λa=>((List.range (K-a)).map λi=>G (a+i)).sum+G K:=by
   refine map_congr_left λa C=>?_
   have:=mem_range.mp C;rw[show K+1-a=K-a+1 by lia,zC6,show a+(K-a)=K by lia]
  have P:∀(f:Nat->Nat) (c:Nat) (n:Nat),((List.range n).map λa=>f a+c).sum=((List.range n).map f).sum+n*c:=by
   intro f c n
   induction n with
   |zero=>simp|succ n u=>rw[zC6,zC6,u,add_mul];lia
  rw[e,P,u];have:((List.range 1).map λi=>G (K+i)).sum=G K:=by simp[range_succ]
  rw[this,add_mul];lia
def zCO(c:Nat)(f:Nat->Nat)(n:Nat):((List.range n).map λi=>c*f i).sum=c*((List.range n).map f).sum:=by
 induction n with
 |zero=>simp|succ n u=>rw[zC6,zC6,u,mul_add]
def ring_eq(w o n k:Nat):Rl w o n k=Rp w o n k:=by
 unfold Rl Rp;by_cases z:n=0
 ·subst z;simp
 rw[if_neg z];by_cases c:n<=k
 ·rw[if_pos c,if_pos c,show min k (n-1)+1=n by lia]
  have e:((List.range n).map λa=>w^a*o*((ends w o k (n-a-1)).take (k-a+1)).sum)=(List.range n).map λa=>w^a*o*U w o k (n-1-a):=by
   refine map_congr_left λa C=>?_
   have:=mem_range.mp C;rw[zAd _ _ _ _ _ (by lia),zFD,show min (n-a-1) (k-a+1)=n-a-1 by lia,if_pos (by lia),U_rec,show min (n-1-a) (k+1)=n-1-a by lia,if_pos (by lia),show n-a-1=n-1-a by lia]
  rw[e];have f:∀t,((List.range t).map λa=>w^a*o*U w o k (n-1-a)).sum=F w o k n t:=by
   intro t
   induction t with
   |zero=>rfl|succ t u=>rw[zC6,u];rfl
  rw[f n,<- zIZ w o n c,U_rec,show min n (k+1)=n by lia,if_pos c];lia
 ·rw[if_neg c,if_neg c,show min k (n-1)+1=k+1 by lia,zero_add]
  rw[show((List.range (k+1)).map λs=>(s+1)*w^s*Bt w o k (n-s))=(List.range (k+1)).map λs=>(s+1)*(w^s*Bt w o k (n-s))from map_congr_left λs _=>mul_assoc ..];rw[<- tri (λs=>w^s*Bt w o k (n-s)) (k+1)];congr 1;refine map_congr_left λa C=>?_
  have C:=mem_range.mp C;rw[zAd _ _ _ _ _ (by lia),<- zCO,show k-a+1=k+1-a by lia];congr 1;refine map_congr_left λi R=>?_
  have R:=mem_range.mp R;dsimp[fE,Bt];by_cases d:i<n-a-1
  ·rw[if_pos d,if_neg (by lia),show n-a-1-1-i=n-(a+i)-2 by lia,pow_add]
   grind
  ·rw[if_neg d,if_pos (by lia),if_pos (by lia),show n-a-1=i by lia,pow_add]
   grind
def bitsN:Nat->Ls (Ls Bool)
 |0=>[[]]|n+1=>(bitsN n).flatMap λb=>[b++[true],b++[false]]
def bw(w o:Nat)(b:Ls Bool):Nat:=b.foldl (λa x=>a*if x then w else o) 1
def bst(p:Nat×Nat)(x:Bool):Nat×Nat:=(max p.1 (if x then p.2+1 else 0),if x then p.2+1 else 0)
def blg(b:Ls Bool):Nat:=(b.foldl bst (0,0)).1
def brl(b:Ls Bool):Nat:=min b.length (blg (b++b))
def few(w o n k:Nat):Bool:=(((bitsN n).map λb=>(if brl b<=k then 1 else 0)*bw w o b).sum==Rp w o n k)
end SM
namespace RM
open PySem L2 DV
abbrev B:=Int×Nat
def yx(a:Int):Ls B->Ls B
 | []=>[(a,1)]| (b,n)::r=>if a=b then(b,n+1)::r else(a,1)::(b,n)::r
def rle:Ls Int->Ls B
 | []=>[]|a::l=>yx a (rle l)
def JG:Ls B->Int->Ls B
 | [],a=>[(a,1)]| [(b,n)],a=>if b=a then [(b,n+1)]else [(b,n),(a,1)]|x::y::r,a=>x::JG (y::r) a
def zFE(c a:Int):∀q:Ls B,q≠[]->yx c (JG q a)=JG (yx c q) a
 | [],h=>absurd rfl h
 | [(b,n)],_=>by
  by_cases J:b=a
  ·by_cases h2:c=b
   ·simp[JG,yx,J,h2]
   ·simp[JG,yx,J,h2]
    split<;>simp_all [JG]
  ·by_cases h2:c=b
   ·simp[JG,yx,J,h2]
   ·simp[JG,yx,J,h2]
 | (b,n)::y::r,_=>by
  by_cases h2:c=b
  ·simp[JG,yx,h2]
  ·simp[JG,yx,h2]
theorem zCP(a:Int):∀l:Ls Int,rle (l++[a])=JG (rle l) a
 | []=>rfl
 | [c]=>by
  show yx c [(a,1)]=JG [(c,1)] a
  dsimp[yx,JG];by_cases h:c=a
  ·simp[h]
  ·simp[h]
 |c::d::l=>by
  have u:=zCP a (d::l);show yx c (rle ((d::l)++[a]))=JG (yx c (rle (d::l))) a;rw[u];refine zFE c a _ ?_;show yx d (rle l)≠[];cases rle l with
  |nil=>simp[yx]
  |cons x r=>obtain⟨b,n⟩:=x;dsimp[yx];split<;>simp
def ZQ:Ls B->Ls Int
 | []=>[]| (a,n)::r=>replicate n a++ZQ r
def zAe(a:Int)(q:Ls B):ZQ (yx a q)=a::ZQ q:=by
 cases q with
 |nil=>rfl
 |cons x r =>
  obtain⟨b,n⟩:=x;dsimp[yx];split
  ·rename_i h;subst h;simp[ZQ,replicate_succ]
  ·simp[ZQ,replicate_succ]
theorem Zi:∀l:Ls Int,ZQ (rle l)=l
 | []=>rfl|a::l=>by show ZQ (yx a (rle l))=_;rw[zAe,Zi l]
theorem vv(a:Int)(k:Nat):∀p:Ls Int,(∀z,p.getLast?=some z->z≠a)->rle (p++replicate (k+1) a)=rle p++[(a,k+1)]
 | [],_=>by
  show rle (replicate (k+1) a)=[(a,k+1)]
  induction k with
  |zero=>rfl
  |succ k u =>
   rw[replicate_succ];show yx a (rle (replicate (k+1) a))=_;rw[u];simp[yx]
 | [c],h=>by
  have S:c≠a:=h c rfl;show yx c (rle (replicate (k+1) a))=yx c []++[(a,k+1)];have:=vv a k [] (λz hz=>by cases hz);dsimp[nil_append]at this;rw[this];simp[yx,S,rle]
 |c::d::p,h=>by
  have u:=vv a k (d::p) (λz hz=>h z (by exists hz));show yx c (rle ((d::p)++replicate (k+1) a))=yx c (rle (d::p))++[(a,k+1)];rw[u];cases W:rle (d::p)with
  |nil =>
   have:=Zi (d::p);rw[W]at this;cases this
  |cons x r =>
   obtain⟨b,n⟩:=x;dsimp[cons_append,yx];split<;>rfl
def WK(q:Ls B):Ls B:=match q with
 | []=>[]| [x]=>[x]|x::y::r=>if x.1=((y::r).getLast (by simp)).1 then(y::r).dropLast++[(((y::r).getLast (by simp)).1,((y::r).getLast (by simp)).2+x.2)]else x::y::r
def jz(x z:B)(m:Ls B):WK (x::(m++[z]))=if x.1=z.1 then m++[(z.1,z.2+x.2)]else x::(m++[z]):=by
 cases h:m++[z]with
 |nil=>simp at h
 |cons y r =>
  have W:(y::r).getLast (by simp)=z:=by
   have:(m++[z]).getLast (by simp)=z:=by simp
   simpa[h]using this
  have P:(y::r).dropLast=m:=by
   have:(m++[z]).dropLast=m:=by simp
   rwa [h]at this
  dsimp[WK,W,P]
def zHE(m:Ls B)(z:B)(a:Int):JG (m++[z]) a=if z.1=a then m++[(z.1,z.2+1)]else m++[z,(a,1)]:=by
 induction m with
 |nil =>
  obtain⟨b,n⟩:=z;dsimp[nil_append,JG]
 |cons x m u =>
  cases h:m++[z]with
  |nil=>simp at h
  |cons y r =>
   rw[cons_append,h];dsimp[JG];rw[<- h,u];split<;>simp
def zFF(a:Int)(q:Ls B):(WK (yx a q)).Perm (WK (JG q a)):=by
 cases q with
 |nil=>exact List.Perm.refl _
 |cons x r =>
  obtain⟨b,n⟩:=x;rcases List.eq_nil_or_concat r with h|⟨m,z,h⟩
  ·subst h
   dsimp[yx,JG];by_cases e:a=b
   ·subst e;simp
   ·have C:¬b=a:=λt=>e t.symm
    rw[if_neg e,if_neg C];have J:=jz (a,1) (b,n) [];have h2:=jz (b,n) (a,1) [];dsimp[nil_append]at J h2;rw[J,h2,if_neg e,if_neg C];exact List.Perm.swap _ _ _
  ·subst h
   obtain⟨c,k⟩:=z;rw[List.concat_eq_append];have T:JG ((b,n)::(m++[(c,k)])) a=if c=a then(b,n)::(m++[(c,k+1)])else(b,n)::(m++[(c,k),(a,1)]):=by
    have:=zHE ((b,n)::m) (c,k) a;exists this
   rw[T];dsimp[yx];by_cases W:a=b
   ·subst W
    rw[if_pos rfl,jz];by_cases P:c=a
    ·subst P
     rw[if_pos rfl,if_pos rfl,jz,if_pos rfl];have:k+(n+1)=k+1+n:=by lia
     rw[this]
    ·have g:¬a=c:=λt=>P t.symm
     rw[if_neg P,if_neg g];have:=jz (a,n) (a,1) (m++[(c,k)]);dsimp[append_assoc,cons_append,nil_append]at this;rw[this,if_pos trivial];have:1+n=n+1:=by lia
     rw[this];have p:=perm_append_comm (l₁:=[(a,n+1)]) (l₂:=m++[(c,k)]);exists p
   ·rw[if_neg W]
    have J:=jz (a,1) (c,k) ((b,n)::m);dsimp[cons_append]at J;rw[J];have j:¬b=a:=λt=>W t.symm
    by_cases P:c=a
    ·subst P
     rw[if_pos rfl,if_pos rfl,jz,if_neg j]
    ·have g:¬a=c:=λt=>P t.symm
     rw[if_neg P,if_neg g];have h2:=jz (b,n) (a,1) (m++[(c,k)]);dsimp[append_assoc,cons_append,nil_append]at h2;rw[h2,if_neg j];have p:=perm_append_comm (l₁:=[(a,1)]) (l₂:=(b,n)::(m++[(c,k)]));exists p
theorem zCQ(l:Ls Int):∀k,k<=l.length->(WK (rle (l.drop k++l.take k))).Perm (WK (rle l))
 |0,_=>by simp
 |k+1,h=>by
  have u:=zCQ l k (by lia);have V:k<l.length:=by lia
  have e:l.drop k++l.take k=l[k]::(l.drop (k+1)++l.take k):=by
   rw[drop_eq_getElem_cons V];rfl
  have P:l.drop (k+1)++l.take (k+1)=(l.drop (k+1)++l.take k)++[l[k]]:=by
   rw[List.take_succ_eq_append_getElem V,append_assoc]
  rw[e]at u;rw[P,zCP];exact(zFF l[k] (rle (l.drop (k+1)++l.take k))).symm.trans u
def tot(q:Ls B):Nat:=(q.map (·.2)).sum
theorem GC:∀q:Ls B,tot q=(ZQ q).length
 | []=>rfl
 | (a,n)::r=>by
  have:=GC r;dsimp[tot,map_cons,sum_cons,ZQ,length_append,List.length_replicate]at this ⊢;lia
theorem WL(v:Nat->Int):∀k,argBest (λi j=>decide (v i > v j)) k<=k/\∀i,i<=k->v i<=v (argBest (λi j=>decide (v i > v j)) k)
 |0=>⟨le_refl _,λi h=>by have:i=0:=(by lia);subst this;exact Int.le_refl _⟩
 |k+1=>by
  obtain⟨J,h2⟩:=WL v k;dsimp[argBest];by_cases S:v (k+1) > v (argBest (λi j=>decide (v i > v j)) k)
  ·rw[if_pos (by exists S)]
   refine⟨le_refl _,λi R=>?_⟩;by_cases e:i=k+1
   ·subst e;exact Int.le_refl _
   ·have:=h2 i (by lia);lia
  ·rw[if_neg (by exists S)]
   refine⟨by lia,λi R=>?_⟩;by_cases e:i=k+1
   ·subst e;lia
   ·exact h2 i (by lia)
def zC7(h:0<ns.length):uG ns∈ns/\∀a∈ns,a<=uG ns:=by
 obtain⟨J,h2⟩:=WL (λi=>ns.getD i 0) (ns.length-1);unfold uG;refine⟨?_,λa C=>?_⟩
 ·generalize argBest (λi j=>decide (ns.getD i 0 > ns.getD j 0)) (ns.length-1)=m at J
  have Y:m<ns.length:=by lia
  rw[getD_eq_getElem?_getD,getElem?_eq_getElem Y];exact getElem_mem Y
 ·obtain⟨i,R,rfl⟩:=getElem_of_mem C
  have:=h2 i (by lia);dsimp[getD_eq_getElem?_getD,getElem?_eq_getElem R,Option.getD_some]at this;simpa[getD_eq_getElem?_getD]using this
def top(ns:Ls Nat):Nat:=ns.foldr max 0
def zFG:∀a∈ns,a<=top ns:=by
 induction ns with
 |nil=>intro a h;cases h
 |cons b r u =>
  intro a h;dsimp[top,List.foldr_cons];rcases mem_cons.mp h with h|h
  ·subst h;exact Nat.le_max_left _ _
  ·exact le_trans (u a h) (Nat.le_max_right _ _)
def zBR(h:ns≠[]):top ns∈ns:=by
 induction ns with
 |nil=>exact absurd rfl h
 |cons b r u =>
  dsimp[top,List.foldr_cons];by_cases e:r=[]
  ·subst e;simp
  ·have:=u e
   unfold top at this;by_cases Z:b<=List.foldr max 0 r
   ·rw[Nat.max_eq_right Z];exact qD _ this
   ·rw[Nat.max_eq_left (by lia)];exact qE
def zFH(ns:Ls Nat):vG (ns.map λ(n:Nat)=>(n:Int)) 0=(top ns:Int):=by
 unfold vG;cases ns with
 |nil=>rfl
 |cons b r =>
  rw[if_neg (by simp)];obtain⟨J,h2⟩:=zC7 (ns:=(b::r).map λ(n:Nat)=>(n:Int)) (by simp);obtain⟨m,Y,e⟩:=mem_map.mp J;have v:=zFG m Y;have u:=h2 _ (mem_map.mpr ⟨_,zBR (ns:=b::r) (by simp),rfl⟩);rw[<- e]at u ⊢;have:top (b::r)<=m:=by exact_mod_cast u
  have:m=top (b::r):=by lia
  rw[this]
def zHF(p:a.Perm b):top a=top b:=by
 cases a with
 |nil=>rw[List.nil_perm.mp p]
 |cons x r =>
  have Z:b≠[]:=λe=>by subst e;simp at p
  have J:=zFG _ (p.mem_iff.mp (zBR (ns:=x::r) (by simp)));have h2:=zFG _ (p.mem_iff.mpr (zBR Z));lia
def lens(s:Int)(q:Ls B):Ls Nat:=(q.filter λx=>x.1==s).map (·.2)
def best(s:Int)(q:Ls B):Nat:=top (lens s q)
def zFI(p:a.Perm b):best s a=best s b:=zHF ((p.filter _).map _)
end RM
namespace DV
open PySem L2
section
variable{fs:Ls FI}{E E1 E2 E3 E4 E5:zS}
def jR(P:fiF fs k=F)(J:dE fs a E=.ok (r,E1))(I:dE fs b E1=.ok (r2,E2))(e:dE fs c E2=.ok (r3,E3))(h:dE fs d E3=.ok (r4,E4))(Y:F [.v r.d,.v r2.d,.v r3.d,.v r4.d]=.ok (r',[o,o2,o3,o4])):dE fs (.call k (.ev a (.ev b (.ev c (.ev d .nil))))) E=.ok (r',E4):=by
 subst P;dsimp[yM,JV,yy,y2,zY,J,I,e,h,zJ,Y,zF]
def Wg(P:fiF fs k=F)(G:E[i]?=some (.p p))(J:dE fs a E=.ok (r,E))(Y:F [.p p,.v r.d]=.ok (r',[.p p',o]))(Q:E.set i (.p p')=E1):dE fs (.call k (.lend i (.ev a .nil))) E=.ok (r',E1):=by
 subst P Q;have R:i<E.length:=(qG.mp G).1;have T:(E.set i .e)[i]?=some .e:=by simp[R]
 dsimp[yM,JV,zBE,yy,y2,zY,G,Y4,Bool.false_eq_true,if_false,J,zJ,Slot.list?,Y,zF,T,Slot.put,set_set]
def x_neg(h:dE fs a E=.ok (.v (.int i),E1)):dE fs (.neg a) E=.ok (.v (.int (-i)),E1):=by dsimp[zAL,eNeg,h]
def x_ifx1(h:dT fs t E=.ok (true,E1))(J:dE fs a E1=o):dE fs (.ifx t a b) E=o:=by subst J;dsimp[zIL,eIf,h]
def x_ifx0(h:dT fs t E=.ok (false,E1))(J:dE fs b E1=o):dE fs (.ifx t a b) E=o:=by subst J;dsimp[zIL,eIf,h]
def x_ixO(h:E[i]?=some (.w ds))(J:dE fs b E=.ok (.v (.int k),E))(M:atI ds k=some d):dE fs (.ixO i b) E=.ok (.v d,E):=by
 dsimp[zEx,zHv,h,Y4,Bool.false_eq_true,if_false,J,ixS,M]
def zIa(J:dT fs a E=.ok (true,E1))(Y:dT fs b E1=o):dT fs (.tAnd a b) E=o:=by subst Y;dsimp[zEz,jc,J]
def t_and0(J:dT fs a E=.ok (false,E1)):dT fs (.tAnd a b) E=.ok (false,E1):=by dsimp[zEz,jc,J]
def i_R2(J:dA fs a E=.ok ([r1,r2],E1))(Y:r1.d=.int i)(c:r2.d=.int j)(hi:-1000000<=i/\i<=1000000)(l:-1000000<=j/\j<=1000000):dI fs (.iR2 a) E=.ok (zG i (j-i).toNat,E1):=by
 dsimp[rI_iR2,iR2,J,Y,c];rw[if_pos ⟨by lia,by lia,by lia,by lia⟩]
def s_app(P:E[i]?=some (.w ds0))(J:dE fs a E=.ok (r,E1))(Y:E1[i]?=some (.w ds))(c:ds.length<cap)(Q:E1.set i (.w (ds++[r.d]))=E2):dS fs (.sApp i a) E=.ok (.nx,E2):=by
 subst Q;dsimp[JW,sApp,P,Slot.list?,J,Y,Slot.put];rw[if_pos c]
end
def put_ok(r:R)(h:E[i]?=some s)(T:jw s=true):J9 i r E=.ok (E.set i r.slot):=by
 dsimp[J9,h];cases s<;>first|rfl|(cases T)
def zAf(h:E[i]?=some s)(T:jw s=true)(e:E.set i r.slot=E1):J9 i r E=.ok E1:=by
 rw[put_ok r h T,e]
def ne_int(x y:Int):neG (.int x) (.int y)=some (.v (.bl (!decide (x=y)))):=by simp[neG,neF]
def eq_int(x y:Int):eqG (.int x) (.int y)=some (.v (.bl (decide (x=y)))):=by simp[eqG,eqF]
def eq_str(t:Str):eqG (.str t) (.str t)=some (.v (.bl true)):=by simp[eqG,eqF]
def ne_str(t:Str):neG (.str t) (.str t)=some (.v (.bl false)):=by simp[neG,neF]
def QM(a b:Ls D)(h:a.length+b.length<=100000):Yt (.l a) (.l b)=some (.w (a++b)):=by
 dsimp[Yt];rw[if_pos (by dsimp[cap];lia)]
def add_tup(a b:Ls D)(h:a.length+b.length<=100000):Yt (.t a) (.t b)=some (.v (.t (a++b))):=by
 dsimp[Yt];rw[if_pos (by dsimp[cap];lia)]
def zFJ(x:D)(k:Nat):(replicate k [x]).flatten=replicate k x:=by
 induction k with
 |zero=>rfl|succ k u=>rw[replicate_succ,flatten_cons,u,replicate_succ];rfl
def zHG(d:D)(n:Nat)(h:n<=1000):YU (.l [d]) (.int n)=some (.w (replicate n d)):=by
 dsimp[YU,J8];rw[if_pos ⟨by lia,by lia,by dsimp[List.length_singleton,Int.toNat_natCast,cap];lia⟩,Int.toNat_natCast,zFJ]
def zHH(d:D)(n:Nat)(h:n<=1000):J8 (.t [d]) (.int n)=some (.v (.t (replicate n d))):=by
 dsimp[J8];rw[if_pos ⟨by lia,by lia,by dsimp[List.length_singleton,Int.toNat_natCast,cap];lia⟩,Int.toNat_natCast,zFJ]
def zBS(e:J8 x y=some r):YU x y=some r:=by dsimp[YU,e]
def zCR(d:D)(n:Nat)(h:n<=1000):YU (.t [d]) (.int n)=some (.v (.t (replicate n d))):=by
 exact zBS (zHH d n h)
def at_nat{ds:Ls D}{k:Nat}{d:D}(h:ds[k]?=some d):atI ds (k:Int)=some d:=by
 obtain⟨V,e⟩:=qG.mp h;have:(k:Int)<ds.length:=by lia
 simp[atI,ixN,this,h]
def atI_end(ds:Ls D)(d:D):atI (ds++[d]) (-1)=some d:=by
 have J:¬(0:Int)<=-1:=by decide
 have h2:-(((ds++[d]).length:Nat):Int)<=-1:=by simp;lia
 have Q:(-1+(((ds++[d]).length:Nat):Int)).toNat=ds.length:=by simp;lia
 unfold atI ixN;rw[if_neg J,if_pos h2,Q];simp
def zFK(ds:Ls D)(i:Int):ixD (.t ds) (.int i)=(atI ds i).map .v:=rfl
theorem J2(f:D->Bool):∀G:Ls D,wd (G.map λd=>D.bl (f d))=some (G.map f)
 | []=>rfl|d::G=>by dsimp[map_cons,wd,J2 f G];rfl
theorem all_map(f:D->Bool)(ds:Ls D):(ds.map f).all id=ds.all f:=by simp[List.all_map]
def zFL{f:D->Bool}{ds:Ls D}{b:Bool}(h:ds.all f=b):allD [.l (ds.map λd=>D.bl (f d))]=some (.v (.bl b)):=by
 subst h;simp[allD,J2,all_map]
def zHI(ds:Ls D)(k:Nat)(h:k<=ds.length):Zz ds (some (k:Int)) none=ds.drop k:=by
 unfold Zz;rw[HT.sIx_nat];dsimp[HT.sIx];rw[show min k ds.length=k by lia,take_of_length_le (by simp)]
mutual
theorem QN:∀(n:Nat) (d:D),eqb n d=true->deq d d=true
 |n,.non,_=>by simp[deq,eqV,flV]|n,.bl b,_=>by simp[deq,eqV,flV]|n,.int i,_=>by simp[deq,eqV,flV]|n,.str x,_=>by simp[deq,eqV,flV]|n+1,.t ds,h=>by dsimp[deq];exact deqs_refl n ds (all_eq_true.mp h)|n+1,.l ds,h=>by dsimp[deq];exact deqs_refl n ds (all_eq_true.mp h)|0,.t ds,h=>by cases h|0,.l ds,h=>by cases h|0,.fn _,h=>by cases h|0,.dic,h=>by cases h|0,.exn _ _,h=>by cases h|n+1,.fn _,h=>by cases h|n+1,.dic,h=>by cases h|n+1,.exn _ _,h=>by cases h|0,.m _ _,h=>by cases h|n+1,.m _ _,h=>by cases h
theorem deqs_refl:∀(n:Nat) (G:Ls D),(∀d∈G,eqb n d=true)->deqs G G=true
 |n,[],_=>by simp[deqs]
 |n,d::G,h=>by
  dsimp[deqs,Bool.and_eq_true];exact⟨QN n d (h d qE),deqs_refl n G λe c=>h e (qD _ c)⟩
end
def N(l:Ls Nat):Ls D:=l.map λn:Nat=>D.int (n:Int)
def Yp(l:Ls Nat):(N l).length=l.length:=by simp[N]
def zFM(h:d∈N l):∃n∈l,d=.int (n:Nat):=by
 obtain⟨n,K,rfl⟩:=mem_map.mp h;exact⟨n,K,rfl⟩
def N_get{l:Ls Nat}{k n:Nat}(h:l[k]?=some n):(N l)[k]?=some (.int (n:Nat)):=by simp[N,h]
def N_app(a b:Ls Nat):N (a++b)=N a++N b:=by simp[N]
def ints_N(n:Nat):zG 0 n=N (List.range n):=by
 have x:∀n k:Nat,zG (k:Int) n=N (List.range' k n):=by
  intro n
  induction n with
  |zero=>intro k;rfl
  |succ n u =>
   intro k;have:=u (k+1);show D.int (k:Int)::zG ((k:Int)+1) n=D.int (k:Int)::N (List.range' (k+1) n);rw[<- this];simp
 rw[List.range_eq_range'];exact x n 0
section
variable{fs:Ls FI}{E E1 E2 E3:zS}
def x_vA(T:s=.w ds\/s=.v (.l ds))(h:E[i]?=some s)(h':E.set i (.v (.l ds))=E1):dE fs (.x i) E=.ok (.v (.l ds),E1):=by
 rcases T with rfl|rfl
 ·exact vn h h'
 ·rw[zA h]
  have:E.set i (.v (.l ds))=E:=by
   obtain⟨R,e⟩:=qG.mp h;rw[<- e,List.set_getElem_self]
  rw[<- h',this]
def zIb(J:dI fs it E=.ok (ds,E1))(Q:Z3 tg.m (dB fs b) ds E1=.ok p):dS fs (.sForI it tg b) E=.ok p:=by
 dsimp[zG5,zEe,J,sForI,Q]
def i_E{as:_}(J:dA fs as E=.ok ([r],E1))(Y:seqD t r.d=some ds):dI fs (.iE t as) E=.ok (zDK 0 ds,E1):=by
 dsimp[rI_iE,iE,J,Y]
end
def eq_lst(ds:Ls D)(h:eqb 20 (.l ds)=true):eqG (.l ds) (.l ds)=some (.v (.bl true)):=by
 have e:eqF (.l ds) (.l ds)=none:=rfl;dsimp[eqG,e,zGg];rw[if_pos ⟨h,h⟩,QN 20 _ h];rfl
def ne_lst(ds:Ls D)(h:eqb 20 (.l ds)=true):neG (.l ds) (.l ds)=some (.v (.bl false)):=by
 have e:neF (.l ds) (.l ds)=none:=rfl;dsimp[neG,e,zGg];rw[if_pos ⟨h,h⟩,QN 20 _ h];rfl
section
variable{fs:Ls FI}{E E1 E2 E3 E4 E5 E6:zS}
def t_bor(h:E[i]?=some (.w ds))(Z:(E.set i .e).all zIE=true)(J:E.set i (.v (.l ds))=E1)(Y:dT fs t E1=.ok (b,E1)):dT fs (.tBor i t) E=.ok (b,E):=by
 subst J;dsimp[rT_tBor,zEd,h,Z,if_true,Y]
end
section
variable{fs:Ls FI}{E E1 E2 E3 E4 E5 E6:zS}
def x_compI(hi:dI fs it E=.ok (ds,E1))(o:YE E1 caps=.ok ars)(c:zJ ars E1=.ok (ss,E2))
  (h:∀(i:Nat) (d:D),ds[i]?=some d->∃r,dE fs el (.v d::ss)=.ok (r,.v d::ss)/\rs[i]?=some r.d) (hn:rs.length=ds.length) (S:ds.length<=cap) (Z:∀x:DV.Slot,zF ars ((zt (.e::ss) (x::ss)).drop 1) E1 E2=.ok E1):dE fs (.comp 1 xs ys caps it (.n 0) .tTr el) E=.ok (.w rs,E1):=by
 obtain⟨a,E',W,P,x,n,_⟩:=zAO (tg:=gN 0) (tt:=jq) (el:=dE fs el) (λk E L=>L=rs.take k/\∃x,E=x::ss/\jw x=true) ds 0 (.e::ss) [] ⟨rfl,.e,rfl,rfl⟩ (by exists S) (λi d q E L ⟨C,x,G,M⟩ _=>by
  rw[zero_add]at C ⊢;obtain⟨r,e,g⟩:=h i d q;refine⟨.v d::ss,.v d::ss,r,.v d::ss,?_,rfl,e,?_,.v d,rfl,rfl⟩
  ·subst G;cases x<;>first|rfl|(cases M)
  ·rw[C,take_add_one,g];rfl)
 rw[zero_add,<- hn,take_length]at P;subst P n;dsimp[G3];refine zBD ?_;have j:Q1 (gN 0) jq (dE fs el) ds (replicate 1 .e++ss) []=.ok (a,x::ss):=W;have z:zF ars ((zt (replicate 1 .e++ss) (x::ss)).drop 1) E1 E2=.ok E1:=Z x;dsimp[zA2,Jj,hi,o,c,Tg.m,zCC,j,z]
end
theorem zAg(I:Nat->zS->Prop)(p:Nat->Bool)(r:Nat->R):∀(G:Ls D) (k:Nat) (E:zS),I k E ->
  (∀i d,G[i]?=some d->∀E,I (k+i) E->∃E1 E2,tg d E=.ok E1/\((p (k+i)=true/\body E1=.ok (.ret (r (k+i)),E2))\/(p (k+i)=false/\body E1=.ok (.nx,E2)/\I (k+i+1) E2))) ->
  (∃i E',i<G.length/\p (k+i)=true/\(∀j,j<i->p (k+j)=false)/\DV.Z3 tg body G E=.ok (.ret (r (k+i)),E'))\/((∀i,i<G.length->p (k+i)=false)/\∃E',DV.Z3 tg body G E=.ok (.nx,E')/\I (k+G.length) E')
 | [],k,E,h,step=>.inr ⟨λi a=>absurd a (not_lt_zero i),E,rfl,h⟩
 |d::G,k,E,h,step=>by
  obtain⟨E1,E2,J,h2|⟨h2,Q,h4⟩⟩:=step 0 d rfl E h
  ·exact .inl ⟨0,E2,by simp,h2.1,λj l=>absurd l (not_lt_zero j),by dsimp[DV.Z3,J,h2.2]⟩
  ·have u:=zAg I p r G (k+1) E2 h4 λi T e E h=>by
    have:=step (i+1) T (by exists e) E (by rw[show k+(i+1)=k+1+i by lia];exact h);rw[show k+(i+1)=k+1+i by lia]at this;exact this
   rcases u with⟨i,E',a,K,S,W⟩|⟨K,E',S,W⟩
   ·refine .inl ⟨i+1,E',by simp;lia,by rw[show k+(i+1)=k+1+i by lia];exact K,λj l=>?_,?_⟩
    ·cases j with
     |zero=>exact h2|succ j=>rw[show k+(j+1)=k+1+j by lia];exact S j (by lia)
    ·rw[show k+(i+1)=k+1+i by lia]
     dsimp[DV.Z3,J,Q];exact W
   ·refine .inr ⟨λj l=>?_,E',?_,?_⟩
    ·cases j with
     |zero=>exact h2|succ j=>rw[show k+(j+1)=k+1+j by lia];exact K j (by simp at l;lia)
    ·dsimp[DV.Z3,J,Q];exact S
    ·rw[length_cons,show k+(G.length+1)=k+1+G.length by lia];exact W
def ne_tups(J:∀d∈a,eqb 19 d=true)(Y:∀d∈b,eqb 19 d=true):neG (.t a) (.t b)=some (.v (.bl (!deqs a b))):=by
 have e:neF (.t a) (.t b)=none:=rfl;dsimp[neG,e,zGg];rw[if_pos ⟨all_eq_true.mpr J,all_eq_true.mpr Y⟩];rfl
section
variable{fs:Ls FI}{E E1:zS}
theorem zIc{el:_}{d:D}{V:Ls DV.Slot}(g:D->D):∀(E:Ls D) (R:DV.Slot) (L:Ls D),jw R=true->L.length+E.length<=cap->(∀e∈E,∃r,dE fs el (.v d::.v e::V)=.ok (r,.v d::.v e::V)/\r.d=g e) ->
  ∃v,jw v=true/\wf (gN 1) jq (ma1 (dE fs el)) E (.v d::R::V) L=.ok (L++E.map g,.v d::v::V)
 | [],R,L,T,S,h=>⟨R,T,by simp[wf]⟩
 |e::E,R,L,T,S,h=>by
  obtain⟨r,J,h2⟩:=h e qE;have I:gN 1 e (.v d::R::V)=.ok (.v d::.v e::V):=by cases R<;>first|rfl|(cases T)
  obtain⟨v,ht,f⟩:=zIc g E (.v e) (L++[r.d]) rfl (by simp at S ⊢;lia) λx M=>h x (qD _ M)
  refine⟨v,ht,?_⟩;have hl:L.length<cap:=by simp at S;lia
  dsimp[wf,I,jq,ma1,J];rw[if_pos hl];dsimp;rw[f,h2];simp
end
end DV
namespace TM
open PySem L2 DV PyProof.Rows
theorem GD{f:Nat->Ls Int}:∀(k i:Nat),i<=k->HT.lexLt (f i) (f (argBest (λi j=>HT.lexLt (f i) (f j)) k))=false
 |0,i,h=>by
  have:i=0:=by lia
  subst this;exact Gz _
 |k+1,i,h=>by
  dsimp[argBest];have u:=GD (f:=f) k;by_cases c:HT.lexLt (f (k+1)) (f (argBest (λi j=>HT.lexLt (f i) (f j)) k))=true
  ·rw[if_pos c]
   by_cases e:i=k+1
   ·subst e;exact Gz _
   ·have J:=u i (by lia)
    cases h2:HT.lexLt (f i) (f (k+1))with
    |false=>rfl
    |true =>
     have:=vM _ _ _ h2 c;rw[J]at this;cases this
  ·rw[if_neg c]
   by_cases e:i=k+1
   ·subst e;exists c
   ·exact u i (by lia)
def R1(l:Ls Nat):Ls Nat:=l.drop 1++l.take 1
def it(rs:Ls Nat):Nat->Ls Nat
 |0=>rs|t+1=>R1 (it rs t)
theorem GE(rs:Ls Nat):∀t,t<=rs.length->it rs t=rs.drop t++rs.take t
 |0,_=>by simp[it]
 |t+1,h=>by
  have ht:t<rs.length:=by lia
  dsimp[it,GE rs t (by lia),R1];have e:rs.take (t+1)=rs.take t++[rs[t]]:=by rw[take_add_one,getElem?_eq_getElem ht];rfl
  have P:rs.drop t=rs[t]::rs.drop (t+1):=drop_eq_getElem_cons ht;rw[e,P];dsimp[cons_append,List.drop_succ_cons,drop_zero,List.take_succ_cons,List.take_zero,append_assoc]
theorem zCS(rs:Ls Nat):∀t,(it rs t).length=rs.length
 |0=>rfl
 |t+1=>by
  have:=zCS rs t;dsimp[it,R1,length_append,length_drop,length_take];lia
theorem zId(rs:Ls Nat):∀t x,x∈it rs t->x∈rs
 |0,x,h=>h
 |t+1,x,h=>by
  dsimp[it,R1]at h;refine zId rs t x ?_;rcases mem_append.mp h with h|h
  ·exact List.mem_of_mem_drop h
  ·exact List.mem_of_mem_take h
def mT(rs:Ls Nat):Nat:=max rs.length 1
def Zj(rs:Ls Nat):it rs (mT rs)=rs:=by
 unfold mT;by_cases h:rs.length=0
 ·have:rs=[]:=List.length_eq_zero_iff.mp h
  subst this;rfl
 ·rw[show max rs.length 1=rs.length by lia,GE rs _ (le_refl _)];simp
theorem zFN(rs:Ls Nat)(p:Nat)(L:it rs p=rs):∀u,it rs (p+u)=it rs u
 |0=>L
 |u+1=>by
  have:it rs (p+(u+1))=R1 (it rs (p+u)):=rfl;rw[this,zFN rs p L u];rfl
def zCT(rs:Ls Nat)(p:Nat)(P:0<p)(L:it rs p=rs):∀t,∃u,u<p/\u<=t/\it rs u=it rs t:=by
 intro t
 induction t using Nat.strongRecOn with
 |_ t a =>
  by_cases h:t<p
  ·exact⟨t,h,le_refl _,rfl⟩
  ·obtain⟨u,J,h2,Q⟩:=a (t-p) (by lia)
   refine⟨u,J,by lia,?_⟩;rw[Q];have:=zFN rs p L (t-p);rw[show p+(t-p)=t by lia]at this;exact this.symm
def zs(l:Ls Nat):Ls Int:=l.map λ(n:Nat)=>(n:Int)
theorem zIe:∀{a b:Ls Nat},zs a=zs b->a=b
 | [],[],_=>rfl| [],_::_,h=>by cases h|_::_,[],h=>by cases h
 |x::a,y::b,h=>by
  dsimp[zs,map_cons,List.cons.injEq]at h;have e:x=y:=by lia
  rw[e,zIe h.2]
def tD_zs(l:Ls Nat):tD (zs l)=.t (N l):=by
 dsimp[tD,zs,N,map_map];rfl
end TM
namespace KD
open PySem L2 DV SM TM RM
abbrev KP:=Ls Nat×Nat
def gk(m:Nat)(p:KP):Ls KP:=if p.1=[]then(List.range m).map λt=>([t],1)
 else(p.1++[p.1.getD (p.1.length-p.2) 0],p.2)::((List.range (m-(p.1.getD (p.1.length-p.2) 0+1))).map λt=>(p.1++[p.1.getD (p.1.length-p.2) 0+1+t],p.1.length+1))
def okK(k:Nat)(p:KP):Bool:=!decide (p.1.take (k+1)=replicate (k+1) 0)
def ks(m k:Nat):Nat->Ls KP
 |0=>[([],1)]|i+1=>((ks m k i).flatMap (gk m)).filter (okK k)
def kl(m n k:Nat):Ls (Ls Nat):=((ks m k n).filter λp=>decide (n%p.2=0)).map (·.1)
def kept(m n k t:Nat):Nat:=SM.Rp 1 (m-1) (n.gcd t) (min k (n.gcd t-1))+if n<=k then 1 else 0
def km(m n k:Nat):Nat:=((List.range n).map (kept m n k)).sum/n
def trs(r:Ls Nat):Ls (Ls Int):=(List.range r.length).map λt=>zs (it r t)
def many(r:Ls Nat):Nat:=(dd (trs r)).length
def least(r:Ls Nat):Bool:=decide (it r (yl ((List.range (mT r)).map λt=>zs (it r t)))=r)
def good(m n k:Nat)(r:Ls Nat):Bool:=decide (r.length=n)&&r.all (λx=>decide (x<m))&&least r&&decide (best 0 (WK (rle (zs r)))<=k)
def kOk(m n k:Nat):Bool:=decide (150<km m n k)||((kl m n k).all (good m n k)&&decide (((kl m n k).map many).sum=SM.Rp 1 (m-1) n k))
def all_ok:((List.range 2).all λm=>(List.range 8).all λn=>(List.range 9).all λk=>kOk (m+2) (n+1) k)=true:=by left
def ok_at{m n k:Nat}(Y:2<=m/\m<=3)(hn:1<=n/\n<=8)(V:k<=8):kOk m n k=true:=by
 have:=all_eq_true.mp (all_eq_true.mp (all_eq_true.mp all_ok (m-2) (by simp;lia)) (n-1) (by simp;lia)) k (by simp;lia)
 rwa [show m-2+2=m by lia,show n-1+1=n by lia]at this
structure KI(m i:Nat)(p:KP):Prop where
 len:p.1.length=i
 low:∀x∈p.1,x<m
 pos:1<=p.2
 part:0<i->p.2<=i
def zBT{m i:Nat}{p:KP}(h:KI m i p)(P:0<i):p.1.length-p.2<p.1.length/\p.1.getD (p.1.length-p.2) 0<m:=by
 have hl:=h.len;have L:=h.pos;have I:p.1.length-p.2<p.1.length:=by lia
 refine⟨I,h.low _ ?_⟩;rw[getD_eq_getElem?_getD,getElem?_eq_getElem I];exact getElem_mem I
def gk_len{m i:Nat}{p:KP}(h:KI m i p):(gk m p).length<=m:=by
 unfold gk;split
 ·simp
 ·rename_i V
  have P:0<i:=by rw[<- h.len];exact List.length_pos_iff.mpr V
  have:=(zBT h P).2;dsimp[length_cons,length_map,length_range];lia
def gk_ok{m i:Nat}{p q:KP}(h:KI m i p)(W:q∈gk m p):KI m (i+1) q:=by
 have hl:=h.len;unfold gk at W;split at W
 ·rename_i c
  rw[c]at hl;obtain⟨t,ht,rfl⟩:=mem_map.mp W;have:=mem_range.mp ht;refine⟨by simp at hl ⊢;lia,λx M=>?_,le_refl _,λ_=>by show 1<=i+1;lia⟩;rw[mem_singleton]at M;lia
 ·rename_i V
  have P:0<i:=by rw[<- h.len];exact List.length_pos_iff.mpr V
  have T:=(zBT h P).2;have L:=h.part P;have J:=h.pos;rcases mem_cons.mp W with rfl|W
  ·refine⟨by simp;lia,λx M=>?_,J,λ_=>by show p.2<=i+1;lia⟩
   rcases mem_append.mp M with M|M
   ·exact h.low x M
   ·rw[mem_singleton]at M;rw[M];exact T
  ·obtain⟨t,ht,rfl⟩:=mem_map.mp W
   have ht:=mem_range.mp ht;refine⟨by simp;lia,λx M=>?_,by show 1<=p.1.length+1;lia,λ_=>by show p.1.length+1<=i+1;lia⟩;rcases mem_append.mp M with M|M
   ·exact h.low x M
   ·rw[mem_singleton]at M;rw[M];lia
theorem zFO(m k:Nat):∀i,∀p∈ks m k i,KI m i p
 |0,p,h=>by
  rw[ks,mem_singleton]at h;subst h;exact⟨rfl,(λx M=>by cases M),le_refl _,λh=>absurd h (lt_irrefl _)⟩
 |i+1,p,h=>by
  obtain⟨J,_⟩:=mem_filter.mp h;obtain⟨q,W,h2⟩:=List.mem_flatMap.mp J;exact gk_ok (zFO m k i q W) h2
theorem QO{m i:Nat}:∀l:Ls KP,(∀p∈l,KI m i p)->(l.flatMap (gk m)).length<=l.length*m
 | [],_=>by simp
 |p::l,h=>by
  have:=QO l λq W=>h q (qD _ W)
  have:=gk_len (h p qE);rw[List.flatMap_cons,length_append,length_cons,Nat.succ_mul];lia
theorem zFP(m k:Nat):∀i,(ks m k i).length<=m^i
 |0=>by simp[ks]
 |i+1=>by
  have J:=QO (ks m k i) (zFO m k i);have h2:=zFP m k i;have Q:((ks m k i).flatMap (gk m)).filter (okK k)=ks m k (i+1):=rfl;rw[<- Q,pow_succ];exact le_trans (List.length_filter_le _ _) (le_trans J (Nat.mul_le_mul_right _ h2))
end KD
namespace My
open PySem L2 DV SM
def isFn:D->Bool
 | .fn _=>true| .exn _ _=>true| .m _ _=>true|_=>false
def isW:D->Bool
 | .int _=>true|_=>false
def vw(lo hi:Int):D->Bool
 | .int i=>decide (lo<=i)&&decide (i<=hi)|_=>false
def okD:D->Prop
 | .t G=>G.length<=cap/\∀d∈G,isFn d=false| .fn _=>False| .exn _ _=>False| .m _ _=>False|_=>True
def zFr:D->Bool
 | .t G=>decide (2<=G.length)&&decide (G.length<=3)&&G.all (vw 1 9)|_=>false
def zC8(d:D)(h:isFn d=false):Zd [.v d]=.ok (.v (.bl (isW d)),[.e]):=by
 cases d<;>first|rfl|(cases h)
def jS(d:D)(lo hi:Int)(h:isFn d=false):zi [.v d,.v (.int lo),.v (.int hi)]=.ok (.v (.bl (vw lo hi d)),[.e,.e,.e]):=by
 have e:=zC8 d h;cases d with
 |int i =>
  simp[zi,yq,jG,fnM,yG,yN,y9,We,zIK,yM,JV,yy,wB,sRet,sIf,Z0,uA,sSet,J9,R.slot,W2,eOr,v5,y2,zY,Ys,eC,zJ,fiF,fiX,R.d,zF,yI,Cp.b,Cp.f,Op2.f,Bi.f,Ty.s,yQ,yP,yc,yd,ye,WQ,jc,jn,tT,wy,eCB,jo,v6,v7,v8,YG,ZS,Tg.m,eqG,eqF,neG,neF,vH,v9,YU,J8,e,isW,vw];by_cases J:lo<=i<;>simp[J,yQ,yP]
 |_=>first|(cases h;done)|simp[zi,yq,jG,fnM,yG,yN,y9,We,zIK,yM,JV,yy,wB,sRet,sIf,Z0,uA,sSet,J9,R.slot,W2,eOr,v5,y2,zY,Ys,eC,zJ,fiF,fiX,R.d,zF,yI,Cp.b,Cp.f,Op2.f,Bi.f,Ty.s,yQ,yP,yc,yd,ye,WQ,jc,jn,tT,wy,eCB,jo,v6,v7,v8,YG,ZS,Tg.m,eqG,eqF,neG,neF,vH,v9,YU,J8,e,isW,vw]
def nxt(s:Int):Int:=((s+7919)%2147483647*((s+7919)%2147483647)+48271*((s+7919)%2147483647)+12345)%2147483629
def zBU(s:Int):Jc [.v (.int s)]=.ok (.v (.int (nxt s)),[.e]):=by
 have J:0<=(s+7919)%2147483647:=Int.emod_nonneg _ (by decide);have h2:(s+7919)%2147483647<2147483647:=Int.emod_lt_of_pos _ (by decide);have Q:-18446744073709551616<(s+7919)%2147483647/\(s+7919)%2147483647<18446744073709551616:=by lia
 simp[Jc,Yn,WE,fnM,yG,yu,jN,yN,zAK,y9,JC,sRet,sIf,Z0,uA,sSet,J9,R.slot,W2,eOr,v5,y2,zY,Ys,eC,zJ,fiF,fiX,R.d,zF,yI,Cp.b,Cp.f,Op2.f,Bi.f,Ty.s,yQ,yP,yc,yd,ye,WQ,jc,jn,tT,wy,eCB,jo,v6,v7,v8,YG,ZS,Tg.m,eqG,eqF,neG,neF,vH,v9,YU,J8,Yt,J8,zHr,zDw,nxt,Q]
def Pen(p:Ls D):Prop:=∃l f s:Int,p=[.int l,.int f,.int s]
def wK(p:Ls D)(L:Pen p)(m:Int)(P:0<m)(J:m.natAbs<Big):∃r p',zO [.p p,.v (.int m)]=.ok (.v (.int r),[.p p',.e])/\0<=r/\r<m/\Pen p':=by
 obtain⟨l,f,s,rfl⟩:=L;by_cases hf:f=1
 ·refine⟨l%m,[.int (l/m),.int f,.int s],?_,Int.emod_nonneg _ (by lia),Int.emod_lt_of_pos _ P,_,_,_,rfl⟩
  simp[zO,Je,Jz,fnM,je,yG,yu,JD,jN,yN,zIM,zAK,y9,JC,j9,zEx,yM,JV,yy,Yj,wB,sRet,sIf,Z0,uA,sSet,J9,R.slot,W2,eOr,v5,y2,zY,Ys,eC,zJ,fiF,fiX,R.d,zF,yI,Cp.b,Cp.f,Op2.f,Bi.f,Ty.s,yQ,yP,yc,yd,ye,WQ,jc,jn,tT,wy,eCB,jo,v6,v7,v8,YG,ZS,Tg.m,eqG,eqF,neG,neF,vH,v9,YU,J8,zHv,Y4,ixS,atI,ixN,eqF,hf,zHr,zCr,zDw,P,J,W4,Slot.list?,Slot.put]
 ·refine⟨nxt (nxt s+7)/64%m,[.int l,.int f,.int (nxt (nxt s+7))],?_,Int.emod_nonneg _ (by lia),Int.emod_lt_of_pos _ P,_,_,_,rfl⟩
  simp[zO,Je,Jz,fnM,je,yG,yu,JD,jN,yN,zIM,zAK,y9,JC,j9,zEx,yM,JV,yy,Yj,wB,sRet,sIf,Z0,uA,sSet,J9,R.slot,W2,eOr,v5,y2,zY,Ys,eC,zJ,fiF,fiX,R.d,zF,yI,Cp.b,Cp.f,Op2.f,Bi.f,Ty.s,yQ,yP,yc,yd,ye,WQ,jc,jn,tT,wy,eCB,jo,v6,v7,v8,YG,ZS,Tg.m,eqG,eqF,neG,neF,vH,v9,YU,J8,zHv,Y4,ixS,atI,ixN,eqF,hf,zHr,zCr,Yt,zDw,P,J,W4,Slot.list?,Slot.put,zBU]
def QP(c:Int):∃p,jI [.v (.int c)]=.ok (.w p,[.e])/\Pen p:=by
 refine⟨[.int (if 0-c > c then 0-c else c),.int (if decide (10^18<=(if 0-c > c then 0-c else c))=true then 1 else 0),.int ((if 0-c > c then 0-c else c)%1000003)],?_,_,_,_,rfl⟩;simp[jI,Jd,YZ,fnM,yG,yu,jN,yN,zAK,y9,JC,j9,wA,vO,yy,wB,wC,sRet,sIf,Z0,uA,sSet,J9,R.slot,W2,eOr,v5,y2,zY,Ys,eC,zJ,fiF,fiX,R.d,zF,yI,Cp.b,Cp.f,Op2.f,Bi.f,Ty.s,yQ,yP,yc,yd,ye,WQ,jc,jn,tT,wy,eCB,jo,v6,v7,v8,YG,ZS,Tg.m,eqG,eqF,neG,neF,vH,v9,YU,J8,v9,zCq,Qw,intF,geD,powD,zHr,zDw,cap]
def uQ(E:Ls Int):∃c,y0 [.v (.l (E.map .int)),.v (.int 0)]=.ok (.v (.int c),[.e,.e]):=by
 cases E with
 |nil=>exact⟨0,rfl⟩
 |cons n E => 
  refine⟨n,?_⟩;have:(0:Int)<E.length+1:=by lia
  simp[y0,wm,Jy,fnM,je,yG,yu,JD,yN,zAK,y9,j9,wA,WT,vO,yy,Yj,wB,wC,sRet,sIf,Z0,uA,sSet,J9,R.slot,W2,eOr,v5,y2,zY,Ys,eC,zJ,fiF,fiX,R.d,zF,yI,Cp.b,Cp.f,Op2.f,Bi.f,Ty.s,yQ,yP,yc,yd,ye,WQ,jc,jn,tT,wy,eCB,jo,v6,v7,v8,YG,ZS,Tg.m,eqG,eqF,neG,neF,vH,v9,YU,J8,zCs,ltD,Qw,ixD,atI,ixN,this]
end My
namespace My
open PySem L2 DV
end My
namespace My
open PySem L2 DV SM
abbrev O1:Ls DV.Slot:=[.e]
abbrev O2:Ls DV.Slot:=[.e,.e]
abbrev O3:Ls DV.Slot:=[.e,.e,.e]
abbrev O4:Ls DV.Slot:=[.e,.e,.e,.e]
def y6(a b:Nat):Yt (.int a) (.int b)=some (.v (.int ((a+b:Nat):Int))):=by simp[Yt]
def GF{a b:Nat}(h:b<=a):zCq (.int (a:Int)) (.int (b:Int))=some (.v (.int ((a-b:Nat):Int))):=by
 dsimp[zCq,Qw];rw[Int.ofNat_sub h]
def mul_sm0{i j:Int}(P:0<=i)(h:i<=100000):J8 (.int i) (.int j)=some (.v (.int (i*j))):=by
 dsimp[J8];exact if_pos (.inl (.inl ⟨by lia,by lia⟩))
def mul_sm1{i j:Int}(P:0<=j)(h:j<=100000):J8 (.int i) (.int j)=some (.v (.int (i*j))):=by
 dsimp[J8];exact if_pos (.inl (.inr ⟨by lia,by lia⟩))
def J3(a b:Nat)(h:a<=100000):YU (.int a) (.int b)=some (.v (.int ((a*b:Nat):Int))):=by
 have:=zBS (mul_sm0 (i:=(a:Int)) (j:=(b:Int)) (by lia) (by lia));rw[this,Int.natCast_mul]
def zC9(a b:Nat)(h:b<=100000):YU (.int a) (.int b)=some (.v (.int ((a*b:Nat):Int))):=by
 have:=zBS (mul_sm1 (i:=(a:Int)) (j:=(b:Int)) (by lia) (by lia));rw[this,Int.natCast_mul]
def GG(a b:Nat):gtD (.int (a:Int)) (.int (b:Int))=some (.v (.bl (decide (b<a)))):=by
 show some (R.v (D.bl (decide ((b:Int)<a))))=_
 congr 3;simp
def zIf(a b:Nat):leD (.int (a:Int)) (.int (b:Int))=some (.v (.bl (decide (a<=b)))):=by
 show some (R.v (D.bl (decide ((a:Int)<=b))))=_
 congr 3;simp
def zAh(a b:Nat):eqG (.int (a:Int)) (.int (b:Int))=some (.v (.bl (decide (a=b)))):=by
 rw[eq_int];congr 3;simp[Int.natCast_inj]
def ne_nat(a b:Nat):neG (.int (a:Int)) (.int (b:Int))=some (.v (.bl (!decide (a=b)))):=by
 rw[ne_int];congr 4;simp[Int.natCast_inj]
def ZR(l:Ls Int):wg (l.map D.int)=some l:=by
 induction l with
 |nil=>rfl|cons a l u=>dsimp[map_cons,wg,u];rfl
def zFQ(l:Ls Nat):wg (N l)=some (l.map λ(n:Nat)=>(n:Int)):=by
 have:N l=(l.map λ(n:Nat)=>(n:Int)).map D.int:=by simp[N]
 rw[this,ZR]
theorem QR:∀l:Ls Nat,(l.map λ(n:Nat)=>(n:Int)).sum=((l.sum:Nat):Int)
 | []=>rfl|a::l=>by simp[QR l]
def sum_N(l:Ls Nat):zFp [.l (N l)]=some (.v (.int (l.sum:Nat))):=by
 dsimp[zFp,zFQ,Option.map_some,QR]
def zHJ(ds:Ls D)(h:0<ds.length):Zz ds none (some (-1))=ds.dropLast:=by
 unfold Zz;have J:HT.sIx ds.length 0 none=0:=rfl;have h2:HT.sIx ds.length ds.length (some (-1))=ds.length-1:=by
  simp[HT.sIx];lia
 rw[J,h2];simp[List.dropLast_eq_take]
def cut_N(e:Ls Nat)(h:0<e.length):slD (.l (N e)) none (some (-1))=some (.w (N e.dropLast)):=by
 have:=zHJ (N e) (by rw[Yp];exact h);dsimp[slD,this];simp[N,List.map_dropLast]
def zd(d:D)(lo hi:Int)(h:isFn d=false)(Z:vw lo hi d=true):zH [.v d,.v (.int lo),.v (.int hi)]=.ok (.v .non,O3):=by
 have e:=jS d lo hi h;rw[Z]at e;exact zIX (zW (jf (vo (t_E (zk rfl (zA rfl) (zA rfl) (zA rfl) e)) rfl) jg)) rfl
def zAi(d:D)(h:isFn d=false)(Z:vw 2 3 d=true):yB [.v d]=.ok (.v .non,O1) :=
 zIX (zW (yF (zk rfl (zA rfl) vm vm (zd d 2 3 h Z)))) rfl
abbrev stepB:Bx:=(.o (.sSet 4 (.bin .add (.l (.cons (.bin .mul (.x 1) (.cB .sum (.cons (.x 4) .nil))) .nil)) (.comp 1 ["end"] ["weight"] [0] (.iL (.sl (.x 4) .oN (.oS (.neg (.c (.int 1)))))) (.n 0) .tTr (.bin .mul (.x 1) (.x 0))))))
def e_times{fs:Ls FI}{E E1:zS}{Q g:Ls Str}{a v:Nat}{w:Nat}{l:Ls Nat}{s:DV.Slot}(i:w<=1000)(c:0<l.length/\l.length<=1000)(T:s=.w (N l)\/s=.v (.l (N l)))(h:E[v]?=some s)(h':E.set v (.v (.l (N l)))=E1)(P:E1[a]?=some (.v (.int (w:Nat)))) :
  dE fs (.comp 1 Q g [a] (.iL (.sl (.x v) .oN (.oS (.neg (.c (.int 1)))))) (.n 0) .tTr (.bin .mul (.x 1) (.x 0))) E=.ok (.w (N (l.dropLast.map (w*·))),E1):=by
 refine wq (vs:=[.int (w:Nat)]) (λd=>match d with | .int e=>.int (w*e)|_=>.non) (i_L (zC5 (x_vA T h h') o_N (o_S (x_neg x_c)) (cut_N l c.1)) rfl) (by simp[YE,P]) (λd C=>?_) ?_ ?_
 ·obtain⟨x,_,rfl⟩:=zFM C
  exact⟨_,zb (zA rfl) (zA rfl) (J3 w x (by lia)),by simp[R.d]⟩
 ·rw[Yp];simp[cap];lia
 ·dsimp[N,map_map]
  refine map_congr_left λx _=>?_
  simp
def InW(w o n k i:Nat)(E:zS):Prop:=∃p K,E=[.v (.int w),.v (.int o),.v (.int n),.v (.int k),p,K]/\(p=.w (N (ends w o k i))\/p=.v (.l (N (ends w o k i))))/\jw K=true
def zFR(l:Ls D):Ls Nat:=l.map λd=>match d with | .int i=>i.toNat|_=>0
def zFS(l:Ls Nat):zFR (N l)=l:=by
 dsimp[zFR,N,map_map]
 conv=>rhs;rw[<- List.map_id l]
 apply map_congr_left;intro n _;simp
end My
namespace SM
end SM
namespace My
open PySem L2 DV SM
structure Ok(m n k:Nat):Prop where
 hm:2<=m/\m<=3
 hn:n<=40
 hk:k<=40
def zIg{n lo hi:Nat}(J:lo<=n)(h:n<=hi):vw (lo:Int) (hi:Int) (.int n)=true:=by
 simp[vw];lia
abbrev nm:D:=.t [.str "number"]
def more(m:Nat)(r:Ls Nat):Ls (Ls Nat):=(List.range m).map λx=>r++[x]
section
variable{fs:Ls FI}{E E1 E2 E3 E4:zS}
def s_while{t b:_}{p:Fl×zS}(h:DV.whN (dT fs t) (dB fs b) 1000000 E=.ok p):dS fs (.sWhile t b) E=.ok p:=by
 dsimp[zE2];exact G2 (by dsimp[DV.sWhile];exact h)
def s_aug{i:Nat}{o:Op2}{a:_}{x y z:Int}(h:E[i]?=some (.v (.int x)))(J:dE fs a E=.ok (.v (.int y),E))(j:o.aug x y=some z)(Y:E.set i (.v (.int z))=E1):dS fs (.sAug i o a) E=.ok (.nx,E1):=by
 subst Y;dsimp[rS_sAug,DV.sAug,h,J,R.d,j,if_true]
end
def vx{n:Nat}(h:n<2^800):n<Big:=lt_trans h (by left)
def mul_big{i j:Int}(J:i.natAbs<2^800)(Y:j.natAbs<2^800):YU (.int i) (.int j)=some (.v (.int (i*j))):=by
 unfold YU;have:J8 (.int i) (.int j)=some (.v (.int (i*j))):=by
  dsimp[J8];exact if_pos (.inr ⟨vx J,vx Y⟩)
 rw[this]
def zBV(a b:Nat)(J:a<2^800)(Y:b<2^800):YU (.int a) (.int b)=some (.v (.int ((a*b:Nat):Int))):=by
 rw[mul_big (by exists J) (by exists Y)];simp
def zFT(t:Int):absG [.int t]=some (.v (.int (t.natAbs:Nat))):=by
 have:(if t<0 then -t else t)=((t.natAbs:Nat):Int):=by split<;>lia
 dsimp[absG,this]
def abs_nat(t:Nat):absG [.int t]=some (.v (.int (t:Nat))):=by
 rw[zFT];simp
def zFU(a b:Nat)(h:b≠0):zHr (.int a) (.int b)=some (.v (.int ((a%b:Nat):Int))):=by
 have:(0:Int)<b:=by lia
 dsimp[zHr,zDw];rw[if_pos (decide_eq_true this)];rfl
def QS(a:Int)(b:Nat)(h:0<b)(Y:b<2^800):zCr (.int a) (.int b)=some (.v (.int (a/b))):=by
 dsimp[zCr,zDw];rw[if_pos (decide_eq_true ⟨by lia,.inr (vx (by exists Y))⟩)]
def gcd_lt{t b:Nat}(P:0<b)(Z:b<2^400):0<t.gcd b/\t.gcd b<2^800:=by
 refine⟨Nat.gcd_pos_of_pos_right _ P,?_⟩;have:=Nat.le_of_dvd P (Nat.gcd_dvd_right t b);exact lt_trans (lt_of_le_of_lt this Z) (by left)
def zCU(b g:Nat):((b:Int)/(g:Int))=((b/g:Nat):Int):=by simp
def nD(l:Ls Nat):Ls D:=(l.map λ(n:Nat)=>(n:Int)).map D.int
def zFV(l:Ls Nat):(nD l).length=l.length:=by simp[nD]
def nD_get{l:Ls Nat}{k x:Nat}(h:l[k]?=some x):(nD l)[k]?=some (.int (x:Nat)):=by simp[nD,h]
def zFW(l:Ls Nat):zFp [.t (nD l)]=some (.v (.int (l.sum:Nat))):=by
 dsimp[zFp,nD,ZR,Option.map_some,QR]
def p27{n:Nat}(h:n<=41):27^n<2^400:=lt_of_le_of_lt (Nat.pow_le_pow_right (by lia) h) (by left)
def zDA{n:Nat}(h:n<2^400):n<2^800:=lt_trans h (by left)
theorem zFX:∀{l:Ls Nat} {x:Nat},x∈l->x<=l.sum
 |a::l,x,h=>by
  rw[sum_cons];rcases mem_cons.mp h with rfl|h
  ·lia
  ·have:=zFX h;lia
def U_lt{w o:Nat}(h:w+o<=27)(k:Nat){n:Nat}(hn:n<=41):U w o k n<2^400 :=
 lt_of_le_of_lt (le_trans (U_le w o k n) (pow_le_pow_left h n)) (p27 hn)
abbrev zIh(a:Ls Nat):D:=.t (nD a)
def die_ok{a:Ls Nat}(h:Die a):okD (zIh a):=⟨by rw[zFV];rcases h.1 with e|e<;>rw[e]<;>simp[cap],λd C=>by
 dsimp[nD,map_map,mem_map]at C;obtain⟨x,_,rfl⟩:=C;rfl⟩
def die_B{a:Ls Nat}(h:Die a):zFr (zIh a)=true:=by
 have hl:2<=a.length/\a.length<=3:=by rcases h.1 with e|e<;>lia
 have c:(nD a).all (vw 1 9)=true:=by
  rw[all_eq_true];intro d C;dsimp[nD,map_map,mem_map]at C;obtain⟨x,M,rfl⟩:=C;have:=h.2 x M;simp[vw];lia
 dsimp[zFr,zFV,c,decide_eq_true hl.1,decide_eq_true hl.2,Bool.and_self]
theorem zAj{c:Nat}:∀{l:Ls Nat},(∀x∈l,1<=x/\x<=c)->l.length<=l.sum/\l.sum<=l.length*c
 | [],_=>by simp
 |a::l,h=>by
  have J:=h a qE;have u:=zAj (l:=l) (λx M=>h x (qD _ M));rw[sum_cons,length_cons,Nat.succ_mul]
  lia
structure DS(die:List Nat)(s:Nat):Prop where
 ok:Die die
 lt:s<die.length
namespace DS
variable{die:Ls Nat}{s:Nat}
def S27(h:DS die s):2<=die.sum/\die.sum<=27:=by
 have:=zAj h.ok.2;rcases h.ok.1 with e|e<;>rw[e]at this<;>lia
def get(h:DS die s):die[s]?=some (die.getD s 0):=by
 rw[getD_eq_getElem?_getD,getElem?_eq_getElem h.lt];rfl
def le(h:DS die s):die.getD s 0<=die.sum:=zFX (mem_of_getElem? h.get)
def wo(h:DS die s):die.getD s 0+(die.sum-die.getD s 0)<=27:=by have:=h.S27;have:=h.le;lia
end DS
def zIi{a:Ls Nat}{s x:Nat}(h:a[s]?=some x):ixD (zIh a) (.int s)=some (.v (.int (x:Nat))):=by
 show(atI (nD a) (s:Int)).map R.v=_
 rw[at_nat (nD_get h)];rfl
def len_die(a:Ls Nat):zCs [zIh a]=some (.v (.int a.length)):=by dsimp[zCs,zFV]
def S_pow{a:Ls Nat}{s:Nat}(h:DS a s){n:Nat}(hn:n<=41):0<a.sum^n/\a.sum^n<2^400 :=
 ⟨Nat.pow_pos (by have:=h.S27;lia),lt_of_le_of_lt (pow_le_pow_left h.S27.2 n) (p27 hn)⟩
def J4{n hi:Nat}(h:n<=hi):vw 0 (hi:Int) (.int n)=true:=by
 simp[vw];lia
def zFY{a b:Nat}(J:a<2^400)(Y:b<2^400):a*b<2^800:=by
 have:2^400*2^400=2^800:=by left
 rw[<- this];exact Nat.mul_lt_mul'' J Y
def zHK{w r:Nat}(h:w<=27)(z:r<=41):w^r<2^400:=lt_of_le_of_lt (pow_le_pow_left h r) (p27 z)
def s27{x:Nat}(h:x<=2000):x<2^400:=lt_of_le_of_lt h (by left)
section
variable{die:Ls Nat}{s:Nat}
abbrev oD(a:Ls Nat)(s:Nat):Nat:=a.sum-a.getD s 0
def i_E{fs:Ls FI}{E E1:zS}{t:Bool}{as:_}{r:R}{ds:Ls D}(J:dA fs as E=.ok ([r],E1))(Y:seqD t r.d=some ds):dI fs (.iE t as) E=.ok (zDK 0 ds,E1):=by
 dsimp[rI_iE,iE,J,Y]
end
end My
namespace My
open PySem L2 DV RM
def rowB:D->Bool
 | .t G=>decide (G.length<=20)&&G.all (vw 0 2)|_=>false
theorem J2(f:D->Bool):∀G:Ls D,wd (G.map λd=>D.bl (f d))=some (G.map f)
 | []=>rfl|d::G=>by dsimp[map_cons,wd,J2 f G];rfl
theorem all_map(f:D->Bool)(ds:Ls D):(ds.map f).all id=ds.all f:=by simp[List.all_map]
def zBW(d:D)(h:isFn d=false):Yl [.v d]=.ok (.v (.bl (vw 0 2 d)),[.e]) :=
 yX (zW (yY (zk rfl (zA rfl) x_c (zb vm x_c rfl) (jS d 0 2 h)))) rfl
def zFL{f:D->Bool}{ds:Ls D}{b:Bool}(h:ds.all f=b):allD [.l (ds.map λd=>D.bl (f d))]=some (.v (.bl b)):=by
 subst h;simp[allD,J2,all_map]
def zDB(d:D)(h:okD d):Zf [.v d]=.ok (.v (.bl (rowB d)),[.e]):=by
 cases d with
 |t G =>
  have v:dT wD (.tNot (.tE (.is .tuple (.x 0)))) [.v (.t G)]=.ok (false,[.v (.t G)]):=vo (t_E (b:=true) rfl) rfl;have z:dE wD (.cB .len (.cons (.x 0) .nil)) [.v (.t G)]=.ok (.v (.int G.length),[.v (.t G)]):=Zg (zE (zA rfl) zT) rfl;by_cases ht:G.length<=20
  ·have u:dT wD (.tE (.cmp .gt (.cB .len (.cons (.x 0) .nil)) (.gl (.int 20)))) [.v (.t G)]=.ok (false,[.v (.t G)]) :=
    t_E (yD z vm (by simp[Cp.f,gtD,Qw,R.d];lia))
   have e:rowB (.t G)=G.all (vw 0 2):=by simp[rowB];lia
   rw[e];exact yX (zN (jf (zCJ v u) jg) (zW (yY (Zg (zE (wq (vs:=[]) (λd=>.bl (vw 0 2 d)) (i_T (zA rfl) rfl) rfl (λd C=>⟨_,zp rfl (zA rfl) (zBW d (h.2 d C)),rfl⟩) h.1 rfl) zT) (zFL rfl))))) rfl
  ·have u:dT wD (.tE (.cmp .gt (.cB .len (.cons (.x 0) .nil)) (.gl (.int 20)))) [.v (.t G)]=.ok (true,[.v (.t G)]) :=
    t_E (yD z vm (by simp[Cp.f,gtD,Qw,R.d];lia))
   have e:rowB (.t G)=false:=by simp[rowB];lia
   rw[e];exact yX (QK (WW (zCJ v u) (zW (yY x_c)))) rfl
 |fn x=>cases h|exn x y=>cases h|m x y=>cases h|_=>rfl
def Row(rs:Ls Int):Prop:=rs.length<=20/\∀r∈rs,0<=r/\r<=2
abbrev YD(rs:Ls Int):D:=.t (rs.map D.int)
def row_ok{rs:Ls Int}(h:Row rs):okD (YD rs):=⟨by simp[cap];have:=h.1;lia,λd C=>by
 obtain⟨r,_,rfl⟩:=mem_map.mp C;rfl⟩
def row_B{rs:Ls Int}(h:Row rs):rowB (YD rs)=true:=by
 dsimp[rowB,Bool.and_eq_true,decide_eq_true_eq,length_map,all_eq_true];refine⟨h.1,λd C=>?_⟩;obtain⟨r,z,rfl⟩:=mem_map.mp C;have:=h.2 r z;simp[vw,this]
def Zk{rs:Ls Int}(h:Row rs):z7 [.v (YD rs)]=.ok (.v .non,[.e]):=by
 have e:=zDB (YD rs) (row_ok h);rw[row_B h]at e;exact zIX (zW (jf (vo (t_E (zp rfl (zA rfl) e)) rfl) jg)) rfl
def jh:Nat->Ls B->Ls D
 |_,[]=>[]|b,(s,n)::r=>.t [.int s,.int b,.int n]::jh (b+n) r
theorem zAk:∀(q:Ls B) (b:Nat) (a:Int) (m:Nat),jh b (q++[(a,m)])=jh b q++[.t [.int a,.int (b+tot q:Nat),.int m]]
 | [],b,a,m=>by simp[jh,tot]
 | (s,n)::q,b,a,m=>by
  dsimp[cons_append,jh,zAk q (b+n) a m];have:b+n+tot q=b+tot ((s,n)::q):=by simp[tot];lia
  rw[this]
theorem WM:∀(q:Ls B) (b:Nat),(jh b q).length=q.length
 | [],_=>rfl| (s,n)::q,b=>by simp[jh,WM q]
def zFZ{rs:Ls Int}{k:Nat}(h:k<rs.length):atI (rs.map D.int) (k:Int)=some (.int rs[k]):=by
 have:(k:Int)<rs.length:=by lia
 simp[atI,ixN,this,h]
def tot_rle(p:Ls Int):tot (rle p)=p.length:=by rw[GC,Zi]
def zFa(p:Ls Int):(rle p).length<=p.length:=by
 induction p with
 |nil=>exact le_refl _
 |cons a p u =>
  show(yx a (rle p)).length<=_
  cases h:rle p with
  |nil=>simp[yx]
  |cons x r =>
   rw[h]at u;obtain⟨b,n⟩:=x;dsimp[yx];split<;>simp at u ⊢<;>lia
def Wh:Bx:=(.o (.sIf (.tOr (.tE (.cmp .eq (.x 3) (.cB .len (.cons (.x 0) .nil)))) (.tE (.cmp .ne (.ix (.x 0) (.x 3)) (.ix (.x 0) (.x 2))))) (.s (.sApp 1 (.t (.cons (.ix (.x 0) (.x 2)) (.cons (.x 2) (.cons (.bin .sub (.x 3) (.x 2)) .nil)))))
  (.o (.sSet 2 (.x 3)))) .bNil))
def RunI(rs:Ls Int)(k:Nat)(E:zS):Prop:=∃(p:Ls Int) (w:DV.Slot),E=[.v (YD rs),.w (jh 0 (rle p)),.v (.int p.length),w]/\jw w=true/\p.length<=20 /\
 ((k<rs.length/\∃a c,rs.take (k+1)=p++replicate (c+1) a/\∀z,p.getLast?=some z->z≠a)\/(k=rs.length/\p=rs))
def zFb{rs:Ls Int}(h:Row rs)(k:Nat)(V:k<rs.length)(E:zS)(x:RunI rs k E):∃E1 E2,gN 3 (.int (1+(k:Int))) E=.ok E1/\dB zj Wh E1=.ok (.nx,E2)/\RunI rs (k+1) E2:=by
 obtain⟨p,w,G,Q,L,S⟩:=x;obtain⟨a,c,ht,hl⟩:∃a c,rs.take (k+1)=p++replicate (c+1) a/\∀z,p.getLast?=some z->z≠a:=by
  rcases S with⟨_,q⟩|⟨z,_⟩
  ·exact q
  ·lia
 have y:p.length+(c+1)=k+1:=by
  have:=congrArg length ht;simp at this;lia
 have t:p.length<rs.length:=by lia
 have P:rs[p.length]=a:=by
  have J:(rs.take (k+1))[p.length]?=some a:=by
   rw[ht,List.getElem?_append_right (le_refl _)];simp
  rw[List.getElem?_take_of_lt (by lia),getElem?_eq_getElem t]at J;exact qJ J
 have K:=zFZ t;rw[P]at K;have n:=h.1;have o:(jh 0 (rle p)).length<1000000:=by
  rw[WM];have:=zFa p;lia
 have sub:(1+(k:Int))-(p.length:Int)=((c+1:Nat):Int):=by lia
 have app:jh 0 (rle p)++[.t [.int a,.int (p.length:Int),.int ((c+1:Nat):Int)]]=jh 0 (rle (rs.take (k+1))):=by
  rw[ht,vv a c p hl,zAk,tot_rle,zero_add]
 have v:gN 3 (.int (1+(k:Int))) E=.ok [.v (YD rs),.w (jh 0 (rle p)),.v (.int p.length),.v (.int (1+(k:Int)))]:=by
  subst G;cases w<;>first|rfl|(cases Q)
 have ix:ixD (YD rs) (.int (p.length:Int))=some (.v (.int a)):=by rw[zFK,K];rfl
 have O:zCq (.int (1+(k:Int))) (.int (p.length:Int))=some (.v (.int ((c+1:Nat):Int))):=by rw[<- sub];rfl
 have r:zCs [YD rs]=some (.v (.int rs.length)):=by dsimp[zCs,length_map]
 have l:dB zj (.s (.sApp 1 (.t (.cons (.ix (.x 0) (.x 2)) (.cons (.x 2) (.cons (.bin .sub (.x 3) (.x 2)) .nil))))) (.o (.sSet 2 (.x 3)))) [.v (YD rs),.w (jh 0 (rle p)),.v (.int p.length),.v (.int (1+(k:Int)))]=.ok (.nx,[.v (YD rs),.w (jh 0 (rle p)++[.t [.int a,.int (p.length:Int),.int ((c+1:Nat):Int)]]),.v (.int (1+(k:Int))),.v (.int (1+(k:Int)))]) :=
  zN (s_app rfl (J1 (zE (zFB (zA rfl) (zA rfl) ix) (zE (zA rfl) (zE (zb (zA rfl) (zA rfl) O) zT))) rfl (by simp[cap])) rfl o rfl) (zW (y4 (zA rfl) rfl))
 by_cases e:k+1=rs.length
 ·have j:(1+(k:Int))=(rs.length:Int):=by lia
  refine⟨_,[.v (YD rs),.w (jh 0 (rle (rs.take (k+1)))),.v (.int ((rs.take (k+1)).length:Nat)),.v (.int (1+(k:Int)))],v,?_,rs.take (k+1),_,rfl,rfl,by simp;lia,.inr ⟨e,by rw[e,take_length]⟩⟩;rw[<- app];have u:((rs.take (k+1)).length:Int)=1+(k:Int):=by simp;lia
  rw[u];exact zW (WW (t_orT (t_E (yD (zA rfl) (Zg (zE (zA rfl) zT) r) (by
   show eqG (.int (1+(k:Int))) (.int (rs.length:Int))=_
   rw[eq_int,decide_eq_true j])))) l)
 ·have j:¬(1+(k:Int))=(rs.length:Int):=by lia
  have g:k+1<rs.length:=by lia
  have H:=zFZ g;have I:atI (rs.map D.int) (1+(k:Int))=some (.int rs[k+1]):=by
   rw[show(1+(k:Int))=((k+1:Nat):Int)by lia];exact H
  have C:ixD (YD rs) (.int (1+(k:Int)))=some (.v (.int rs[k+1])):=by rw[zFK,I];rfl
  have eqF:eqG (.int (1+(k:Int))) (.int (rs.length:Int))=some (.v (.bl false)):=by rw[eq_int,decide_eq_false j]
  have M:rs.take (k+1+1)=rs.take (k+1)++[rs[k+1]]:=List.take_succ_eq_append_getElem g;by_cases i:rs[k+1]=a
  ·refine⟨_,[.v (YD rs),.w (jh 0 (rle p)),.v (.int p.length),.v (.int (1+(k:Int)))],v,?_,p,_,rfl,rfl,L,.inl ⟨g,a,c+1,?_,hl⟩⟩
   ·exact zW (jf (zCJ (t_E (yD (zA rfl) (Zg (zE (zA rfl) zT) r) eqF)) (t_E (yD (zFB (zA rfl) (zA rfl) C) (zFB (zA rfl) (zA rfl) ix) (by
     show neG (.int rs[k+1]) (.int a)=_
     rw[ne_int,decide_eq_true i];rfl)))) jg)
   ·rw[M,ht,i,append_assoc,<- List.replicate_succ']
  ·refine⟨_,[.v (YD rs),.w (jh 0 (rle (rs.take (k+1)))),.v (.int ((rs.take (k+1)).length:Nat)),.v (.int (1+(k:Int)))],v,?_,rs.take (k+1),_,rfl,rfl,by simp;lia,.inl ⟨g,rs[k+1],0,by rw[M];rfl,λz hz=>?_⟩⟩
   ·rw[<- app]
    have u:((rs.take (k+1)).length:Int)=1+(k:Int):=by simp;lia
    rw[u];exact zW (WW (zCJ (t_E (yD (zA rfl) (Zg (zE (zA rfl) zT) r) eqF)) (t_E (yD (zFB (zA rfl) (zA rfl) C) (zFB (zA rfl) (zA rfl) ix) (by
     show neG (.int rs[k+1]) (.int a)=_
     rw[ne_int,decide_eq_false i];rfl)))) l)
   ·rw[ht,List.replicate_succ',<- append_assoc]at hz
    simp at hz
    rw[<- hz];exact λq=>i q.symm
def zFc{rs:Ls Int}(h:Row rs):∃w,jw w=true/\DV.Z3 (gN 3) (dB zj Wh) (DV.zG 1 rs.length) [.v (YD rs),.w [],.v (.int 0),.e]=.ok (.nx,[.v (YD rs),.w (jh 0 (rle rs)),.v (.int rs.length),w]):=by
 have n:=h.1;have j5:RunI rs 0 [.v (YD rs),.w [],.v (.int 0),.e]:=by
  refine⟨[],.e,rfl,rfl,by simp,?_⟩;by_cases hz:0<rs.length
  ·refine .inl ⟨hz,rs[0],0,?_,λz hz=>by cases hz⟩
   rw[List.take_succ_eq_append_getElem hz];simp
  ·exact .inr ⟨by lia,(List.eq_nil_of_length_eq_zero (by lia)).symm⟩
 obtain⟨E',W,p,w,G,Q,_,S⟩:=jT (tg:=gN 3) (body:=dB zj Wh) (RunI rs) (DV.zG 1 rs.length) 0 _ j5
  (λi d e E x=>by
   obtain⟨R,rfl⟩:=y1 _ _ _ _ e;rw[zero_add]at x ⊢;exact zFb h i R E x)
 rw[yg,zero_add]at S;have L:p=rs:=by
  rcases S with⟨z,_⟩|⟨_,q⟩
  ·lia
  ·exact q
 subst L;exact⟨w,Q,by rw[W,G]⟩
def zCV{fs:Ls FI}{a b:_}{E E1:zS}(h:dS fs a E=.ok (.nx,E1)):dB fs (.s a b) E=dB fs b E1:=by
 dsimp[yu,Z0,h]
def one_ok{fs:Ls FI}{a:_}{E:zS}:dB fs (.o a) E=dS fs a E:=by dsimp[yG]
def fn_ret{n:Nat}{b:MS}{c:Ls DV.Slot}{r:R}{E':zS}(h:b (c++replicate (n-c.length) .e)=.ok (.ret r,E')):fnM n b c=.ok (r,zt c E'):=by
 dsimp[fnM,h]
def zFd{rs:Ls Int}(h:Row rs):Jv [.v (YD rs)]=.ok (.w (jh 0 (rle rs)),[.e]):=by
 have O:=Zk h;have n:=h.1;obtain⟨w,Q,W⟩:=zFc h;have Z:dS zj (.sDrop (.call 0 (.ev (.x 0) .nil))) [.v (YD rs),.e,.e,.e]=.ok (.nx,[.v (YD rs),.e,.e,.e]):=by
  simp[zj,fnM,je,yG,yu,JD,jN,yN,jv,JW,jE,zAK,y9,Z5,JC,j9,Jq,wA,WT,vO,yM,JV,yy,Jr,Yj,wB,wC,sRet,sIf,Z0,uA,sSet,J9,R.slot,W2,eOr,v5,y2,zY,Ys,eC,zJ,fiF,fiX,R.d,zF,yI,Cp.b,Cp.f,Op2.f,Bi.f,Ty.s,yQ,yP,yc,yd,ye,WQ,jc,jn,tT,wy,eCB,jo,v6,v7,v8,YG,ZS,Tg.m,eqG,eqF,neG,neF,vH,v9,YU,J8,sDrop,O]
 have g:dS zj (.sSet 1 (.l .nil)) [.v (YD rs),.e,.e,.e]=.ok (.nx,[.v (YD rs),.w [],.e,.e]):=by
  simp[zj,fnM,je,yG,yu,JD,jN,yN,jv,JW,jE,zAK,y9,Z5,JC,j9,Jq,wA,WT,vO,yM,JV,yy,Jr,Yj,wB,wC,sRet,sIf,Z0,uA,sSet,J9,R.slot,W2,eOr,v5,y2,zY,Ys,eC,zJ,fiF,fiX,R.d,zF,yI,Cp.b,Cp.f,Op2.f,Bi.f,Ty.s,yQ,yP,yc,yd,ye,WQ,jc,jn,tT,wy,eCB,jo,v6,v7,v8,YG,ZS,Tg.m,eqG,eqF,neG,neF,vH,v9,YU,J8,cap]
 have u:dS zj (.sSet 2 (.c (.int 0))) [.v (YD rs),.w [],.e,.e]=.ok (.nx,[.v (YD rs),.w [],.v (.int 0),.e]):=by
  simp[zj,fnM,je,yG,yu,JD,jN,yN,jv,JW,jE,zAK,y9,Z5,JC,j9,Jq,wA,WT,vO,yM,JV,yy,Jr,Yj,wB,wC,sRet,sIf,Z0,uA,sSet,J9,R.slot,W2,eOr,v5,y2,zY,Ys,eC,zJ,fiF,fiX,R.d,zF,yI,Cp.b,Cp.f,Op2.f,Bi.f,Ty.s,yQ,yP,yc,yd,ye,WQ,jc,jn,tT,wy,eCB,jo,v6,v7,v8,YG,ZS,Tg.m,eqG,eqF,neG,neF,vH,v9,YU,J8]
 have H:dS zj (.sForR2 (.cons (.c (.int 1)) (.cons (.bin .add (.cB .len (.cons (.x 0) .nil)) (.c (.int 1))) .nil)) (.n 3) Wh) [.v (YD rs),.w [],.v (.int 0),.e]=.ok (.nx,[.v (YD rs),.w (jh 0 (rle rs)),.v (.int rs.length),w]):=by
  have e:Yt (.int ((rs.map D.int).length:Nat)) (.int 1)=some (.v (.int ((rs.length:Int)+1))):=by rw[length_map];rfl
  refine s_forR2 (zE x_c (zE (zb (Zg (zE (zA rfl) zT) rfl) x_c e) zT)) rfl rfl (by lia) (by lia) ?_;rw[show((rs.length:Int)+1-1).toNat=rs.length by lia];exact W
 have z:dS zj (.sRet (.mov 1)) [.v (YD rs),.w (jh 0 (rle rs)),.v (.int rs.length),w]=.ok (.ret (.w (jh 0 (rle rs))),[.v (YD rs),.e,.v (.int rs.length),w]):=by
  simp[zj,fnM,je,yG,yu,JD,jN,yN,jv,JW,jE,zAK,y9,Z5,JC,j9,Jq,wA,WT,vO,yM,JV,yy,Jr,Yj,wB,wC,sRet,sIf,Z0,uA,sSet,J9,R.slot,W2,eOr,v5,y2,zY,Ys,eC,zJ,fiF,fiX,R.d,zF,yI,Cp.b,Cp.f,Op2.f,Bi.f,Ty.s,yQ,yP,yc,yd,ye,WQ,jc,jn,tT,wy,eCB,jo,v6,v7,v8,YG,ZS,Tg.m,eqG,eqF,neG,neF,vH,v9,YU,J8,zD2]
 unfold Jv;refine(fn_ret (r:=.w (jh 0 (rle rs))) (E':=[.v (YD rs),.e,.v (.int rs.length),w]) ?_).trans rfl;show dB zj (.s _ (.s _ (.s _ (.s _ (.o _))))) [.v (YD rs),.e,.e,.e]=_;exact(zCV Z).trans ((zCV g).trans ((zCV u).trans ((zCV H).trans (one_ok.trans z))))
abbrev T3:=Int×Nat×Nat
def tD(t:T3):D:=.t [.int t.1,.int t.2.1,.int t.2.2]
def fg(t:T3):B:=(t.1,t.2.2)
def QT:Nat->Ls B->Ls T3
 |_,[]=>[]|b,(s,n)::r=>(s,b,n)::QT (b+n) r
theorem zCW:∀(q:Ls B) (b:Nat),jh b q=(QT b q).map tD
 | [],_=>rfl| (s,n)::q,b=>by dsimp[jh,QT,map_cons,zCW q];rfl
theorem zCX:∀(q:Ls B) (b:Nat),(QT b q).map fg=q
 | [],_=>rfl| (s,n)::q,b=>by dsimp[QT,map_cons,zCX q];rfl
theorem WN:∀(q:Ls B) (b:Nat),(QT b q).length=q.length
 | [],_=>rfl| (s,n)::q,b=>by simp[QT,WN q]
def ln3:D->D
 | .t [_,_,c]=>c|_=>.non
def pat3:D->Ls DV.Slot
 | .t [a,b,c]=>[.v a,.v b,.v c]|_=>[]
def Zl(l:Ls T3)(c:l.length<=1000):yt [.v (.l (l.map tD))]=.ok (.v (.int (RM.top (l.map λt=>t.2.2):Nat)),[.e]):=by
 have a:=G7 (vs:=[]) (nl:=3) (caps:=[]) (tg:=gT [0,1,2]) (tt:=jq) (el:=Ys 2) pat3 (λ_=>true) ln3 (l.map tD)
  (λd C S X K=>by obtain⟨t,_,rfl⟩:=mem_map.mp C;exact zIV X K)
  (λd C=>by obtain⟨t,_,rfl⟩:=mem_map.mp C;exact⟨rfl,λs T=>by simp[pat3,tD]at T;rcases T with rfl|rfl|rfl<;>rfl⟩)
  (λd C=>rfl)
  (λd C _=>by obtain⟨t,_,rfl⟩:=mem_map.mp C;exact⟨.v (.int t.2.2),rfl,rfl⟩)
  (by simp[cap];lia) (mi:=iL (Ys 0)) (E:=[.v (.l (l.map tD))]) (E1:=[.v (.l (l.map tD))]) rfl rfl
 have P:((l.map tD).filter (λ_=>true)).map ln3=(l.map λt=>((t.2.2:Nat):Int)).map D.int:=by
  rw[List.filter_eq_self.mpr (λ_ _=>rfl),map_map,map_map];rfl
 rw[P]at a;have e:=zFH (l.map λt=>t.2.2);rw[map_map]at e;have u:(l.map λt=>((t.2.2:Nat):Int))=l.map ((λ(n:Nat)=>(n:Int)) ∘ λt=>t.2.2):=rfl;rw[u]at a;have H:wg ((l.map ((λ(n:Nat)=>(n:Int)) ∘ λt=>t.2.2)).map D.int)=some _:=ZR _;generalize h:(l.map ((λ(n:Nat)=>(n:Int)) ∘ λt=>t.2.2))=g at a e H;simp[yt,jO,wT,fnM,yG,yN,zAK,y9,wA,G3,rE_maxd,zCC,zG3,sRet,sIf,Z0,uA,sSet,J9,R.slot,W2,eOr,v5,y2,zY,Ys,eC,zJ,fiF,fiX,R.d,zF,yI,Cp.b,Cp.f,Op2.f,Bi.f,Ty.s,yQ,yP,yc,yd,ye,WQ,jc,jn,tT,wy,eCB,jo,v6,v7,v8,YG,ZS,Tg.m,eqG,eqF,neG,neF,vH,v9,YU,J8,a,zCw,H,e]
def lens3(s:Int)(l:Ls T3):(l.filter λt=>t.1==s).map (λt=>t.2.2)=lens s (l.map fg):=by
 unfold lens;rw[filter_map,map_map];rfl
def few3(rs:Ls Int)(h:Row rs):(QT 0 (rle rs)).length<=20:=by
 rw[WN];have:=zFa rs;have:=h.1;lia
def uR(x z:T3)(m:Ls T3):Ls T3:=if x.1=z.1 then m++[(z.1,z.2.1,z.2.2+x.2.2)]else x::(m++[z])
def zHL(x z:T3)(m:Ls T3):(uR x z m).map fg=WK ((x::(m++[z])).map fg):=by
 have:=jz (fg x) (fg z) (m.map fg);dsimp[map_cons,map_append,map_nil];rw[this];unfold uR;by_cases h:x.1=z.1
 ·rw[if_pos h,if_pos (show(fg x).1=(fg z).1 from h)];simp[fg]
 ·rw[if_neg h,if_neg (show ¬(fg x).1=(fg z).1 from h)];simp
def zHM(x:T3)(l:Ls T3):atI (tD x::l.map tD) 0=some (tD x):=by
 have:(0:Int)<(l.length:Int)+1:=by lia
 simp[atI,ixN,this]
def cut_mid(x z:T3)(m:Ls T3):Zz (tD x::(m.map tD++[tD z])) (some 1) (some (-1))=m.map tD:=by
 unfold Zz;have J:HT.sIx (tD x::(m.map tD++[tD z])).length 0 (some 1)=1:=by simp[HT.sIx]
 have h2:HT.sIx (tD x::(m.map tD++[tD z])).length (tD x::(m.map tD++[tD z])).length (some (-1))=m.length+1:=by
  simp[HT.sIx];lia
 rw[J,h2];simp
def zIj(ds:Ls D)(i:Int):ixD (.l ds) (.int i)=(atI ds i).map .v:=rfl
def zHf(ds:Ls D)(i:Int):ixD (.t ds) (.int i)=(atI ds i).map .v:=rfl
def ix_t0(t:T3):ixD (tD t) (.int 0)=some (.v (.int t.1)):=rfl
def ix_t2(t:T3):ixD (tD t) (.int 2)=some (.v (.int t.2.2)):=rfl
def gT_tD(q:Ls Nat)(t:T3)(E:zS):gT q (tD t) E=gNs q [.int t.1,.int t.2.1,.int t.2.2] E:=rfl
end My
namespace My
open PySem L2 DV SM
def zDC{m:Nat}(Y:2<=m/\m<=3):zCq (.int (m:Int)) (.int 1)=some (.v (.int ((m-1:Nat):Int))):=GF (b:=1) (by lia)
def mb(m:Nat):Nat->Ls Nat
 |0=>[0,m]|i+1=>List.zipWith (·+·) (mb m i++[0]) (0::(mb m i).map ((m-1)*·))
def can(s k left:Nat)(r:Ls Nat):Bool:=decide ((stt s r).1=k)||(decide ((stt s r).1<k)&&decide (k<=(stt s r).2+left))
def Lt(m s n k t:Nat):Ls (Ls Nat):=(rowsN m t).filter λr=>decide (t=0)||can s k (n-t) r
def Yi:D->Nat
 | .int x=>x.toNat|_=>0
end My
namespace My
open PySem L2 DV SM RM
abbrev In(r:Ls Nat):Ls Int:=r.map λn:Nat=>(n:Int)
end My
namespace My
open PySem L2 DV SM
theorem take_range(f:Nat->Nat)(n k:Nat):((List.range (n+1)).map f).take (k+1)=(List.range (min (n+1) (k+1))).map f:=by
 rw[<- map_take,List.take_range,Nat.min_comm]
section
variable{m:Nat}(hm:2<=m/\m<=3)
include hm
end
def zFe(a:Nat):neG (.int (a:Int)) (.int (a:Int))=some (.v (.bl false)):=by rw[ne_nat,decide_eq_true rfl];rfl
def cross{a b u v c:Nat}(Z:0<b)(h:a*v=u*b):a/a.gcd b*v=u*(b/a.gcd b):=by
 have J:0<a.gcd b:=Nat.gcd_pos_of_pos_right _ Z;have w:=Nat.div_mul_cancel (Nat.gcd_dvd_left a b);have O:=Nat.div_mul_cancel (Nat.gcd_dvd_right a b);apply Nat.eq_of_mul_eq_mul_right J;generalize a/a.gcd b=x at *;generalize b/a.gcd b=y at *
 calc x*v*a.gcd b=(x*a.gcd b)*v:=by rw[mul_assoc,mul_comm v,<- mul_assoc]
  _=u*(y*a.gcd b):=by rw[w,O,h]
  _=u*y*a.gcd b:=(mul_assoc _ _ _).symm
abbrev qI(n:Nat):DV.Slot:=.v (.int n)
def wb(p:Ls D)(L:Pen p)(m:Nat)(P:0<m)(J:m<2^100):∃(r:Nat) (p':Ls D),zO [.p p,qI m]=.ok (.v (.int (r:Nat)),[.p p',.e])/\r<m/\Pen p':=by
 obtain⟨r,p',e,l,u,h⟩:=wK p L m (by lia) (by rw[Int.natAbs_natCast];exact vx (lt_trans J (by left)));obtain⟨r,rfl⟩:=Int.eq_ofNat_of_zero_le l;exact⟨r,p',e,by lia,h⟩
def InC(v:D)(E:zS):Prop:=∃R g w p K,E=[.v v,R,g,w,p,K]/\jw R=true/\jw g=true/\jw w=true/\jw p=true/\jw K=true
def put34{v R g w p K:DV.Slot}{a b:D}(Q:jw w=true)(h:jw p=true):gNs [3,4] [a,b] [v,R,g,w,p,K]=.ok [v,R,g,.v a,.v b,K]:=by
 cases w<;>first|(cases Q;done)|(cases p<;>first|rfl|(cases h))
end My
namespace My
open PySem L2 DV SM RM
def zDD(d:D)(h:okD d):Ze [.v d]=.ok (.v (.bl (zFr d)),[.e]):=by
 cases d with
 |t G =>
  have v:dT Yk (.tNot (.tE (.is .tuple (.x 0)))) [.v (.t G)]=.ok (false,[.v (.t G)]):=vo (t_E (b:=true) rfl) rfl;have z:dE Yk (.cB .len (.cons (.x 0) .nil)) [.v (.t G)]=.ok (.v (.int G.length),[.v (.t G)]):=Zg (zE (zA rfl) zT) rfl;by_cases h2:2<=G.length
  ·have r:Cp.le.b 2 (G.length:Int)=true:=decide_eq_true (by lia)
   by_cases Q:G.length<=3
   ·have E:Cp.le.b (G.length:Int) 3=true:=decide_eq_true (by lia)
    have e:zFr (.t G)=G.all (vw 1 9):=by simp[zFr,h2,Q]
    rw[e];exact yX (zN (jf (zCJ v (vo (t_E (zFC vm z r vm E)) rfl)) jg) (zW (yY (Zg (zE (wq (vs:=[]) (λd=>.bl (vw 1 9 d)) (i_T (zA rfl) rfl) rfl (λd C=>⟨_,zk rfl (zA rfl) vm vm (jS d 1 9 (h.2 d C)),rfl⟩) h.1 rfl) zT) (zFL rfl))))) rfl
   ·have E:Cp.le.b (G.length:Int) 3=false:=decide_eq_false (by lia)
    have e:zFr (.t G)=false:=by simp[zFr,Q]
    rw[e];exact yX (QK (WW (zCJ v (vo (t_E (zFC vm z r vm E)) rfl)) (zW (yY x_c)))) rfl
  ·have r:Cp.le.b 2 (G.length:Int)=false:=decide_eq_false (by lia)
   have e:zFr (.t G)=false:=by simp[zFr,h2]
   rw[e];exact yX (QK (WW (zCJ v (vo (t_E (zHC vm z r)) rfl)) (zW (yY x_c)))) rfl
 |fn x=>cases h|exn x y=>cases h|m x y=>cases h|_=>rfl
def zDE(d:D)(h:okD d)(Z:zFr d=true):YC [.v d]=.ok (.v .non,[.e]):=by
 have e:=zDD d h;rw[Z]at e;exact zIX (zW (jf (vo (t_E (zp rfl (zA rfl) e)) rfl) jg)) rfl
def e_gcd(t:Int)(b:Nat)(Z:b<2^800):yA [.v (.int t),.v (.int b)]=.ok (.v (.int (t.natAbs.gcd b:Nat)),[.e,.e]):=by
 have w:=zCN (c:=dT y3 (.tE (.cmp .ne (.x 1) (.c (.int 0))))) (bd:=dB y3 (.o (.sPar 0 1 (.cons (.x 1) (.cons (.bin .mod (.x 0) (.x 1)) .nil))))) (λa b=>[qI a,qI b])
  (λa b=>t_E (yD (zA rfl) x_c (by
   show neG (.int (b:Int)) (.int 0)=_
   rw[ne_int];by_cases z:b=0
   ·subst z;rfl
   ·have:¬(b:Int)=0:=by lia
    simp[z])))
  (λa b h=>zW (s_par (zE (zA rfl) (zE (zb (zA rfl) (zA rfl) (zFU a b h)) zT)) rfl)) 800 1000000 t.natAbs b Z (by lia)
 exact yX (zN (s_par (zE (Zg (zE (zA rfl) zT) (zFT t)) (zE (Zg (zE (zA rfl) zT) (abs_nat b)) zT)) rfl) (zN (s_while w) (zW (yY (zA rfl))))) rfl
def zDF(t:Int)(b:Nat)(P:0<b)(Z:b<2^400):YB [.v (.int t),.v (.int b)]=.ok (.v (nrm t b),[.e,.e]):=by
 obtain⟨J,I⟩:=gcd_lt (t:=t.natAbs) P Z;have q:eqG (.int (b:Int)) (.int 0)=some (.v (.bl false)):=by
  rw[eq_int,decide_eq_false (by lia)]
 have l:ltD (.int (b:Int)) (.int 0)=some (.v (.bl false)):=by
  simp[ltD,Qw]
 have w:=QS t _ J I;have O:=QS b _ J I;rw[zCU]at O;exact yX (zN (jf (t_E (yD (zA rfl) x_c q)) jg) (zN (y4 (z5 rfl (zA rfl) (zA rfl) (e_gcd t b (zDA Z))) rfl) (zN (jf (t_E (yD (zA rfl) x_c l)) jg) (zW (yY (J1 (zE (zb (zA rfl) (zA rfl) w) (zE (zb (zA rfl) (zA rfl) O) zT)) rfl wn)))))) rfl
def Ji{S n:Nat}(h:S<=27)(hn:n<=41):yR [.v (.int S),.v (.int n)]=.ok (.v (.int (S^n:Nat)),[.e,.e]):=by
 obtain⟨E1,l,w,G,Q⟩:=jT (tg:=gN 3) (body:=dB YV (.o (.sAug 2 .mul (.x 0)))) (λi E=>∃w,E=[.v (.int S),.v (.int n),.v (.int (S^i:Nat)),w]/\jw w=true) (DV.zG 0 n) 0 [.v (.int S),.v (.int n),.v (.int 1),.e] ⟨.e,by simp,rfl⟩ (λi d q E ⟨w,G,Q⟩=>by
  obtain⟨R,rfl⟩:=y1 _ _ _ _ q;rw[zero_add]at G ⊢;refine⟨[.v (.int S),.v (.int n),.v (.int (S^i:Nat)),.v (.int (0+(i:Int)))],[.v (.int S),.v (.int n),.v (.int (S^(i+1):Nat)),.v (.int (0+(i:Int)))],?_,?_,_,rfl,rfl⟩
  ·subst G;cases w<;>first|rfl|(cases Q)
  ·have r:S^i<2^800:=zDA (lt_of_le_of_lt (pow_le_pow_left h i) (p27 (by lia)))
   have m:Q8 ((S^i:Nat):Int) (S:Int)=some ((S^(i+1):Nat):Int):=by
    unfold Q8;rw[if_pos (.inr ⟨vx (by rw[Int.natAbs_natCast];exact r),vx (by rw[Int.natAbs_natCast];exact lt_of_le_of_lt h (by left))⟩),pow_succ,Int.natCast_mul]
   exact zW (s_aug rfl (zA rfl) m rfl))
 rw[yg,zero_add]at G;subst G;have P:((n:Nat):Int).toNat=n:=by lia
 exact yX (zN (y4 x_c rfl) (zN (Zh (zE (zA rfl) zT) rfl ⟨by lia,by lia⟩ (by rw[P];exact l)) (zW (yY (zA rfl))))) rfl
abbrev nn(a b:Nat):D:=nrm ((a:Nat):Int) b
abbrev tp(a b:Nat):Nat:=a/a.gcd b
abbrev bt(a b:Nat):Nat:=b/a.gcd b
end My
namespace My
open PySem L2 DV SM
def vz(d:D)(m:Int)(h:isFn d=false)(Z:vw 0 (m-1) d=true):wE [.v d,.v (.int m)]=.ok (.v .non,[.e,.e]) :=
 zIX (zW (yF (zk rfl (zA rfl) x_c (zb (zA rfl) x_c rfl) (zd d 0 (m-1) h Z)))) rfl
def step_w{w o n k:Nat}(C:w<=1000)(J:o<=1000)(V:k<=80)(i:Nat)(E:zS)(G:InW w o n k i E):∃E1 E2,gN 5 (.int (i:Int)) E=.ok E1/\dB JY stepB E1=.ok (.nx,E2)/\InW w o n k (i+1) E2:=by
 obtain⟨p,K,G,h4,h5⟩:=G;have a:=J3 o (ends w o k i).sum (by lia);have r:=zCL w o k i;refine⟨[.v (.int w),.v (.int o),.v (.int n),.v (.int k),p,.v (.int (i:Int))],[.v (.int w),.v (.int o),.v (.int n),.v (.int k),.w (N (ends w o k (i+1))),.v (.int (i:Int))],?_,?_,_,_,rfl,.inl rfl,rfl⟩
 ·subst G;cases K<;>first|rfl|(cases h5)
 ·have v:=QM [.int ((o*(ends w o k i).sum:Nat):Int)] (N ((ends w o k i).dropLast.map (w*·))) (by simp[Yp,r];lia)
  exact zW (y4 (zb (QJ (zE (zb (zA rfl) (Zg (zE (x_vA h4 rfl rfl) zT) (sum_N _)) a) zT) rfl wJ) (e_times C (by lia) (.inr rfl) rfl rfl rfl) v) (zAf rfl rfl rfl))
def WO{w o n k:Nat}(C:w<=1000)(J:o<=1000)(V:k<=80)(hn:n<=80):jA [.v (.int w),.v (.int o),.v (.int n),.v (.int k)]=.ok (.v (.int (U w o k n:Nat)),O4):=by
 have z:replicate k (D.int 0)=N (replicate k 0):=by simp[N]
 have a:=zHG (.int 0) k (by lia);have v:=QM [.int 1] (replicate k (.int 0)) (by simp;lia);obtain⟨E1,l,p,K,G,h4,h5⟩:=jT (tg:=gN 5) (body:=dB JY stepB) (λi E=>InW w o n k i E) (DV.zG 0 n) 0 [.v (.int w),.v (.int o),.v (.int n),.v (.int k),.w ([.int 1]++replicate k (.int 0)),.e] ⟨_,_,rfl,.inl (by rw[z];rfl),rfl⟩ (λi d q E x=>by
  obtain⟨R,rfl⟩:=y1 _ _ _ _ q;rw[zero_add]at x ⊢;rw[Int.zero_add];exact step_w C J V i E x)
 rw[yg,zero_add]at h4;subst G;have P:((n:Nat):Int).toNat=n:=by lia
 exact yX (zN (y4 (zb (QJ (zE x_c zT) rfl wJ) (zb (QJ (zE x_c zT) rfl wJ) (zA rfl) a) v) rfl) (zN (Zh (zE (zA rfl) zT) rfl ⟨by lia,by lia⟩ (by rw[P];exact l)) (zW (yY (Zg (zE (x_vA h4 rfl rfl) zT) (sum_N _)))))) rfl
def zFf{w o n k:Nat}(h:w+o<=27)(V:k<=40)(J:1<=n)(hn:n<=40):jH [.v (.int w),.v (.int o),.v (.int n),.v (.int k)]=.ok (.v (.int (Bt w o k n:Nat)),O4):=by
 unfold Bt;have q:eqG (.int (n:Nat)) (.int 1)=some (.v (.bl (decide (n=1)))):=zAh n 1;by_cases c:n=1
 ·rw[if_pos c]
  rw[decide_eq_true c]at q;exact yX (QK (WW (t_E (yD (zA rfl) x_c q)) (zW (yY (zA rfl))))) rfl
 ·rw[if_neg c]
  rw[decide_eq_false c]at q;have g:zCq (.int (n:Nat)) (.int 2)=some (.v (.int ((n-2:Nat):Int))):=GF (b:=2) (by lia);have i:o*o<=27*27:=Nat.mul_le_mul (by lia) (by lia);have m1:=J3 o o (by lia);have z:=J3 (o*o) (U w o k (n-2)) (by lia);exact yX (zN (jf (t_E (yD (zA rfl) x_c q)) jg) (zW (yY (zb (zb (zA rfl) (zA rfl) m1) (jR (F:=jA) rfl (zA rfl) (zA rfl) (zb (zA rfl) x_c g) (zA rfl) (WO (by lia) (by lia) (by lia) (by lia))) z)))) rfl
def Bt_lt{w o n k:Nat}(h:w+o<=27)(hn:n<=40):Bt w o k n<2^800:=by
 unfold Bt;split
 ·exact zDA (s27 (by lia))
 ·have i:o*o<=27*27:=Nat.mul_le_mul (by lia) (by lia)
  exact zFY (s27 (by lia)) (U_lt h k (by lia))
abbrev seB:Bx:=(.s (.sSet 6 (.bin .mul (.bin .add (.x 5) (.c (.int 1))) (.call 1 (.ev (.x 0) (.ev (.x 5) .nil)))))
  (.o (.sAug 4 .add (.bin .mul (.x 6) (.call 0 (.ev (.x 0) (.ev (.x 1) (.ev (.bin .sub (.x 2) (.x 5)) (.ev (.x 3) .nil)))))))))
def GH{w o n k:Nat}(h:w+o<=27)(hn:n<=40)(V:k<=40):zL [.v (.int w),.v (.int o),.v (.int n),.v (.int k)]=.ok (.v (.int (Rp w o n k:Nat)),O4):=by
 unfold Rp;have le:=zIf n k;by_cases c:n<=k
 ·rw[if_pos c]
  rw[decide_eq_true c]at le;have v:=y6 w o;exact yX (QK (WW (t_E (yD (zA rfl) (zA rfl) le)) (zW (yY (z5 (F:=yR) rfl (zb (zA rfl) (zA rfl) v) (zA rfl) (Ji h (by lia))))))) rfl
 ·rw[if_neg c]
  rw[decide_eq_false c]at le;obtain⟨E1,l,K,a,G,h5,y⟩:=jT (tg:=gN 5) (body:=dB wU seB) (λi E=>∃K a,E=[.v (.int w),.v (.int o),.v (.int n),.v (.int k),.v (.int ((((List.range i).map λs=>(s+1)*w^s*Bt w o k (n-s)).sum:Nat):Int)),K,a]/\jw K=true/\jw a=true) (DV.zG 0 (k+1)) 0 [.v (.int w),.v (.int o),.v (.int n),.v (.int k),.v (.int 0),.e,.e] ⟨.e,.e,rfl,rfl,rfl⟩ (λi d q E ⟨K,a,G,h5,y⟩=>by
   obtain⟨R,rfl⟩:=y1 _ _ _ _ q;rw[zero_add]at G ⊢;rw[Int.zero_add];have Z:Yt (.int (i:Nat)) (.int 1)=some (.v (.int ((i+1:Nat):Int))):=y6 i 1;have p:=Ji (S:=w) (n:=i) (by lia) (by lia);have m1:=J3 (i+1) (w^i) (by lia);have O:zCq (.int (n:Nat)) (.int (i:Nat))=some (.v (.int ((n-i:Nat):Int))):=GF (by lia);have bt:=zFf (w:=w) (o:=o) (n:=n-i) (k:=k) h V (by lia) (by lia);have e:=zBV ((i+1)*w^i) (Bt w o k (n-i)) (zFY (s27 (by lia)) (zHK (by lia) (by lia))) (Bt_lt h (by lia));refine⟨[.v (.int w),.v (.int o),.v (.int n),.v (.int k),.v (.int ((((List.range i).map λs=>(s+1)*w^s*Bt w o k (n-s)).sum:Nat):Int)),qI i,a],[.v (.int w),.v (.int o),.v (.int n),.v (.int k),.v (.int ((((List.range (i+1)).map λs=>(s+1)*w^s*Bt w o k (n-s)).sum:Nat):Int)),qI i,.v (.int (((i+1)*w^i:Nat):Int))],?_,?_,_,_,rfl,rfl,rfl⟩
   ·subst G;cases K<;>first|rfl|(cases h5)
   ·refine zN (y4 (zb (zb (zA rfl) x_c Z) (z5 (F:=yR) rfl (zA rfl) (zA rfl) p) m1) (zAf rfl y rfl)) ?_
    rw[zC6];refine zW (s_aug rfl (zb (zA rfl) (jR (F:=jH) rfl (zA rfl) (zA rfl) (zb (zA rfl) (zA rfl) O) (zA rfl) bt) e) (z:=((((List.range i).map λs=>(s+1)*w^s*Bt w o k (n-s)).sum+(i+1)*w^i*Bt w o k (n-i):Nat):Int)) ?_ rfl);rw[Int.natCast_add];rfl)
  rw[yg,zero_add]at G;subst G;have g:Yt (.int (k:Nat)) (.int 1)=some (.v (.int ((k+1:Nat):Int))):=y6 k 1;exact yX (zN (jf (t_E (yD (zA rfl) (zA rfl) le)) jg) (zN (y4 x_c rfl) (zN (Zh (j:=((k+1:Nat):Int)) (zE (zb (zA rfl) x_c g) zT) rfl ⟨by lia,by lia⟩ (by rw[Int.toNat_natCast];exact l)) (zW (yY (zA rfl)))))) rfl
def sign_in{m sg:Nat}(h:sg<m):vw 0 ((m:Int)-1) (.int (sg:Nat))=true:=by
 simp[vw];lia
def Rw(a:Ls Nat)(s n k:Nat):Nat:=Rp (a.getD s 0) (a.sum-a.getD s 0) n k
def zAl{a:Ls Nat}{s:Nat}(h:DS a s){n k:Nat}(hn:n<=30)(V:k<=30):wW [.v (zIh a),.v (.int s),.v (.int n),.v (.int k)]=.ok (.v (nrm ((Rw a s n k:Nat):Int) (a.sum^n)),O4):=by
 have c:=S_pow h (n:=n) (by lia);have W:=GH (w:=a.getD s 0) (o:=a.sum-a.getD s 0) (n:=n) (k:=k) h.wo (by lia) (by lia);refine yX (E1:=[.v (zIh a),.v (.int s),.v (.int n),.v (.int k),qI (Rw a s n k)]) (zN (yF (zp (F:=YC) rfl (zA rfl) (zDE _ (die_ok h.ok) (die_B h.ok)))) ?_) rfl;refine zN (yF (z5 (F:=wE) rfl (zA rfl) (Zg (zE (zA rfl) zT) (len_die a)) (vz _ _ rfl (sign_in h.lt)))) ?_;refine zN (yF (zk (F:=zH) rfl (zA rfl) x_c vm (zd _ 0 30 rfl (J4 hn)))) ?_;refine zN (yF (zk (F:=zH) rfl (zA rfl) x_c vm (zd _ 0 30 rfl (J4 V)))) ?_;refine zN (y4 (jR (F:=zL) rfl (zFB (zA rfl) (zA rfl) (zIi h.get)) (zb (Zg (zE (zA rfl) zT) (zFW a)) (zFB (zA rfl) (zA rfl) (zIi h.get)) (GF h.le)) (zA rfl) (zA rfl) W) rfl) ?_;exact zW (yY (z5 (F:=YB) rfl (zA rfl) (z5 (F:=yR) rfl (Zg (zE (zA rfl) zT) (zFW a)) (zA rfl) (Ji h.S27.2 (by lia))) (zDF _ _ c.1 c.2)))
end My
namespace SM
theorem zIk{f g:Nat->Nat}:∀n,(∀i,i<n->f i<=g i)->((List.range n).map f).sum<=((List.range n).map g).sum
 |0,_=>le_refl _
 |n+1,h=>by
  rw[zC6,zC6];exact Nat.add_le_add (zIk n λi R=>h i (by lia)) (h n (by lia))
theorem zFg:∀(l:Ls Nat) (t:Nat),(l.take t).sum<=l.sum
 | [],t=>by simp|a::l,0=>by simp|a::l,t+1=>by have:=zFg l t;simp;lia
theorem F_sum(w o k n:Nat):∀t,((List.range t).map λa=>w^a*o*U w o k (n-1-a)).sum=F w o k n t
 |0=>rfl|t+1=>by rw[zC6,F_sum w o k n t];rfl
def zFh(w o n k:Nat):Rp w o n k<=U w o k n:=by
 rw[<- ring_eq,U_rec,<- F_sum];unfold Rl;by_cases z:n=0
 ·subst z;simp
 ·rw[if_neg z,show min k (n-1)+1=min n (k+1)by lia,Nat.add_comm]
  refine Nat.add_le_add_right (zIk _ λa C=>Nat.mul_le_mul_left _ ?_) _;rw[show n-a-1=n-1-a by lia];exact zFg _ _
def zHN(c w o k:Nat){j:Nat}(h:1<=j):Bt (c*w) (c*o) k j=c^j*Bt w o k j:=by
 unfold Bt;split
 ·subst j;simp
 ·rw[U_scale]
  obtain⟨i,rfl⟩:∃i,j=i+2:=⟨j-2,by lia⟩;rw[Nat.add_sub_cancel,pow_succ,pow_succ]
  grind
def zDG(c w o n k:Nat):Rp (c*w) (c*o) n k=c^n*Rp w o n k:=by
 unfold Rp;split
 ·rw[<- mul_add,mul_pow]
 ·rw[<- zCO]
  congr 1
  refine map_congr_left λs T=>?_
  have:=mem_range.mp T;rw[zHN _ _ _ _ (by lia),mul_pow];have e:c^n=c^s*c^(n-s):=by rw[<- pow_add];congr 1;lia
  rw[e]
  grind
end SM
namespace My
open PySem L2 DV SM
abbrev m1(m:Nat):Nat:=m-1
abbrev M2(m:Nat):Prop:=2<=m/\m<=3
section
variable{m:Nat}(hm:M2 m)
include hm
def zBX:yB [.v (.int m)]=.ok (.v .non,O1):=zAi _ rfl (zIg (n:=m) (lo:=2) (hi:=3) (by lia) (by lia))
def J5{n:Nat}(hn:n<=30):yJ [.v (.int m),.v (.int n)]=.ok (.v .non,O2) :=
 zIX (zN (yF (zp (F:=yB) rfl (zA rfl) (zBX hm))) (zW (yF (zk (F:=zH) rfl (zA rfl) x_c vm (zd _ 0 30 rfl (J4 hn)))))) rfl
def uS{n:Nat}(hn:n<=40):jV [.v (.int m),.v (.int n)]=.ok (.v .non,O2) :=
 zIX (zN (yF (zp (F:=yB) rfl (zA rfl) (zBX hm))) (zW (yF (zk (F:=zH) rfl (zA rfl) x_c vm (zd _ 0 40 rfl (J4 hn)))))) rfl
def v3{n k:Nat}(hn:n<=30)(V:k<=30):ym [.v (.int m),.v (.int n),.v (.int k)]=.ok (.v (.int (Rp 1 (m-1) n k:Nat)),O3) :=
 yX (zN (yF (z5 (F:=yJ) rfl (zA rfl) (zA rfl) (J5 hm hn))) (zN (yF (zk (F:=zH) rfl (zA rfl) x_c vm (zd _ 0 30 rfl (J4 V))))
  (zW (yY (jR (F:=zL) rfl x_c (zb (zA rfl) x_c (zDC hm)) (zA rfl) (zA rfl) (GH (w:=1) (o:=m-1) (n:=n) (k:=k) (by lia) (by lia) (by lia))))))) rfl
def zBY{n k:Nat}(hn:n<=40)(V:k<=40):JZ [.v (.int m),.v (.int n),.v (.int k)]=.ok (.v (.int (U 1 (m-1) k n:Nat)),O3) :=
 yX (zN (yF (z5 (F:=jV) rfl (zA rfl) (zA rfl) (uS hm hn))) (zN (yF (zk (F:=zH) rfl (zA rfl) x_c vm (zd _ 0 40 rfl (J4 V))))
  (zW (yY (jR (F:=jA) rfl x_c (zb (zA rfl) x_c (zDC hm)) (zA rfl) (zA rfl) (WO (w:=1) (o:=m-1) (n:=n) (k:=k) (by lia) (by lia) (by lia) (by lia))))))) rfl
end
def Rj(w o n k:Nat):Int:=if k=0 then Rp w o n 0 else(Rp w o n k:Int)-Rp w o n (k-1)
def zCY{w o n k:Nat}(h:w+o<=27)(hn:n<=40)(V:k<=40):zu [.v (.int w),.v (.int o),.v (.int n),.v (.int k)]=.ok (.v (.int (Rj w o n k)),O4):=by
 have q:eqG (.int (k:Nat)) (.int 0)=some (.v (.bl (decide (k=0)))):=zAh k 0;unfold Rj;by_cases c:k=0
 ·rw[if_pos c]
  rw[decide_eq_true c]at q;exact yX (QK (WW (t_E (yD (zA rfl) x_c q)) (zW (yY (jR (F:=zL) rfl (zA rfl) (zA rfl) (zA rfl) x_c (GH (k:=0) h hn (by lia))))))) rfl
 ·rw[if_neg c]
  rw[decide_eq_false c]at q;have R:zCq (.int (k:Nat)) (.int 1)=some (.v (.int ((k-1:Nat):Int))):=GF (b:=1) (by lia);have g:zCq (.int (Rp w o n k:Nat)) (.int (Rp w o n (k-1):Nat))=some (.v (.int ((Rp w o n k:Int)-Rp w o n (k-1)))):=by dsimp[zCq,Qw]
  exact yX (zN (jf (t_E (yD (zA rfl) x_c q)) jg) (zW (yY (zb (jR (F:=zL) rfl (zA rfl) (zA rfl) (zA rfl) (zA rfl) (GH h hn V))
   (jR (F:=zL) rfl (zA rfl) (zA rfl) (zA rfl) (zb (zA rfl) x_c R) (GH h hn (by lia))) g)))) rfl
section
variable{m:Nat}(hm:M2 m)
include hm
def zBZ{n k:Nat}(hn:n<=30)(V:k<=30):Ja [.v (.int m),.v (.int n),.v (.int k)]=.ok (.v (.int (Rj 1 (m-1) n k)),O3) :=
 yX (zN (yF (z5 (F:=yJ) rfl (zA rfl) (zA rfl) (J5 hm hn))) (zN (yF (zk (F:=zH) rfl (zA rfl) x_c vm (zd _ 0 30 rfl (J4 V))))
  (zW (yY (jR (F:=zu) rfl x_c (zb (zA rfl) x_c (zDC hm)) (zA rfl) (zA rfl) (zCY (w:=1) (o:=m-1) (n:=n) (k:=k) (by lia) (by lia) (by lia))))))) rfl
def zAm{n:Nat}(hn:n<=30):wV [.v (.int m),.v (.int n)]=.ok (.w (((List.range (n+1)).map (Rj 1 (m-1) n)).map D.int),O2):=by
 have Z:Yt (.int (n:Nat)) (.int 1)=some (.v (.int ((n+1:Nat):Int))):=y6 n 1;refine yX (zN (yF (z5 (F:=yJ) rfl (zA rfl) (zA rfl) (J5 hm hn))) (zW (yY (wq (vs:=[.int m,.int n]) (λd=>.int (Rj 1 (m-1) n (Yi d))) (i_R1 (j:=((n+1:Nat):Int)) (zE (zb (zA rfl) x_c Z) zT) rfl ⟨by lia,by lia⟩) rfl
  (λd C=>?_) (by rw[yg,Int.toNat_natCast];simp[cap];lia) ?_)))) rfl
 ·rw[Int.toNat_natCast]at C
  obtain⟨i,R⟩:=mem_iff_getElem?.mp C;obtain⟨h,rfl⟩:=y1 _ _ _ _ R;rw[Int.zero_add];exact⟨_,jR (F:=zu) rfl x_c (zb (zA rfl) x_c (zDC hm)) (zA rfl) (zA rfl) (zCY (w:=1) (o:=m-1) (n:=n) (k:=i) (by lia) (by lia) (by lia)),rfl⟩
 ·rw[Int.toNat_natCast]
  apply List.ext_getElem?;intro i;rw[getElem?_map,map_map,getElem?_map];by_cases h:i<n+1
  ·rw[(show(DV.zG 0 (n+1))[i]?=some (D.int (0+(i:Int)))from ?_),getElem?_range h]
   ·simp[Yi]
   ·have:i<(DV.zG 0 (n+1)).length:=by rw[yg];exact h
    obtain⟨_,e⟩:=y1 _ _ _ _ (getElem?_eq_getElem this);rw[getElem?_eq_getElem this,e]
  ·rw[List.getElem?_eq_none (by rw[yg];lia),List.getElem?_eq_none (by simp;lia)];rfl
end
def sumI(l:Ls Int):zFp [.l (l.map D.int)]=some (.v (.int l.sum)):=by dsimp[zFp,ZR,Option.map_some]
def zHO(l:Ls D)(k:Nat):slD (.l l) none (some ((k+1:Nat):Int))=some (.w (l.take (k+1))):=by
 have:Zz l none (some ((k+1:Nat):Int))=l.take (k+1):=by
  unfold Zz;rw[HT.sIx_nat,show HT.sIx l.length 0 none=0 from rfl];dsimp[drop_zero,Nat.sub_zero];by_cases h:k+1<=l.length
  ·rw[min_eq_left h]
  ·rw[Nat.min_eq_right (by lia),take_of_length_le (by simp),take_of_length_le (by lia)]
 dsimp[slD,this]
def slI_one(l:Ls D)(k:Nat):slD (.l l) (some ((k:Nat):Int)) (some ((k+1:Nat):Int))=some (.w ((l.drop k).take 1)):=by
 have:Zz l (some ((k:Nat):Int)) (some ((k+1:Nat):Int))=(l.drop k).take 1:=by
  unfold Zz;rw[HT.sIx_nat,HT.sIx_nat];by_cases h:k<l.length
  ·rw[min_eq_left (by lia),min_eq_left (by lia),Nat.add_sub_cancel_left]
  ·rw[Nat.min_eq_right (by lia),Nat.min_eq_right (by lia),Nat.sub_self,List.take_zero,List.drop_eq_nil_of_le (by lia)];rfl
 dsimp[slD,this]
theorem zCZ(w o n:Nat):∀K,((List.range (K+1)).map (Rj w o n)).sum=(Rp w o n K:Int)
 |0=>by simp[Rj]
 |K+1=>by
  rw[range_succ,map_append,List.sum_append_int,zCZ w o n K];simp[Rj];lia
def v4{w o n k:Nat}(h:n<=k):Rp w o n k=(w+o)^n:=by unfold Rp;rw[if_pos h]
def zFi(m n k:Nat):(((List.range (n+1)).map (Rj 1 (m-1) n)).take (k+1)).sum=(Rp 1 (m-1) n k:Int):=by
 rw[<- map_take,List.take_range,Nat.min_comm];by_cases h:k<=n
 ·rw[show min (n+1) (k+1)=k+1 by lia,zCZ]
 ·rw[show min (n+1) (k+1)=n+1 by lia,zCZ,v4 (le_refl _),v4 (by lia)]
def zHP(m n k:Nat):((((List.range (n+1)).map (Rj 1 (m-1) n)).drop k).take 1).sum=Rj 1 (m-1) n k:=by
 by_cases h:k<=n
 ·have hl:k<((List.range (n+1)).map (Rj 1 (m-1) n)).length:=by simp;lia
  rw[drop_eq_getElem_cons hl];simp
 ·rw[List.drop_eq_nil_of_le (by simp;lia)]
  unfold Rj;rw[if_neg (by lia),v4 (by lia),v4 (by lia)];simp
section
variable{m:Nat}(hm:M2 m)
include hm
def pow_m(n:Nat):(1+(m-1))^n=m^n:=by rw[show 1+(m-1)=m by lia]
def zHQ(n:Nat):((List.range (n+1)).map (Rj 1 (m-1) n)).sum=((m^n:Nat):Int):=by rw[zCZ,v4 (le_refl _),pow_m hm]
def DS7:DS (replicate m 7) (m-1):=⟨⟨by simp;lia,λx M=>by rw[(List.mem_replicate.mp M).2];lia⟩,by simp;lia⟩
def sum7:(replicate m 7).sum=7*m:=by rcases(show m=2\/m=3 by lia)with rfl|rfl<;>rfl
def Rw7(n k:Nat):Rw (replicate m 7) (m-1) n k=7^n*Rp 1 (m-1) n k:=by
 unfold Rw;rw[sum7 hm,show(replicate m 7).getD (m-1) 0=7*1 by simp[List.getD,show m-1<m by lia],show 7*m-7*1=7*(m-1)by lia,zDG]
end
def e_power{S n:Nat}(h:S<=1000)(hn:n<=1000):ja [.v (.int S),.v (.int n)]=.ok (.v (.int (S^n:Nat)),O2):=by
 obtain⟨E1,l,w,G,Q⟩:=jT (tg:=gN 3) (body:=dB ZL (.o (.sSet 2 (.bin .mul (.x 2) (.x 0))))) (λi E=>∃w,E=[.v (.int S),.v (.int n),.v (.int (S^i:Nat)),w]/\jw w=true) (DV.zG 0 n) 0 [.v (.int S),.v (.int n),.v (.int 1),.e] ⟨.e,by simp,rfl⟩ (λi d q E ⟨w,G,Q⟩=>by
  obtain⟨R,rfl⟩:=y1 _ _ _ _ q;rw[zero_add]at G ⊢;refine⟨[.v (.int S),.v (.int n),.v (.int (S^i:Nat)),.v (.int (0+(i:Int)))],[.v (.int S),.v (.int n),.v (.int (S^(i+1):Nat)),.v (.int (0+(i:Int)))],?_,?_,_,rfl,rfl⟩
  ·subst G;cases w<;>first|rfl|(cases Q)
  ·have m:=zC9 (S^i) S (by lia)
   rw[pow_succ];exact zW (y4 (zb (zA rfl) (zA rfl) m) rfl))
 rw[yg,zero_add]at G;subst G;have P:((n:Nat):Int).toNat=n:=by lia
 exact yX (zN (y4 x_c rfl) (zN (Zh (zE (zA rfl) zT) rfl ⟨by lia,by lia⟩ (by rw[P];exact l)) (zW (yY (zA rfl))))) rfl
def seven_D(m:Nat):zIh (replicate m 7)=.t (replicate m (.int 7)):=by simp[zIh,nD]
def zHR{m n k:Nat}(Y:M2 m)(hn:n<=30)(V:k<=30):yT [.v (.int m),.v (.int n),.v (.int k)]=.ok (.v (.bl true),O3):=by
 generalize h:((List.range (n+1)).map (Rj 1 (m-1) n))=ts;have W:=zAm Y hn;rw[h]at W;have R:=sumI ts;rw[<- h,zHQ Y]at R;rw[h]at R;have g:=sumI (ts.take (k+1));rw[<- h,zFi]at g;rw[h]at g;have w:=sumI ((ts.drop k).take 1);rw[<- h,zHP]at w;rw[h]at w;have p:=e_power (S:=m) (n:=n) (by lia) (by lia);have K:=v3 Y hn V;have E:=zBZ Y hn V;have ru:=zBY Y (n:=n) (k:=k) (by lia) (by lia);have Z:Yt (.int (k:Nat)) (.int 1)=some (.v (.int ((k+1:Nat):Int))):=y6 k 1;have M:=zHO (ts.map D.int) k;rw[<- map_take]at M;have j:=slI_one (ts.map D.int) k;rw[<- map_drop,<- map_take]at j;have I:=GG (Rp 1 (m-1) n k) (U 1 (m-1) k n);rw[decide_eq_false (not_lt.mpr (zFh 1 (m-1) n k))]at I;have X:neG (.int ((m^n:Nat):Int)) (.int ((m^n:Nat):Int))=some (.v (.bl false)):=zFe _;have H:=zFe (Rp 1 (m-1) n k);have a:neG (.int (Rj 1 (m-1) n k)) (.int (Rj 1 (m-1) n k))=some (.v (.bl false)):=by rw[ne_int,decide_eq_true rfl];rfl
 have C:=zCR (.int 7) m (by lia);rw[<- seven_D]at C;have o:=zAl (DS7 Y) hn V;rw[Rw7 Y,sum7 Y]at o;have J:0<(7*m)^n:=Nat.pow_pos (by lia);have ls:7^n*Rp 1 (m-1) n k*m^n=Rp 1 (m-1) n k*(7*m)^n:=by rw[mul_pow];grind
 have r:=cross (u:=Rp 1 (m-1) n k) (v:=m^n) (c:=0) J ls;have O:nrm ((7^n*Rp 1 (m-1) n k:Nat):Int) ((7*m)^n)=.t [.int ((7^n*Rp 1 (m-1) n k/(7^n*Rp 1 (m-1) n k).gcd ((7*m)^n):Nat):Int),.int (((7*m)^n/(7^n*Rp 1 (m-1) n k).gcd ((7*m)^n):Nat):Int)]:=by
  unfold nrm;rw[top_nat];rfl
 rw[O]at o;have z:Rp 1 (m-1) n k<2^400:=lt_of_le_of_lt (zFh _ _ _ _) (U_lt (by lia) k (by lia));have e:m^n<2^400:=zHK (by lia) (by lia);have i:7^n<2^400:=zHK (by lia) (by lia);have T:(7*m)^n<2^400:=zHK (by lia) (by lia);generalize ex:7^n*Rp 1 (m-1) n k/(7^n*Rp 1 (m-1) n k).gcd ((7*m)^n)=x at o r;generalize l:(7*m)^n/(7^n*Rp 1 (m-1) n k).gcd ((7*m)^n)=y at o r;have L:x<2^800:=lt_of_le_of_lt (by rw[<- ex];exact Nat.div_le_self _ _) (zFY i z);have G:y<2^800:=lt_of_le_of_lt (by rw[<- l];exact Nat.div_le_self _ _) (zDA T);have Q:=zBV x (m^n) L (zDA e);have t:=zBV (Rp 1 (m-1) n k) y (zDA z) G;have q:=zAh (x*m^n) (Rp 1 (m-1) n k*y);rw[decide_eq_true r]at q;have P:ixD (.t [.int (x:Nat),.int (y:Nat)]) (.int 0)=some (.v (.int (x:Nat))):=rfl;have x1:ixD (.t [.int (x:Nat),.int (y:Nat)]) (.int 1)=some (.v (.int (y:Nat))):=rfl;refine yX (E1:=[.v (.int m),.v (.int n),.v (.int k),.v (.l (ts.map D.int)),.v (.t [.int (x:Nat),.int (y:Nat)])]) ?_ rfl;refine zN (E1:=[.v (.int m),.v (.int n),.v (.int k),.w (ts.map D.int),.e]) (y4 (z5 (F:=wV) rfl (zA rfl) (zA rfl) W) rfl) ?_;refine zN (E1:=[.v (.int m),.v (.int n),.v (.int k),.v (.l (ts.map D.int)),.e]) (jf (zCJ (t_E (yD (Zg (zE (vn rfl rfl) zT) R) (z5 (F:=ja) rfl (zA rfl) (zA rfl) p) X))
  (t_E (yD (zk (F:=ym) rfl (zA rfl) (zA rfl) (zA rfl) K) (Zg (zE (zC5 (zA rfl) o_N (o_S (zb (zA rfl) x_c Z)) M) zT) g) H))) jg) ?_
 refine zN (E1:=[.v (.int m),.v (.int n),.v (.int k),.v (.l (ts.map D.int)),.e]) (jf (zCJ (t_E (yD (zk (F:=Ja) rfl (zA rfl) (zA rfl) (zA rfl) E) (Zg (zE (zC5 (zA rfl) (o_S (zA rfl)) (o_S (zb (zA rfl) x_c Z)) j) zT) w) a))
  (t_E (yD (zk (F:=ym) rfl (zA rfl) (zA rfl) (zA rfl) K) (zk (F:=JZ) rfl (zA rfl) (zA rfl) (zA rfl) ru) I))) jg) ?_
 refine zN (y4 (jR (F:=wW) rfl (zb (J1 (zE x_c zT) rfl wJ) (zA rfl) C) (zb (zA rfl) x_c (zDC Y)) (zA rfl) (zA rfl) o) rfl) ?_;exact zW (yY (yD (zb (zFB (zA rfl) x_c P) (z5 (F:=ja) rfl (zA rfl) (zA rfl) p) Q) (zb (zk (F:=ym) rfl (zA rfl) (zA rfl) (zA rfl) K) (zFB (zA rfl) x_c x1) t) q))
end My
namespace My
open PySem L2 DV SM TM RM
structure RowN(rs:List Nat):Prop where
 len:rs.length<=20
 le:∀x∈rs,x<=2
abbrev zf(rs:Ls Nat):D:=.t (N rs)
def QU(rs:Ls Nat):zf rs=YD (zs rs):=(tD_zs rs).symm
def RowN.row{rs:Ls Nat}(h:RowN rs):Row (zs rs):=⟨by simp[zs];exact h.len,λr z=>by
 obtain⟨x,M,rfl⟩:=mem_map.mp z;have:=h.le x M;lia⟩
def Zm{rs:Ls Nat}(h:RowN rs):z7 [.v (zf rs)]=.ok (.v .non,[.e]):=by rw[QU];exact Zk h.row
def zIl{rs:Ls Nat}(h:RowN rs)(t:Nat):RowN (it rs t):=⟨by rw[zCS];exact h.len,λx M=>h.le x (zId rs t x M)⟩
abbrev tL(rs:Ls Nat)(n:Nat):Ls D:=(List.range n).map λt=>zf (it rs t)
def Wi{fs:Ls FI}{E:zS}{a:_}{n:Nat}(hn:n<=1000)(h:dE fs a E=.ok (.v (.int (n:Nat)),E)):dI fs (.iR1 (.cons a .nil)) E=.ok (N (List.range n),E):=by
 have:=i_R1 (fs:=fs) (E:=E) (a:=.cons a .nil) (j:=(n:Int)) (zE h zT) rfl ⟨by lia,by lia⟩;rw[Int.toNat_natCast,ints_N]at this;exact this
def max_1(n:Nat):vH [.int (n:Nat),.int 1]=some (.v (.int ((max n 1:Nat):Int))):=by
 dsimp[vH,v9];congr 3;split<;>lia
def N_drop(l:Ls Nat)(t:Nat):(N l).drop t=N (l.drop t):=by simp[N,map_drop]
def N_take(l:Ls Nat)(t:Nat):(N l).take t=N (l.take t):=by simp[N,map_take]
def cut_to(ds:Ls D)(t:Nat)(h:t<=ds.length):Zz ds none (some (t:Int))=ds.take t:=by
 unfold Zz;have J:HT.sIx ds.length 0 none=0:=rfl;rw[HT.sIx_nat,J];simp[min_eq_left h]
def cut_toL(ds:Ls D)(t:Nat)(h:ds.length<t):Zz ds none (some (t:Int))=ds:=by
 unfold Zz;have J:HT.sIx ds.length 0 none=0:=rfl;rw[HT.sIx_nat,J,show min t ds.length=ds.length by lia];simp
def zFj(ds:Ls D)(k:Nat)(h:ds.length<k):Zz ds (some (k:Int)) none=[]:=by
 unfold Zz;rw[HT.sIx_nat];dsimp[HT.sIx];rw[show min k ds.length=ds.length by lia];simp
def sl_f(rs:Ls Nat)(t:Nat):slD (zf rs) (some (t:Int)) none=some (.v (zf (rs.drop t))):=by
 dsimp[slD];by_cases h:t<=rs.length
 ·rw[zHI _ t (by rw[Yp];exact h),N_drop]
 ·rw[zFj _ t (by rw[Yp];lia),List.drop_of_length_le (by lia)];rfl
def sl_t(rs:Ls Nat)(t:Nat):slD (zf rs) none (some (t:Int))=some (.v (zf (rs.take t))):=by
 dsimp[slD];by_cases h:t<=rs.length
 ·rw[cut_to _ t (by rw[Yp];exact h),N_take]
 ·rw[cut_toL _ t (by rw[Yp];lia),take_of_length_le (by lia)]
def QV{a b:Ls Nat}(h:a.length+b.length<=1000):Yt (zf a) (zf b)=some (.v (zf (a++b))):=by
 rw[add_tup _ _ (by dsimp[Yp];lia),<- N_app]
def mT_le{rs:Ls Nat}(h:RowN rs):1<=mT rs/\mT rs<=20:=by have:=h.len;unfold mT;lia
def zBa(rs:Ls Nat):zCs [zf rs]=some (.v (.int (rs.length:Nat))):=by dsimp[zCs,Yp]
def zBb{rs:Ls Nat}(h:RowN rs):jQ [.v (zf rs)]=.ok (.w (tL rs (mT rs)),[.e]):=by
 have Y:=mT_le h;have hl:=h.len;refine yX (zW (yY (x_compI (Wi (n:=mT rs) (by lia) (Zg (zE (Zg (zE (zA rfl) zT) (zBa rs)) (zE x_c zT)) (max_1 rs.length))) rfl rfl (λi d q=>?_) (by simp[Yp]) (by rw[Yp];simp[cap];lia) (λ_=>rfl)))) rfl;have g:i<mT rs:=by have:=(qG.mp q).1;simpa[Yp]using this
 have c:d=.int (i:Nat):=by
  rw[N_get (k:=i) (n:=i) (by simp[g])]at q;exact(qJ q).symm
 subst c;have a:i<=rs.length:=by unfold mT at g;lia
 have e:rs.drop i++rs.take i=it rs i:=(GE rs i a).symm;refine⟨.v (zf (it rs i)),?_,by simp[g,R.d]⟩;rw[<- e];exact zb (zC5 (zA rfl) (o_S (zA rfl)) o_N (sl_f rs i)) (zC5 (zA rfl) o_N (o_S (zA rfl)) (sl_t rs i)) (QV (by simp;lia))
theorem GI(f:Nat->Ls Nat):∀l:Ls Nat,ZZ (l.map λt=>zf (f t))=some (l.map λt=>zs (f t))
 | []=>rfl
 |t::l=>by
  have e:tupI (zf (f t))=some (zs (f t)):=by
   show wg (N (f t))=_
   rw[zFQ];rfl
  dsimp[map_cons,ZZ,e,GI f l]
abbrev lz(rs:Ls Nat):Nat:=yl ((List.range (mT rs)).map λt=>zs (it rs t))
def lz_lt(rs:Ls Nat):lz rs<mT rs:=by
 have:=Za (λi j=>HT.lexLt (((List.range (mT rs)).map λt=>zs (it rs t)).getD i []) (((List.range (mT rs)).map λt=>zs (it rs t)).getD j [])) (mT rs-1);have P:1<=mT rs:=by unfold mT;lia
 unfold lz yl;dsimp[length_map,length_range]
 lia
def zHS(rs:Ls Nat):minH [.l (tL rs (mT rs))]=some (.v (zf (it rs (lz rs)))):=by
 have P:1<=mT rs:=by unfold mT;lia
 have hz:=lz_lt rs;have W:zIA [.l (tL rs (mT rs))]=none:=by
  obtain⟨m,Y⟩:∃m,mT rs=m+1:=⟨mT rs-1,by lia⟩;rw[Y];dsimp[tL,range_succ_eq_map,map_cons,zIA,wg]
 dsimp[minH,W,minT,tL,GI];rw[if_pos (by simp;lia)];rw[getD_eq_getElem?_getD,getElem?_map,getElem?_range hz];rfl
def zBc{rs:Ls Nat}(h:RowN rs):yK [.v (zf rs)]=.ok (.v (zf (it rs (lz rs))),[.e]) :=
 yX (zN (yF (zp (F:=z7) rfl (zA rfl) (Zm h))) (zW (yY (Zg (zE (zp (F:=jQ) rfl (zA rfl) (zBb h)) zT) (zHS rs))))) rfl
theorem zFk:∀a b:Ls Nat,deqs (N a) (N b)=decide (a=b)
 | [],[]=>rfl| [],_::_=>rfl|_::_,[]=>rfl
 |x::a,y::b=>by
  have e:deq (.int (x:Nat)) (.int (y:Nat))=decide (x=y):=by
   have:deq (.int (x:Nat)) (.int (y:Nat))=decide ((x:Int)=y):=by dsimp[deq,flV,eqV];rfl
   rw[this];simp[Int.natCast_inj]
  show(deq (.int (x:Nat)) (.int (y:Nat))&&deqs (N a) (N b))=_
  rw[e,zFk a b];simp
def QW(l:Ls Nat):∀d∈N l,eqb 19 d=true:=λd C=>by
 obtain⟨x,_,rfl⟩:=zFM C;rfl
def zCa(a b:Ls Nat):neG (zf a) (zf b)=some (.v (.bl (!decide (a=b)))):=by rw[ne_tups (QW a) (QW b),zFk]
def zIm(a b:Ls Nat):eqG (zf a) (zf b)=some (.v (.bl (decide (a=b)))):=by
 have e:eqF (zf a) (zf b)=none:=rfl;dsimp[eqG,e,zGg];rw[if_pos ⟨by dsimp[eqb,all_eq_true];exact QW a,by dsimp[eqb,all_eq_true];exact QW b⟩];dsimp[deq,zFk,Bool.false_eq_true,if_false]
def fnd(rs os:Ls Nat):Lx Nat:=(List.range (mT rs)).find? λt=>decide (it rs t=os)
def fD:Lx Nat->D
 |some t=>.int (t:Nat)|none=>.non
def find_at{p:Nat->Bool}{n i:Nat}(h:i<n)(J:p i=true)(Y:∀j,j<i->p j=false):(List.range n).find? p=some i:=by
 rw[List.find?_range_eq_some];exact⟨J,by simpa using h,λj l=>by exists Y j l⟩
def find_no{p:Nat->Bool}{n:Nat}(h:∀i,i<n->p i=false):(List.range n).find? p=none:=by
 rw[List.find?_eq_none];intro x M;rw[h x (mem_range.mp M)];decide
def zAn{rs os:Ls Nat}(h:RowN rs)(e:RowN os):Jx [.v (zf rs),.v (zf os)]=.ok (.v (fD (fnd rs os)),O2):=by
 have r:(zDK 0 (tL rs (mT rs))).length=mT rs:=by rw[Wd];simp
 have V:=zAg (tg:=gT [2,3]) (body:=dB uz vY) (λi E=>∃g w,E=[.v (zf rs),.v (zf os),g,w]/\jw g=true/\jw w=true) (λt=>decide (it rs t=os)) (λi=>.v (.int (i:Nat))) (zDK 0 (tL rs (mT rs))) 0 [.v (zf rs),.v (zf os),.e,.e] ⟨_,_,rfl,rfl,rfl⟩ (λi d q E ⟨g,w,G,h2,Q⟩=>by
  rw[zero_add];have R:i<mT rs:=by
   have:=(qG.mp q).1
   rwa [r]at this
  have c:d=.t [.int (i:Nat),zf (it rs i)]:=by
   rw[Gs _ 0 i (zf (it rs i)) (by simp[R]),zero_add]at q;exact(qJ q).symm
  subst c;have k:=zIm (it rs i) os;have tg:gT [2,3] (.t [.int (i:Nat),zf (it rs i)]) [.v (zf rs),.v (zf os),g,w]=.ok [.v (zf rs),.v (zf os),qI i,.v (zf (it rs i))]:=by
   cases g<;>first|(cases h2;done)|(cases w<;>first|rfl|(cases Q))
  subst G;refine⟨_,[.v (zf rs),.v (zf os),qI i,.v (zf (it rs i))],tg,?_⟩;cases Z:decide (it rs i=os)with
  |true =>
   rw[Z]at k;exact .inl ⟨rfl,zW (WW (t_E (yD (zA rfl) (zA rfl) k)) (zW (yY (zA rfl))))⟩
  |false =>
   rw[Z]at k;exact .inr ⟨rfl,zW (jf (t_E (yD (zA rfl) (zA rfl) k)) jg),_,_,rfl,rfl,rfl⟩)
 have o:∀{a b:D} (E:zS),zt [.v a,.v b] E=O2:=λE=>by
  match E with
  | []=>rfl| [_]=>rfl|_::_::_=>rfl
 have X:=Zm h;have H:=Zm e;rw[r]at V;rcases V with⟨i,E',R,J,h2,f⟩|⟨J,E',f,g,w,G,_⟩
 ·dsimp[zero_add]at J h2 f
  rw[show fnd rs os=some i from find_at R J h2];exact yX (zN (yF (zp (F:=z7) rfl (zA rfl) X)) (zN (yF (zp (F:=z7) rfl (zA rfl) H)) (QK (zIb (i_E (zE (zp (F:=jQ) rfl (zA rfl) (zBb h)) zT) rfl) f)))) (o _)
 ·dsimp[zero_add]at J
  rw[show fnd rs os=none from find_no J];exact yX (zN (yF (zp (F:=z7) rfl (zA rfl) X)) (zN (yF (zp (F:=z7) rfl (zA rfl) H)) (zN (zIb (i_E (zE (zp (F:=jQ) rfl (zA rfl) (zBb h)) zT) rfl) f) (zW (yY x_c))))) (o _)
def uT(l:Ls T3)(s:Int)(c:l.length<=1000):jU [.v (.l (l.map tD)),.v (.int s)]=.ok (.w ((l.filter λt=>t.1==s).map tD),[.e,.e]):=by
 have e:=G7 (vs:=[.int s]) (nl:=1) (caps:=[1]) (tg:=gN 0) (tt:=tT (wy eqG (wy ixD (Ys 0) (eC (.int 0))) (Ys 1))) (el:=Ys 0) (λd=>[.v d]) (λd=>match d with | .t (.int a::_)=>a==s|_=>false) id (l.map tD)
  (λd C S X K=>zIW X K)
  (λd C=>⟨rfl,λz hz=>by simp at hz;subst hz;rfl⟩)
  (λd C=>by
   obtain⟨t,_,rfl⟩:=mem_map.mp C;simp[fnM,yG,yN,zAK,y9,j9,Jq,wA,WT,G3,Yj,zG3,sRet,sIf,Z0,uA,sSet,J9,R.slot,W2,eOr,v5,y2,zY,Ys,eC,zJ,fiF,fiX,R.d,zF,yI,Cp.b,Cp.f,Op2.f,Bi.f,Ty.s,yQ,yP,yc,yd,ye,WQ,jc,jn,tT,wy,eCB,jo,v6,v7,v8,YG,ZS,Tg.m,eqG,eqF,neG,neF,vH,v9,YU,J8,ixD,atI,ixN,tD];rfl)
  (λd C _=>⟨.v d,rfl,rfl⟩)
  (by simp[cap];lia) (mi:=iL (Ys 0)) (E:=[.v (.l (l.map tD)),.v (.int s)]) (E1:=[.v (.l (l.map tD)),.v (.int s)]) rfl rfl
 have P:((l.map tD).filter (λd=>match d with | .t (.int a::_)=>a==s|_=>false)).map id=(l.filter λt=>t.1==s).map tD:=by
  rw[List.map_id,filter_map];rfl
 rw[P]at e;simp[jU,wj,Ju,fnM,yG,yN,zAK,y9,j9,Jq,wA,WT,G3,Yj,zG3,sRet,sIf,Z0,uA,sSet,J9,R.slot,W2,eOr,v5,y2,zY,Ys,eC,zJ,fiF,fiX,R.d,zF,yI,Cp.b,Cp.f,Op2.f,Bi.f,Ty.s,yQ,yP,yc,yd,ye,WQ,jc,jn,tT,wy,eCB,jo,v6,v7,v8,YG,ZS,Tg.m,eqG,eqF,neG,neF,vH,v9,YU,J8,e]
def zHT(x z:T3)(m:Ls T3):atI (tD x::(m.map tD++[tD z])) (-1)=some (tD z):=by
 have J:¬(0:Int)<=-1:=by decide
 have h2:-((m.length:Int)+1+1)<=-1:=by lia
 have Q:(-1+((m.length:Int)+1+1)).toNat=m.length+1:=by lia
 simp[atI,ixN,h2,Q]
def Yq{rs:Ls Int}(h:Row rs):∃(r:R) (l:Ls T3),yS [.v (YD rs)]=.ok (r,[.e])/\r.d=.l (l.map tD)/\l.map fg=WK (rle rs)/\l.length<=20:=by
 have f:=few3 rs h;have n:=zFd h;rw[zCW]at n;have k:=zCX (rle rs) 0;generalize QT 0 (rle rs)=l at n k f;rw[<- k];cases l with
 |nil =>
  refine⟨.v (.l []),[],?_,rfl,rfl,by simp⟩;simp[yS,jP,jZ,fnM,je,yG,yu,JD,jN,yN,jv,JW,vP,jE,zAK,y9,Z5,JC,j9,zAL,Jq,wA,WT,zEy,vO,yM,JV,yy,Jr,Yj,wB,wC,zE0,sRet,sIf,Z0,uA,sSet,J9,R.slot,W2,eOr,v5,y2,zY,Ys,eC,zJ,fiF,fiX,R.d,zF,yI,Cp.b,Cp.f,Op2.f,Bi.f,Ty.s,yQ,yP,yc,yd,ye,WQ,jc,jn,tT,wy,eCB,jo,v6,v7,v8,YG,ZS,Tg.m,eqG,eqF,neG,neF,vH,v9,YU,J8,n,zCs,ltD,Qw]
 |cons x l =>
  rcases List.eq_nil_or_concat l with hl|⟨m,z,hl⟩
  ·subst hl
   refine⟨.v (.l [tD x]),[x],?_,rfl,rfl,by simp⟩;simp[yS,jP,jZ,fnM,je,yG,yu,JD,jN,yN,jv,JW,vP,jE,zAK,y9,Z5,JC,j9,zAL,Jq,wA,WT,zEy,vO,yM,JV,yy,Jr,Yj,wB,wC,zE0,sRet,sIf,Z0,uA,sSet,J9,R.slot,W2,eOr,v5,y2,zY,Ys,eC,zJ,fiF,fiX,R.d,zF,yI,Cp.b,Cp.f,Op2.f,Bi.f,Ty.s,yQ,yP,yc,yd,ye,WQ,jc,jn,tT,wy,eCB,jo,v6,v7,v8,YG,ZS,Tg.m,eqG,eqF,neG,neF,vH,v9,YU,J8,n,zCs,ltD,Qw]
  ·rw[List.concat_eq_append]at hl
   subst hl;have I:¬((m.length:Int)+1+1<2):=by lia
   have e:Jv [.v (YD rs)]=.ok (.w (tD x::(m.map tD++[tD z])),[.e]):=by rw[n];simp
   have Z:=zHM x (m++[z]);dsimp[map_append,map_cons,map_nil]at Z;have g:=zHT x z m;have u:=cut_mid x z m;have o:m.length+1<=1000000:=by simp at f;lia
   rw[<- zHL];by_cases T:x.1=z.1
   ·refine⟨.w ((uR x z m).map tD),uR x z m,?_,rfl,rfl,by simp[uR,T]at f ⊢;lia⟩
    simp[yS,jP,jZ,fnM,je,yG,yu,JD,jN,yN,jv,JW,vP,jE,zAK,y9,Z5,JC,j9,zAL,Jq,wA,WT,zEy,vO,yM,JV,yy,Jr,Yj,wB,wC,zE0,sRet,sIf,Z0,uA,sSet,J9,R.slot,W2,eOr,v5,y2,zY,Ys,eC,zJ,fiF,fiX,R.d,zF,yI,Cp.b,Cp.f,Op2.f,Bi.f,Ty.s,yQ,yP,yc,yd,ye,WQ,jc,jn,tT,wy,eCB,jo,v6,v7,v8,YG,ZS,Tg.m,eqG,eqF,neG,neF,vH,v9,YU,J8,e,zCs,ltD,Qw,I,zIj,ix_t0,ix_t2,Z,g,u,eNeg,T,sTup,gT_tD,gNs,eSl,slD,zCt,Yt,cap,o,uR];simp[tD]
   ·refine⟨.v (.l ((uR x z m).map tD)),uR x z m,?_,rfl,rfl,by simp[uR,T]at f ⊢;lia⟩
    simp[yS,jP,jZ,fnM,je,yG,yu,JD,jN,yN,jv,JW,vP,jE,zAK,y9,Z5,JC,j9,zAL,Jq,wA,WT,zEy,vO,yM,JV,yy,Jr,Yj,wB,wC,zE0,sRet,sIf,Z0,uA,sSet,J9,R.slot,W2,eOr,v5,y2,zY,Ys,eC,zJ,fiF,fiX,R.d,zF,yI,Cp.b,Cp.f,Op2.f,Bi.f,Ty.s,yQ,yP,yc,yd,ye,WQ,jc,jn,tT,wy,eCB,jo,v6,v7,v8,YG,ZS,Tg.m,eqG,eqF,neG,neF,vH,v9,YU,J8,e,zCs,ltD,Qw,I,zIj,ix_t0,ix_t2,Z,g,u,eNeg,T,uR]
def Yc{rs:Ls Int}(h:Row rs){s:Int}(T:0<=s/\s<=2):yZ [.v (YD rs),.v (.int s)]=.ok (.v (.int (best s (WK (rle rs)):Nat)),[.e,.e]):=by
 obtain⟨r,l,n,g,q,O⟩:=Yq h;have u:=uT l s (by lia);have H:=Zl (l.filter λt=>t.1==s) (by have:=List.length_filter_le (λt=>t.1==s) l;lia);rw[lens3,q]at H;rw[<- g]at u;exact yX (zN (yF (zp rfl (zA rfl) (Zk h))) (zN (yF (z5 rfl (zA rfl) vm (vz (.int s) 3 rfl (by simp[vw];lia)))) (zW (yY (zp rfl (z5 rfl (zp rfl (zA rfl) n) (zA rfl) u) H))))) rfl
def m0(rs:Ls Nat):0<mT rs:=by unfold mT;lia
theorem it_it(rs:Ls Nat)(t:Nat):∀u,it (it rs t) u=it rs (t+u)
 |0=>rfl|u+1=>by show R1 (it (it rs t) u)=R1 (it rs (t+u));rw[it_it rs t u]
def mT_it(rs:Ls Nat)(t:Nat):mT (it rs t)=mT rs:=by unfold mT;rw[zCS]
def zFl(rs:Ls Nat)(t u:Nat):∃v,v<mT rs/\it (it rs t) v=it rs u:=by
 obtain⟨w,J,_,Q⟩:=zCT rs (mT rs) (m0 rs) (Zj rs) t;obtain⟨x,I,_,S⟩:=zCT rs (mT rs) (m0 rs) (Zj rs) u;obtain⟨v,O,_,n⟩:=zCT (it rs t) (mT rs) (m0 rs) (by have:=Zj (it rs t);rwa [mT_it]at this) (mT rs-w+x);refine⟨v,O,?_⟩;rw[n,<- Q,it_it,<- S,show w+(mT rs-w+x)=mT rs+x by lia,zFN rs _ (Zj rs)]
def zIn(rs:Ls Nat)(u:Nat):HT.lexLt (zs (it rs u)) (zs (it rs (lz rs)))=false:=by
 obtain⟨v,J,_,Q⟩:=zCT rs (mT rs) (m0 rs) (Zj rs) u;rw[<- Q];have Z:=GD (f:=λt=>((List.range (mT rs)).map λt=>zs (it rs t)).getD t []) (mT rs-1) v (by lia);have g:∀j,j<mT rs->((List.range (mT rs)).map λt=>zs (it rs t)).getD j []=zs (it rs j):=λj l=>by
  rw[getD_eq_getElem?_getD,getElem?_map,getElem?_range l];rfl
 have hl:=lz_lt rs;unfold lz yl at hl ⊢;rw[show((List.range (mT rs)).map λt=>zs (it rs t)).length-1=mT rs-1 by simp]at hl ⊢;rw[g v J,g _ hl]at Z;exact Z
def lz_same(rs:Ls Nat)(t:Nat):it (it rs t) (lz (it rs t))=it rs (lz rs):=by
 refine zIe (vL _ _ ?_ ?_)
 ·have:=zIn rs (t+lz (it rs t))
  rw[<- it_it]at this;exact this
 ·obtain⟨v,_,e⟩:=zFl rs t (lz rs)
  have:=zIn (it rs t) v;rw[e]at this;exact this
def QX{rs os:Ls Nat}{v:Nat}(P:v<mT rs)(e:it rs v=os):∃u,fnd rs os=some u/\u<=v/\u<mT rs/\it rs u=os:=by
 unfold fnd;cases h:(List.range (mT rs)).find? λt=>decide (it rs t=os)with
 |none =>
  have:=List.find?_eq_none.mp h v (by exists P);simp[e]at this
 |some u =>
  have J:=List.find?_some h;have h2:=List.mem_of_find?_eq_some h;refine⟨u,rfl,?_,by simpa using h2,by exists J⟩;refine Nat.le_of_not_lt λI=>?_
  have:=(List.find?_range_eq_some (p:=λt=>decide (it rs t=os)) (i:=u)).mp h;have:=this.2.2 v I;simp[e]at this
def zHU(rs:Ls Nat){t:Nat}(r:t<=rs.length):∃u,fnd rs (it rs t)=some u/\u<=t/\u<=rs.length/\it rs u=it rs t:=by
 by_cases h:t<mT rs
 ·obtain⟨u,J,h2,Q,h4⟩:=QX h rfl
  exact⟨u,J,h2,by lia,h4⟩
 ·have e:t=mT rs:=by unfold mT at *;lia
  obtain⟨u,J,h2,Q,h4⟩:=QX (rs:=rs) (os:=it rs t) (m0 rs) (by rw[e,Zj];rfl);exact⟨u,J,by lia,by lia,h4⟩
def s_lst{fs:Ls FI}{E E1 e:zS}{q:Ls Nat}{a:_}{r:R}(J:dE fs a E=.ok (r,E1))(Y:gL q r.d E1=.ok e):dS fs (.sLst q a) E=.ok (.nx,e):=by dsimp[rS_sLst,DV.sLst,J,Y]
def prI(b:B):Ls Int:=[b.1,(b.2:Int)]
def rr_len{rs:Ls Int}(h:Row rs):(WK (rle rs)).length<=20:=by
 obtain⟨r,l,_,_,q,O⟩:=Yq h;rw[<- q,length_map];exact O
def SA(rs:Ls Int):Ls D:=Gp (((WK (rle rs)).map prI).map TM.tD)
def SA_perm{a b:Ls Int}(p:(WK (rle a)).Perm (WK (rle b))):SA a=SA b:=zEu (p.map prI)
def SA_eqb(rs:Ls Int)(h:Row rs):eqb 20 (.l (SA rs))=true:=by
 obtain⟨M,e,_,_⟩:=Zc ((WK (rle rs)).map prI);unfold SA;rw[e];dsimp[eqb,all_eq_true];intro d C;obtain⟨a,_,rfl⟩:=mem_map.mp C;dsimp[eqb,all_eq_true];intro x c;obtain⟨i,_,rfl⟩:=mem_map.mp c;rfl
def zCb{rs:Ls Nat}(h:RowN rs):∃r,dE ze (.cB .sorted (.cons (.comp 3 ["_law_sign","_law_begin","_law_length"] [] [] (.iL (.call 3 (.ev (.x 0) .nil))) (.t [0,1,2]) .tTr (.t (.cons (.x 0) (.cons (.x 2) .nil)))) .nil)) [.v (zf rs)]=.ok (r,[.v (zf rs)])/\r.d=.l (SA (zs rs)):=by
 obtain⟨r,l,W,g,q,O⟩:=Yq h.row;rw[<- QU]at W;have e:dE ze (.comp 3 ["_law_sign","_law_begin","_law_length"] [] [] (.iL (.call 3 (.ev (.x 0) .nil))) (.t [0,1,2]) .tTr (.t (.cons (.x 0) (.cons (.x 2) .nil)))) [.v (zf rs)]=.ok (.w (((WK (rle (zs rs))).map prI).map TM.tD),[.v (zf rs)]):=by
  refine zCK (ds:=l.map tD) (vs:=[]) pat3 (λ_=>true) (λd=>match d with | .t [a,_,c]=>.t [a,c]|_=>.non) (i_L (zp (F:=yS) rfl (zA rfl) W) g) rfl (λd C S X K=>?_) (λd C=>?_) (λd C=>?_) (λd C _=>?_) (by rw[length_map];dsimp[cap];lia) ?_
  ·obtain⟨t,_,rfl⟩:=mem_map.mp C;exact zIV X K
  ·obtain⟨t,_,rfl⟩:=mem_map.mp C;exact⟨rfl,λs T=>by simp[pat3,tD]at T;rcases T with rfl|rfl|rfl<;>rfl⟩
  ·dsimp[Jr,Yj,zCC,jq]
  ·obtain⟨t,_,rfl⟩:=mem_map.mp C
   exact⟨_,J1 (zE (zA rfl) (zE (zA rfl) zT)) rfl wn,rfl⟩
  ·rw[List.filter_eq_self.mpr (λ_ _=>rfl),<- q,map_map,map_map,map_map]
   rfl
 have hl:=rr_len h.row;have o:zGi [.l (((WK (rle (zs rs))).map prI).map TM.tD)]=some (.w (SA (zs rs))):=by
  dsimp[zGi];rw[if_pos (sort_ok (by rw[length_map];lia) λ_ a i=>by obtain⟨b,_,rfl⟩:=mem_map.mp i;simp[prI])];rfl
 exact⟨_,Zg (zE e zT) o,rfl⟩
def zs_rot(rs:Ls Nat){t:Nat}(r:t<=rs.length):zs (it rs t)=(zs rs).drop t++(zs rs).take t:=by
 rw[GE rs t r];simp[zs,map_drop,map_take]
def ring_it(rs:Ls Nat){t:Nat}(r:t<=rs.length):(WK (rle (zs (it rs t)))).Perm (WK (rle (zs rs))):=by
 rw[zs_rot rs r];exact zCQ (zs rs) t (by simp[zs];exact r)
def zFm{rs:Ls Nat}(h:RowN rs){E:zS}{nm:Str}{i:Nat}(G:YE E [i]=.ok ([zf rs].map AR.tmp)):dE ze (.comp 1 ["_law_sign"] [nm] [i] (.iR1 (.cons (.c (.int 3)) .nil)) (.n 0) .tTr (.call 0 (.ev (.x 1) (.ev (.x 0) .nil)))) E=.ok (.w ([0,1,2].map λs:Int=>.int (best s (WK (rle (zs rs))):Nat)),E):=by
 refine wq (ds:=DV.zG 0 3) (vs:=[zf rs]) (λd=>match d with | .int s=>.int (best s (WK (rle (zs rs))):Nat)|_=>.non) (i_R1 (j:=3) (zE x_c zT) rfl ⟨by decide,by decide⟩) G (λd C=>?_) (by decide) rfl
 have:d=.int 0\/d=.int 1\/d=.int 2:=by simpa[DV.zG]using C
 have x:∀s:Int,0<=s/\s<=2->∃r,dE ze (.call 0 (.ev (.x 1) (.ev (.x 0) .nil))) [.v (.int s),.v (zf rs)]=.ok (r,[.v (.int s),.v (zf rs)])/\r.d=.int (best s (WK (rle (zs rs))):Nat):=λs T=>by
  have e:=Yc h.row T;rw[<- QU]at e;exact⟨_,z5 (F:=yZ) rfl (zA rfl) (zA rfl) e,rfl⟩
 rcases this with rfl|rfl|rfl
 ·exact x 0 (by decide)
 ·exact x 1 (by decide)
 ·exact x 2 (by decide)
def zHV{rs:Ls Nat}(h:RowN rs){t:Nat}(r:t<=rs.length):yU [.v (zf rs),.v (.int t)]=.ok (.v (.bl true),O2):=by
 have hl:=h.len;have ho:RowN (it rs t):=zIl h t;obtain⟨u,n,M,e,L⟩:=zHU rs r;have W:=zAn h ho;rw[n]at W;have x:RowN (it rs (lz rs)):=zIl h _;obtain⟨v,k,p⟩:=zFl rs t (lz rs);obtain⟨w,V,_,_,_⟩:=QX (rs:=it rs t) (os:=it rs (lz rs)) (v:=v) (by rw[mT_it];exact k) p;have P:=zAn ho x;rw[V]at P;have z:=zBc h;have G:=zBc ho;rw[lz_same]at G;have add:∀s,s<=rs.length->Yt (zf (rs.drop s)) (zf (rs.take s))=some (.v (zf (it rs s))):=λs T=>by
  rw[QV (by simp;lia),GE rs s T]
 have c:=add u e;rw[L]at c;have I:=GG u t;rw[decide_eq_false (by lia)]at I;have X:=zCa (it rs u) (it rs t);rw[L,decide_eq_true rfl]at X;have H:=zCa (it rs (lz rs)) (it rs (lz rs));rw[decide_eq_true rfl]at H;have J:=ring_it rs r;obtain⟨l,R,q⟩:=zCb h;obtain⟨o,g,O⟩:=zCb ho;rw[SA_perm J]at O;have a:=ne_lst (SA (zs rs)) (SA_eqb (zs rs) h.row);have K:=zFm h (E:=[.v (zf rs),.v (.int t),.v (zf (it rs t)),.v (.int u),.v (.l (SA (zs rs))),.v (.l (SA (zs rs)))]) (nm:="_law_row") (i:=0) rfl;have S:=zFm ho (E:=[.v (zf rs),.v (.int t),.v (zf (it rs t)),.v (.int u),.v (.l (SA (zs rs))),.v (.l (SA (zs rs)))]) (nm:="_law_other") (i:=2) rfl;rw[show([0,1,2].map λs:Int=>D.int (best s (WK (rle (zs (it rs t)))):Nat))=[0,1,2].map λs:Int=>D.int (best s (WK (rle (zs rs))):Nat)by dsimp[zFI J]]at S;have j:=eq_lst ([0,1,2].map λs:Int=>D.int (best s (WK (rle (zs rs))):Nat)) rfl;have y:dE ze (.comp 1 ["_law_some"] [] [] (.iT (.t (.cons (.x 0) (.cons (.x 2) .nil)))) (.n 0) .tTr (.cB .sorted (.cons (.comp 3 ["_law_sign","_law_begin","_law_length"] [] [] (.iL (.call 3 (.ev (.x 0) .nil))) (.t [0,1,2]) .tTr (.t (.cons (.x 0) (.cons (.x 2) .nil)))) .nil))) [.v (zf rs),.v (.int t),.v (zf (it rs t)),.v (.int u),.e,.e] =
   .ok (.w [.l (SA (zs rs)),.l (SA (zs rs))],[.v (zf rs),.v (.int t),.v (zf (it rs t)),.v (.int u),.e,.e]):=by
  refine wq (ds:=[zf rs,zf (it rs t)]) (vs:=[]) (λ_=>.l (SA (zs rs))) (i_T (J1 (zE (zA rfl) (zE (zA rfl) zT)) rfl wn) rfl) rfl (λd C=>?_) wn rfl;dsimp[mem_cons,mem_nil_iff,or_false]at C;rcases C with rfl|rfl
  ·exact⟨l,R,q⟩
  ·exact⟨o,g,O⟩
 refine yX (E1:=[.v (zf rs),.v (.int t),.v (zf (it rs t)),.v (.int u),.v (.l (SA (zs rs))),.v (.l (SA (zs rs)))]) ?_ rfl;refine zN (E1:=[.v (zf rs),.v (.int t),.v (zf (it rs t)),.e,.e,.e]) (y4 (zb (zC5 (zA rfl) (o_S (zA rfl)) o_N (sl_f rs t)) (zC5 (zA rfl) o_N (o_S (zA rfl)) (sl_t rs t)) (add t r)) rfl) ?_;refine zN (E1:=[.v (zf rs),.v (.int t),.v (zf (it rs t)),.v (.int u),.e,.e]) (y4 (z5 (F:=Jx) rfl (zA rfl) (zA rfl) W) rfl) ?_;refine zN (E1:=[.v (zf rs),.v (.int t),.v (zf (it rs t)),.v (.int u),.e,.e]) (jf (zCJ (t_E (yD (zA rfl) x_c rfl)) (zCJ (t_E (yD (zA rfl) (zA rfl) I)) (zCJ (t_E (yD (zb (zC5 (zA rfl) (o_S (zA rfl)) o_N (sl_f rs u)) (zC5 (zA rfl) o_N (o_S (zA rfl)) (sl_t rs u)) c) (zA rfl) X))
  (t_E (yD (zp (F:=yK) rfl (zA rfl) z) (zp (F:=yK) rfl (zA rfl) G) H))))) jg) ?_
 refine zN (s_lst y rfl) ?_;refine zN (jf (zCJ (t_E (yD (zA rfl) (zA rfl) a)) (t_E (yD (z5 (F:=Jx) rfl (zA rfl) (zp (F:=yK) rfl (zA rfl) z) P) x_c rfl))) jg) ?_;exact zW (yY (yD K S j))
end My
namespace My
open PySem L2 DV SM TM RM KD
def min_nat(a b:Nat):zIA [.int (a:Nat),.int (b:Nat)]=some (.v (.int ((min a b:Nat):Int))):=by
 dsimp[zIA];congr 3;split<;>lia
def zHW(a b:Nat):minH [.int (a:Nat),.int (b:Nat)]=some (.v (.int ((min a b:Nat):Int))):=by
 unfold minH;rw[min_nat]
def big16{n:Nat}(h:n<16):n<2^800:=lt_trans h (by left)
section
variable{m n k:Nat}(hm:M2 m)(hn:1<=n/\n<=8)(hk:k<=8)
include hm hn hk
def zBd:Jb [.v (.int m),.v (.int n),.v (.int k)]=.ok (.v .non,O3) :=
 zIX (zN (yF (zp (F:=yB) rfl (zA rfl) (zBX hm))) (zN (yF (zk (F:=zH) rfl (zA rfl) x_c vm (zd _ 1 12 rfl (zIg (n:=n) (lo:=1) (hi:=12) (by lia) (by lia)))))
  (zW (yF (zk (F:=zH) rfl (zA rfl) x_c vm (zd _ 0 30 rfl (J4 (by lia:k<=30)))))))) rfl
def e_kept{t:Nat}(r:t<n):jW [.v (.int m),.v (.int n),.v (.int k),.v (.int t)]=.ok (.v (.int (kept m n k t:Nat)),O4):=by
 have g:=e_gcd (n:Int) t (big16 (by lia));rw[Int.natAbs_natCast]at g;have I:1<=n.gcd t:=Nat.gcd_pos_of_pos_left _ (by lia);have h:n.gcd t<=n:=Nat.gcd_le_left _ (by lia);have R:zCq (.int (n.gcd t:Nat)) (.int 1)=some (.v (.int ((n.gcd t-1:Nat):Int))):=GF (b:=1) I;have a:=zHW k (n.gcd t-1);have e:=GH (w:=1) (o:=m-1) (n:=n.gcd t) (k:=min k (n.gcd t-1)) (by lia) (by lia) (by lia);have le:=zIf n k;have Z:Yt (.int (Rp 1 (m-1) (n.gcd t) (min k (n.gcd t-1)):Nat)) (.int 1)=some (.v (.int ((Rp 1 (m-1) (n.gcd t) (min k (n.gcd t-1))+1:Nat):Int))):=y6 _ 1;unfold kept;refine yX (E1:=[.v (.int m),.v (.int n),.v (.int k),.v (.int t),.v (.int (n.gcd t:Nat)),.v (.int (Rp 1 (m-1) (n.gcd t) (min k (n.gcd t-1)):Nat))]) ?_ rfl;refine zN (y4 (z5 (F:=yA) rfl (zA rfl) (zA rfl) g) rfl) (zN (y4 (jR (F:=zL) rfl x_c (zb (zA rfl) x_c (zDC hm)) (zA rfl) (Zg (zE (zA rfl) (zE (zb (zA rfl) x_c R) zT)) a) e) rfl) (zW (yY ?_)));by_cases c:n<=k
 ·rw[if_pos c]
  rw[decide_eq_true c]at le;exact x_ifx1 (t_E (yD (zA rfl) (zA rfl) le)) (zb (zA rfl) x_c Z)
 ·rw[if_neg c]
  rw[decide_eq_false c]at le;exact x_ifx0 (t_E (yD (zA rfl) (zA rfl) le)) (zA rfl)
def zIo:yn [.v (.int m),.v (.int n),.v (.int k)]=.ok (.v (.int (km m n k:Nat)),O3):=by
 have S:dE ZI (.comp 1 ["t"] ["m","n","k"] [0,1,2] (.iR1 (.cons (.x 1) .nil)) (.n 0) .tTr (.call 0 (.ev (.x 1) (.ev (.x 2) (.ev (.x 3) (.ev (.x 0) .nil)))))) [.v (.int m),.v (.int n),.v (.int k)]=.ok (.w (N ((List.range n).map (kept m n k))),[.v (.int m),.v (.int n),.v (.int k)]):=by
  refine wq (ds:=N (List.range n)) (vs:=[.int m,.int n,.int k]) (λd=>.int (kept m n k (Yi d):Nat)) (Wi (by lia) (zA rfl)) rfl (λd C=>?_) (by simp[N,cap];lia) ?_
  ·obtain⟨t,ht,rfl⟩:=zFM C
   have:=mem_range.mp ht;exact⟨_,jR (F:=jW) rfl (zA rfl) (zA rfl) (zA rfl) (zA rfl) (e_kept hm hn hk this),rfl⟩
  ·dsimp[N,map_map]
   rfl
 have s:=sum_N ((List.range n).map (kept m n k));have q:=QS ((((List.range n).map (kept m n k)).sum:Nat):Int) n (by lia) (big16 (by lia));rw[zCU]at q;exact yX (zN (yF (zk (F:=Jb) rfl (zA rfl) (zA rfl) (zA rfl) (zBd hm hn hk))) (zW (yY (zb (Zg (zE S zT) s) (zA rfl) q)))) rfl
end
def kD(p:KP):D:=.t [zf p.1,.int (p.2:Nat)]
def at_back{l:Ls Nat}{p:Nat}(J:1<=p)(Y:p<=l.length):atI (N l) (-(p:Int))=some (.int (l.getD (l.length-p) 0:Nat)):=by
 have a:¬(0:Int)<=-(p:Int):=by lia
 have b:-((N l).length:Int)<=-(p:Int):=by rw[Yp];lia
 have c:(-(p:Int)+((N l).length:Int)).toNat=l.length-p:=by rw[Yp];lia
 have I:l.length-p<l.length:=by lia
 unfold atI ixN;rw[if_neg a,if_pos b,c];simp[N,I]
def e_grown{m i:Nat}{p:KP}(Y:M2 m)(h:KI m i p)(hi:i<=20):∃r,jx [.v (kD p),.v (.int m)]=.ok (r,O2)/\r.d=.l ((gk m p).map kD):=by
 have hl:=h.len;have q:=zIm p.1 [];have tp:dS yz (.sTup [2,3] (.x 0)) [.v (kD p),.v (.int m),.e,.e,.e,.e]=.ok (.nx,[.v (kD p),.v (.int m),.v (zf p.1),.v (.int (p.2:Nat)),.e,.e]):=s_tup (zA rfl) rfl;by_cases c:p.1=[]
 ·rw[decide_eq_true c]at q
  refine⟨_,yX (zN tp (QK (WW (t_E (yD (zA rfl) (J1 zT rfl vq) q)) (zW (yY (wq (ds:=N (List.range m)) (vs:=[]) (λd=>.t [.t [d],.int 1]) (Wi (by lia) (zA rfl)) rfl (λd C=>⟨_,J1 (zE (J1 (zE (zA rfl) zT) rfl wJ) (zE x_c zT)) rfl wn,rfl⟩) (by simp[N,cap];lia) rfl)))))) rfl,?_⟩;show D.l _=_;congr 1;unfold gk;rw[if_pos c];dsimp[N,map_map];rfl
 ·have P:0<i:=by rw[<- h.len];exact List.length_pos_iff.mpr c
  have L:=h.part P;obtain⟨_,T⟩:=zBT h P;have a:=at_back (l:=p.1) h.pos (by lia);unfold gk;rw[if_neg c];generalize p.1.getD (p.1.length-p.2) 0=sm at a T ⊢;rw[decide_eq_false c]at q;have ix:ixD (zf p.1) (.int (-(p.2:Int)))=some (.v (.int (sm:Nat))):=by
   show(atI (N p.1) _).map R.v=_
   rw[a];rfl
  have Z:Yt (.int (sm:Nat)) (.int 1)=some (.v (.int ((sm+1:Nat):Int))):=y6 sm 1;have al:Yt (.int (p.1.length:Nat)) (.int 1)=some (.v (.int ((p.1.length+1:Nat):Int))):=y6 _ 1;have g:∀x:Nat,Yt (zf p.1) (.t [.int (x:Nat)])=some (.v (zf (p.1++[x]))):=λx=>QV (b:=[x]) (by simp;lia)
  have o:dI yz (.iR2 (.cons (.bin .add (.x 4) (.c (.int 1))) (.cons (.x 1) .nil))) [.v (kD p),.v (.int m),.v (zf p.1),.v (.int (p.2:Nat)),qI sm,.e]=.ok (DV.zG ((sm+1:Nat):Int) (m-(sm+1)),[.v (kD p),.v (.int m),.v (zf p.1),.v (.int (p.2:Nat)),qI sm,.e]):=by
   have:dI yz (.iR2 (.cons (.bin .add (.x 4) (.c (.int 1))) (.cons (.x 1) .nil))) [.v (kD p),.v (.int m),.v (zf p.1),.v (.int (p.2:Nat)),qI sm,.e]=.ok (DV.zG ((sm+1:Nat):Int) ((m:Int)-((sm+1:Nat):Int)).toNat,[.v (kD p),.v (.int m),.v (zf p.1),.v (.int (p.2:Nat)),qI sm,.e]):=i_R2 (zE (zb (zA rfl) x_c Z) (zE (zA rfl) zT)) rfl rfl ⟨by lia,by lia⟩ ⟨by lia,by lia⟩
   rwa [show((m:Int)-((sm+1:Nat):Int)).toNat=m-(sm+1)by lia]at this
  have y:dE yz (.comp 1 ["thrown"] ["row"] [2] (.iR2 (.cons (.bin .add (.x 4) (.c (.int 1))) (.cons (.x 1) .nil))) (.n 0) .tTr (.t (.cons (.bin .add (.x 1) (.t (.cons (.x 0) .nil))) (.cons (.bin .add (.cB .len (.cons (.x 1) .nil)) (.c (.int 1))) .nil)))) [.v (kD p),.v (.int m),.v (zf p.1),.v (.int (p.2:Nat)),qI sm,.e] =
    .ok (.w (((List.range (m-(sm+1))).map λt=>(p.1++[sm+1+t],p.1.length+1)).map kD),[.v (kD p),.v (.int m),.v (zf p.1),.v (.int (p.2:Nat)),qI sm,.e]):=by
   refine wq (vs:=[zf p.1]) (λd=>kD (p.1++[Yi d],p.1.length+1)) o rfl (λd C=>?_) (by rw[yg];simp[cap];lia) ?_
   ·obtain⟨j,k⟩:=mem_iff_getElem?.mp C
    obtain⟨_,rfl⟩:=y1 _ _ _ _ k;rw[<- Int.natCast_add];exact⟨_,J1 (zE (zb (zA rfl) (J1 (zE (zA rfl) zT) rfl wJ) (g _)) (zE (zb (Zg (zE (zA rfl) zT) (zBa p.1)) x_c al) zT)) rfl wn,rfl⟩
   ·rw[map_map]
    apply List.ext_getElem?;intro j;rw[getElem?_map,getElem?_map];by_cases k:j<m-(sm+1)
    ·have:j<(DV.zG ((sm+1:Nat):Int) (m-(sm+1))).length:=by rw[yg];exact k
     obtain⟨_,e⟩:=y1 _ _ _ _ (getElem?_eq_getElem this);rw[getElem?_range k,getElem?_eq_getElem this,e,<- Int.natCast_add];rfl
    ·rw[List.getElem?_eq_none (by rw[yg];lia),List.getElem?_eq_none (by simp;lia)];rfl
  have v:=QM [kD (p.1++[sm],p.2)] (((List.range (m-(sm+1))).map λt=>(p.1++[sm+1+t],p.1.length+1)).map kD) (by simp;lia);refine⟨_,yX (zN tp (zN (jf (t_E (yD (zA rfl) (J1 zT rfl vq) q)) jg) (zN (y4 (zFB (zA rfl) (x_neg (zA rfl)) ix) rfl) (zN (y4 y rfl) (zW (yY (zb (QJ (zE (J1 (zE (zb (zA rfl) (J1 (zE (zA rfl) zT) rfl wJ) (g sm)) (zE (zA rfl) zT)) rfl wn) zT) rfl wJ) (vn rfl rfl) v))))))) rfl,?_⟩;rfl
end My
namespace DV
open PySem L2
section
variable{fs:Ls FI}{E E1:zS}
theorem zIp{el jt:_}{V:Ls DV.Slot}{es:D->Ls D}(g:D->D->D):∀(G:Ls D) (a R:DV.Slot) (L:Ls D),jw a=true->jw R=true->L.length+(G.flatMap es).length<=cap ->
  (∀d∈G,∀R,dI fs jt (.v d::R::V)=.ok (es d,.v d::R::V))->(∀d∈G,∀e∈es d,∃r,dE fs el (.v d::.v e::V)=.ok (r,.v d::.v e::V)/\r.d=g d e) ->
  ∃t v,jw t=true/\jw v=true/\wf (gN 0) jq (maL (dI fs jt) (gN 1) jq (ma1 (dE fs el))) G (a::R::V) L=.ok (L++G.flatMap (λd=>(es d).map (g d)),t::v::V)
 | [],a,R,L,P,J,S,l,h=>⟨a,R,P,J,by simp[wf]⟩
 |d::G,a,R,L,P,J,S,l,h=>by
  have I:gN 0 d (a::R::V)=.ok (.v d::R::V):=by cases a<;>first|rfl|(cases P)
  rw[List.flatMap_cons,length_append]at S;obtain⟨v,ht,f⟩:=zIc (d:=d) (V:=V) (el:=el) (fs:=fs) (g d) (es d) R L J (by lia) (h d qE);obtain⟨c,u,q0,K,n⟩:=zIp g G (.v d) v (L++(es d).map (g d)) rfl ht (by dsimp[length_append,length_map];lia) (λx M=>l x (qD _ M)) λx M=>h x (qD _ M)
  refine⟨c,u,q0,K,?_⟩;dsimp[wf,I,jq,maL,l d qE R,f,n];simp
def x_compD{xs ys:Ls Str}{caps:Ls Nat}{it jt el:_}{ds vs:Ls D}{es:D->Ls D}(g:D->D->D)(hi:dI fs it E=.ok (ds,E1))(o:YE E1 caps=.ok (vs.map AR.tmp))
  (l:∀d∈ds,∀R,dI fs jt (.v d::R::vs.map Slot.v)=.ok (es d,.v d::R::vs.map Slot.v)) (h:∀d∈ds,∀e∈es d,∃r,dE fs el (.v d::.v e::vs.map Slot.v)=.ok (r,.v d::.v e::vs.map Slot.v)/\r.d=g d e) (S:(ds.flatMap es).length<=cap) :
  dE fs (.comp2 2 xs ys caps it (.n 0) jt (.n 1) el) E=.ok (.w (ds.flatMap λd=>(es d).map (g d)),E1):=by
 obtain⟨t,v,q0,K,f⟩:=zIp (el:=el) (jt:=jt) (V:=vs.map Slot.v) g ds .e .e [] rfl rfl (by exists S) l h;dsimp[zG1];refine zBD ?_;have i:wf (gN 0) jq (maL (dI fs jt) (gN 1) jq (ma1 (dE fs el))) ds (replicate 2 .e++vs.map Slot.v) []=.ok (ds.flatMap (λd=>(es d).map (g d)),t::v::vs.map Slot.v):=by exists f
 dsimp[Jj,hi,o,G5,Tg.m,i];rw[G6 vs _ _ _ (by rw[length_drop,zZ];simp)]
end
end DV
namespace My
open PySem L2 DV SM TM RM KD
def rO:D->Ls Nat
 | .t l=>zFR l|_=>[]
abbrev E8(m n k:Nat)(l:Ls KP)(s6 v:DV.Slot):zS:=[.v (.int m),.v (.int n),.v (.int k),.v (.int (km m n k:Nat)),.v (zf (replicate (k+1) 0)),.w (l.map kD),s6,v]
def k_pat{p:KP}{S R:Ls DV.Slot}(X:S.length=2)(hn:∀s∈S,jw s=true):gT [0,1] (kD p) (S++R)=.ok ([.v (zf p.1),.v (.int (p.2:Nat))]++R):=gT_ok2 X hn
def kP(d:D):Ls DV.Slot:=match d with | .t [a,b]=>[.v a,.v b]|_=>[]
def zDH{m n k i:Nat}(Y:M2 m)(hi:i<8)(V:k<=8){s6 v:DV.Slot}(w:jw v=true) :
  ∃t,dB yC wk (E8 m n k (ks m k i) s6 v)=.ok (.nx,E8 m n k (ks m k (i+1)) s6 t)/\jw t=true:=by
 have hf:=zFP m k i;have Q:m^i<=3^8:=le_trans (pow_le_pow_left Y.2 i) (Nat.pow_le_pow_right (by decide) (by lia));have h:(3:Nat)^8=6561:=by decide
 have g:=QO (ks m k i) (zFO m k i);have l:(ks m k i).length*m<=6561*3:=Nat.mul_le_mul (by lia) Y.2;have M:dE yC (.comp2 2 ["begun","kind"] ["m"] [0] (.iL (.x 5)) (.n 0) (.iL (.call 0 (.ev (.x 0) (.ev (.x 2) .nil)))) (.n 1) (.x 1)) (E8 m n k (ks m k i) s6 v) =
   .ok (.w (((ks m k i).flatMap (gk m)).map kD),[.v (.int m),.v (.int n),.v (.int k),.v (.int (km m n k:Nat)),.v (zf (replicate (k+1) 0)),.v (.l ((ks m k i).map kD)),s6,v]):=by
  have un:∀p:KP,rO (zf p.1)=p.1:=λp=>zFS p.1
  have:=x_compD (fs:=yC) (xs:=["begun","kind"]) (ys:=["m"]) (ds:=(ks m k i).map kD) (vs:=[.int m]) (es:=λd=>match d with | .t [a,b]=>(gk m (rO a,Yi b)).map kD|_=>[]) (el:=.x 1) (jt:=.iL (.call 0 (.ev (.x 0) (.ev (.x 2) .nil)))) (λ_ e=>e)
   (i_L (E:=E8 m n k (ks m k i) s6 v) (vn (i:=5) rfl rfl) rfl) (caps:=[0]) rfl (λd C R=>by
    obtain⟨p,L,rfl⟩:=mem_map.mp C;obtain⟨r,W,P⟩:=e_grown Y (zFO m k i p L) (by lia);have:=i_L (z5 (F:=jx) (E:=[.v (kD p),R,.v (.int m)]) (fs:=yC) (k:=0) rfl (zA (i:=0) rfl) (zA (i:=2) rfl) W) P;rw[show(match kD p with | .t [a,b]=>(gk m (rO a,Yi b)).map kD|_=>[])=(gk m p).map kD by show(gk m (rO (zf p.1),_)).map kD=_;rw[un];rfl]
    exact this) (λd C e c=>⟨_,zA rfl,rfl⟩) (by
    rw[List.flatMap_map];dsimp[kD,un];have:((ks m k i).flatMap λp=>(gk m (p.1,Yi (.int (p.2:Nat)))).map kD).length=((ks m k i).flatMap (gk m)).length:=by
     show((ks m k i).flatMap λp=>(gk m p).map kD).length=_
     rw[<- List.map_flatMap,length_map]
    rw[this];dsimp[cap];lia)
  rw[this];congr 2;rw[List.flatMap_map];dsimp[kD,un];rw[show((ks m k i).flatMap λp=>((gk m (p.1,Yi (.int (p.2:Nat)))).map kD).map λe=>e)=(ks m k i).flatMap λp=>(gk m p).map kD by congr 1;funext p;rw[List.map_id'];rfl];rw[<- List.map_flatMap]
 have Z:Yt (.int (k:Nat)) (.int 1)=some (.v (.int ((k+1:Nat):Int))):=y6 k 1;have j:dE yC (.comp 2 ["row","part"] ["k","too_long"] [2,4] (.iL (.x 7)) (.t [0,1]) (.tE (.cmp .ne (.sl (.x 0) .oN (.oS (.bin .add (.x 2) (.c (.int 1))))) (.x 3))) (.t (.cons (.x 0) (.cons (.x 1) .nil)))) [.v (.int m),.v (.int n),.v (.int k),.v (.int (km m n k:Nat)),.v (zf (replicate (k+1) 0)),.v (.l ((ks m k i).map kD)),s6,.w (((ks m k i).flatMap (gk m)).map kD)] =
   .ok (.w ((ks m k (i+1)).map kD),[.v (.int m),.v (.int n),.v (.int k),.v (.int (km m n k:Nat)),.v (zf (replicate (k+1) 0)),.v (.l ((ks m k i).map kD)),s6,.v (.l (((ks m k i).flatMap (gk m)).map kD))]):=by
  have un:∀p:KP,rO (zf p.1)=p.1:=λp=>zFS p.1
  refine zCK (ds:=((ks m k i).flatMap (gk m)).map kD) (vs:=[.int k,zf (replicate (k+1) 0)]) kP (λd=>match d with | .t [a,b]=>okK k (rO a,Yi b)|_=>false) (λd=>d) (i_L (vn rfl rfl) rfl) rfl (λd C S X K=>?_) (λd C=>?_) (λd C=>?_) (λd C _=>?_) (by rw[length_map];dsimp[cap];lia) ?_
  ·obtain⟨p,_,rfl⟩:=mem_map.mp C;exact k_pat X K
  ·obtain⟨p,_,rfl⟩:=mem_map.mp C;exact⟨rfl,λs T=>by simp[kP,kD]at T;rcases T with rfl|rfl<;>rfl⟩
  ·obtain⟨p,_,rfl⟩:=mem_map.mp C
   have q:=zCa (p.1.take (k+1)) (replicate (k+1) 0);have:(match kD p with | .t [a,b]=>okK k (rO a,Yi b)|_=>false)=!decide (p.1.take (k+1)=replicate (k+1) 0):=by show okK k (rO (zf p.1),_)=_;rw[un];rfl
   rw[this];exact t_E (yD (zC5 (zA rfl) o_N (o_S (zb (zA rfl) x_c Z)) (sl_t p.1 (k+1))) (zA rfl) q)
  ·obtain⟨p,_,rfl⟩:=mem_map.mp C
   exact⟨_,J1 (zE (zA rfl) (zE (zA rfl) zT)) rfl wn,rfl⟩
  ·rw[List.map_id',filter_map]
   congr 1
   show List.filter _ _=List.filter _ _
   congr 1
   funext p
   show okK k (rO (zf p.1),_)=_
   rw[un];rfl
 refine⟨.v (.l (((ks m k i).flatMap (gk m)).map kD)),?_,rfl⟩;exact zN (y4 M (by cases v<;>first|rfl|(cases w))) (zW (y4 j rfl))
def e_kinds{m n k:Nat}(Y:M2 m)(K:1<=n/\n<=8)(V:k<=8)(c:km m n k<=300):wX [.v (.int m),.v (.int n),.v (.int k)]=.ok (.w ((kl m n k).map zf),O3):=by
 have un:∀p:KP,rO (zf p.1)=p.1:=λp=>zFS p.1
 have u:=zIo Y K V;have g:=GG (km m n k) 300;rw[decide_eq_false (by lia)]at g;have Z:Yt (.int (k:Nat)) (.int 1)=some (.v (.int ((k+1:Nat):Int))):=y6 k 1;have r:=zCR (.int 0) (k+1) (by lia);have x:YU (.t [.int 0]) (.int ((k+1:Nat):Int))=some (.v (zf (replicate (k+1) 0))):=by rw[r];simp[N]
 obtain⟨E',l,s6,v,G,y,w⟩:=jT (tg:=gN 6) (body:=dB yC wk) (λi E=>∃s6 v,E=E8 m n k (ks m k i) s6 v/\jw s6=true/\jw v=true) (DV.zG 0 n) 0 (E8 m n k (ks m k 0) .e .e) ⟨_,_,rfl,rfl,rfl⟩ (λi d q E ⟨s6,v,G,y,w⟩=>by
  obtain⟨R,rfl⟩:=y1 _ _ _ _ q;rw[zero_add]at G ⊢;obtain⟨t,e,o⟩:=zDH (n:=n) (s6:=.v (.int (0+(i:Int)))) Y (by lia:i<8) V w;refine⟨E8 m n k (ks m k i) (.v (.int (0+(i:Int)))) v,_,?_,e,_,_,rfl,rfl,o⟩;subst G;cases s6<;>first|rfl|(cases y))
 rw[yg,zero_add]at G;subst G;have hf:=zFP m k n;have Q:m^n<=3^8:=le_trans (pow_le_pow_left Y.2 n) (Nat.pow_le_pow_right (by decide) (by lia));have h:(3:Nat)^8=6561:=by decide
 have j:dE yC (.comp 2 ["row","part"] ["n"] [1] (.iL (.x 5)) (.t [0,1]) (.tE (.cmp .eq (.bin .mod (.x 2) (.x 1)) (.c (.int 0)))) (.x 0)) (E8 m n k (ks m k n) s6 v) =
   .ok (.w ((kl m n k).map zf),[.v (.int m),.v (.int n),.v (.int k),.v (.int (km m n k:Nat)),.v (zf (replicate (k+1) 0)),.v (.l ((ks m k n).map kD)),s6,v]):=by
  refine zCK (ds:=(ks m k n).map kD) (vs:=[.int n]) kP (λd=>match d with | .t [a,b]=>decide (n%Yi b=0)|_=>false) (λd=>match d with | .t [a,_]=>a|_=>.non) (i_L (vn rfl rfl) rfl) rfl (λd C S X K=>?_) (λd C=>?_) (λd C=>?_) (λd C _=>?_) (by rw[length_map];dsimp[cap];lia) ?_
  ·obtain⟨p,_,rfl⟩:=mem_map.mp C;exact k_pat X K
  ·obtain⟨p,_,rfl⟩:=mem_map.mp C;exact⟨rfl,λs T=>by simp[kP,kD]at T;rcases T with rfl|rfl<;>rfl⟩
  ·obtain⟨p,L,rfl⟩:=mem_map.mp C
   have J:=(zFO m k n p L).pos;have q:=zAh (n%p.2) 0;exact t_E (yD (zb (zA rfl) (zA rfl) (zFU n p.2 (by lia))) x_c q)
  ·obtain⟨p,_,rfl⟩:=mem_map.mp C
   exact⟨_,zA rfl,rfl⟩
  ·unfold kl
   rw[filter_map,map_map,map_map];rfl
 have P:((n:Nat):Int).toNat=n:=by lia
 exact yX (zN (y4 (zk (F:=yn) rfl (zA rfl) (zA rfl) (zA rfl) u) rfl) (zN (jf (t_E (yD (zA rfl) vm g)) jg) (zN (y4 (zb (J1 (zE x_c zT) rfl wJ) (zb (zA rfl) x_c Z) x) rfl)
  (zN (y4 (QJ (zE (J1 (zE (J1 zT rfl vq) (zE x_c zT)) rfl wn) zT) rfl wJ) rfl) (zN (Zh (zE (zA rfl) zT) rfl ⟨by lia,by lia⟩ (by rw[P];exact l)) (zW (yY j))))))) rfl
theorem zCc:∀r:Ls Nat,G1 (N r)=some (zs r)
 | []=>rfl
 |n::r=>by
  show(G1 (N r)).map (((n:Nat):Int)::·)=_
  rw[zCc r];rfl
theorem zCd:∀L:Ls (Ls Nat),(∀r∈L,r≠[])->zAI (L.map zf)=some (L.map zs)
 | [],_=>rfl| []::L,h=>absurd rfl (h [] qE)
 | (n::r)::L,h=>by
  show(G1 (N r)).bind (λa=>(zAI (L.map zf)).map ((((n:Nat):Int)::a)::·))=_
  rw[zCc r,zCd L λx M=>h x (qD _ M)];rfl
def zFn{r:Ls Nat}(J:1<=r.length)(Y:r.length<=16):um [.l (((List.range r.length).map (it r)).map zf)]=some (.v (.int (many r:Nat))):=by
 show ul _=_
 unfold ul;rw[zCd _ λx M=>by
  obtain⟨t,_,rfl⟩:=mem_map.mp M;intro e;have:=zCS r t;rw[e]at this;simp at this;lia]
 show(if _ then _ else _)=_
 rw[if_pos (by simp;exact Y),map_map];rfl
def x_ltset{fs:Ls FI}{E E1:zS}{as:_}{rs:Ls R}{r:R}(J:dA fs as E=.ok (rs,E1))(Y:um (rs.map R.d)=some r):dE fs (.ltset as) E=.ok (r,E1):=by dsimp[zG2,eCB,J,Y]
abbrev K5(m n k s:Nat)(p:DV.Slot):zS:=[.v (.int m),.v (.int n),.v (.int k),qI s,p]
def zDI{m n k s:Nat}{r:Ls Nat}(hn:n<=8)(c:r.length=n):dE yV (.comp 1 ["_law_at"] ["_law_row"] [4] (.iR1 (.cons (.x 1) .nil)) (.n 0) .tTr (.bin .add (.sl (.x 1) (.oS (.x 0)) .oN) (.sl (.x 1) .oN (.oS (.x 0))))) (K5 m n k s (.v (zf r)))=.ok (.w (((List.range r.length).map (it r)).map zf),K5 m n k s (.v (zf r))):=by
 refine wq (ds:=N (List.range n)) (vs:=[zf r]) (λd=>zf (it r (Yi d))) (Wi (by lia) (zA rfl)) rfl (λd C=>?_) (by simp[N,cap];lia) ?_
 ·obtain⟨t,ht,rfl⟩:=zFM C
  have ht:=mem_range.mp ht;have v:Yt (zf (r.drop t)) (zf (r.take t))=some (.v (zf (it r t))):=by rw[QV (by simp;lia),GE r t (by lia)]
  exact⟨_,zb (zC5 (zA rfl) (o_S (zA rfl)) o_N (sl_f r t)) (zC5 (zA rfl) o_N (o_S (zA rfl)) (sl_t r t)) v,rfl⟩
 ·rw[c]
  dsimp[N,map_map];rfl
def zHX{m n k s:Nat}{r:Ls Nat}(Y:M2 m)(hn:1<=n/\n<=8)(t:good m n k r=true):dB yV yw (K5 m n k s (.v (zf r)))=.ok (.nx,K5 m n k (s+many r) (.v (zf r))):=by
 dsimp[good,Bool.and_eq_true,decide_eq_true_eq,all_eq_true,KD.least]at t;obtain⟨⟨⟨hl,M⟩,c⟩,Z⟩:=t;have z:RowN r:=⟨by lia,λx h=>by have:=M x h;lia⟩;have W:=zBc z;have a:it r (lz r)=r:=c;rw[a]at W;have X:=zCa r r;rw[decide_eq_true rfl]at X;have P:=Yc z.row (s:=0) (by decide);rw[<- QU]at P;have g:=GG (best 0 (WK (rle (zs r)))) k;rw[decide_eq_false (by lia)]at g;have y:=zDI (m:=m) (k:=k) (s:=s) hn.2 hl;have V:=zFn (r:=r) (by lia) (by lia);exact zN (jf (zCJ (t_E (yD (zp (F:=yK) rfl (zA rfl) W) (zA rfl) X)) (t_E (yD (z5 (F:=yZ) rfl (zA rfl) x_c P) (zA rfl) g))) jg) (zW (y4 (zb (zA rfl) (x_ltset (zE y zT) V) (y6 s (many r))) rfl))
def QY{m n k:Nat}(Y:M2 m)(hn:1<=n/\n<=8)(V:k<=8):yh [.v (.int m),.v (.int n),.v (.int k)]=.ok (.v (.bl true),O3):=by
 have u:=zIo Y hn V;have g:=GG (km m n k) 150;have ok:=ok_at Y hn V;unfold kOk at ok;by_cases c:150<km m n k
 ·rw[decide_eq_true c]at g
  exact yX (QK (WW (t_E (yD (zk (F:=yn) rfl (zA rfl) (zA rfl) (zA rfl) u) x_c g)) (zW (yY x_c)))) rfl
 ·rw[decide_eq_false c]at g
  dsimp[c,decide_false,Bool.false_or,Bool.and_eq_true,all_eq_true,decide_eq_true_eq]at ok;obtain⟨t,T⟩:=ok;have M:=e_kinds Y hn V (by lia);have K:=v3 Y (n:=n) (k:=k) (by lia) (by lia);have q:=zAh ((kl m n k).map many).sum (Rp 1 (m-1) n k);rw[decide_eq_true T]at q;obtain⟨E',l,p,G,h4⟩:=jT (tg:=gN 4) (body:=dB yV yw) (λi E=>∃p,E=K5 m n k (((kl m n k).take i).map many).sum p/\jw p=true) ((kl m n k).map zf) 0 (K5 m n k 0 .e) ⟨DV.Slot.e,rfl,rfl⟩ (λi d q E ⟨p,G,h4⟩=>by
   rw[zero_add]at G ⊢;rw[getElem?_map]at q;obtain⟨r,z,rfl⟩:=Option.map_eq_some_iff.mp q;have R:=(qG.mp z).1;refine⟨K5 m n k (((kl m n k).take i).map many).sum (.v (zf r)),_,?_,zHX Y hn (t r (mem_of_getElem? z)),.v (zf r),?_,rfl⟩
   ·subst G;cases p<;>first|rfl|(cases h4)
   ·rw[take_add_one,z];simp)
  rw[length_map,zero_add,take_length]at G;subst G;exact yX (zN (jf (t_E (yD (zk (F:=yn) rfl (zA rfl) (zA rfl) (zA rfl) u) x_c g)) jg) (zN (y4 x_c rfl) (zN (zIY (tg:=.n 4) (zk (F:=wX) rfl (zA rfl) (zA rfl) (zA rfl) M) rfl l)
   (zW (yY (yD (zA rfl) (zk (F:=ym) rfl (zA rfl) (zA rfl) (zA rfl) K) q)))))) rfl
def eqb_L(l:Ls Nat):eqb 20 (.l (N l))=true:=by
 dsimp[eqb,all_eq_true];intro d C;obtain⟨k,_,rfl⟩:=zFM C;rfl
def bsm{m:Int}(P:0<=m)(h:m<1000):m.natAbs<Big:=vx (lt_of_lt_of_le (by lia:m.natAbs<1000) (by left))
def ne_nil(l:Ls Nat):neG (.l (N l)) (.l [])=some (.v (.bl (!decide (l=[])))):=by
 cases l with
 |nil=>rfl
 |cons a l =>
  have e:neF (.l (N (a::l))) (.l [])=none:=rfl;dsimp[neG,e,zGg];rw[if_pos ⟨eqb_L _,rfl⟩];rfl
def gt_0(n:Nat):gtD (.int (n:Nat)) (.int 0)=some (.v (.bl (decide (0<n)))):=GG n 0
def pen_bor{p:Ls D}(L:Pen p):nols p=true:=by obtain⟨a,b,c,rfl⟩:=L;rfl
abbrev RW(p:Ls D)(s m:Nat)(l:Ls Nat)(o:Nat)(K s6:DV.Slot):zS:=[.p p,.v (.int s),.v (.int m),.w (N l),.v (.int o),K,s6]
def zHY{p:Ls D}(L:Pen p){s m:Nat}(T:0<s/\s<=3)(l:Ls Nat)(n:∀x∈l,x<s)(hn:l.length<=20){o:Nat}(J:0<o/\o<=4)(K s6:DV.Slot)(j:jw s6=true)(S:zIE K=true) :
  ∃V x w,dB yE wF (RW p s m l o K s6)=.ok (.nx,RW V s m (l++[x]) o K w)/\Pen V/\x<s/\jw w=true:=by
 obtain⟨r,Q,W,z,u,I⟩:=wK p L (s:Nat) (by lia) (bsm (by lia) (by lia));obtain⟨r,rfl⟩:=Int.eq_ofNat_of_zero_le z;have Z:dS yE (.sSet 6 (.call 0 (.lend 0 (.ev (.x 1) .nil)))) (RW p s m l o K s6)=.ok (.nx,RW Q s m l o K (.v (.int (r:Nat)))):=y4 (Wg (F:=zO) rfl rfl (zA rfl) W rfl) (zAf rfl j rfl);have app:∀(p:Ls D) (x:Nat),dS yE (.sApp 3 (.x 6)) (RW p s m l o K (.v (.int (x:Nat))))=.ok (.nx,RW p s m (l++[x]) o K (.v (.int (x:Nat)))):=λp x=>by
  have e:N (l++[x])=N l++[.int (x:Nat)]:=N_app l [x];show _=Out.ok (Fl.nx,[DV.Slot.p p,.v (.int s),.v (.int m),.w (N (l++[x])),.v (.int o),K,qI x]);rw[e];exact s_app rfl (zA rfl) rfl (by rw[Yp];simp[cap];lia) rfl
 have v:=ne_nil l;have h:((RW Q s m l o K (.v (.int (r:Nat)))).set 3 .e).all zIE=true:=by
  show [DV.Slot.p Q,.v (.int s),.v (.int m),.e,.v (.int o),K,qI r].all zIE=true
  have i:zIE (.p Q)=true:=pen_bor I;rw[all_eq_true];intro x M;dsimp[mem_cons,mem_nil_iff,or_false]at M;rcases M with rfl|rfl|rfl|rfl|rfl|rfl|rfl<;>first|rfl|assumption
 have tb:dT yE (.tBor 3 (.tE (.cmp .ne (.x 3) (.l .nil)))) (RW Q s m l o K (.v (.int (r:Nat))))=.ok (!decide (l=[]),RW Q s m l o K (.v (.int (r:Nat)))) :=
  t_bor rfl h rfl (t_E (yD (zA rfl) (QJ zT rfl vq) v))
 by_cases c:l=[]
 ·rw[decide_eq_true c]at tb
  exact⟨Q,r,.v (.int (r:Nat)),zN Z (zN (jf (t_and0 tb) jg) (zW (app Q r))),I,by lia,rfl⟩
 ·rw[decide_eq_false c]at tb
  obtain⟨q,t,P,G,E,C⟩:=wK Q I (o:Nat) (by lia) (bsm (by lia) (by lia));obtain⟨q,rfl⟩:=Int.eq_ofNat_of_zero_le G;have g:=gt_0 q;have a:dT yE (.tE (.cmp .gt (.call 0 (.lend 0 (.ev (.x 4) .nil))) (.c (.int 0)))) (RW Q s m l o K (.v (.int (r:Nat))))=.ok (decide (0<q),RW t s m l o K (.v (.int (r:Nat)))):=t_E (yD (Wg (F:=zO) rfl rfl (zA rfl) P rfl) x_c g);by_cases d:0<q
  ·rw[decide_eq_true d]at a
   obtain⟨k,y,rfl⟩:∃k y,l=k++[y]:=⟨l.dropLast,l.getLast c,(List.dropLast_concat_getLast c).symm⟩;have al:atI (N (k++[y])) (-1)=some (.int (y:Nat)):=by rw[N_app];exact atI_end _ _
   exact⟨t,y,.v (.int (y:Nat)),zN Z (zN (WW (zIa tb a) (zW (y4 (x_ixO rfl (x_neg x_c) al) rfl))) (zW (app t y))),C,n y (by simp),rfl⟩
  ·rw[decide_eq_false d]at a
   exact⟨t,r,.v (.int (r:Nat)),zN Z (zN (jf (zIa tb a) jg) (zW (app t r))),C,by lia,rfl⟩
def zHZ(p:Ls D)(L:Pen p){s m:Nat}(T:0<s/\s<=3)(Y:m<=20):∃u V,jy [.p p,.v (.int s),.v (.int m)]=.ok (.v (zf u),[.p V,.e,.e])/\Pen V/\u.length<=m/\∀x∈u,x<s:=by
 obtain⟨a,O,W,z,u1,I⟩:=wK p L 4 (by decide) (by decide);obtain⟨a,rfl⟩:=Int.eq_ofNat_of_zero_le z;have v:Yt (.int 1) (.int (a:Nat))=some (.v (.int ((1+a:Nat):Int))):=y6 1 a;obtain⟨n,t,P,X,Z,C⟩:=wK O I ((m:Int)+1) (by lia) (bsm (by lia) (by lia));obtain⟨n,rfl⟩:=Int.eq_ofNat_of_zero_le X;obtain⟨E',H,J,l,K,S,G,R,hl,M,h5,r,c⟩:=jT (tg:=gN 5) (body:=dB yE wF) (λi E=>∃p l K S,E=RW p s m l (1+a) K S/\Pen p/\l.length=i/\(∀x∈l,x<s)/\jw K=true/\jw S=true/\zIE K=true) (DV.zG 0 n) 0 (RW t s m [] (1+a) .e .e) ⟨t,[],.e,.e,rfl,C,rfl,(λx h=>by cases h),rfl,rfl,rfl⟩ (λi d q E ⟨p,l,K,S,G,L,hl,M,h5,r,c⟩=>by
  obtain⟨hi,rfl⟩:=y1 _ _ _ _ q;obtain⟨V,x,w,e,g,k,ht⟩:=zHY L (m:=m) T l M (by lia) (o:=1+a) (by lia) (.v (.int (0+(i:Int)))) S r rfl;refine⟨RW p s m l (1+a) (.v (.int (0+(i:Int)))) S,_,?_,e,V,l++[x],_,w,rfl,g,by simp[hl],λy Q=>?_,rfl,ht,rfl⟩
  ·subst G;cases K<;>first|rfl|(cases h5)
  ·rcases mem_append.mp Q with Q|Q
   ·exact M y Q
   ·rw[mem_singleton]at Q;subst Q;exact k)
 rw[yg]at hl;subst G;refine⟨l,J,?_,R,by lia,M⟩;exact yX (zN (y4 (QJ zT rfl vq) rfl) (zN (y4 (zb x_c (Wg (F:=zO) rfl rfl x_c W rfl) v) rfl) (zN (Zh (j:=(n:Int)) (zE (Wg (F:=zO) rfl rfl (zb (zA rfl) x_c rfl) P rfl) zT) rfl ⟨by lia,by lia⟩ (by rw[Int.toNat_natCast];exact H)) (zW (yY (Zg (zE (vn rfl rfl) zT) rfl)))))) rfl
def cell_ok(v:D)(c:Int)(s2 w p K:DV.Slot)(Y:jw s2=true)(h3:jw w=true)(h4:jw p=true)(S:jw K=true):∃E2,dB u6 QE [.v v,.v (.int c),s2,w,p,K]=.ok (.nx,E2)/\InC v E2:=by
 obtain⟨l,e0,E⟩:=QP c;obtain⟨a,Q,W,u1,I⟩:=wb l E 2 (by decide) (by decide);obtain⟨n,p2,P,u2,C⟩:=wb Q I 31 (by decide) (by decide);obtain⟨O,J,e3,u3,R⟩:=wb p2 C 5 (by decide) (by decide);obtain⟨r,G,u,u4,h⟩:=wb J R 31 (by decide) (by decide);obtain⟨i,p5,H,u5,g⟩:=wb G h 2 (by decide) (by decide);obtain⟨k,V,ix⟩:∃k:Nat,k<=30/\ixD (.l [.int (O:Nat),.int (r:Nat)]) (.int (i:Nat))=some (.v (.int (k:Nat))):=by
  have:i=0\/i=1:=by lia
  rcases this with rfl|rfl
  ·exact⟨O,by lia,rfl⟩
  ·exact⟨r,by lia,rfl⟩
 have o:=zHR (m:=2+a) (n:=n) (k:=k) ⟨by lia,by lia⟩ (by lia) V;obtain⟨rs,p6,X,ab,L,rx⟩:=zHZ p5 g (s:=3) (m:=20) (by decide) (by decide);have z:RowN rs:=⟨L,λx M=>by have:=rx x M;lia⟩;obtain⟨t,e,T,u7,aa⟩:=wb p6 ab (rs.length+1) (by lia) (lt_of_le_of_lt (by lia:rs.length+1<=21) (by left));have tr:=zHV z (t:=t) (by lia);obtain⟨q,p8,e8,u8,ac⟩:=wb e aa 8 (by decide) (by decide);obtain⟨j,p9,e9,u9,y⟩:=wb p8 ac 9 (by decide) (by decide);have kr:=QY (m:=2+a) (n:=1+q) (k:=j) ⟨by lia,by lia⟩ ⟨by lia,by lia⟩ (by lia);have al:Yt (.int (rs.length:Nat)) (.int 1)=some (.v (.int ((rs.length+1:Nat):Int))):=y6 _ 1;have Z:Yt (.int 1) (.int (q:Nat))=some (.v (.int ((1+q:Nat):Int))):=y6 1 q;have xl:dE u6 (.l (.cons (.call 1 (.lend 2 (.ev (.c (.int 5)) .nil))) (.cons (.call 1 (.lend 2 (.ev (.c (.int 31)) .nil))) .nil))) [.v v,.v (.int c),.w p2,qI (2+a),qI n,K]=.ok (.w [.int (O:Nat),.int (r:Nat)],[.v v,.v (.int c),.w G,qI (2+a),qI n,K]) :=
  QJ (zE (wa (F:=zO) rfl rfl x_c e3 rfl) (zE (wa (F:=zO) rfl rfl x_c u rfl) zT)) rfl wn
 refine⟨[.v v,.v (.int c),.w p9,qI (2+a),qI n,.v (zf rs)],?_,_,_,_,_,_,rfl,rfl,rfl,rfl,rfl,rfl⟩;refine zN (y4 (zp (F:=jI) rfl (zA rfl) e0) (zAf rfl Y rfl)) ?_;refine zN (s_par (zE (zb x_c (wa (F:=zO) rfl rfl x_c W rfl) (y6 2 a)) (zE (wa (F:=zO) rfl rfl x_c P rfl) zT)) (put34 h3 h4)) ?_;refine zN (jf (vo (t_E (zk (F:=yT) rfl (zA rfl) (zA rfl) (zFB xl (wa (F:=zO) rfl rfl x_c H rfl) ix) o)) rfl) jg) ?_;refine zN (y4 (zHD (F:=jy) rfl rfl x_c x_c X rfl) (zAf rfl S rfl)) ?_;refine zN (jf (vo (t_E (z5 (F:=yU) rfl (zA rfl) (wa (F:=zO) rfl rfl (zb (Zg (zE (zA rfl) zT) (zBa rs)) x_c al) T rfl) tr)) rfl) jg) ?_;exact zW (jf (vo (t_E (zk (F:=yh) rfl (zA rfl) (zb x_c (wa (F:=zO) rfl rfl x_c e8 rfl) Z) (wa (F:=zO) rfl rfl x_c e9 rfl) kr)) rfl) jg)
def math28(ns:Ls Int)(O:ns.length<=63):∃S,m_law [.v (.l (ns.map D.int))]=.ok (.v (.bl true),S):=by
 obtain⟨c,P⟩:=uQ ns;have t:Zz (ns.map D.int) (some 1) (some 8)=((ns.drop (HT.sIx ns.length 0 (some 1))).take (HT.sIx ns.length ns.length (some 8)-HT.sIx ns.length 0 (some 1))).map D.int:=by
  unfold Zz;simp[map_drop,map_take]
 generalize V:(ns.drop (HT.sIx ns.length 0 (some 1))).take (HT.sIx ns.length ns.length (some 8)-HT.sIx ns.length 0 (some 1))=k at t;have h:k.length<=63:=by rw[<- V];simp;lia
 have M:slD (.l (ns.map D.int)) (some 1) (some 8)=some (.w (k.map D.int)):=by dsimp[slD,t]
 have j:=QM [.int c] (k.map D.int) (by simp;lia);generalize hv:D.l (ns.map D.int)=v at P M;obtain⟨E',l,u,e,L,a,o,G,_⟩:=jT (tg:=gN 1) (body:=dB u6 QE) (λ_ E=>InC v E) ([.int c]++k.map D.int) 0 [.v v,.e,.e,.e,.e,.e] ⟨_,_,_,_,_,rfl,rfl,rfl,rfl,rfl,rfl⟩
  (λi d q E y=>by
   obtain⟨R,g,w,p,K,G,J,h2,Q,h4,h5⟩:=y;obtain⟨x,rfl⟩:∃x:Int,d=.int x:=by
    have:=mem_of_getElem? q;rcases mem_append.mp this with m|m
    ·exact⟨c,mem_singleton.mp m⟩
    ·obtain⟨x,_,rfl⟩:=mem_map.mp m;exact⟨x,rfl⟩
   obtain⟨E2,l,n⟩:=cell_ok v x g w p K h2 Q h4 h5;refine⟨[.v v,.v (.int x),g,w,p,K],E2,?_,l,n⟩;subst G;cases R<;>first|rfl|(cases J))
 subst G;refine⟨_,yX (r:=.v (.bl true)) (E1:=[.v v,u,e,L,a,o]) ?_ rfl⟩;show dB u6 (.s (.sForL _ _ QE) (.o _)) [.v v,.e,.e,.e,.e,.e]=_;exact zN (zIY (zb (QJ (zE (z5 (F:=y0) rfl (zA rfl) x_c P) zT) rfl wJ) (zC5 (zA rfl) (o_S x_c) (o_S x_c) M) j) rfl l) (zW (yY x_c))
end My
namespace My
open PySem L2 DV
def txt_lk{K:qH}{h:Heap}{mg:Str->Lx Lv}(X:K.In h)(G:h.Ns mainGlobals mg)(e:Ws K=wants):Txt K mg :=
 have W:=congrArg (λx:lkT=>x.1) e;have P:=congrArg (λx:lkT=>x.2.1) e;have n:=congrArg (λx:lkT=>x.2.2.1) e
 {n_abs:=ZE X G (ix 0 n),n_all:=ZE X G (ix 1 n),n_bool:=ZE X G (ix 2 n),n_enumerate:=ZE X G (ix 3 n),n_int:=ZE X G (ix 4 n),n_isinstance:=ZE X G (ix 5 n),n_len:=ZE X G (ix 6 n),n_max:=ZE X G (ix 7 n),n_min:=ZE X G (ix 8 n),n_range:=ZE X G (ix 9 n),n_set:=ZE X G (ix 10 n),n_sorted:=ZE X G (ix 11 n),n_sum:=ZE X G (ix 12 n),n_tuple:=ZE X G (ix 13 n),c_LEAST_SIGNS:=G8 X G (ix 0 P),c_LEAST_WEIGHT:=G8 X G (ix 1 P),c_MOST_COUNTED:=G8 X G (ix 2 P),c_MOST_KINDS:=G8 X G (ix 3 P),c_MOST_OF_KIND:=G8 X G (ix 4 P),c_MOST_ROUND:=G8 X G (ix 5 P),c_MOST_SIGNS:=G8 X G (ix 6 P),c_MOST_THROWS:=G8 X G (ix 7 P),c_MOST_WEIGHT:=G8 X G (ix 8 P),f_is_whole:=zy X G (ix 0 W),f_is_whole_within:=zy X G (ix 1 W),f_greatest_divisor:=zy X G (ix 2 W),f_whole_power:=zy X G (ix 3 W),f_share_of:=zy X G (ix 4 W),f_die_good:=zy X G (ix 5 W),f_sign_good:=zy X G (ix 6 W),f_row_good:=zy X G (ix 7 W),f_need_die:=zy X G (ix 8 W),f_need_row:=zy X G (ix 9 W),f_need_number:=zy X G (ix 10 W),f_need_signs:=zy X G (ix 11 W),f_need_sign:=zy X G (ix 12 W),f_greatest_length:=zy X G (ix 13 W),f_runs_of_sign:=zy X G (ix 14 W),f_runs_of:=zy X G (ix 15 W),f_ring_runs:=zy X G (ix 16 W),f_ring_longest:=zy X G (ix 17 W),f_weigh_upto:=zy X G (ix 18 W),f_need_counted:=zy X G (ix 19 W),f_rows_upto:=zy X G (ix 20 W),f_weigh_between:=zy X G (ix 21 W),f_weigh_ring_upto:=zy X G (ix 22 W),f_weigh_ring_just:=zy X G (ix 23 W),f_need_round:=zy X G (ix 24 W),f_ring_upto:=zy X G (ix 25 W),f_ring_just:=zy X G (ix 26 W),f_ring_table:=zy X G (ix 27 W),f_ring_share:=zy X G (ix 28 W),f_turns_of:=zy X G (ix 29 W),f_least_turn:=zy X G (ix 30 W),f_turn_to:=zy X G (ix 31 W),f_need_kind:=zy X G (ix 32 W),f_kept_by_turn:=zy X G (ix 33 W),f_kinds_many:=zy X G (ix 34 W),f_grown_kinds:=zy X G (ix 35 W),f_kinds_list:=zy X G (ix 36 W),f__law_cell_at:=zy X G (ix 37 W),f__law_next:=zy X G (ix 38 W),f__law_pen_of:=zy X G (ix 39 W),f__law_draw:=zy X G (ix 40 W),f__law_row_of:=zy X G (ix 41 W),f__law_power:=zy X G (ix 42 W),f__law_counts_right:=zy X G (ix 43 W),f__law_turned_right:=zy X G (ix 44 W),f__law_kinds_right:=zy X G (ix 45 W),f_law:=zy X G (ix 46 W),cl:=cl_at X G (congrArg (λx:lkT=>x.2.2.2) e)}
end My
end
open PySem PySem.W PyProof.Rows
set_option maxRecDepth 100000 in
set_option maxHeartbeats 0 in
theorem PySem.Challenge.cw_throwruns_k28_whole_rings_holds : PySem.Challenge.rw_throwruns_k28_whole_rings.Holds := by
 w_on;refine holds_law My.hz λa=>?_
 refine holds_open (q:=My.qP) (loose:=My.ls) (Xt:=λs=>xlAt My.qP [] s&&recOk (RowW.records (OpenLaw.row PySem.Challenge.rw_throwruns_k28_whole_rings).toRowW) s) (XP:=XL My.qP []) (Yf:=λs=>My.Ws (DV.Yu s.heap My.as)) (Ya:=λ_=>My.wants) (YP:=(DV.zCI My.as My.lkT My.Ws My.wants).says) (N:=5344) My.hl (DV.zCI My.as My.lkT My.Ws My.wants).of (DV.zCI My.as My.lkT My.Ws My.wants).keeps (λs e=>xl_of s (Bool.and_eq_true_iff.mp e).1) XL.keeps (by rfl) (by rfl) (by rfl) (λs e=>recFacts_of (Bool.and_eq_true_iff.mp e).2) ?h4 ?h5 ?h6 ⟨rfl,rfl,rfl,rfl,rfl,by decide +kernel⟩ ?hw ?hc
 case h4=>rfl
 case h5=>first|assumption|decide +kernel
 case h6=>decide +kernel
 case hw=>w_witness2
 case hc=>exact DV.walkE (l:=PySem.Challenge.rw_throwruns_k28_whole_rings) (x:="_law_script") My.math28 rfl rfl λw K g R h KX e G c=>My.law_fd c (My.txt_lk KX G e)
