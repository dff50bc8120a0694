import PyProof.Rows.All
import Wide.All
import OpenK.AllK
import Wide.FinOn
import Lean
import PyProof.EqAt
import PyProof.EqKinds
import PyProof.TupleCall
import PyProof.ExcArgsOwn
import PyProof.ExcAttrAll.ValueError
import OpenK.KOwn
import KE.KIsAll
import PyProof.Rows.CatchOwn
import PyProof.RulesDel
import PyProof.ExcBaseAll.ValueError
import PyProof.NeKinds
import PyProof.Rows.CountFlat
import PyProof.ReprRoads
import PyProof.CallFns
import PyProof.ZipIter
import PyProof.WalksMore
import PyProof.EnumStmt
import PyProof.EnumMake
import PyProof.P3In
import PyProof.MinMaxWalk
import PySem.Challenge.RW_throwruns_k57_whole_bounds
set_option Elab.async false
set_option linter.all false
set_option maxRecDepth 100000
set_option maxHeartbeats 0
theorem DV.nf {P:Prop} (h:false=true):P:=absurd h Bool.false_ne_true
open List (mem_filter mem_range filterMap_cons mem_cons_self mem_cons_of_mem mem_cons mem_append mem_append_left getElem?_set_self getElem?_set_ne set_comm mem_filterMap mem_append_right append_nil nodup_cons of_mem_zip replicate getElem?_append_left getElem?_map mem_of_getElem? length_append length_map size_toArray length_drop all_cons any_cons reverse_cons replicate_succ flatten_cons foldl append_assoc map_cons sublist_cons_self nodup_append nil_append perm_append_comm sublist_append_right length_cons perm_middle zip_cons_cons lookup_cons all_eq_true mem_nil_iff getD_eq_getElem?_getD getElem?_eq_getElem getElem_toArray getElem_mem take_length zipWith mem_map isEmpty_iff mem_singleton set_set length_nil sum_cons map_map getElem?_eq_none)
open Nat (lt_of_lt_of_le lt_irrefl ne_of_lt le_trans le_of_lt ne_of_gt le_refl zero_le le_of_eq lt_succ_self add_comm mul_comm lt_succ_of_lt not_lt le_succ mul_add mul_le_mul_left add_mul pow_succ mul_assoc zero_add gcd_pos_of_pos_right gcd_dvd_left gcd_dvd_right mul_pos gcd_comm gcd_rec div_pos le_of_dvd lt_of_le_of_lt pow_le_pow_left pow_pos mul_le_mul div_le_self mul_one mul_le_mul_right pow_add)
open PySem.W (clsIn typeIn findIn specialIn takesIn nsIn codeIn keepIn fnOf excIn instObj methodObj hideAll hideAll_get of_hideAll plainGet emptyDict mroIn cellsFrom_some codeRec_of kitOne kia_one mg_of)
open PySem.Heap (lt_size get?_push_of_some get?_push_size size_push)
noncomputable section
namespace L2
open PySem
def Jw (s:Stmt):Arguments:=match s with
 | .FunctionDef _ a _ _ _ _ _ _ _ _=>a
 | _=>{ posonlyargs:=[],args:=[],vararg:=none,kwonlyargs:=[],kw_defaults:=[],kwarg:=none,defaults:=[] }
def jC (s:Stmt):List Stmt:=match s with
 | .FunctionDef _ _ b _ _ _ _ _ _ _=>b
 | _=>[]
def zd (s:Stmt):Scope:=match s with
 | .FunctionDef _ _ _ _ _ _ sc _ _ _=>sc
 | _=>{ kind:=.function,names:=[],isGenerator:=false,isCoroutine:=false }
end L2
namespace DV
open PySem L2
abbrev VB:List Value:=[.type "ValueError",.type "Exception",.type "BaseException",.type "object"]
def xIn (K:PySem.W.Frag) (c:Str) (C T:Addr):Bool:=(match clsIn K C with | some cd=>cd.name == c&&cd.mro == [.ref C,.ref T,.type "ValueError",.type "Exception",.type "BaseException",.type "object"] | none=>false)
 && typeIn K (.ref C) == some (.type "type")&&findIn K (.ref C) "__getattribute__" == some (some (.builtin "BaseException.__getattribute__"))&&findIn K (.ref C) "__getattr__" == some none
 && findIn K (.ref C) "__class__" == some (some (.builtin "object.__class__"))&&specialIn K (.builtin "object.__class__") "__get__" == some (some (.builtin "getset_descriptor.__get__"))&&takesIn K (.builtin "object.__class__") == some true&&!(C == T)
def tIn (K:PySem.W.Frag) (T:Addr):Bool:=(match clsIn K T with | some cd=>cd.mro == (.ref T::VB) | none=>false)&&typeIn K (.ref T) == some (.type "type")
def YE (h:Heap):List Addr→PySem.W.Frag
 | []=>[]
 | a::as=>match h.get? a with
  | some o=>(a,o)::YE h as
  | none=>YE h as
def FvT:Type:=Bool × Str × Str × Arguments × FuncBody × Scope × Addr × List (Str × Addr) × Value × Addr
def fvOf (b:Bool) (fd:FuncData):FvT:=(b,fd.name,fd.qualname,fd.params,fd.body,fd.scope,fd.globals,fd.closure,fd.defaults,fd.builtins)
def zh (K:PySem.W.Frag) (n:Str):Option FvT:=match nsIn K mainGlobals n with
 | some (some (.ref a))=>(match K.lookup a with
  | some ⟨_,_,.func fd,_⟩=>some (fvOf (codeIn K fd.code n&&keepIn K (.ref a)) fd)
  | _=>none)
 | _=>none
def zi (n:Str) (st:Stmt):Option FvT:=some (fvOf true (fnOf n n (Jw st) (jC st) (zd st) .none .none .none .none none .none .none))
def YF (K:PySem.W.Frag) (n:Str):Option Int:=match nsIn K mainGlobals n with
 | some (some (.int i _))=>some i
 | _=>none
def zAK (K:PySem.W.Frag) (n:Str) (i j:Int):Bool:=match nsIn K mainGlobals n with
 | some (some (.ref a))=>(match K.lookup a with
  | some ⟨.type t,_,.seq its _,_⟩=>t == "tuple"&&(match its.toList with
   | [.int x _,.int y _]=>x == i&&y == j
   | _=>false)
  | _=>false)
 | _=>false
def jn (K:PySem.W.Frag) (n:Str):Bool:=match nsIn K mainGlobals n with
 | some none=>true
 | _=>false
def JY (K:PySem.W.Frag) (n:Str):Option Addr:=match nsIn K mainGlobals n with
 | some (some (.ref a))=>some a
 | _=>none
def zBV (K:PySem.W.Frag):Bool:=match K.lookup sysModules with
 | some o=>(match o.data with | .dict _ _=>true | _=>false)
 | none=>false
def zEs (K:PySem.W.Frag) (cl rs:List Str):Bool :=
 (cl.isEmpty || (match JY K "ThrowError" with
  | some T=>tIn K T&&cl.all fun c=>(match JY K c with | some C=>xIn K c C T | none=>false)
  | none=>false)) &&
 (rs.all fun c=>(match JY K c with | some C=>excIn K C VB "ValueError.__new__" | none=>false))&&zBV K
end DV
namespace My
open PySem L2 DV
def top (i:Nat):Stmt:=PySem.Challenge.pw_throwruns_k57_whole_bounds.main.body.getD i (.Pass ⟨0,0,0,0⟩)
abbrev vU:Stmt:=top 8
abbrev wM:Stmt:=top 9
abbrev jo:Stmt:=top 10
abbrev YG:Stmt:=top 11
abbrev ZC:Stmt:=top 12
abbrev vV:Stmt:=top 13
abbrev ZD:Stmt:=top 14
abbrev ZE:Stmt:=top 15
abbrev YH:Stmt:=top 16
abbrev vW:Stmt:=top 17
abbrev YI:Stmt:=top 18
abbrev WJ:Stmt:=top 19
abbrev YJ:Stmt:=top 20
abbrev YK:Stmt:=top 21
abbrev wu:Stmt:=top 22
abbrev vX:Stmt:=top 28
abbrev vY:Stmt:=top 29
abbrev YL:Stmt:=top 30
abbrev WK:Stmt:=top 31
abbrev ZF:Stmt:=top 34
abbrev YM:Stmt:=top 36
abbrev wy:Stmt:=top 37
abbrev JZ:Stmt:=top 38
abbrev ZG:Stmt:=top 39
abbrev Ja:Stmt:=top 42
abbrev ZH:Stmt:=top 44
abbrev ZI:Stmt:=top 43
abbrev GX:Stmt:=top 45
abbrev Jb:Stmt:=top 48
abbrev GY:Stmt:=top 49
abbrev ZJ:Stmt:=top 50
abbrev ZK:Stmt:=top 51
abbrev ZL:Stmt:=top 52
abbrev ZM:Stmt:=top 53
abbrev ZN:Stmt:=top 54
abbrev vZ:Stmt:=top 55
abbrev va:Stmt:=top 56
abbrev vb:Stmt:=top 57
abbrev Jc:Stmt:=top 58
abbrev YN:Stmt:=top 59
abbrev YO:Stmt:=top 60
abbrev zAL:Stmt:=top 61
abbrev Jd:Stmt:=top 63
abbrev WL:Stmt:=top 64
abbrev YQ:Stmt:=top 65
abbrev WM:Stmt:=top 66
abbrev vc:Stmt:=top 67
abbrev ZO:Stmt:=top 68
abbrev YR:Stmt:=top 69
abbrev Je:Stmt:=top 70
abbrev wN:Stmt:=top 71
abbrev ZP:Stmt:=top 72
abbrev jp:Stmt:=top 73
abbrev ZQ:Stmt:=top 74
abbrev s_law:Stmt:=top 75
def cl_:List Str:=[]
def rs_:List Str:=[]
def lkT:Type:=List (Option FvT) × List (Option Int) × List Bool × Bool
def QW (K:PySem.W.Frag):lkT:=([zh K "is_whole",zh K "is_whole_within",zh K "greatest_divisor",zh K "whole_power",zh K "share_good",zh K "share_of",zh K "share_plus",zh K "share_less",zh K "share_times",zh K "share_by",zh K "share_power",zh K "share_sum",zh K "share_below",zh K "share_least",zh K "share_greatest",zh K "die_good",zh K "need_die",zh K "need_number",zh K "need_sign",zh K "weigh_upto",zh K "need_thrown",zh K "others_weight",zh K "share_in_all",zh K "share_upto",zh K "need_awaited",zh K "waits_list",zh K "mean_first",zh K "step_on",zh K "weights_good",zh K "stepped",zh K "factors_of",zh K "bound_good",zh K "above_good",zh K "below_good",zh K "need_above",zh K "bound_at",zh K "above_at",zh K "below_at",zh K "mean_weights",zh K "above_paper",zh K "below_paper",zh K "closer",zh K "_law_cell_at",zh K "_law_next",zh K "_law_pen_of",zh K "_law_draw",zh K "_law_gcd",zh K "_law_share",zh K "_law_die_of",zh K "_law_no_more",zh K "_law_weights_of",zh K "_law_holds",zh K "_law_steps_right",zh K "_law_right",zh K "law"],[YF K "LEAST_SIGNS",YF K "LEAST_WEIGHT",YF K "MOST_AWAITED",YF K "MOST_BOUNDED",YF K "MOST_COUNTED",YF K "MOST_SIGNS",YF K "MOST_WEIGHT"],[jn K "abs",jn K "all",jn K "bool",jn K "int",jn K "isinstance",jn K "len",jn K "list",jn K "max",jn K "range",jn K "sum",jn K "tuple",jn K "zip",zAK K "ALL" 1 1,zAK K "NOTHING" 0 1],zEs K cl_ rs_)
def QX:lkT:=([zi "is_whole" vU,zi "is_whole_within" wM,zi "greatest_divisor" jo,zi "whole_power" YG,zi "share_good" ZC,zi "share_of" vV,zi "share_plus" ZD,zi "share_less" ZE,zi "share_times" YH,zi "share_by" vW,zi "share_power" YI,zi "share_sum" WJ,zi "share_below" YJ,zi "share_least" YK,zi "share_greatest" wu,zi "die_good" vX,zi "need_die" vY,zi "need_number" YL,zi "need_sign" WK,zi "weigh_upto" ZF,zi "need_thrown" YM,zi "others_weight" wy,zi "share_in_all" JZ,zi "share_upto" ZG,zi "need_awaited" Ja,zi "waits_list" ZH,zi "mean_first" ZI,zi "step_on" GX,zi "weights_good" Jb,zi "stepped" GY,zi "factors_of" ZJ,zi "bound_good" ZK,zi "above_good" ZL,zi "below_good" ZM,zi "need_above" ZN,zi "bound_at" vZ,zi "above_at" va,zi "below_at" vb,zi "mean_weights" Jc,zi "above_paper" YN,zi "below_paper" YO,zi "closer" zAL,zi "_law_cell_at" Jd,zi "_law_next" WL,zi "_law_pen_of" YQ,zi "_law_draw" WM,zi "_law_gcd" vc,zi "_law_share" ZO,zi "_law_die_of" YR,zi "_law_no_more" Je,zi "_law_weights_of" wN,zi "_law_holds" ZP,zi "_law_steps_right" jp,zi "_law_right" ZQ,zi "law" s_law],[some 2,some 1,some 8,some 40,some 40,some 3,some 9],[true,true,true,true,true,true,true,true,true,true,true,true,true,true],true)
def q0:Program:=PySem.Challenge.pw_throwruns_k57_whole_bounds
def isLaw:Stmt→Bool
 | .FunctionDef f ..=>f == "law"
 | _=>false
def q:Program:={ q0 with main:={ q0.main with body:=q0.main.body.filter isLaw } }
def nameOf:Stmt→List Str
 | .FunctionDef f ..=>[f]
 | .ClassDef f ..=>[f]
 | .Assign [.Name x _] _ _=>[x]
 | _=>[]
def ls:List Str:=(q0.main.body.flatMap nameOf).filter (· != "law")
def as:List Addr:=[1,2,3,15,22,23,24,25,28,35,36,37,40,47,48,49,52,59,60,61,64,65,66,68,69,71,72,73,75,76,78,79,80,82,83,85,86,87,89,90,92,93,94,96,97,99,100,101,103,104,106,107,108,110,111,113,114,115,117,118,120,121,122,124,125,127,128,129,131,132,134,135,136,138,139,141,142,143,145,146,148,149,150,152,153,155,156,157,159,160,162,163,164,166,167,169,170,171,174,175,176,178,179,181,182,183,185,186,188,189,190,192,193,195,196,197,200,201,202,204,205,207,208,209,211,212,214,215,216,218,219,221,222,223,225,226,228,229,230,232,233,235,236,237,239,240,242,243,244,247,248,249,252,253,254,257,258,259,261,262,264,265,266,269,270,271,273,274,276,277,278,280,281,283,284,285,287,288,290,291,292,294,295,297,298,299,301,302,304,305,306,308,309,311,312,313,315,316,318,319,320,322,323,325,326,327,329,330,332,333,334,336,337,339,340,341,343,344,346,347,348,350,351,353,354,355,357,358,360,361,362,364,365,367,368,369,371,372,374,375,376,378,379,381,382,383,385,386,388,389,390,393,394,395,397,398,400,401,402,404,405,407,408,409,411,412,414,415,416,418,419,421,422,423,425,426,428,429,430,432,433,435,436]
end My
section
open PySem PySem.W PyProof.Rows
theorem My.ht:∀ (w:World) (os:OsState),(topFrom treeTable (OpenLaw.row PySem.Challenge.rw_throwruns_k57_whole_bounds).toRowW.prog w 5516 ⟨boot_heap w.params,#[],boot_drawn,boot_toks,os⟩).map (fun s=>(openSeen My.q My.ls (importedModules (OpenLaw.row PySem.Challenge.rw_throwruns_k57_whole_bounds).toRowW.prog.main.body) (fun s=>xlAt My.q [] s&&recOk (RowW.records (OpenLaw.row PySem.Challenge.rw_throwruns_k57_whole_bounds).toRowW) s) true s,My.QW (DV.YE s.heap My.as)))=some (openGood My.q My.ls,My.QX):=by
 intro w os
 kernel_rfl
theorem My.ho:opening (OpenLaw.row PySem.Challenge.rw_throwruns_k57_whole_bounds).toRowW.prog=plainProg (OpenLaw.row PySem.Challenge.rw_throwruns_k57_whole_bounds).toRowW.prog.main.scope.names:=by kernel_rfl
theorem My.hf:∀ s,fenceModules? (OpenLaw.row PySem.Challenge.rw_throwruns_k57_whole_bounds).toRowW.prog s=some s:=by
 intro s
 kernel_rfl
theorem My.hl:LeftO (OpenLaw.row PySem.Challenge.rw_throwruns_k57_whole_bounds).toRowW.prog My.q My.ls (fun s=>xlAt My.q [] s&&recOk (RowW.records (OpenLaw.row PySem.Challenge.rw_throwruns_k57_whole_bounds).toRowW) s) (fun s=>My.QW (DV.YE s.heap My.as)) (fun _=>My.QX) 5516:=by
 intro w;obtain ⟨s,hs,hv⟩:=Option.map_eq_some_iff.mp (boot_open My.ho (N:=5516) rfl My.hf w);unfold openEnds;rw [hs];obtain ⟨h,g,d,t,os⟩:=s;have h1:h=boot_heap w.params:=congrArg Prod.fst hv;have h2:g=#[]:=congrArg (fun x=>x.2.1) hv;have h3:d=boot_drawn:=congrArg (fun x=>x.2.2.1) hv;have h4:t=boot_toks:=congrArg (fun x=>x.2.2.2) hv;subst h1;subst h2;subst h3;subst h4;exact My.ht w os
end
namespace L2
open PySem PySem.Spec PyProof.Rows
abbrev Key:=Sum Int Str
def keyIs:Key→Value→Bool
 | .inl k,v=>Value.isInt k v
 | .inr x,v=>Value.isStrOf x v
def keyH (w:World):Key→Int
 | .inl k=>hashInt k
 | .inr x=>hashStr w x
theorem yO:∀ {k:Key} {v:Value},keyIs k v=true→(∃ i t,k=Sum.inl i∧v=Value.int i t)∨(∃ x t,k=Sum.inr x∧v=Value.str x t)
 | .inl i,v,h=>by
  obtain ⟨t,e⟩:=Value.isInt_shape (k:=i) (v:=v) h;exact .inl ⟨i,t,rfl,e⟩
 | .inr x,v,h=>by
  obtain ⟨t,e⟩:=Value.isStrOf_shape (x:=x) (v:=v) h;exact .inr ⟨x,t,rfl,e⟩
theorem key_ll (a b:Int):decide ((Sum.inl a:Key)=Sum.inl b)=(a == b):=by
 by_cases e:a=b
 ·subst e; simp
 ·have h:¬ (Sum.inl a:Key)=Sum.inl b:=fun q=>e (Sum.inl.inj q)
  rw [decide_eq_false h];exact (beq_eq_false_iff_ne.mpr e).symm
theorem key_rr (a b:Str):decide ((Sum.inr a:Key)=Sum.inr b)=decide (a=b):=by
 by_cases e:a=b
 ·subst e; simp
 ·have h:¬ (Sum.inr a:Key)=Sum.inr b:=fun q=>e (Sum.inr.inj q)
  rw [decide_eq_false h,decide_eq_false e]
theorem key_lr (a:Int) (b:Str):decide ((Sum.inl a:Key)=Sum.inr b)=false:=decide_eq_false (fun q=>nomatch q)
theorem key_rl (a:Str) (b:Int):decide ((Sum.inr a:Key)=Sum.inl b)=false:=decide_eq_false (fun q=>nomatch q)
def QY (prog:Program) (w:World):PySem.KeyKind prog w Key where
 is:=keyIs
 hash:=keyH w
 inj:=fun v a b ha hb=>by
  rcases yO ha with ⟨i,t,rfl,rfl⟩ | ⟨x,t,rfl,rfl⟩
  ·rcases yO hb with ⟨j,u,rfl,e⟩ | ⟨y,u,rfl,e⟩
   ·injection e with e1 _; rw [e1]
   ·exact nomatch e
  ·rcases yO hb with ⟨j,u,rfl,e⟩ | ⟨y,u,rfl,e⟩
   ·exact nomatch e
   ·injection e with e1 _; rw [e1]
 byValue:=fun k v h=>by
  rcases yO h with ⟨i,t,rfl,rfl⟩ | ⟨x,t,rfl,rfl⟩ <;> rfl
 pyHash:=fun hv h=>by
  rcases yO hv with ⟨i,t,rfl,rfl⟩ | ⟨x,t,rfl,rfl⟩
  ·exact wpAny_pyHash_int h
  ·exact wpAny_pyHash_str h
 eqBool:=fun hu hv h=>by
  rcases yO hu with ⟨i,t,rfl,rfl⟩ | ⟨x,t,rfl,rfl⟩
  ·rcases yO hv with ⟨j,u,rfl,rfl⟩ | ⟨y,u,rfl,rfl⟩
   ·rw [key_ll] at h; exact wpAny_eqBool_int h
   ·rw [key_lr] at h; exact SeqAt.EqAt.int_str i t y u _ _ _ _ h
  ·rcases yO hv with ⟨j,u,rfl,rfl⟩ | ⟨y,u,rfl,rfl⟩
   ·rw [key_rl] at h; exact SeqAt.EqAt.str_int x t j u _ _ _ _ h
   ·rw [key_rr] at h; exact wpAny_eqBool_str h
 «strs»:=fun k x t v h=>by
  rcases yO h with ⟨i,u,rfl,e⟩ | ⟨y,u,rfl,e⟩
  ·exact nomatch e
  ·injection e with e1 _
   subst e1;cases v <;> rfl
end L2
namespace L2
open PySem PySem.Spec PyProof.Rows
inductive V where
 | non | bl (b:Bool) | int (i:Int) | str (x:Str) | byt (b:Array UInt8) | flt (b:UInt64) | ref (a:Addr) | ty (n:String)
 deriving DecidableEq
def yK:V→Value→Prop
 | .non,u=>u=Value.none
 | .bl b,u=>u=Value.bool b
 | .int i,u=>∃ t,u=Value.int i t
 | .str x,u=>∃ t,u=Value.str x t
 | .byt b,u=>∃ t,u=Value.bytes b t
 | .flt b,u=>∃ t,u=Value.float b t
 | .ref a,u=>u=Value.ref a
 | .ty n,u=>u=Value.type n
abbrev z9:List V→List Value→Prop:=Paired yK
theorem z9.length {xs:List V} {us:List Value} (r:z9 xs us):xs.length=us.length:=Paired.length r
theorem z9.get:∀ {xs:List V} {us:List Value} {i:Nat} {x:V},z9 xs us→xs[i]?=some x→∃ u,us[i]?=some u∧yK x u
 | _,_,_,_,.nil,e=>by simp at e
 | _,_,0,_,.cons r _,e=>by simp at e; subst e; exact ⟨_,rfl,r⟩
 | _,_,i+1,x,.cons _ t,e=>by
  obtain ⟨u,h1,h2⟩:=z9.get (i:=i) (x:=x) t (by simpa using e);exact ⟨u,by simpa using h1,h2⟩
theorem z9.set {x:V} {u:Value} (r:yK x u):∀ {xs:List V} {us:List Value} (i:Nat),z9 xs us→z9 (xs.set i x) (us.set i u)
 | _,_,_,.nil=>.nil
 | _,_,0,.cons _ t=>.cons r t
 | _,_,i+1,.cons q t=>.cons q (z9.set r i t)
theorem z9.append:∀ {xs ys:List V} {us ws:List Value},z9 xs us→z9 ys ws→z9 (xs++ys) (us++ws)
 | _,_,_,_,.nil,s=>s
 | _,_,_,_,.cons r t,s=>.cons r (z9.append t s)
theorem z9.take:∀ {xs:List V} {us:List Value} (n:Nat),z9 xs us→z9 (xs.take n) (us.take n)
 | _,_,0,_=>.nil
 | _,_,_+1,.nil=>.nil
 | _,_,n+1,.cons r t=>.cons r (z9.take n t)
theorem z9.drop:∀ {xs:List V} {us:List Value} (n:Nat),z9 xs us→z9 (xs.drop n) (us.drop n)
 | _,_,0,r=>r
 | _,_,_+1,.nil=>.nil
 | _,_,n+1,.cons _ t=>z9.drop n t
def RelO:Option V→Option Value→Prop
 | some v,some u=>yK v u
 | none,none=>True
 | _,_=>False
def KV {κ:Type}:List (κ × V)→List (κ × Value)→Prop:=Paired fun (p:κ × V) (q:κ × Value)=>p.1=q.1∧yK p.2 q.2
def kV:Key→V
 | .inl i=>.int i
 | .inr x=>.str x
inductive HO where
 /-- a list -/
 | lst (xs:List V)
 /-- a tuple (never changes) -/
 | tup (xs:List V)
 /-- a dict whose keys are ints and texts; one whose keys are tuples of ints and texts (the empty one is both) -/
 | dK (kvs:List (Key × V)) | dT (kvs:List (List Key × V))
 /-- a set of ints: its members,its size -/
 | set (S:Int→Bool) (n:Nat)
 /-- an instance of the class at C,its dict at dx,its attributes -/
 | ins (C dx:Addr) (fs:List (Str × V))
 /-- the dict of the instance at x -/
 | own (x:Addr)
 /-- the dict of an exception -/
 | xd (fs:List (Str × V))
 /-- a bound method,f of x -/
 | met (f x:Addr)
 /-- a range object lo,lo+1,.. below hi -/
 | rng (lo hi:Int)
 /-- a thing that is known to the object (the script; a dict while a loop walks it): read,never written while it is so -/
 | frz (o:Obj) (u:HO)
 /-- a code object's table -/
 | tbl (ps:Array Value)
 /-- any other thing,by what is true of its one object (a def of one's own: SetO a S n:=HO.ext fun h=>..) -/
 | ext (φ:Heap→Prop)
abbrev Hp:=Addr→Option HO
def upd (H:Hp) (a:Addr) (o:HO):Hp:=fun b=>if b=a then some o else H b
theorem jq {H:Hp} {a:Addr} {o:HO}:upd H a o a=some o:=by unfold upd; rw [if_pos rfl]
theorem yH {H:Hp} {a b:Addr} {o:HO} (h:b≠a):upd H a o b=H b:=by unfold upd; rw [if_neg h]
theorem wO {H:Hp} {a b:Addr} {o:HO} (h:H a=some o) (h':H b=none):a≠b:=by
 intro e; subst e; rw [h] at h'; cases h'
section
variable (P:Program) (w:World)
def ww (H:Hp) (h:Heap) (a:Addr):HO→Prop
 | .lst xs=>xs.length≤sizeLine∧∃ (its:List Value) (n:Nat),z9 xs its∧h.get? a=some { cls:=.type "list",data:=.seq its.toArray n }
 | .tup xs=>xs.length≤sizeLine∧∃ its:List Value,z9 xs its∧IsTup h a its.toArray
 | .dK kvs=>kvs.length≤sizeLine∧(a == sysModules)=false∧∃ vs,KV kvs vs∧h.DictOf (QY P w) a vs
 | .dT kvs=>kvs.length≤sizeLine∧(a == sysModules)=false∧∃ xs:List (List Key × Addr × Value),
   Paired (fun (p:List Key × V) (q:List Key × Addr × Value)=>p.1=q.1∧H q.2.1=some (.tup (p.1.map kV))∧yK p.2 q.2.2) kvs xs ∧
   ∃ o es ep,h.get? a=some o∧o.ExactDict∧o.data=.dict es ep∧es.toList=xs.map (entryOfKey (tupleKind (QY P w)))∧(xs.map (·.1)).Nodup
 | .set S n=>h.SetOf (intKind P w) a S n
 | .ins C dx fs=>H dx=some (.own a)∧fs.length≤1000∧dx≠a∧h.get? a=some (instObj C dx) ∧
   ∃ mA,h.Ns1 dx mA∧(∀ f,RelO (fs.lookup f) (mA f))∧PySem.Within mA (fs.map (·.1))
 | .own _=>∃ o,h.get? a=some o
 | .xd fs=>∃ mA,h.Ns1 a mA∧∀ f,RelO (fs.lookup f) (mA f)
 | .rng lo hi=>∃ t u v,h.get? a=some { cls:=.type "range",data:=.fields #[.int lo t,.int hi u,.int 1 v] }
 | .frz o u=>h.get? a=some o∧ww H h a u
 | .tbl ps=>h.get? a=some { cls:=.none,data:=.fields ps }
 | .met f x=>h.get? a=some (methodObj (.ref f) (.ref x))
 | .ext φ=>φ h∧(∃ o,h.get? a=some o)∧∀ h1 h2:Heap,φ h1→(∀ o,h1.get? a=some o→h2.get? a=some o)→φ h2
def HOk (H:Hp) (h:Heap):Prop:=∀ a o,H a=some o→ww P w H h a o
end
section
variable {P:Program} {w:World} {H H':Hp} {h h':Heap} {a:Addr} {o:HO}
theorem ww.lt (x:ww P w H h a o):a < h.objs.size:=by
 cases o with
 | lst xs=>obtain ⟨_,_,_,_,e⟩:=x; exact lt_size e
 | tup xs=>obtain ⟨_,_,_,p⟩:=x; exact p.lt
 | dK kvs=>obtain ⟨_,_,_,_,o,_,_,e,_⟩:=x; exact lt_size e
 | dT kvs=>obtain ⟨_,_,_,_,o,_,_,e,_⟩:=x; exact lt_size e
 | set S n=>obtain ⟨o,_,_,_,e,_⟩:=x; exact lt_size e
 | ins C dx fs=>obtain ⟨_,_,_,e,_⟩:=x; exact lt_size e
 | own y=>obtain ⟨_,e⟩:=x; exact lt_size e
 | xd fs=>obtain ⟨_,⟨_,_,_,e,_⟩,_⟩:=x; exact lt_size e
 | rng lo hi=>obtain ⟨_,_,_,e⟩:=x; exact lt_size e
 | frz ob u=>obtain ⟨e,_⟩:=x; exact lt_size e
 | tbl ps=>exact lt_size (show h.get? a=some _ from x)
 | met f y=>exact lt_size (show h.get? a=some _ from x)
 | ext φ=>obtain ⟨_,⟨_,e⟩,_⟩:=x; exact lt_size e
theorem Paired.mapP {α β:Type} {F G:α→β→Prop}:∀ {l₁:List α} {l₂:List β},Paired F l₁ l₂→(∀ a b,F a b→G a b)→Paired G l₁ l₂
 | _,_,.nil,_=>.nil
 | _,_,.cons r t,f=>.cons (f _ _ r) (Paired.mapP t f)
theorem ww.stay (x:ww P w H h a o) (k:∀ b u,(b=a∨H b=some (.own a))→h.get? b=some u→h'.get? b=some u)
  (ho:∀ b,H b=some (.own a)→H' b=some (.own a)) (ht:∀ b xs,H b=some (.tup xs)→H' b=some (.tup xs)):ww P w H' h' a o:=by
 induction o with
 | lst xs=>obtain ⟨z,its,n,r,e⟩:=x; exact ⟨z,its,n,r,k _ _ (.inl rfl) e⟩
 | tup xs=>obtain ⟨z,its,r,ob,e,c⟩:=x; exact ⟨z,its,r,ob,k _ _ (.inl rfl) e,c⟩
 | dK kvs=>obtain ⟨z,y,vs,r,ob,es,ep,e,c⟩:=x; exact ⟨z,y,vs,r,ob,es,ep,k _ _ (.inl rfl) e,c⟩
 | dT kvs =>
  obtain ⟨z,y,xs,r,ob,es,ep,e,c⟩:=x;exact ⟨z,y,xs,Paired.mapP r fun p q z=>⟨z.1,ht _ _ z.2.1,z.2.2⟩,ob,es,ep,k _ _ (.inl rfl) e,c⟩
 | set S n=>obtain ⟨ob,es,ep,t,e,c⟩:=x; exact ⟨ob,es,ep,t,k _ _ (.inl rfl) e,c⟩
 | ins C dx fs =>
  obtain ⟨d,z,ne,e,mA,⟨od,es,ep,e2,c⟩,r⟩:=x;exact ⟨ho _ d,z,ne,k _ _ (.inl rfl) e,mA,⟨od,es,ep,k _ _ (.inr d) e2,c⟩,r⟩
 | own y=>obtain ⟨ob,e⟩:=x; exact ⟨ob,k _ _ (.inl rfl) e⟩
 | xd fs=>obtain ⟨mA,⟨od,es,ep,e,c⟩,r⟩:=x; exact ⟨mA,⟨od,es,ep,k _ _ (.inl rfl) e,c⟩,r⟩
 | rng lo hi=>obtain ⟨t,u,v,e⟩:=x; exact ⟨t,u,v,k _ _ (.inl rfl) e⟩
 | frz ob u ih=>obtain ⟨e,q⟩:=x; exact ⟨k _ _ (.inl rfl) e,ih q⟩
 | tbl ps =>
  have e:h.get? a=some { cls:=.none,data:=.fields ps }:=x;show h'.get? a=some { cls:=.none,data:=.fields ps };exact k a _ (.inl rfl) e
 | met f y =>
  have e:h.get? a=some (methodObj (.ref f) (.ref y)):=x;show h'.get? a=some (methodObj (.ref f) (.ref y));exact k a _ (.inl rfl) e
 | ext φ=>obtain ⟨p,⟨o,e⟩,st⟩:=x; exact ⟨st _ _ p fun o q=>k _ _ (.inl rfl) q,⟨o,k _ _ (.inl rfl) e⟩,st⟩
theorem HOk.lt (x:HOk P w H h) (e:H a=some o):a < h.objs.size:=(x a o e).lt
theorem HOk.fresh (x:HOk P w H h) (e:h.objs.size≤a):H a=none:=by
 cases q:H a with
 | none=>rfl
 | some u=>exact absurd (lt_of_lt_of_le (x.lt q) e) (lt_irrefl _)
theorem HOk.kept (x:HOk P w H h) (k:∀ b u,h.get? b=some u→h'.get? b=some u):HOk P w H h':=fun a o e =>
 (x a o e).stay (fun b u _ q=>k b u q) (fun _ q=>q) fun _ _ q=>q
theorem HOk.laid (x:HOk P w H h) (k:∀ b u,h.get? b=some u→h'.get? b=some u) (hp:h.objs.size≤a) (new:ww P w (upd H a o) h' a o):HOk P w (upd H a o) h':=fun b u e=>by
 have hn:=x.fresh hp;by_cases hb:b=a
 ·subst hb; rw [jq] at e; cases e; exact new
 ·rw [yH hb] at e
  exact (x b u e).stay (fun c v _ q=>k c v q) (fun c q=>by rw [yH (wO q hn)]; exact q) fun c xs q=>by rw [yH (wO q hn)]; exact q
end
def Rd (H:Hp) (a:Addr) (u:HO):Prop:=H a=some u∨∃ o,H a=some (.frz o u)
theorem Rd.of {H:Hp} {a:Addr} {u:HO} (h:H a=some u):Rd H a u:=.inl h
theorem Rd.ok {P:Program} {w:World} {H:Hp} {h:Heap} {a:Addr} {u:HO} (r:Rd H a u) (x:HOk P w H h):ww P w H h a u:=by
 rcases r with r | ⟨o,r⟩
 ·exact x a u r
 ·obtain ⟨_,q⟩:=x a _ r
  exact q
def Mut:Option HO→Prop
 | some (.lst _)=>True
 | some (.dK _)=>True
 | some (.dT _)=>True
 | some (.set _ _)=>True
 | some (.ins _ _ _)=>True
 | some (.ext _)=>True
 | _=>False
section
variable {P:Program} {w:World} {H:Hp} {h h':Heap} {x e:Addr} {o':HO}
theorem HOk.write (ok:HOk P w H h) (mu:Mut (H x)) (he:e=x∨H e=some (.own x)) (k:∀ b u,b≠e→h.get? b=some u→h'.get? b=some u) (heo:∃ u,h'.get? e=some u)
  (new:ww P w (upd H x o') h' x o'):HOk P w (upd H x o') h':=fun b u q=>by
 have nown:∀ c y,H c=some (.own y)→c≠x:=fun c y r z=>by subst z; rw [r] at mu; exact mu
 have ntup:∀ c xs,H c=some (.tup xs)→c≠x:=fun c xs r z=>by subst z; rw [r] at mu; exact mu
 by_cases hb:b=x
 ·subst hb; rw [jq] at q; cases q; exact new
 ·rw [yH hb] at q
  by_cases hbe:b=e
  ·have q':H b=some (.own x):=by
    rcases he with z | z
    ·exact absurd (hbe.trans z) hb
    ·rw [hbe]; exact z
   rw [q] at q'; cases q';obtain ⟨v,hv⟩:=heo;exact ⟨v,by rw [hbe]; exact hv⟩
  ·refine (ok b u q).stay (fun c v hc r=>k c v ?_ r) (fun c r=>by rw [yH (nown c b r)]; exact r) fun c xs r=>by rw [yH (ntup c xs r)]; exact r
   rcases hc with rfl | hc
   ·exact hbe
   ·rintro rfl
    rcases he with z | z
    ·exact nown c b hc z
    ·rw [hc] at z; cases z; exact hb rfl
end
structure Un (fs ex:List Addr) (H H':Hp) (h h':Heap):Prop where
 keep:∀ b o,h.get? b=some o→H b=none→b ∉ fs→b ∉ ex→h'.get? b=some o
 slot:∀ b o,h.get? b=some o→H b=none→b∈fs→b ∉ ex→∃ sl,h'.get? b=some { o with slots:=sl }
 free:∀ b o,h.get? b=some o→H b=none→b ∉ ex→H' b=none
 there:∀ b o,h.get? b=some o→b ∉ ex→∃ o',h'.get? b=some o'
 tups:∀ b xs,H b=some (.tup xs)→H' b=some (.tup xs)
 frzs:∀ b o u,H b=some (.frz o u)→H' b=some (.frz o u)
 tbls:∀ b ps,H b=some (.tbl ps)→∃ more,H' b=some (.tbl (ps++more))
section
variable {fs fs' ex ex':List Addr} {H H1 H2:Hp} {h h1 h2 h':Heap} {a x e:Addr} {o:HO}
theorem Un.any (u:Un fs ex H H1 h h1) {b:Addr} {ob:Obj} (q:h.get? b=some ob) (n:H b=none) (hx:b ∉ ex):∃ sl,h1.get? b=some { ob with slots:=sl }:=by
 by_cases hb:b∈fs
 ·exact u.slot b ob q n hb hx
 ·exact ⟨ob.slots,u.keep b ob q n hb hx⟩
theorem Un.trans (a:Un fs ex H H1 h h1) (b:Un fs ex H1 H2 h1 h2):Un fs ex H H2 h h2 where
 keep:=fun c ob q n hc hx=>b.keep c ob (a.keep c ob q n hc hx) (a.free c ob q n hx) hc hx
 slot:=fun c ob q n hc hx=>by
  obtain ⟨sl,e1⟩:=a.slot c ob q n hc hx;obtain ⟨sl',e2⟩:=b.slot c _ e1 (a.free c ob q n hx) hc hx;exact ⟨sl',e2⟩
 free:=fun c ob q n hx=>by
  obtain ⟨o',e1⟩:=a.there c ob q hx;exact b.free c o' e1 (a.free c ob q n hx) hx
 there:=fun c ob q hx=>by
  obtain ⟨o',e1⟩:=a.there c ob q hx;exact b.there c o' e1 hx
 tups:=fun c xs q=>b.tups c xs (a.tups c xs q)
 frzs:=fun c ob xs q=>b.frzs c ob xs (a.frzs c ob xs q)
 tbls:=fun c ps q=>by
  obtain ⟨m1,e1⟩:=a.tbls c ps q;obtain ⟨m2,e2⟩:=b.tbls c _ e1;exact ⟨m1++m2,by rw [e2,Array.append_assoc]⟩
theorem Un.kept (k:∀ b u,h.get? b=some u→h'.get? b=some u):Un fs ex H H h h' :=
 ⟨fun b ob q _ _ _=>k b ob q,fun b ob q _ _ _=>⟨ob.slots,k b ob q⟩,fun _ _ _ n _=>n,fun b ob q _=>⟨ob,k b ob q⟩,fun _ _ q=>q,fun _ _ _ q=>q,fun _ ps q=>⟨#[],by rw [q]; simp⟩⟩
theorem Un.refl:Un fs ex H H h h:=Un.kept fun _ _ q=>q
theorem Un.laid (k:∀ b u,h.get? b=some u→h'.get? b=some u) (hp:h.objs.size≤a) (hn:H a=none):Un fs ex H (upd H a o) h h' where
 keep:=fun b u q _ _ _=>k b u q
 slot:=fun b u q _ _ _=>⟨u.slots,k b u q⟩
 free:=fun b u q n _=>by rw [yH (ne_of_lt (lt_of_lt_of_le (lt_size q) hp))]; exact n
 there:=fun b u q _=>⟨u,k b u q⟩
 tups:=fun b xs q=>by rw [yH (wO q hn)]; exact q
 frzs:=fun b u xs q=>by rw [yH (wO q hn)]; exact q
 tbls:=fun b ps q=>⟨#[],by rw [yH (wO q hn),q]; simp⟩
theorem Un.write (mu:Mut (H x)) (he:e=x∨H e=some (.own x)) (k:∀ b u,b≠e→h.get? b=some u→h'.get? b=some u) (heo:∃ u,h'.get? e=some u):Un fs ex H (upd H x o) h h':=by
 have hx:∀ b,H b=none→b≠x:=fun b n z=>by subst z; rw [n] at mu; exact mu
 have hb:∀ b,H b=none→b≠e:=fun b n z=>by
  subst z;rcases he with r | r
  ·exact hx b n r
  ·rw [n] at r; cases r
 have hm:∀ b u,H b=some u→¬ Mut (some u)→b≠x:=fun b u q nm z=>by subst z; rw [q] at mu; exact nm mu
 refine ⟨fun b u q n _ _=>k b u (hb b n) q,fun b u q n _ _=>⟨u.slots,k b u (hb b n) q⟩,fun b u q n _=>by rw [yH (hx b n)]; exact n,fun b u q _=>?_,
  fun b xs q=>by rw [yH (hm b _ q fun z=>z)]; exact q,fun b u xs q=>by rw [yH (hm b _ q fun z=>z)]; exact q,fun b ps q=>⟨#[],by rw [yH (hm b _ q fun z=>z),q]; simp⟩⟩
 by_cases hbe:b=e
 ·subst hbe; exact heo
 ·exact ⟨u,k b u hbe q⟩
theorem Un.mono (u:Un fs ex H H1 h h1) (hs:∀ b∈fs,b∈fs') (hx:∀ b∈ex,b∈ex'):Un fs' ex' H H1 h h1 :=
 ⟨fun b ob q n hb he=>u.keep b ob q n (fun z=>hb (hs b z)) fun z=>he (hx b z),fun _ _ q n _ he=>u.any q n fun z=>he (hx _ z),fun b ob q n he=>u.free b ob q n fun z=>he (hx b z),fun b ob q he=>u.there b ob q fun z=>he (hx b z),u.tups,u.frzs,u.tbls⟩
end
def trk (h:Heap) (H:Hp):List Addr:=(List.range h.objs.size).filter fun a=>(H a).isSome
def zDV (h:Heap) (H:Hp):Heap:=hideAll h (trk h H)
theorem zBW (h:Heap) (H:Hp):(zDV h H).objs.size=h.objs.size:=PySem.W.hideAll_size _ _
theorem zDW {h:Heap} {H:Hp} {b:Addr} {o:Obj} (e:h.get? b=some o) (n:H b=none):(zDV h H).get? b=some o :=
 hideAll_get _ e fun hm=>by
  have q:(H b).isSome=true:=(mem_filter.mp hm).2;rw [n] at q; simp at q
theorem of_hidT {h:Heap} {H:Hp} {b:Addr} {o:Obj} (e:(zDV h H).get? b=some o):h.get? b=some o∧H b=none:=by
 have e':h.get? b=some o:=of_hideAll (trk h H) e;refine ⟨e',?_⟩;cases q:H b with
 | none=>rfl
 | some x =>
  have hm:b∈trk h H:=mem_filter.mpr ⟨mem_range.mpr (lt_size e'),by simp [q]⟩;have z:(zDV h H).get? b=none:=PySem.W.hideAll_none (trk h H) hm;rw [z] at e; cases e
def allNews (g h:Heap) (L:Addr):List (Addr × Obj):=(List.range h.objs.size).filterMap fun a=>if a=L∨(g.get? a).isSome=true then none else (h.get? a).map fun o=>(a,o)
def vd (g h:Heap) (L d:Addr):List (Addr × Obj):=(allNews g h L).filter fun p=>decide (p.1≠d)
end L2
namespace L2
open PySem PySem.Spec PyProof.Rows
structure Mod (K:PySem.W.Frag) (mg:Str→Option Value) (base:Heap):Prop where
 kin:K.In base
 glob:base.Ns mainGlobals mg
 blt:∃ mb,base.Ns builtinsNs mb∧∀ x:Str,x≠"__name__"→mb x=bootBuiltins x
 nolimit:base.NoLimit
structure Cx where
 prog:Program
 w:World
 K:PySem.W.Frag
 mg:Str→Option Value
 base:Heap
 A:Around
 N:List Str
 s₀:Shared
 H₀:Hp
 env:Env
 outer:List Env
 stack:List Env
 ex:List Addr
 fn:Str→Bool
 calm:Bool
 pn:List (Addr × Obj)
 xe:Value→Shared→Prop
def frs (l:List Env):List Addr:=l.filterMap (·.frame)
abbrev Cx.fs (X:Cx):List Addr:=frs X.outer
def Vis (sc:Scope) (x:Str):Prop:=sc.names.lookup x=some .local∨sc.names.lookup x=some .cell∨sc.names.lookup x=some .free
def Loc (sc:Scope) (x:Str):Prop:=sc.names.lookup x=some .local∨sc.names.lookup x=some .cell
def Look (env:Env) (h:Heap) (m:Str→Option Value) (x:Str) (u:Value):Prop :=
 (env.kindOf x=some .local∧m x=some u)∨((env.kindOf x=some .cell∨env.kindOf x=some .free)∧∃ c,env.cells.lookup x=some c∧h.IsCell c (some u))
structure Cx.Ok (X:Cx):Prop where
 mod:Mod X.K X.mg X.base
 kind:X.env.scope.kind=.function
 glob:X.env.globals=mainGlobals
 blt:X.env.builtins=builtinsNs
 above:X.s₀.heap.objs.size≤X.env.locals
 inj:∀ x y c,X.env.cells.lookup x=some c→X.env.cells.lookup y=some c→x=y
 has:∀ x,(X.env.kindOf x=some .cell∨X.env.kindOf x=some .free)→∃ c,X.env.cells.lookup x=some c
 cab:∀ x c,X.fn x=true→X.env.cells.lookup x=some c→X.s₀.heap.objs.size≤c
 hd:X.calm=true→X.A.handled=none
 frames:X.A.frames=some X.stack
 stk:X.stack=X.outer∨(X.stack=X.env::X.outer∧X.env.frame=some X.env.locals)
 exf:∀ b∈X.ex,b≠X.env.locals∧∀ x c,X.env.cells.lookup x=some c→c≠b
 bs:∀ b o,X.base.get? b=some o→X.s₀.heap.get? b=some o∧X.H₀ b=none
 bsz:X.base.objs.size≤X.s₀.heap.objs.size
 noex:∀ b o,X.base.get? b=some o→b ∉ X.ex
 exfs:∀ b∈X.ex,b ∉ X.fs
 funs:X.s₀.heap.FunFrames X.base X.outer
 frf:∀ b∈X.fs,X.H₀ b=none
structure Inv (X:Cx) (pins:List (Addr × Obj)) (σ:List (Option V)) (H:Hp) (s:Shared):Prop where
 ok:X.Ok
 os:s.os=X.s₀.os
 bare:AllBare s.gens
 base:Un X.fs X.ex X.H₀ H X.s₀.heap s.heap
 loc:∃ m,s.heap.Ns X.env.locals m∧∀ (i:Nat) (x:Str) (v:V),X.N[i]?=some x→σ[i]?=some (some v)→Vis X.env.scope x→∃ u,yK v u∧Look X.env s.heap m x u
 cell:∀ x c,X.env.cells.lookup x=some c→∃ v,s.heap.IsCell c v
 free:H X.env.locals=none
 freeC:∀ x c,X.env.cells.lookup x=some c→H c=none
 pin:∀ p∈X.pn++pins,s.heap.get? p.1=some p.2∧H p.1=none∧p.1≠X.env.locals∧p.1 ∉ X.fs∧∀ v,p.2.data≠.cell v
 hok:HOk X.prog X.w H s.heap
 len:σ.length=X.N.length
section
variable {X:Cx} {pins:List (Addr × Obj)} {σ:List (Option V)} {H H':Hp} {s:Shared} {h':Heap}
theorem Cx.Ok.nofr (ok:X.Ok) {b:Addr} {o:Obj} (e:X.base.get? b=some o):b ∉ X.fs:=fun hb=>by
 have:=(ok.funs.mem hb).1;rw [e] at this; cases this
theorem Inv.bs (I:Inv X pins σ H s):∀ b o,X.base.get? b=some o→s.heap.get? b=some o∧H b=none:=fun b o e =>
 ⟨I.base.keep b o (I.ok.bs b o e).1 (I.ok.bs b o e).2 (I.ok.nofr e) (I.ok.noex b o e),I.base.free b o (I.ok.bs b o e).1 (I.ok.bs b o e).2 (I.ok.noex b o e)⟩
theorem Inv.bk (I:Inv X pins σ H s):∀ b o,X.base.get? b=some o→s.heap.get? b=some o:=fun b o e=>(I.bs b o e).1
theorem Inv.mod (I:Inv X pins σ H s):Mod X.K X.mg X.base:=I.ok.mod
theorem Inv.kIn (I:Inv X pins σ H s):X.K.In s.heap:=I.ok.mod.kin.keeps I.bk
theorem Inv.nolimit (I:Inv X pins σ H s):s.heap.NoLimit:=I.ok.mod.nolimit.keeps I.bk
theorem Inv.fr (I:Inv X pins σ H s):∃ m,Fr X.base X.env.locals s.heap m :=
 let ⟨m,hn,_⟩:=I.loc
 ⟨m,hn,I.bk,le_trans I.ok.bsz I.ok.above⟩
theorem Inv.lt (I:Inv X pins σ H s):X.env.locals < s.heap.objs.size:=let ⟨_,hn,_⟩:=I.loc; hn.lt
theorem Inv.sz (I:Inv X pins σ H s):X.s₀.heap.objs.size≤s.heap.objs.size:=le_trans I.ok.above (le_of_lt I.lt)
theorem Inv.nofs (I:Inv X pins σ H s) {a:Addr} (h:s.heap.objs.size≤a):a ∉ X.fs:=fun hb=>by
 obtain ⟨_,o,ho,_⟩:=I.ok.funs.mem hb;exact absurd (lt_of_lt_of_le (lt_size ho) (le_trans I.sz h)) (lt_irrefl _)
theorem Inv.cne (I:Inv X pins σ H s):∀ x c,X.env.cells.lookup x=some c→c≠X.env.locals:=fun x c e z=>by
 obtain ⟨v,o,ho,hd⟩:=I.cell x c e;obtain ⟨m,⟨o',es,ep,ho',hd',_⟩,_⟩:=I.loc;rw [z,ho'] at ho; cases ho; rw [hd'] at hd; cases hd
theorem Inv.funs (I:Inv X pins σ H s):s.heap.FunFrames X.base X.outer:=by
 have all:∀ (l:List Env),(∀ b∈frs l,b∈X.fs)→X.s₀.heap.FunFrames X.base l→s.heap.FunFrames X.base l:=by
  intro l
  induction l with
  | nil=>intro _ _; trivial
  | cons env r ih =>
   intro hs hl;obtain ⟨hk,⟨L,o,hf,hn,ho,hd⟩,hr⟩:=hl;have hL:L∈X.fs:=hs L (by unfold frs; rw [filterMap_cons,hf]; exact mem_cons_self);obtain ⟨sl,e⟩:=I.base.slot L o ho (I.ok.frf L hL) hL fun z=>I.ok.exfs L z hL
   exact ⟨hk,⟨L,_,hf,hn,e,hd⟩,ih (fun b hb=>hs b (by unfold frs; rw [filterMap_cons,hf]; exact mem_cons_of_mem _ hb)) hr⟩
 exact all X.outer (fun _ hb=>hb) I.ok.funs
theorem Inv.stack (I:Inv X pins σ H s):s.heap.FunFrames X.base X.stack:=by
 rcases I.ok.stk with e | ⟨e,hf⟩
 ·rw [e]; exact I.funs
 ·rw [e]
  obtain ⟨m,hn,_⟩:=I.loc;refine .cons (by rw [I.ok.kind]; decide) hf hn ?_ I.funs;exact Heap.get?_none_of_le (le_trans I.ok.bsz I.ok.above)
theorem Inv.stkSub (I:Inv X pins σ H s):∀ b∈frs X.stack,b∈X.env.locals::X.fs:=fun b hb=>by
 rcases I.ok.stk with e | ⟨e,hf⟩
 ·rw [e] at hb; exact mem_cons_of_mem _ hb
 ·rw [e] at hb
  unfold frs at hb;rw [filterMap_cons,hf] at hb;exact hb
theorem Inv.stkFree (I:Inv X pins σ H s):∀ b∈frs X.stack,H b=none:=fun b hb=>by
 rcases mem_cons.mp (I.stkSub b hb) with e | hb
 ·rw [e]; exact I.free
 ·obtain ⟨_,o,ho,_⟩:=I.ok.funs.mem hb
  exact I.base.free b o ho (I.ok.frf b hb) fun z=>I.ok.exfs b z hb
theorem Inv.step {g':Array GenState} {t':Nat} {d':Drawn} {ch:List Addr} (I:Inv X pins σ H s)
  (hch:∀ b∈ch,(b∈X.ex∨X.s₀.heap.objs.size≤b)∧b≠X.env.locals∧(∀ x c,X.env.cells.lookup x=some c→c≠b)∧∀ p∈X.pn++pins,p.1≠b)
  (keep:∀ b o,b≠X.env.locals→b ∉ X.fs→b ∉ ch→s.heap.get? b=some o→H b=none→h'.get? b=some o)
  (slot:∀ b o,b≠X.env.locals→b∈X.fs→b ∉ ch→s.heap.get? b=some o→H b=none→∃ sl,h'.get? b=some { o with slots:=sl }) (free:∀ b o,b ∉ ch→s.heap.get? b=some o→H b=none→H' b=none)
  (there:∀ b o,b ∉ ch→s.heap.get? b=some o→∃ o',h'.get? b=some o')
  (tups:∀ b xs,H b=some (.tup xs)→H' b=some (.tup xs)) (frzs:∀ b o u,H b=some (.frz o u)→H' b=some (.frz o u)) (tbls:∀ b ps,H b=some (.tbl ps)→∃ more,H' b=some (.tbl (ps++more)))
  (ns:∀ m,s.heap.Ns X.env.locals m→h'.Ns X.env.locals m) (hok:HOk X.prog X.w H' h') (hg:AllBare g') :
  Inv X pins σ H' { s with heap:=h',gens:=g',drawn:=d',toks:=t' }:=by
 have neL:∀ b o,X.s₀.heap.get? b=some o→b≠X.env.locals:=fun b o e=>ne_of_lt (lt_of_lt_of_le (lt_size e) I.ok.above)
 have neC:∀ b o,X.s₀.heap.get? b=some o→b ∉ X.ex→b ∉ ch:=fun b o e hx hb=>by
  rcases (hch b hb).1 with z | z
  ·exact hx z
  ·exact absurd (lt_of_lt_of_le (lt_size e) z) (lt_irrefl _)
 have cellK:∀ x c,X.env.cells.lookup x=some c→∀ v,s.heap.IsCell c v→h'.IsCell c v:=fun x c e v ⟨o,ho,hd⟩=>by
  have nch:c ∉ ch:=fun z=>(hch c z).2.2.1 x c e rfl
  by_cases hc:c∈X.fs
  ·obtain ⟨sl,q⟩:=slot c o (I.cne x c e) hc nch ho (I.freeC x c e)
   exact ⟨_,q,hd⟩
  ·exact ⟨o,keep c o (I.cne x c e) hc nch ho (I.freeC x c e),hd⟩
 refine ⟨I.ok,I.os,hg,⟨fun b o e n hb hx=>?_,fun b o e n hb hx=>?_,fun b o e n hx=>?_,fun b o e hx=>?_,fun b xs e=>tups b xs (I.base.tups b xs e),fun b o xs e=>frzs b o xs (I.base.frzs b o xs e),fun b ps e=>?_⟩,?_,fun x c e=>?_,?_,fun x c e=>?_,fun p hp=>?_,hok,I.len⟩
 ·exact keep b o (neL b o e) hb (neC b o e hx) (I.base.keep b o e n hb hx) (I.base.free b o e n hx)
 ·obtain ⟨sl,e1⟩:=I.base.slot b o e n hb hx
  obtain ⟨sl',e2⟩:=slot b _ (neL b o e) hb (neC b o e hx) e1 (I.base.free b o e n hx);exact ⟨sl',e2⟩
 ·obtain ⟨o',e1⟩:=I.base.there b o e hx
  exact free b o' (neC b o e hx) e1 (I.base.free b o e n hx)
 ·obtain ⟨o',e1⟩:=I.base.there b o e hx
  exact there b o' (neC b o e hx) e1
 ·obtain ⟨m1,e1⟩:=I.base.tbls b ps e
  obtain ⟨m2,e2⟩:=tbls b _ e1;exact ⟨m1++m2,by rw [e2,Array.append_assoc]⟩
 ·obtain ⟨m,hn,hl⟩:=I.loc
  refine ⟨m,ns m hn,fun i x v e1 e2 e3=>?_⟩;obtain ⟨u,r,l⟩:=hl i x v e1 e2 e3;refine ⟨u,r,?_⟩;rcases l with l | ⟨k,c,e,z⟩
  ·exact .inl l
  ·exact .inr ⟨k,c,e,cellK x c e _ z⟩
 ·obtain ⟨v,z⟩:=I.cell x c e
  exact ⟨v,cellK x c e v z⟩
 ·obtain ⟨m,⟨o,_,_,ho,_⟩,_⟩:=I.loc
  exact free _ o (fun z=>(hch _ z).2.1 rfl) ho I.free
 ·obtain ⟨v,o,ho,hd⟩:=I.cell x c e
  exact free c o (fun z=>(hch c z).2.2.1 x c e rfl) ho (I.freeC x c e)
 ·obtain ⟨e,n,ne,nf,d⟩:=I.pin p hp
  have nch:p.1 ∉ ch:=fun z=>(hch p.1 z).2.2.2 p hp rfl
  exact ⟨keep p.1 p.2 ne nf nch e n,free p.1 p.2 nch e n,ne,nf,d⟩
theorem Inv.un {t':Nat} (I:Inv X pins σ H s) (u:Un X.fs [] H H' s.heap h') (hok:HOk X.prog X.w H' h'):Inv X pins σ H' { s with heap:=h',toks:=t' }:=by
 obtain ⟨m,⟨o,es,ep,ho,r⟩,_⟩:=id I.loc;obtain ⟨sl,hL⟩:=u.any ho I.free (by simp);exact I.step (g':=s.gens) (d':=s.drawn) (ch:=[]) (fun _ z=>nomatch z) (fun b o _ hb _ e n=>u.keep b o e n hb (by simp)) (fun b o _ hb _ e n=>u.slot b o e n hb (by simp)) (fun b o _ e n=>u.free b o e n (by simp)) (fun b o _ e=>u.there b o e (by simp)) u.tups u.frzs u.tbls (fun m' hm=>by
  obtain ⟨o',es',ep',ho',r'⟩:=hm;rw [ho] at ho'; cases ho';exact ⟨_,es',ep',hL,r'⟩) hok I.bare
theorem Inv.call {g':Array GenState} {t':Nat} {d':Drawn} {ch:List Addr} (I:Inv X pins σ H s) (u:Un (frs X.stack) ch H H' s.heap h') (hok:HOk X.prog X.w H' h') (hg:AllBare g')
  (hch:∀ b∈ch,(b∈X.ex∨X.s₀.heap.objs.size≤b)∧b≠X.env.locals∧(∀ x c,X.env.cells.lookup x=some c→c≠b)∧∀ p∈X.pn++pins,p.1≠b) :
  Inv X pins σ H' { s with heap:=h',gens:=g',drawn:=d',toks:=t' }:=by
 obtain ⟨m,⟨o,es,ep,ho,r⟩,_⟩:=id I.loc;obtain ⟨sl,hL⟩:=u.any ho I.free fun z=>(hch _ z).2.1 rfl
 exact I.step (ch:=ch) hch (fun b o hL hb hc e n=>u.keep b o e n (fun z=>(mem_cons.mp (I.stkSub b z)).elim hL hb) hc) (fun b o _ _ hc e n=>u.any e n hc) (fun b o hc e n=>u.free b o e n hc) (fun b o hc e=>u.there b o e hc) u.tups u.frzs u.tbls (fun m' hm=>by
  obtain ⟨o',es',ep',ho',r'⟩:=hm;rw [ho] at ho'; cases ho';exact ⟨_,es',ep',hL,r'⟩) hok hg
theorem Inv.turned {t':Nat} {it:Addr} (I:Inv X pins σ H s) (k:∀ b o,b≠it→s.heap.get? b=some o→h'.get? b=some o) (hn:H it=none) (hL:it≠X.env.locals)
  (h1:it∈X.ex∨X.s₀.heap.objs.size≤it) (h2:∀ x c,X.env.cells.lookup x=some c→c≠it) (h3:∀ p∈X.pn++pins,p.1≠it):Inv X pins σ H { s with heap:=h',toks:=t' }:=by
 have nit:∀ b u,H b=some u→b≠it:=fun b u e z=>by rw [z,hn] at e; cases e
 refine I.step (g':=s.gens) (d':=s.drawn) (ch:=[it]) (fun b hb=>?_) (fun b o _ _ hc e _=>k b o (fun z=>hc (by simp [z])) e) (fun b o _ _ hc e _=>⟨o.slots,k b o (fun z=>hc (by simp [z])) e⟩) (fun _ _ _ _ n=>n)
  (fun b o hc e=>⟨o,k b o (fun z=>hc (by simp [z])) e⟩) (fun _ _ e=>e) (fun _ _ _ e=>e) (fun b ps e=>⟨#[],by rw [e]; simp⟩) (fun m hm=>?_) (fun b u e=>?_) I.bare
 ·have e:b=it:=by simpa using hb
  subst e;exact ⟨h1,hL,h2,h3⟩
 ·obtain ⟨o,es,ep,ho,r⟩:=hm
  exact ⟨o,es,ep,k _ o (Ne.symm hL) ho,r⟩
 ·refine (I.hok b u e).stay (fun c v hc q=>k c v ?_ q) (fun _ q=>q) fun _ _ q=>q
  rcases hc with z | z
  ·rw [z]; exact nit b u e
  ·exact nit c _ z
theorem Inv.tok (I:Inv X pins σ H s) (t:Nat):Inv X pins σ H { s with toks:=t }:=I.un (h':=s.heap) (t':=t) Un.refl I.hok
theorem Inv.kept {t':Nat} (I:Inv X pins σ H s) (k:∀ b u,s.heap.get? b=some u→h'.get? b=some u):Inv X pins σ H { s with heap:=h',toks:=t' }:=I.un (Un.kept k) (I.hok.kept k)
theorem Inv.laid {a:Addr} {o:HO} {t':Nat} (I:Inv X pins σ H s) (k:∀ b u,s.heap.get? b=some u→h'.get? b=some u) (hp:s.heap.objs.size≤a) (new:ww X.prog X.w (upd H a o) h' a o) :
  Inv X pins σ (upd H a o) { s with heap:=h',toks:=t' }:=I.un (Un.laid k hp (I.hok.fresh hp)) (I.hok.laid k hp new)
theorem Inv.write {x e:Addr} {o:HO} {t':Nat} (I:Inv X pins σ H s) (mu:Mut (H x)) (he:e=x∨H e=some (.own x)) (k:∀ b u,b≠e→s.heap.get? b=some u→h'.get? b=some u) (heo:∃ u,h'.get? e=some u)
  (new:ww X.prog X.w (upd H x o) h' x o):Inv X pins σ (upd H x o) { s with heap:=h',toks:=t' }:=I.un (Un.write mu he k heo) (I.hok.write mu he k heo new)
theorem Inv.weak {σ':List (Option V)} (I:Inv X pins σ H s) (hl:σ'.length=σ.length) (w:∀ (i:Nat) v,σ'[i]?=some (some v)→σ[i]?=some (some v)):Inv X pins σ' H s :=
 ⟨I.ok,I.os,I.bare,I.base,let ⟨m,hn,hl'⟩:=I.loc; ⟨m,hn,fun i x v e1 e2 e3=>hl' i x v e1 (w i v e2) e3⟩,I.cell,I.free,I.freeC,I.pin,I.hok,hl.trans I.len⟩
theorem Inv.pins_of {pins':List (Addr × Obj)} (I:Inv X pins σ H s) (h:∀ p∈pins',s.heap.get? p.1=some p.2∧H p.1=none∧p.1≠X.env.locals∧p.1 ∉ X.fs∧∀ v,p.2.data≠.cell v):Inv X pins' σ H s :=
 ⟨I.ok,I.os,I.bare,I.base,I.loc,I.cell,I.free,I.freeC,fun p hp=>(mem_append.mp hp).elim (fun z=>I.pin p (mem_append_left _ z)) (h p),I.hok,I.len⟩
theorem zAM {N:List Str} (hN:N.Nodup) {i j:Nat} {x:Str} (a:N[i]?=some x) (b:N[j]?=some x):i=j:=by
 obtain ⟨h1,e1⟩:=List.getElem?_eq_some_iff.mp a;obtain ⟨h2,e2⟩:=List.getElem?_eq_some_iff.mp b;exact (List.getElem_inj hN).mp (e1.trans e2.symm)
theorem GZ {M:Model} {A:Around} {E:Value→Shared→Prop} {i:Nat} {x:Str} {v:V} {u:Value} {Q:Unit→Shared→Prop} (I:Inv X pins σ H s) (hN:X.N.Nodup) (hi:X.N[i]?=some x) (hx:Loc X.env.scope x) (r:yK v u)
  (h:∀ s',Inv X pins (σ.set i (some v)) H s'→(∃ a,Heap.SameBut a s.heap s'.heap∧(a=X.env.locals∨X.env.cells.lookup x=some a))→Q () s') (hf:X.fn x=true∨X.env.scope.names.lookup x=some .local:=by first | exact .inl rfl | exact .inr rfl | assumption):wpAny M A (storeName X.env x u) Q E s:=by
 obtain ⟨m,hn,hl⟩:=id I.loc;have hcls:(X.env.scope.kind == .class || (X.env.scope.kind == .module&&X.env.locals != X.env.globals))=false:=by rw [I.ok.kind]; rfl
 have hiσ:i < σ.length:=by rw [I.len]; exact (List.getElem?_eq_some_iff.mp hi).1
 have cne:=I.cne;have tracked:∀ {a:Addr} {h':Heap},(∃ o,s.heap.get? a=some o∧H a=none)→Heap.SameBut a s.heap h'→HOk X.prog X.w H h':=fun {a h'} ha hs b ob e=>by
  obtain ⟨_,_,hfree⟩:=ha;refine (I.hok b ob e).stay (fun c w' hc q=>(hs.2 c ?_).trans q) (fun _ q=>q) fun _ _ q=>q
  rintro rfl
  rcases hc with rfl | hc
  ·rw [hfree] at e; cases e
  ·rw [hfree] at hc; cases hc
 rcases hx with hk | hk
 ·refine wpAny_storeName_local hk hn (fun h' hn' hs=>?_) hcls
  obtain ⟨oL,_,_,hoL,_⟩:=id hn;refine h _ ⟨I.ok,I.os,I.bare,⟨fun b o e n hb hx=>?_,fun b o e n hb hx=>?_,I.base.free,fun b o e hx=>?_,I.base.tups,I.base.frzs,I.base.tbls⟩,⟨_,hn',fun j y v' e1 e2 e3=>?_⟩,fun y c e=>?_,I.free,I.freeC,fun p hp=>?_,tracked ⟨oL,hoL,I.free⟩ hs,by simpa using I.len⟩ ⟨_,hs,.inl rfl⟩
  ·exact (hs.2 b (ne_of_lt (lt_of_lt_of_le (lt_size e) I.ok.above))).trans (I.base.keep b o e n hb hx)
  ·obtain ⟨sl,e1⟩:=I.base.slot b o e n hb hx
   exact ⟨sl,(hs.2 b (ne_of_lt (lt_of_lt_of_le (lt_size e) I.ok.above))).trans e1⟩
  ·obtain ⟨o',e1⟩:=I.base.there b o e hx
   exact ⟨o',(hs.2 b (ne_of_lt (lt_of_lt_of_le (lt_size e) I.ok.above))).trans e1⟩
  ·by_cases hj:j=i
   ·subst hj
    rw [hi] at e1; cases e1;rw [getElem?_set_self hiσ] at e2;cases e2;exact ⟨u,r,.inl ⟨hk,by simp⟩⟩
   ·rw [getElem?_set_ne (Ne.symm hj)] at e2
    obtain ⟨u',r',q⟩:=hl j y v' e1 e2 e3;refine ⟨u',r',?_⟩;rcases q with ⟨k,e⟩ | ⟨k,c,e,z⟩
    ·refine .inl ⟨k,?_⟩
     have:y≠x:=fun e=>hj (zAM hN e1 (e ▸ hi))
     simp [this,e]
    ·exact .inr ⟨k,c,e,z.sameBut hs (cne y c e)⟩
  ·obtain ⟨w',z⟩:=I.cell y c e
   exact ⟨w',z.sameBut hs (cne y c e)⟩
  ·obtain ⟨e,n,ne,nf,d⟩:=I.pin p hp
   exact ⟨(hs.2 p.1 ne).trans e,n,ne,nf,d⟩
 ·have hfn:X.fn x=true:=by
   rcases hf with z | z
   ·exact z
   ·rw [z] at hk; cases hk
  obtain ⟨c,hc⟩:=I.ok.has x (.inl hk);obtain ⟨w',z⟩:=I.cell x c hc;refine wpAny_storeName_cell I.ok.kind hk hc z (fun h' hc' hs=>?_);obtain ⟨oc,hoc,hocd⟩:=id z;refine h { s with heap:=h' } ⟨I.ok,I.os,I.bare,⟨fun b o e n hb hx=>?_,fun b o e n hb hx=>?_,I.base.free,fun b o e hx=>?_,I.base.tups,I.base.frzs,I.base.tbls⟩,⟨m,hn.sameBut hs (Ne.symm (cne x c hc)),fun j y v' e1 e2 e3=>?_⟩,fun y c' e=>?_,I.free,I.freeC,fun p hp=>?_,tracked ⟨oc,hoc,I.freeC x c hc⟩ hs,by simpa using I.len⟩ ⟨c,hs,.inr hc⟩
  ·exact (hs.2 b (ne_of_lt (lt_of_lt_of_le (lt_size e) (I.ok.cab x c hfn hc)))).trans (I.base.keep b o e n hb hx)
  ·obtain ⟨sl,e1⟩:=I.base.slot b o e n hb hx
   exact ⟨sl,(hs.2 b (ne_of_lt (lt_of_lt_of_le (lt_size e) (I.ok.cab x c hfn hc)))).trans e1⟩
  ·obtain ⟨o',e1⟩:=I.base.there b o e hx
   exact ⟨o',(hs.2 b (ne_of_lt (lt_of_lt_of_le (lt_size e) (I.ok.cab x c hfn hc)))).trans e1⟩
  ·by_cases hj:j=i
   ·subst hj
    rw [hi] at e1; cases e1;rw [getElem?_set_self hiσ] at e2;cases e2;exact ⟨u,r,.inr ⟨.inl hk,c,hc,hc'⟩⟩
   ·rw [getElem?_set_ne (Ne.symm hj)] at e2
    obtain ⟨u',r',q⟩:=hl j y v' e1 e2 e3;refine ⟨u',r',?_⟩;rcases q with q | ⟨k,c',e,z'⟩
    ·exact .inl q
    ·refine .inr ⟨k,c',e,z'.sameBut hs ?_⟩
     rintro rfl
     exact hj (zAM hN e1 (I.ok.inj _ _ _ e hc ▸ hi))
  ·by_cases hcc:c'=c
   ·subst hcc; exact ⟨_,hc'⟩
   ·obtain ⟨w2,z2⟩:=I.cell y c' e
    exact ⟨w2,z2.sameBut hs hcc⟩
  ·obtain ⟨e,n,ne,nf,d⟩:=I.pin p hp
   refine ⟨(hs.2 p.1 ?_).trans e,n,ne,nf,d⟩;intro q;rw [q,hoc] at e;have q':oc=p.2:=Option.some.inj e;exact d w' (by rw [← q']; exact hocd)
theorem jr {M:Model} {A:Around} {E:Value→Shared→Prop} {i:Nat} {x:Str} {v:V} {u:Value} {Q:Unit→Shared→Prop} (I:Inv X pins σ H s) (hN:X.N.Nodup) (hi:X.N[i]?=some x) (hx:Loc X.env.scope x) (r:yK v u)
  (h:∀ s',Inv X pins (σ.set i (some v)) H s'→Q () s') (hf:X.fn x=true∨X.env.scope.names.lookup x=some .local:=by first | exact .inl rfl | exact .inr rfl | assumption):wpAny M A (storeName X.env x u) Q E s :=
 GZ I hN hi hx r (fun s' I' _=>h s' I') hf
theorem Inv.call' {s':Shared} {ch:List Addr} (I:Inv X pins σ H s) (ho:s'.os=s.os) (u:Un (frs X.stack) ch H H' s.heap s'.heap) (hok:HOk X.prog X.w H' s'.heap) (hg:AllBare s'.gens)
  (hch:∀ b∈ch,(b∈X.ex∨X.s₀.heap.objs.size≤b)∧b≠X.env.locals∧(∀ x c,X.env.cells.lookup x=some c→c≠b)∧∀ p∈X.pn++pins,p.1≠b):Inv X pins σ H' s':=by
 obtain ⟨h',g',d',t',o'⟩:=s';have e:o'=s.os:=ho;subst e;exact I.call (g':=g') (t':=t') (d':=d') u hok hg hch
end
abbrev XK:=Value→Option Addr→Hp→Prop
abbrev St:=List (Option V)
abbrev VK:=V→Hp→Prop
abbrev TE:=St→Hp→VK→Prop
abbrev TT:=St→Hp→(Bool→Hp→Prop)→Prop
abbrev TA:=St→Hp→(List V→Hp→Prop)→Prop
structure Ends where
 nx:St→Hp→Prop
 rt:VK
 bk:St→Hp→Prop:=fun _ _=>False
 ct:St→Hp→Prop:=fun _ _=>False
abbrev TS:=Ends→St→Hp→Prop
def EP (X:Cx) (pins:List (Addr × Obj)) (σ:St) (Q:VK) (u:Value) (s':Shared):Prop:=∃ v H',Inv X pins σ H' s'∧yK v u∧Q v H'
def TP (X:Cx) (pins:List (Addr × Obj)) (σ:St) (Q:Bool→Hp→Prop) (b:Bool) (s':Shared):Prop:=∃ H',Inv X pins σ H' s'∧Q b H'
def AP (X:Cx) (pins:List (Addr × Obj)) (σ:St) (Q:List V→Hp→Prop) (us:List Value) (s':Shared):Prop:=∃ vs H',Inv X pins σ H' s'∧z9 vs us∧Q vs H'
def SP (X:Cx) (pins:List (Addr × Obj)) (D:Ends) (f:Flow) (s':Shared):Prop :=
 match f with
 | .next=>∃ σ' H',Inv X pins σ' H' s'∧D.nx σ' H'
 | .brk=>∃ σ' H',Inv X pins σ' H' s'∧D.bk σ' H'
 | .cont=>∃ σ' H',Inv X pins σ' H' s'∧D.ct σ' H'
 | .ret u=>∃ v σ' H',Inv X pins σ' H' s'∧yK v u∧D.rt v H'
def PE (X:Cx) (e:Expr) (t:TE):Prop :=
 ∀ (pins:List (Addr × Obj)) (s:Shared) (σ:St) (H:Hp) (Q:VK),Inv X pins σ H s→t σ H Q→wpAny (model X.prog X.w) X.A (eval e X.env) (EP X pins σ Q) X.xe s
def PT (X:Cx) (e:Expr) (t:TT):Prop :=
 ∀ (pins:List (Addr × Obj)) (s:Shared) (σ:St) (H:Hp) (Q:Bool→Hp→Prop),Inv X pins σ H s→t σ H Q→wpAny (model X.prog X.w) X.A (isTrue e X.env (eval e X.env)) (TP X pins σ Q) X.xe s
def PW (X:Cx) (e:Expr) (t:TT):Prop :=
 ∀ (whole:Sem Value) (pins:List (Addr × Obj)) (s:Shared) (σ:St) (H:Hp) (Q:Bool→Hp→Prop),Inv X pins σ H s→t σ H Q→wpAny (model X.prog X.w) X.A (isTrue e X.env whole) (TP X pins σ Q) X.xe s
theorem PW.pt {X:Cx} {e:Expr} {t:TT} (h:PW X e t):PT X e t:=h _
def PA (X:Cx) (es:List Expr) (t:TA):Prop :=
 ∀ (pos:Pos) (pins:List (Addr × Obj)) (s:Shared) (σ:St) (H:Hp) (Q:List V→Hp→Prop),Inv X pins σ H s→t σ H Q→wpAny (model X.prog X.w) X.A (spliced (backTo pos (starEach es X.env))) (AP X pins σ Q) X.xe s
def PS (X:Cx) (st:Stmt) (t:TS):Prop :=
 ∀ (pins:List (Addr × Obj)) (s:Shared) (σ:St) (H:Hp) (D:Ends),Inv X pins σ H s→t D σ H→wpAny (model X.prog X.w) X.A (exec st X.env) (SP X pins D) X.xe s
def PSs (X:Cx) (st:List Stmt) (t:TS):Prop :=
 ∀ (pins:List (Addr × Obj)) (s:Shared) (σ:St) (H:Hp) (D:Ends),Inv X pins σ H s→t D σ H→wpAny (model X.prog X.w) X.A (execs st X.env) (SP X pins D) X.xe s
theorem thn {α:Type} {t:Sem α} {Q Q':α→Shared→Prop} {M:Model} {A:Around} {E:Value→Shared→Prop} {s:Shared} (h:wpAny M A t Q E s) (hQ:∀ a s,Q a s→Q' a s):wpAny M A t Q' E s:=wpAny_mono h hQ fun _ _ x=>x
end L2
namespace L2
open PySem PySem.Spec PyProof.Rows
section
variable {X:Cx}
theorem bin {a b:Expr} {ta tb:TE} (ha:PE X a ta) (hb:PE X b tb) {pins:List (Addr × Obj)} {s:Shared} {σ:St} {H:Hp} {R:V→V→Hp→Prop} (I:Inv X pins σ H s) (h:ta σ H fun x H1=>tb σ H1 fun y H2=>R x y H2)
  {α:Type} {Q:α→Shared→Prop} {f:Value→Value→Sem α}
  (hf:∀ v u s2 x y H2,Inv X pins σ H2 s2→yK x v→yK y u→R x y H2→wpAny (model X.prog X.w) X.A (f v u) Q X.xe s2) :
  wpAny (model X.prog X.w) X.A (eval a X.env) (fun v s₁=>wpAny (model X.prog X.w) X.A (eval b X.env) (fun u s₂=>wpAny (model X.prog X.w) X.A (f v u) Q X.xe s₂) X.xe s₁) X.xe s:=by
 refine thn (ha pins s σ H _ I h) fun v s1 ⟨x,H1,I1,r1,q1⟩=>?_
 refine thn (hb pins s1 σ H1 _ I1 q1) fun u s2 ⟨y,H2,I2,r2,q2⟩=>?_
 exact hf v u s2 x y H2 I2 r1 r2 q2
def zA3 (i:Nat):TE:=fun σ H Q=>∃ v,σ[i]?=some (some v)∧Q v H
def tC (v:V):TE:=fun _ H Q=>Q v H
theorem pe_var {i:Nat} {x:Str} {pos:Pos} (hN:X.N[i]?=some x) (hv:Vis X.env.scope x) (hd:(x == ("__debug__":Str))=false:=by decide) (hcd:(x == ("__classdict__":Str))=false:=by decide):PE X (.Name x pos) (zA3 i):=by
 intro pins s σ H Q I h;obtain ⟨v,e,h⟩:=h;obtain ⟨m,hn,hl⟩:=I.loc;obtain ⟨u,r,l⟩:=hl i x v hN e hv;have fin:EP X pins σ Q u s:=⟨v,H,I,r,h⟩;rcases l with ⟨hk,hm⟩ | ⟨hk,c,hc,hcell⟩
 ·exact wpAny_Name (wpAny_loadName_local I.ok.kind hk hn hm fin) hd
 ·rcases hk with hk | hk
  ·exact wpAny_Name (wpAny_loadName_cell I.ok.kind hk hc hcell fin) hd
  ·exact wpAny_Name (wpAny_loadName_free I.ok.kind hk hc hcell fin hcd) hd
theorem pe_int {i j pos}:PE X (.Constant (.int i) j pos) (tC (.int i)):=fun _ _ _ H _ I h=>wpAny_Constant_int ⟨.int i,H,I.tok _,⟨_,rfl⟩,h⟩
theorem pe_bl {b j pos}:PE X (.Constant (.bool b) j pos) (tC (.bl b)):=fun _ _ _ H _ I h=>Constant_bool ⟨.bl b,H,I,rfl,h⟩
theorem pe_non {j pos}:PE X (.Constant .none j pos) (tC .non):=fun _ _ _ H _ I h=>Constant_none ⟨.non,H,I,rfl,h⟩
theorem pe_str {x j pos}:PE X (.Constant (.str x) j pos) (tC (.str x)):=fun _ _ _ H _ I h=>Calls.Constant_str ⟨.str x,H,I.tok _,⟨_,rfl⟩,h⟩
def Gl (X:Cx) (x:Str):Prop:=X.env.kindOf x=some .globalImplicit
theorem zBX {E:Value→Shared→Prop} {pins:List (Addr × Obj)} {s:Shared} {σ:St} {H:Hp} {x:Str} {u:Value} {pos:Pos} {Q:Value→Shared→Prop} (I:Inv X pins σ H s) (hg:Gl X x) (hm:X.mg x=some u) (h:Q u s)
  (hd:(x == ("__debug__":Str))=false:=by decide):wpAny (model X.prog X.w) X.A (eval (.Name x pos) X.env) Q E s :=
 Calls.Name_function_global I.ok.kind hg (Calls.loadGlobal_global (by rw [I.ok.glob]; exact I.mod.glob.keeps I.bk) hm h) hd
theorem Ga {E:Value→Shared→Prop} {pins:List (Addr × Obj)} {s:Shared} {σ:St} {H:Hp} {x:Str} {u:Value} {pos:Pos} {Q:Value→Shared→Prop} (I:Inv X pins σ H s) (hg:Gl X x) (hm:X.mg x=none) (hv:bootBuiltins x=some u) (h:Q u s)
  (hn:x≠"__name__":=by decide) (hd:(x == ("__debug__":Str))=false:=by decide):wpAny (model X.prog X.w) X.A (eval (.Name x pos) X.env) Q E s:=by
 obtain ⟨mb,h1,h2⟩:=I.mod.blt;exact Calls.Name_function_global I.ok.kind hg (Calls.loadGlobal_builtin (by rw [I.ok.glob]; exact I.mod.glob.keeps I.bk) hm (by rw [I.ok.blt]; exact h1.keeps I.bk) ((h2 x hn).trans hv) h) hd
theorem pe_glob {x:Str} {v:V} {u:Value} {pos:Pos} (hg:Gl X x) (hm:X.mg x=some u) (r:yK v u) (hd:(x == ("__debug__":Str))=false:=by decide):PE X (.Name x pos) (tC v) :=
 fun _ _ _ H _ I h=>zBX I hg hm ⟨v,H,I,r,h⟩ hd
theorem pe_bltn {x:Str} {v:V} {u:Value} {pos:Pos} (hg:Gl X x) (hm:X.mg x=none) (hv:bootBuiltins x=some u) (r:yK v u) (hn:x≠"__name__":=by decide) (hd:(x == ("__debug__":Str))=false:=by decide):PE X (.Name x pos) (tC v) :=
 fun _ _ _ H _ I h=>Ga I hg hm hv ⟨v,H,I,r,h⟩ hn hd
variable {a b:Expr} {ta tb:TE} {pos:Pos}
def tB (t:TE):TT:=fun σ H Q=>t σ H fun x H1=>∃ c,x=.bl c∧Q c H1
theorem pt_val {e:Expr} {t:TE} (h:PE X e t) (he:∀ whole,isTrue e X.env whole=(do let v ← whole; standAt e.pos; holding [v] (truthy v)):=by intro _; rfl):PT X e (tB t):=by
 intro pins s σ H Q I hw;refine isTrue_plain (thn (h pins s σ H _ I hw) fun v s1 ⟨x,H1,I1,r1,q1⟩=>?_) (he _);obtain ⟨d,rfl,q⟩:=q1;cases r1;exact wpAny_truthy_bool ⟨H1,I1,q⟩
variable {tA tB':TT} {vd:List Expr}
def tOr (t u:TT):TT:=fun σ H Q=>t σ H fun c H1=>if c=true then Q true H1 else u σ H1 Q
def tNot (t:TT):TT:=fun σ H Q=>t σ H fun c H1=>Q (!c) H1
theorem pw_or1 (ha:PT X a tA):PW X (.BoolOp .Or [a] pos) tA:=by
 intro wh pins s σ H Q I h;refine isTrue_or (thn (ha pins s σ H Q I h) fun c s1 e=>?_);cases c with
 | false=>exact isTrue_or_nil e
 | true=>exact e
theorem pw_or (ha:PT X a tA) (hb:PW X (.BoolOp .Or (b::vd) pos) tB'):PW X (.BoolOp .Or (a::b::vd) pos) (tOr tA tB'):=by
 intro wh pins s σ H Q I h;refine isTrue_or (thn (ha pins s σ H _ I h) fun c s1 ⟨H1,I1,q1⟩=>?_);cases c with
 | true=>exact ⟨H1,I1,q1⟩
 | false=>exact hb wh pins s1 σ H1 Q I1 q1
theorem pt_not (ha:PT X a tA):PT X (.UnaryOp .Not a pos) (tNot tA):=by
 intro pins s σ H Q I h;exact isTrue_not (ha pins s σ H (fun c H1=>Q (!c) H1) I h)
def tAndV (ta tb:TE):TE:=fun σ H Q=>ta σ H fun x H1=>∃ c,x=.bl c∧if c=true then tb σ H1 Q else Q (.bl false) H1
def tNotV (ta:TE):TE:=fun σ H Q=>ta σ H fun x H1=>∃ c,x=.bl c∧Q (.bl (!c)) H1
theorem pe_one {op} {t:TE} (h:PE X a t):PE X (.BoolOp op [a] pos) t:=fun pins s σ H Q I hw=>BoolOp_one (h pins s σ H Q I hw)
theorem pe_and (ha:PE X a ta) (hb:PE X (.BoolOp .And (b::vd) pos) tb):PE X (.BoolOp .And (a::b::vd) pos) (tAndV ta tb):=by
 intro pins s σ H Q I h;refine BoolOp_and (thn (ha pins s σ H _ I h) fun v s1 ⟨x,H1,I1,r1,q1⟩=>?_);obtain ⟨c,rfl,q1⟩:=q1;cases r1;refine wpAny_truthy_bool ?_;cases c with
 | true=>exact hb pins s1 σ H1 Q I1 q1
 | false=>exact ⟨.bl false,H1,I1,rfl,q1⟩
theorem pe_not (ha:PE X a ta):PE X (.UnaryOp .Not a pos) (tNotV ta):=by
 intro pins s σ H Q I h;refine UnaryOp_ (thn (ha pins s σ H _ I h) fun v s1 ⟨x,H1,I1,r1,q1⟩=>?_);obtain ⟨c,rfl,q1⟩:=q1;cases r1;exact not_of (wpAny_truthy_bool ⟨.bl (!c),H1,I1,rfl,q1⟩)
end
end L2
namespace L2
open PySem PySem.Spec PyProof.Rows
def SqL (K:PySem.W.Frag) (H:Hp) (a:Addr) (xs:List V):Prop :=
 Rd H a (.lst xs) ∨
  ∃ (o:Obj) (its:Array Value) (n:Nat),K.lookup a=some o∧o.cls=.type "list"∧o.dict=none∧o.data=.seq its n∧its.size≤sizeLine∧z9 xs its.toList
def SqT (K:PySem.W.Frag) (H:Hp) (a:Addr) (xs:List V):Prop :=
 Rd H a (.tup xs) ∨
  ∃ (o:Obj) (its:Array Value) (n:Nat),K.lookup a=some o∧o.cls=.type "tuple"∧o.data=.seq its n∧its.size≤sizeLine∧z9 xs its.toList
def absV:Value→Option V
 | .none=>some .non
 | .bool b=>some (.bl b)
 | .int i _=>some (.int i)
 | .str x _=>some (.str x)
 | .bytes b _=>some (.byt b)
 | .float b _=>some (.flt b)
 | .ref a=>some (.ref a)
 | .type n=>some (.ty n)
 | _=>none
theorem yK.abs {x:V} {u:Value} (r:yK x u):absV u=some x:=by
 cases x with
 | non=>cases r; rfl
 | bl _=>cases r; rfl
 | int _=>obtain ⟨t,rfl⟩:=r; rfl
 | str _=>obtain ⟨t,rfl⟩:=r; rfl
 | byt _=>obtain ⟨t,rfl⟩:=r; rfl
 | flt _=>obtain ⟨t,rfl⟩:=r; rfl
 | ref _=>cases r; rfl
 | ty _=>cases r; rfl
theorem yK.inj {x y:V} {u:Value} (r:yK x u) (q:yK y u):x=y:=Option.some.inj (r.abs.symm.trans q.abs)
theorem z9.inj:∀ {xs ys:List V} {us:List Value},z9 xs us→z9 ys us→xs=ys
 | _,_,_,.nil,.nil=>rfl
 | _,_,_,.cons r t,.cons r' t'=>by rw [r.inj r',z9.inj t t']
section
variable {X:Cx} {pins:List (Addr × Obj)} {σ:St} {H:Hp} {s:Shared} {a:Addr} {xs ys:List V}
theorem SqL.of {K:PySem.W.Frag} (h:H a=some (.lst xs)):SqL K H a xs:=.inl (.inl h)
theorem SqT.of {K:PySem.W.Frag} (h:H a=some (.tup xs)):SqT K H a xs:=.inl (.inl h)
theorem Inv.list (I:Inv X pins σ H s) (h:SqL X.K H a xs):∃ its:List Value,z9 xs its∧PlainL s.heap a its.toArray∧xs.length≤sizeLine:=by
 rcases h with h | ⟨o,its,n,hk,hc,hd,hs,hz,r⟩
 ·obtain ⟨z,its,n,r,e⟩:=h.ok I.hok
  exact ⟨its,r,⟨_,n,e,rfl,rfl,rfl⟩,z⟩
 ·refine ⟨its.toList,r,⟨o,n,I.kIn a o hk,hc,hd,by simpa using hs⟩,?_⟩
  have e:=r.length;simp only [Array.length_toList] at e;omega
theorem Inv.tuple (I:Inv X pins σ H s) (h:SqT X.K H a xs):∃ its:List Value,z9 xs its∧IsTup s.heap a its.toArray∧xs.length≤sizeLine:=by
 rcases h with h | ⟨o,its,n,hk,hc,hs,hz,r⟩
 ·obtain ⟨z,its,r,p⟩:=h.ok I.hok
  exact ⟨its,r,p,z⟩
 ·refine ⟨its.toList,r,⟨o,I.kIn a o hk,hc,n,by simpa using hs⟩,?_⟩
  have e:=r.length;simp only [Array.length_toList] at e;omega
theorem Inv.list_inj (I:Inv X pins σ H s) (h:SqL X.K H a xs) (h':SqL X.K H a ys):xs=ys:=by
 obtain ⟨its,r,⟨o,n,e,_,_,d⟩,_⟩:=I.list h;obtain ⟨its',r',⟨o',n',e',_,_,d'⟩,_⟩:=I.list h';rw [e] at e'; cases e';rw [d] at d';injection d' with d1 _
 have:its=its':=by simpa using congrArg Array.toList d1
 subst this;exact r.inj r'
theorem Inv.tuple_inj (I:Inv X pins σ H s) (h:SqT X.K H a xs) (h':SqT X.K H a ys):xs=ys:=by
 obtain ⟨its,r,⟨o,e,_,n,d⟩,_⟩:=I.tuple h;obtain ⟨its',r',⟨o',e',_,n',d'⟩,_⟩:=I.tuple h';rw [e] at e'; cases e';rw [d] at d';injection d' with d1 _
 have:its=its':=by simpa using congrArg Array.toList d1
 subst this;exact r.inj r'
end
abbrev Cx.wish (X:Cx) (E:Value→Shared→Prop):Cx:={ X with xe:=E }
abbrev Cx.nox (X:Cx):Cx:=X.wish fun _ _=>False
theorem Cx.Ok.wish {X:Cx} (ok:X.Ok) (E:Value→Shared→Prop):(X.wish E).Ok :=
 ⟨ok.mod,ok.kind,ok.glob,ok.blt,ok.above,ok.inj,ok.has,ok.cab,ok.hd,ok.frames,ok.stk,ok.exf,ok.bs,ok.bsz,ok.noex,ok.exfs,ok.funs,ok.frf⟩
theorem Cx.Ok.unwish {X:Cx} {E:Value→Shared→Prop} (ok:(X.wish E).Ok):X.Ok :=
 ⟨ok.mod,ok.kind,ok.glob,ok.blt,ok.above,ok.inj,ok.has,ok.cab,ok.hd,ok.frames,ok.stk,ok.exf,ok.bs,ok.bsz,ok.noex,ok.exfs,ok.funs,ok.frf⟩
section
variable {X:Cx} {pins:List (Addr × Obj)} {σ:St} {H:Hp} {s:Shared} {E:Value→Shared→Prop}
theorem Inv.wish (I:Inv X pins σ H s) (E:Value→Shared→Prop):Inv (X.wish E) pins σ H s:=⟨I.ok.wish E,I.os,I.bare,I.base,I.loc,I.cell,I.free,I.freeC,I.pin,I.hok,I.len⟩
theorem Inv.unwish (I:Inv (X.wish E) pins σ H s):Inv X pins σ H s:=⟨I.ok.unwish,I.os,I.bare,I.base,I.loc,I.cell,I.free,I.freeC,I.pin,I.hok,I.len⟩
theorem SP.unwish {D:Ends} {f:Flow} {s':Shared} (h:SP (X.wish E) pins D f s'):SP X pins D f s':=by
 cases f with
 | next=>obtain ⟨σ',H',I,q⟩:=h; exact ⟨σ',H',I.unwish,q⟩
 | brk=>obtain ⟨σ',H',I,q⟩:=h; exact ⟨σ',H',I.unwish,q⟩
 | cont=>obtain ⟨σ',H',I,q⟩:=h; exact ⟨σ',H',I.unwish,q⟩
 | ret u=>obtain ⟨v,σ',H',I,r,q⟩:=h; exact ⟨v,σ',H',I.unwish,r,q⟩
theorem PE.nox {e:Expr} {t:TE} (h:PE X.nox e t):PE X e t:=fun pins s σ H Q I hw =>
 wpAny_mono (h pins s σ H Q (I.wish _) hw) (fun _ _ ⟨v,H',I',r,q⟩=>⟨v,H',I'.unwish,r,q⟩) fun _ _ z=>False.elim z
theorem PT.nox {e:Expr} {t:TT} (h:PT X.nox e t):PT X e t:=fun pins s σ H Q I hw =>
 wpAny_mono (h pins s σ H Q (I.wish _) hw) (fun _ _ ⟨H',I',q⟩=>⟨H',I'.unwish,q⟩) fun _ _ z=>False.elim z
theorem PSs.nox {st:List Stmt} {t:TS} (h:PSs X.nox st t):PSs X st t:=fun pins s σ H D I hw =>
 wpAny_mono (h pins s σ H D (I.wish _) hw) (fun _ _ q=>q.unwish) fun _ _ z=>False.elim z
end
section
variable {X:Cx} {st:Stmt} {vd:List Stmt} {t u:TS} {e:Expr} {te:TE} {pos:Pos}
def tNext:TS:=fun D σ H=>D.nx σ H
def tSeq (t u:TS):TS:=fun D σ H=>t { D with nx:=u D } σ H
theorem pss_nil:PSs X [] tNext:=fun _ _ σ H _ I h=>wpAny_execs_nil ⟨σ,H,I,h⟩
theorem zDX (h1:PS X st t) (h2:PSs X vd u):PSs X (st::vd) (tSeq t u):=by
 intro pins s σ H D I h;refine wpAny_execs_cons (thn (h1 pins s σ H { D with nx:=u D } I h) fun f s1 q=>?_)
 cases f with
 | next =>
  obtain ⟨σ',H',I',q⟩:=q;exact h2 pins s1 σ' H' D I' q
 | ret v=>exact q
 | brk=>exact q
 | cont=>exact q
theorem pss_one (h1:PS X st t):PSs X [st] t:=by
 intro pins s σ H D I h;refine wpAny_execs_cons (thn (h1 pins s σ H D I h) fun f s1 q=>?_);cases f with
 | next=>exact wpAny_execs_nil q
 | ret v=>exact q
 | brk=>exact q
 | cont=>exact q
theorem Inv.quiet {pins:List (Addr × Obj)} {σ:St} {H:Hp} {s:Shared} (I:Inv X pins σ H s):interactive X.env=false:=by simp [interactive,I.ok.kind]
def tDrop (te:TE):TS:=fun D σ H=>te σ H fun _ H1=>D.nx σ H1
theorem zBY (he:PE X e te) (hs:swapsWith e none pos.line X.env=pure false:=by rfl):PS X (.Expr e pos) (tDrop te):=by
 intro pins s σ H D I h;exact wpAny_Expr_any (thn (he pins s σ H _ I h) fun v s1 ⟨x,H1,I1,r1,q1⟩=>⟨σ,H1,I1,q1⟩) I.quiet hs
def tRet (te:TE):TS:=fun D σ H=>te σ H D.rt
theorem ps_ret (he:PE X e te):PS X (.Return (some e) pos) (tRet te):=by
 intro pins s σ H D I h;exact wpAny_Return_some (thn (he pins s σ H _ I h) fun v s1 ⟨x,H1,I1,r1,q1⟩=>⟨x,σ,H1,I1,r1,q1⟩)
def tIfS (c:TT) (t u:TS):TS:=fun D σ H=>c σ H fun b H1=>if b=true then t D σ H1 else u D σ H1
theorem ps_if {c:Expr} {a b:List Stmt} {tc:TT} (hc:PT X c tc) (ha:PSs X a t) (hb:PSs X b u):PS X (.If c a b pos) (tIfS tc t u):=by
 intro pins s σ H D I h;refine wpAny_If (thn (hc pins s σ H _ I h) fun d s1 ⟨H1,I1,q1⟩=>?_);cases d with
 | true=>exact ha pins s1 σ H1 D I1 q1
 | false=>exact hb pins s1 σ H1 D I1 q1
def tNever:TS:=fun _ _ _=>False
theorem zDY:PS X st tNever:=fun _ _ _ _ _ _ h=>h.elim
end
abbrev TG:=V→St→Hp→(St→Hp→Prop)→Prop
abbrev TGs:=List V→St→Hp→(St→Hp→Prop)→Prop
def PG (X:Cx) (target:Expr) (t:TG):Prop :=
 ∀ (pins:List (Addr × Obj)) (s:Shared) (σ:St) (H:Hp) (v:V) (u:Value) (Q:St→Hp→Prop),Inv X pins σ H s→yK v u→t v σ H Q →
  wpAny (model X.prog X.w) X.A (assign target X.env u) (fun _ s'=>∃ σ' H',Inv X pins σ' H' s'∧Q σ' H') X.xe s
def PGs (X:Cx) (ts:List Expr) (t:TGs):Prop :=
 ∀ (pins:List (Addr × Obj)) (s:Shared) (σ:St) (H:Hp) (vs:List V) (us:List Value) (Q:St→Hp→Prop),Inv X pins σ H s→z9 vs us→t vs σ H Q →
  wpAny (model X.prog X.w) X.A (assignInOrder ((assignEach ts X.env).map (·.2)) us) (fun _ s'=>∃ σ' H',Inv X pins σ' H' s'∧Q σ' H') X.xe s
abbrev TSet:=V→V→V→Hp→(Hp→Prop)→Prop
def PSet (X:Cx) (t:TSet):Prop :=
 ∀ (pins:List (Addr × Obj)) (s:Shared) (σ:St) (H:Hp) (o i v:V) (ov iv u:Value) (Q:Hp→Prop),Inv X pins σ H s→yK o ov→yK i iv→yK v u→t o i v H Q →
  wpAny (model X.prog X.w) X.A (setItem ov iv u) (fun _ s'=>∃ H',Inv X pins σ H' s'∧Q H') X.xe s
abbrev TIp:=V→V→Hp→VK→Prop
def PIp (X:Cx) (op:Operator) (t:TIp):Prop :=
 ∀ (pins:List (Addr × Obj)) (s:Shared) (σ:St) (H:Hp) (x y:V) (v u:Value) (Q:VK),Inv X pins σ H s→yK x v→yK y u→t x y H Q →
  wpAny (model X.prog X.w) X.A (inplaceOp op v u) (EP X pins σ Q) X.xe s
section
variable {X:Cx} {pos:Pos}
def QZ (i:Nat):TG:=fun v σ H Q=>Q (σ.set i (some v)) H
theorem zBZ {i:Nat} {x:Str} (hN:X.N.Nodup) (hi:X.N[i]?=some x) (hx:Loc X.env.scope x) (hf:X.fn x=true∨X.env.scope.names.lookup x=some .local:=by first | exact .inl rfl | exact .inr rfl | assumption):PG X (.Name x pos) (QZ i):=by
 intro pins s σ H v u Q I r h;exact wpAny_assign_Name (jr I hN hi hx r (fun s' I'=>⟨_,H,I',h⟩) hf)
def gNil:TGs:=fun vs σ H Q=>vs=[]∧Q σ H
def gCons (t:TG) (u:TGs):TGs:=fun vs σ H Q=>∃ v r,vs=v::r∧t v σ H fun σ' H'=>u r σ' H' Q
theorem pgs_nil:PGs X [] gNil:=by
 intro pins s σ H vs us Q I r h;obtain ⟨e,h⟩:=h;subst e;cases r;exact assignInOrder_nil ⟨σ,H,I,h⟩
theorem zDZ {e:Expr} {es:List Expr} {t:TG} {u:TGs} (h1:PG X e t) (h2:PGs X es u)
  (hs:(assignEach (e::es) X.env).map (·.2)=assign e X.env::(assignEach es X.env).map (·.2):=by rfl):PGs X (e::es) (gCons t u):=by
 intro pins s σ H vs us Q I r h;obtain ⟨v,vr,e1,h⟩:=h;subst e1;cases r with
 | cons r rr =>
  rw [hs];refine assignInOrder_cons (thn (h1 pins s σ H _ _ _ I r h) fun _ s1 ⟨σ1,H1,I1,q1⟩=>?_);exact h2 pins s1 σ1 H1 _ _ Q I1 rr q1
def gTup (K:PySem.W.Frag) (n:Nat) (t:TGs):TG:=fun v σ H Q=>∃ a xs,v=.ref a∧SqT K H a xs∧xs.length=n∧t xs σ H Q
theorem zEt {es:List Expr} {k:Nat} {t:TGs} {n:Nat} (hc:X.calm=true) (h:PGs X es t)
  (hn:(assignEach es X.env).length=n:=by rfl) (hst:(assignEach es X.env).findIdx? (·.1)=none:=by rfl):PG X (.Tuple es k pos) (gTup X.K n t):=by
 intro pins s σ H v u Q I r hw;obtain ⟨a,xs,e1,hq,hl,hw⟩:=hw;subst e1;cases r;obtain ⟨its,rv,ht,hz⟩:=I.tuple hq;refine assign_Tuple_tuple (I.ok.hd hc) ht (by simp [hn,← hl,rv.length]) hst fun h' hx=>?_
 have I1:Inv X pins σ H { s with heap:=h' }:=I.kept (t':=s.toks) fun b o e=>hx b o (ne_of_lt (lt_size e)) e
 exact h pins _ σ H xs _ Q I1 (by simpa using rv) hw
def gSub (to ti:TE) (t:TSet):TG:=fun v σ H Q=>to σ H fun o H1=>ti σ H1 fun i H2=>t o i v H2 fun H3=>Q σ H3
theorem pg_sub {o i:Expr} {to ti:TE} {t:TSet} (ho:PE X o to) (hi:PE X i ti) (hs:PSet X t)
  (ha:∀ v,assign (.Subscript o i pos) X.env v=(do
   let ov ← holding [v] (eval o X.env)
   let iv ← holding [v,ov] (eval i X.env)
   standAt pos
   holding [v,ov,iv] (setItem ov iv v)
   release [v,ov,iv] []):=by intro _; rfl):PG X (.Subscript o i pos) (gSub to ti t):=by
 intro pins s σ H v u Q I r h;rw [ha];refine wpAny_bind (wpAny_holding (thn (ho pins s σ H _ I h) fun ov s1 ⟨x,H1,I1,r1,q1⟩=>?_));refine wpAny_bind (wpAny_holding (thn (hi pins s1 σ H1 _ I1 q1) fun iv s2 ⟨y,H2,I2,r2,q2⟩=>?_));refine wpAny_bind (wpAny_standAt (wpAny_bind (wpAny_holding (thn (hs pins s2 σ H2 x y v ov iv u _ I2 r1 r2 r q2) fun _ s3 ⟨H3,I3,q3⟩=>?_))));exact wpAny_release ⟨σ,H3,I3,q3⟩
def tAsg (te:TE) (g:TG):TS:=fun D σ H=>te σ H fun x H1=>g x σ H1 D.nx
theorem zEu {tg e:Expr} {te:TE} {g:TG} (he:PE X e te) (hg:PG X tg g) (hs:swapsWithSole [tg] e pos.line X.env=pure false:=by rfl) (hw:swappedStores [tg] e X.env=pure none:=by rfl)
  (h1:(assignEach [tg] X.env).map (·.2)=[assign tg X.env]:=by rfl):PS X (.Assign [tg] e pos) (tAsg te g):=by
 intro pins s σ H D I h;refine wpAny_Assign_stores (thn (he pins s σ H _ I h) fun v s1 ⟨x,H1,I1,r1,q1⟩=>?_) hs hw;rw [h1];exact thn (hg pins s1 σ H1 x v _ I1 r1 q1) fun _ s2 q=>q
theorem ps_set {i:Nat} {x:Str} {e:Expr} {te:TE} {pos':Pos} (hN:X.N.Nodup) (hi:X.N[i]?=some x) (hx:Loc X.env.scope x) (he:PE X e te) (hs:swapsWith e (some (.Name x pos')) pos.line X.env=pure false:=by rfl) (hf:X.fn x=true∨X.env.scope.names.lookup x=some .local:=by first | exact .inl rfl | exact .inr rfl | assumption) :
  PS X (.Assign [.Name x pos'] e pos) (tAsg te (QZ i)):=by
 intro pins s σ H D I h;refine wpAny_Assign_Name (thn (he pins s σ H _ I h) fun v s1 ⟨y,H1,I1,r1,q1⟩=>?_) hs;exact jr I1 hN hi hx r1 (fun s2 I2=>⟨_,H1,I2,q1⟩) hf
def tPar (i j:Nat) (ta:TA):TS:=fun D σ H=>ta σ H fun vs H1=>∃ v w,vs=[v,w]∧D.nx ((σ.set i (some v)).set j (some w)) H1
theorem ps_par {i j:Nat} {x y:Str} {a b:Expr} {ta:TA} {px py pt:Pos} {kt k2 pt2} (hc:X.calm=true) (hN:X.N.Nodup) (hi:X.N[i]?=some x) (hj:X.N[j]?=some y) (hij:i≠j)
  (hx:X.env.scope.names.lookup x=some .local) (hy:X.env.scope.names.lookup y=some .local) (ha:PA X [a,b] ta)
  (hw:swappedStores [.Tuple [.Name x px,.Name y py] kt pt] (.Tuple [a,b] k2 pt2) X.env=pure (some [x,y]))
  (hs:swapsWithSole [.Tuple [.Name x px,.Name y py] kt pt] (.Tuple [a,b] k2 pt2) pos.line X.env=pure false:=by rfl) :
  PS X (.Assign [.Tuple [.Name x px,.Name y py] kt pt] (.Tuple [a,b] k2 pt2) pos) (tPar i j ta):=by
 intro pins s σ H D I h;rw [exec_Assign_arm];refine wpAny_bind (wpAny_standAt ?_);rw [hs];refine wpAny_bind (wpAny_pure ?_);rw [if_neg (by decide)];refine wpAny_bind (Tuple_ (thn (ha _ pins s σ H _ I h) fun us s1 ⟨vs,H1,I1,r1,q1⟩=>?_));obtain ⟨v,w,e1,q1⟩:=q1;subst e1;obtain ⟨u1,u2,rfl,rv,rw'⟩:∃ u1 u2,us=[u1,u2]∧yK v u1∧yK w u2:=by
  cases r1 with
  | cons p q =>
   cases q with
   | cons p' q' =>
    cases q';exact ⟨_,_,rfl,p,p'⟩
 refine wpAny_newObj_type ?_ (by show 2≤sizeLine; decide);have I2:Inv X pins σ H1 { s1 with heap:=s1.heap.push { cls:=.type "tuple",data:=.seq [u1,u2].toArray } }:=I1.kept (t':=s1.toks) fun b o e=>get?_push_of_some _ e
 rw [hw];refine wpAny_bind (wpAny_pure ?_);show wpAny (model X.prog X.w) X.A (do rule "assign.swapped-stores"; let items ← unpackItems (.ref s1.heap.objs.size) 2 none; assignInOrder [fun v=>bindName X.env y v,fun v=>bindName X.env x v] items.reverse; pure Flow.next) _ _ _;refine wpAny_bind (wpAny_rule (wpAny_bind (unpackItems_tuple (items:=#[u1,u2]) (I.ok.hd hc) (IsTup.new s1.heap _) fun h' hx'=>?_)));have I3:=I2.kept (h':=h') (t':=s1.toks) fun b o e=>hx' b o (ne_of_lt (lt_size e)) e
 show wpAny _ _ (assignInOrder [fun v=>bindName X.env y v,fun v=>bindName X.env x v] [u2,u1] >>= fun _=>pure Flow.next) _ _ _
 refine wpAny_bind (assignInOrder_cons (wpAny_bindName (jr I3 hN hj (.inl hy) rw' (fun s2 I4=>?_) (.inr hy))));refine assignInOrder_cons (wpAny_bindName (jr I4 hN hi (.inl hx) rv (fun s3 I5=>assignInOrder_nil (wpAny_pure ?_)) (.inr hx)));rw [set_comm _ _ (Ne.symm hij)] at I5;exact ⟨_,H1,I5,q1⟩
def tAug (i:Nat) (te:TE) (ti:TIp):TS:=fun D σ H=>∃ x,σ[i]?=some (some x)∧te σ H fun y H1=>ti x y H1 fun z H2=>D.nx (σ.set i (some z)) H2
theorem zBa {i:Nat} {x:Str} {e:Expr} {te:TE} {op:Operator} {ti:TIp} {pos':Pos} (hN:X.N.Nodup) (hi:X.N[i]?=some x) (hx:Loc X.env.scope x) (he:PE X e te) (ho:PIp X op ti) (hf:X.fn x=true∨X.env.scope.names.lookup x=some .local:=by first | exact .inl rfl | exact .inr rfl | assumption) :
  PS X (.AugAssign (.Name x pos') op e pos) (tAug i te ti):=by
 intro pins s σ H D I h;obtain ⟨v,e1,h⟩:=h;obtain ⟨m,hn,hl⟩:=I.loc;have vis:Vis X.env.scope x:=by rcases hx with k | k; exact .inl k; exact .inr (.inl k)
 obtain ⟨u,r,l⟩:=hl i x v hi e1 vis;refine wpAny_AugAssign_Name ?_;have go:wpAny (model X.prog X.w) X.A (eval e X.env) (fun w s₂=>wpAny (model X.prog X.w) X.A (inplaceOp op u w) (fun r s₃=>wpAny (model X.prog X.w) X.A (storeName X.env x r) (fun _=>SP X pins D .next) X.xe s₃) X.xe s₂) X.xe s:=by
  refine thn (he pins s σ H _ I h) fun w s1 ⟨y,H1,I1,r1,q1⟩=>?_
  refine thn (ho pins s1 σ H1 v y u w _ I1 r r1 q1) fun z s2 ⟨zv,H2,I2,r2,q2⟩=>?_
  exact jr I2 hN hi hx r2 (fun s3 I3=>⟨_,H2,I3,q2⟩) hf
 rcases l with ⟨hk,hm⟩ | ⟨hk,c,hc,hcell⟩
 ·exact wpAny_loadName_local I.ok.kind hk hn hm go
 ·rcases hk with hk | hk
  ·exact wpAny_loadName_cell I.ok.kind hk hc hcell go
  ·rcases hx with k | k
   ·have:X.env.scope.names.lookup x=some .free:=hk
    rw [k] at this; cases this
   ·have:X.env.scope.names.lookup x=some .free:=hk
    rw [k] at this; cases this
def ipI (f:Int→Int→Int):TIp:=fun x y H Q=>∃ i j,x=.int i∧y=.int j∧Q (.int (f i j)) H
theorem ip_add:PIp X .Add (ipI fun i j=>i+j):=by
 intro pins s σ H x y v u Q I r1 r2 h;obtain ⟨i,j,e1,e2,q⟩:=h;subst e1; subst e2;obtain ⟨t,rfl⟩:=r1;obtain ⟨t',rfl⟩:=r2;exact iadd_int ⟨.int _,H,I.tok _,⟨_,rfl⟩,q⟩
theorem ip_sub:PIp X .Sub (ipI fun i j=>i - j):=by
 intro pins s σ H x y v u Q I r1 r2 h;obtain ⟨i,j,e1,e2,q⟩:=h;subst e1; subst e2;obtain ⟨t,rfl⟩:=r1;obtain ⟨t',rfl⟩:=r2;exact isub_int ⟨.int _,H,I.tok _,⟨_,rfl⟩,q⟩
end
section
variable {X:Cx} {pos:Pos}
def zEv (c:TT) (tb:TS):TS:=fun D σ H=>∃ W:Nat→St→Hp→Prop,(∃ m,W m σ H)∧∀ m σ H,W m σ H →
 c σ H fun b H1=>if b=true then ∃ N:St→Hp→Prop,(∀ σ' H',N σ' H'→∃ m',m' < m∧W m' σ' H')∧tb { D with nx:=N,ct:=N,bk:=D.nx } σ H1 else D.nx σ H1
theorem zDa {c:Expr} {body:List Stmt} {tc:TT} {tb:TS} (hp:PassesOwn (model X.prog X.w) X.A X.env X.xe) (hc:PT X c tc) (hb:PSs X body tb):PS X (.While c body [] pos) (zEv tc tb):=by
 intro pins s σ H D I h;obtain ⟨W,⟨m0,w0⟩,turn⟩:=h;refine wpAny_While (codeAny_whileLoop (fun n s'=>∃ σ' H',Inv X pins σ' H' s'∧W n σ' H') ?_ m0 ⟨σ,H,I,w0⟩)
 rintro n s1 ⟨σ1,H1,I1,w1⟩
 refine wpAny_passesOwn hp (thn (hc pins s1 σ1 H1 _ I1 (turn n σ1 H1 w1)) fun b s2 ⟨H2,I2,q2⟩=>?_);cases b with
 | true =>
  obtain ⟨N,hN,q2⟩:=q2;rw [if_pos rfl];refine wpAny_passesOwn hp (thn (hb pins s2 σ1 H2 _ I2 q2) fun f s3 q3=>?_);cases f with
  | next =>
   obtain ⟨σ3,H3,I3,n3⟩:=q3;obtain ⟨m',hm,w3⟩:=hN σ3 H3 n3;exact ⟨m',hm,σ3,H3,I3,w3⟩
  | cont =>
   obtain ⟨σ3,H3,I3,n3⟩:=q3;obtain ⟨m',hm,w3⟩:=hN σ3 H3 n3;exact ⟨m',hm,σ3,H3,I3,w3⟩
  | brk=>exact q3
  | ret v=>exact q3
 | false =>
  rw [if_neg Bool.false_ne_true];exact wpAny_execs_nil ⟨σ1,H2,I2,q2⟩
end
structure It where
 go:Nat→Hp→Prop
 yld:Nat→Hp→V→Hp→Prop
 stop:Nat→Hp→Prop
def zBL (X:Cx) (pins:List (Addr × Obj)) (H:Hp) (b:Addr):Prop :=
 H b=none∧b≠X.env.locals∧b ∉ X.fs∧(b∈X.ex∨X.s₀.heap.objs.size≤b)∧(∀ x c,X.env.cells.lookup x=some c→c≠b)∧∀ p∈X.pn++pins,p.1≠b
theorem Inv.fpOk {X:Cx} {pins:List (Addr × Obj)} {σ:St} {H H':Hp} {s:Shared} {b:Addr} (I:Inv X pins σ H s) (hb:s.heap.objs.size≤b) (hn:H' b=none):zBL X pins H' b:=by
 refine ⟨hn,ne_of_gt (lt_of_lt_of_le I.lt hb),I.nofs hb,.inr (le_trans I.sz hb),fun x c e z=>?_,fun p hp z=>?_⟩
 ·obtain ⟨v,q⟩:=I.cell x c e
  exact absurd (lt_of_lt_of_le q.lt (by rw [z]; exact hb)) (lt_irrefl _)
 ·exact absurd (lt_of_lt_of_le (lt_size (I.pin p hp).1) (by rw [z]; exact hb)) (lt_irrefl _)
structure Turn (P:Program) (w:World) (K:PySem.W.Frag) (tg:Expr) (J:It) (fp:List Addr) (it:Addr) (tn:Nat→Heap→Prop):Prop where
 mem:it∈fp
 obj:∀ i h,tn i h→∀ b∈fp,∃ o,h.get? b=some o∧∀ v,o.data≠.cell v
 keep:∀ i h h',tn i h→(∀ b∈fp,∀ o,h.get? b=some o→h'.get? b=some o)→tn i h'
 item:∀ (X:Cx),X.prog=P→X.w=w→X.K=K→X.calm=true→∀ (i:Nat) (pins:List (Addr × Obj)) (s:Shared) (σ:St) (H:Hp) (E:Value→Shared→Prop),Inv X pins σ H s→(∀ b∈fp,zBL X pins H b)→tn i s.heap→J.go i H →
  wpAny (model P w) X.A (pyNext (.ref it)) (fun r s1=>∃ u,r=some u ∧
   wpAny (model P w) X.A (letOwnedTupleGo tg (.ref it) u) (fun _ s2=>∃ x H',Inv X pins σ H' s2∧yK x u∧J.yld i H x H'∧tn (i+1) s2.heap∧∀ b∈fp,H' b=none) E s1) E s
 done:∀ (X:Cx),X.prog=P→X.w=w→X.K=K→X.calm=true→∀ (i:Nat) (pins:List (Addr × Obj)) (s:Shared) (σ:St) (H:Hp) (E:Value→Shared→Prop),Inv X pins σ H s→(∀ b∈fp,zBL X pins H b)→tn i s.heap→J.stop i H →
  wpAny (model P w) X.A (pyNext (.ref it)) (fun r s1=>r=none∧Inv X pins σ H s1) E s
 self:∀ (A:Around) (i:Nat) (s:Shared) (Q:Value→Shared→Prop) (E:Value→Shared→Prop),tn i s.heap→Q (.ref it) s→wpAny (model P w) A (pyIter (.ref it)) Q E s
abbrev TI:=St→Hp→(It→Hp→Prop)→Prop
def PIE (X:Cx) (pins:List (Addr × Obj)) (σ:St) (tg:Expr) (R:It→Hp→Prop) (itv:Value) (s2:Shared):Prop :=
 ∃ (it:Addr) (fp:List Addr) (tn:Nat→Heap→Prop) (J:It) (H':Hp),itv=.ref it∧Inv X pins σ H' s2∧Turn X.prog X.w X.K tg J fp it tn∧tn 0 s2.heap∧(∀ b∈fp,zBL X pins H' b)∧R J H'
def PI (X:Cx) (tg iter:Expr) (wi:TI):Prop :=
 ∀ (pins:List (Addr × Obj)) (s:Shared) (σ:St) (H:Hp) (R:It→Hp→Prop),Inv X pins σ H s→wi σ H R →
  wpAny (model X.prog X.w) X.A (eval iter X.env) (fun v s1=>wpAny (model X.prog X.w) X.A (pyIter v) (PIE X pins σ tg R) X.xe s1) X.xe s
theorem uO {M:Model} {A:Around} {E:Value→Shared→Prop} {s:Shared} {tg:Expr} {it:Addr} {u:Value} {o:Obj} {n:String} {vs:Array Value} {Q:Unit→Shared→Prop} (ho:s.heap.get? it=some o) (hc:o.cls=.type n) (hd:o.data=.fields vs)
  (hn:["enumerate","zip","dict_itemiterator","dict_reverseitemiterator","odict_iterator","itertools.zip_longest","itertools.pairwise"].contains n=false) (hQ:Q () s):wpAny M A (letOwnedTupleGo tg (.ref it) u) Q E s:=by
 unfold letOwnedTupleGo
 cases tg <;> first
  | exact wpAny_pure hQ
  | (cases u <;> first
    | exact wpAny_pure hQ
    | (refine wpAny_bind (wpAny_load ho ?_)
       rw [hc,hd];show wpAny M A (if (["enumerate","zip","dict_itemiterator","dict_reverseitemiterator","odict_iterator","itertools.zip_longest","itertools.pairwise"].contains n&&vs[0]? == some (rawInt _))=true then _ else _) Q E s;rw [if_neg (by intro h; rw [hn,Bool.false_and] at h; cases h)];exact wpAny_pure hQ))
def Itl (K:PySem.W.Frag) (a:Addr):It :=
 ⟨fun i H=>∃ xs x,SqL K H a xs∧xs[i]?=some x,fun i H x H'=>H'=H∧∀ xs,SqL K H a xs→xs[i]?=some x,fun i H=>∃ xs,SqL K H a xs∧xs.length≤i⟩
def Itt (K:PySem.W.Frag) (a:Addr):It :=
 ⟨fun i H=>∃ xs x,SqT K H a xs∧xs[i]?=some x,fun i H x H'=>H'=H∧∀ xs,SqT K H a xs→xs[i]?=some x,fun i H=>∃ xs,SqT K H a xs∧xs.length≤i⟩
def Itr (lo:Int) (n:Nat):It:=⟨fun i _=>i < n,fun i H x H'=>H'=H∧x=.int (lo+i),fun i _=>n≤i⟩
theorem zBb {P:Program} {w:World} {K:PySem.W.Frag} {tg:Expr} (a it:Addr):Turn P w K tg (Itl K a) [it] it (fun i h=>h.IsListIter it a i) where
 mem:=by simp
 obj:=fun i h st b hb=>by
  have e:b=it:=by simpa using hb
  subst e;obtain ⟨o,e,c,d⟩:=st;exact ⟨o,e,fun v z=>by rw [d] at z; cases z⟩
 keep:=fun i h h' st k=>st.at fun o e=>k it (by simp) o e
 item:=by
  intro X hP hw hK hc i pins s σ H E I hf st hg;subst hP hw hK;obtain ⟨xs,x,hq,hx⟩:=hg;obtain ⟨its,rv,p,hz⟩:=I.list hq;obtain ⟨u,hu,ru⟩:=rv.get hx;obtain ⟨f0,f1,f2,f3,f4,f5⟩:=hf it (by simp);refine wpAny_pyNext_list_item st p.isList (x:=u) (by simpa using hu) fun h' st' sb=>?_
  have I1:Inv X pins σ H { s with heap:=h' }:=I.turned (t':=s.toks) (fun b o hb e=>(sb.2 b hb).trans e) f0 f1 f3 f4 f5
  obtain ⟨o,e,c,d⟩:=id st';exact ⟨u,rfl,uO (s:={ s with heap:=h' }) e c d (by decide) ⟨x,H,I1,ru,⟨rfl,fun ys hy=>by rw [I.list_inj hy hq]; exact hx⟩,st',fun b hb=>(hf b hb).1⟩⟩
 done:=by
  intro X hP hw hK hc i pins s σ H E I hf st hg;subst hP hw hK;obtain ⟨xs,hq,hx⟩:=hg;obtain ⟨its,rv,p,hz⟩:=I.list hq;obtain ⟨f0,f1,f2,f3,f4,f5⟩:=hf it (by simp);have hl:=rv.length;exact wpAny_pyNext_list_end (I.ok.hd hc) st p.isList (by simp; omega) fun h' eb=>⟨rfl,I.turned (t':=s.toks) (fun b o hb e=>eb b o hb e) f0 f1 f3 f4 f5⟩
 self:=fun _ _ _ _ _ st h=>wpAny_pyIter_listiter st h
theorem zA4 {P:Program} {w:World} {K:PySem.W.Frag} {tg:Expr} (a it:Addr):Turn P w K tg (Itt K a) [it] it (fun i h=>h.IsTupleIter it a i) where
 mem:=by simp
 obj:=fun i h st b hb=>by
  have e:b=it:=by simpa using hb
  subst e;obtain ⟨o,e,c,d⟩:=st;exact ⟨o,e,fun v z=>by rw [d] at z; cases z⟩
 keep:=fun i h h' st k=>st.at fun o e=>k it (by simp) o e
 item:=by
  intro X hP hw hK hc i pins s σ H E I hf st hg;subst hP hw hK;obtain ⟨xs,x,hq,hx⟩:=hg;obtain ⟨its,rv,p,hz⟩:=I.tuple hq;obtain ⟨u,hu,ru⟩:=rv.get hx;obtain ⟨f0,f1,f2,f3,f4,f5⟩:=hf it (by simp);refine wpAny_pyNext_tuple_item st (show s.heap.IsTuple a its.toArray from p) (x:=u) (by simpa using hu) fun h' st' sb=>?_
  have I1:Inv X pins σ H { s with heap:=h' }:=I.turned (t':=s.toks) (fun b o hb e=>(sb.2 b hb).trans e) f0 f1 f3 f4 f5
  obtain ⟨o,e,c,d⟩:=id st';exact ⟨u,rfl,uO (s:={ s with heap:=h' }) e c d (by decide) ⟨x,H,I1,ru,⟨rfl,fun ys hy=>by rw [I.tuple_inj hy hq]; exact hx⟩,st',fun b hb=>(hf b hb).1⟩⟩
 done:=by
  intro X hP hw hK hc i pins s σ H E I hf st hg;subst hP hw hK;obtain ⟨xs,hq,hx⟩:=hg;obtain ⟨its,rv,p,hz⟩:=I.tuple hq;obtain ⟨f0,f1,f2,f3,f4,f5⟩:=hf it (by simp);have hl:=rv.length;exact wpAny_pyNext_tuple_end (I.ok.hd hc) st (show s.heap.IsTuple a its.toArray from p) (by simp; omega) fun h' eb=>⟨rfl,I.turned (t':=s.toks) (fun b o hb e=>eb b o hb e) f0 f1 f3 f4 f5⟩
 self:=fun _ _ _ _ _ st h=>wpAny_pyIter_tupleiter st h
theorem zA5 {P:Program} {w:World} {K:PySem.W.Frag} {tg:Expr} (it:Addr) (lo:Int) (n:Nat):Turn P w K tg (Itr lo n) [it] it (fun i h=>IsRangeIter h it (lo+(i:Nat) * 1) ((n:Int) - (i:Nat)) 1) where
 mem:=by simp
 obj:=fun i h st b hb=>by
  have e:b=it:=by simpa using hb
  subst e;exact ⟨_,st,fun v z=>by
   have z':Data.fields _=Data.cell v:=z;cases z'⟩
 keep:=fun i h h' st k=>k it (by simp) _ st
 item:=by
  intro X hP hw hK hc i pins s σ H E I hf st hg;subst hP hw hK;obtain ⟨f0,f1,f2,f3,f4,f5⟩:=hf it (by simp);have W:=Walks.range (prog:=X.prog) (w:=X.w) (I.ok.hd hc) it lo 1 n;refine W.item i s _ _ hg st fun v h' tk hv st' kk=>?_
  obtain ⟨t,rfl⟩:=hv;have I1:Inv X pins σ H { s with heap:=h',toks:=tk }:=I.turned (fun b o hb e=>kk b o (by simpa using hb) e) f0 f1 f3 f4 f5
  refine ⟨_,rfl,uO (s:={ s with heap:=h',toks:=tk }) (n:="range_iterator") st' rfl rfl (by decide) ⟨.int (lo+i),H,I1,⟨t,?_⟩,⟨rfl,rfl⟩,st',fun b hb=>(hf b hb).1⟩⟩
  rw [Int.mul_one]
 done:=by
  intro X hP hw hK hc i pins s σ H E I hf st hg;subst hP hw hK;obtain ⟨f0,f1,f2,f3,f4,f5⟩:=hf it (by simp);exact wpAny_pyNext_range_end (I.ok.hd hc) st (by have:n≤i:=hg; omega) fun h' eb=>⟨rfl,I.turned (t':=s.toks) (fun b o hb e=>eb b o hb e) f0 f1 f3 f4 f5⟩
 self:=fun _ _ _ _ _ st h=>wpAny_pyIter_rangeiter st h
end L2
namespace L2
open PySem PySem.Spec PyProof.Rows
section
variable {X:Cx} {tg:Expr}
def iList (K:PySem.W.Frag) (tl:TE):TI:=fun σ H R=>tl σ H fun x H1=>∃ a,x=.ref a∧(∃ xs,SqL K H1 a xs)∧R (Itl K a) H1
def iTup (K:PySem.W.Frag) (tl:TE):TI:=fun σ H R=>tl σ H fun x H1=>∃ a,x=.ref a∧(∃ xs,SqT K H1 a xs)∧R (Itt K a) H1
theorem zBc {l:Expr} {tl:TE} (hl:PE X l tl):PI X tg l (iList X.K tl):=by
 intro pins s σ H R I h;refine thn (hl pins s σ H _ I h) fun v s1 ⟨x,H1,I1,r1,q1⟩=>?_
 obtain ⟨a,e,⟨xs,hq⟩,q⟩:=q1;subst e;cases r1;obtain ⟨its,rv,p,hz⟩:=I1.list hq;refine wpAny_pyIter_list p.isList ?_;refine ⟨s1.heap.objs.size,[s1.heap.objs.size],_,_,H1,rfl,I1.kept (t':=s1.toks) fun b o e=>get?_push_of_some _ e,zBb a _,⟨_,get?_push_size _ rfl,rfl,rfl⟩,fun b hb=>?_,q⟩;have e:b=s1.heap.objs.size:=by simpa using hb
 subst e;exact I1.fpOk (le_refl _) (I1.hok.fresh (le_refl _))
theorem pi_tup {l:Expr} {tl:TE} (hl:PE X l tl):PI X tg l (iTup X.K tl):=by
 intro pins s σ H R I h;refine thn (hl pins s σ H _ I h) fun v s1 ⟨x,H1,I1,r1,q1⟩=>?_
 obtain ⟨a,e,⟨xs,hq⟩,q⟩:=q1;subst e;cases r1;obtain ⟨its,rv,p,hz⟩:=I1.tuple hq;refine wpAny_pyIter_tuple (show s1.heap.IsTuple a its.toArray from p) ?_;refine ⟨s1.heap.objs.size,[s1.heap.objs.size],_,_,H1,rfl,I1.kept (t':=s1.toks) fun b o e=>get?_push_of_some _ e,zA4 a _,⟨_,get?_push_size _ rfl,rfl,rfl⟩,fun b hb=>?_,q⟩;have e:b=s1.heap.objs.size:=by simpa using hb
 subst e;exact I1.fpOk (le_refl _) (I1.hok.fresh (le_refl _))
theorem zDb {pins:List (Addr × Obj)} {σ:St} {H:Hp} {s:Shared} {R:It→Hp→Prop} {E:Value→Shared→Prop} {lo hi:Int} {t u v:Tok} {tk:Nat} (I:Inv X pins σ H s) (h1:-(2 ^ 62)≤lo) (h2:lo < 2 ^ 62) (h3:-(2 ^ 62)≤hi) (h4:hi < 2 ^ 62)
  (q:R (Itr lo (hi - lo).toNat) H):wpAny (model X.prog X.w) X.A (pyIter (.ref s.heap.objs.size)) (PIE X pins σ tg R) E { s with heap:=s.heap.push { cls:=.type "range",data:=.fields #[.int lo t,.int hi u,.int 1 v] },toks:=tk }:=by
 refine wpAny_pyIter_range (IsRange.new ..) (small_one h1 h2 h3 h4) ?_;have I1:Inv X pins σ H { s with heap:=s.heap.push { cls:=.type "range",data:=.fields #[.int lo t,.int hi u,.int 1 v] },toks:=tk }:=I.kept fun b o e=>get?_push_of_some _ e
 refine ⟨(s.heap.push { cls:=.type "range",data:=.fields #[.int lo t,.int hi u,.int 1 v] }).objs.size,[(s.heap.push { cls:=.type "range",data:=.fields #[.int lo t,.int hi u,.int 1 v] }).objs.size],_,_,H,rfl,
  I1.kept (t':=tk) fun b o e=>get?_push_of_some _ e,zA5 _ lo (hi - lo).toNat,?_,fun b hb=>?_,q⟩
 ·have e1:lo+((0:Nat):Int) * 1=lo:=by simp
  have e2:(((hi - lo).toNat:Nat):Int) - ((0:Nat):Int)=Builtin.Range.rangeSize lo hi 1:=by rw [rangeSize_one]; split <;> omega
  show IsRangeIter _ _ (lo+((0:Nat):Int) * 1) ((((hi - lo).toNat:Nat):Int) - ((0:Nat):Int)) 1
  rw [e1,e2];exact get?_push_size _ rfl
 ·have e:b=(s.heap.push { cls:=.type "range",data:=.fields #[.int lo t,.int hi u,.int 1 v] }).objs.size:=by simpa using hb
  subst e;exact I1.fpOk (le_refl _) (I1.hok.fresh (le_refl _))
def iRng1 (ta:TA):TI:=fun σ H R=>ta σ H fun vs H1=>∃ j:Int,vs=[.int j]∧-(2 ^ 62)≤j∧j < 2 ^ 62∧R (Itr 0 j.toNat) H1
theorem Gb {a:Expr} {ta:TA} {p pos:Pos} (hg:Gl X "range") (hm:X.mg "range"=none) (ha:PA X [a] ta) (hs:starEach [a] X.env=[(false,eval a X.env)]:=by rfl):PI X tg (.Call (.Name "range" p) [a] [] pos) (iRng1 ta):=by
 intro pins s σ H R I h;refine Call_ (Ga I hg hm boot_range (PyProof.Rows.callWith_type1 (thn (ha pos pins s σ H _ I h) fun us s1 ⟨vs,H1,I1,r1,q1⟩=>?_) hs rfl));obtain ⟨j,e,q1,q2,q⟩:=q1;subst e;cases r1 with
 | cons r rr =>
  cases rr;obtain ⟨t,rfl⟩:=r;exact call_range_1 (zDb I1 (by omega) (by omega) q1 q2 (by simpa using q))
def tFor (wi:TI) (g:TG) (tb:TS):TS:=fun D σ H=>wi σ H fun J H1=>∃ W:Nat→Nat→St→Hp→Prop,(∃ m,W 0 m σ H1)∧∀ i m σ H,W i m σ H →
 (J.stop i H∧D.nx σ H)∨(J.go i H∧∃ N:St→Hp→Prop,(∀ σ' H',N σ' H'→∃ m',m' < m∧W (i+1) m' σ' H')∧∀ x H',J.yld i H x H'→g x σ H' fun σ2 H2=>tb { D with nx:=N,ct:=N,bk:=D.nx } σ2 H2)
def Gc (fp:List Addr) (h:Heap):List (Addr × Obj):=fp.filterMap fun b=>(h.get? b).map fun o=>(b,o)
theorem JL {fp:List Addr} {h:Heap} {b:Addr} {o:Obj} (hb:b∈fp) (e:h.get? b=some o):(b,o)∈Gc fp h:=mem_filterMap.mpr ⟨b,hb,by rw [e]; rfl⟩
theorem zBd {fp:List Addr} {h:Heap} {p:Addr × Obj} (hp:p∈Gc fp h):p.1∈fp∧h.get? p.1=some p.2:=by
 obtain ⟨b,hb,e⟩:=mem_filterMap.mp hp;cases q:h.get? b with
 | none=>rw [q] at e; cases e
 | some o =>
  rw [q] at e;have e':(b,o)=p:=Option.some.inj e;subst e';exact ⟨hb,q⟩
theorem Inv.pinned {pins:List (Addr × Obj)} {σ:St} {H:Hp} {s:Shared} {fp:List Addr} (I:Inv X pins σ H s) (hf:∀ b∈fp,zBL X pins H b) (ho:∀ b∈fp,∃ o,s.heap.get? b=some o∧∀ v,o.data≠.cell v):Inv X (pins++Gc fp s.heap) σ H s :=
 I.pins_of fun p hp=>(mem_append.mp hp).elim (fun z=>I.pin p (mem_append_right _ z)) fun z=>by
  obtain ⟨hb,e⟩:=zBd z;obtain ⟨f0,f1,f2,_⟩:=hf p.1 hb;obtain ⟨o,e',d⟩:=ho p.1 hb;rw [e] at e'; cases e';exact ⟨e,f0,f1,f2,d⟩
theorem Inv.unpinned {pins pl:List (Addr × Obj)} {σ:St} {H:Hp} {s:Shared} (I:Inv X (pins++pl) σ H s):Inv X pins σ H s:=I.pins_of fun p hp=>I.pin p (mem_append_right _ (mem_append_left _ hp))
theorem zBe {iter:Expr} {body:List Stmt} {wi:TI} {g:TG} {tb:TS} {pos:Pos} (hp:PassesOwn (model X.prog X.w) X.A X.env X.xe) (hc:X.calm=true) (hi:PI X tg iter wi) (hg:PG X tg g) (hb:PSs X body tb)
  (hs:∀ x,foldedSetIterable iter X.env x=pure x:=by intro _; rfl):PS X (.For tg iter body [] pos) (tFor wi g tb):=by
 intro pins s σ H D I h;refine wpAny_For (thn (hi pins s σ H _ I h) fun v s1 h1=>thn h1 fun itv s2 h2=>?_) hs;obtain ⟨it,fp,tn,J,H2,e,I2,T,st2,f2,W,⟨m0,w0⟩,turn⟩:=h2;subst e
 -- what stays true of the iterator's objects through the loop
 have stat:∀ {H':Hp},(∀ b∈fp,H' b=none)→∀ b∈fp,zBL X pins H' b:=fun hn b hb=>⟨hn b hb,(f2 b hb).2⟩
 refine codeAny_forLoop_any (fun n s'=>∃ i σ' H',Inv X pins σ' H' s'∧tn i s'.heap∧(∀ b∈fp,H' b=none)∧W i n σ' H') ?_ m0 ⟨0,σ,H2,I2,st2,fun b hb=>(f2 b hb).1,w0⟩
 rintro n s3 ⟨i,σ3,H3,I3,st3,fr3,w3⟩
 rcases turn i n σ3 H3 w3 with ⟨stop,qn⟩ | ⟨go,N,hN,step⟩
 ·refine wpAny_passesOwn hp (thn (T.done X rfl rfl rfl hc i pins s3 σ3 H3 X.xe I3 (stat fr3) st3 stop) fun r s4 ⟨hr,I4⟩=>?_)
  subst hr;exact wpAny_execs_nil ⟨σ3,H3,I4,qn⟩
 ·refine wpAny_passesOwn hp (thn (T.item X rfl rfl rfl hc i pins s3 σ3 H3 X.xe I3 (stat fr3) st3 go) fun r s4 ⟨u,hr,h4⟩=>?_)
  subst hr;refine wpAny_passesOwn hp (thn h4 fun _ s5 ⟨x,H5,I5,r5,y5,st5,fr5⟩=>?_);have I5':=I5.pinned (stat fr5) (T.obj _ _ st5);refine wpAny_passesOwn hp (thn (hg _ s5 σ3 H5 x u _ I5' r5 (step x H5 y5)) fun _ s6 ⟨σ6,H6,I6,q6⟩=>?_);refine wpAny_passesOwn hp (thn (hb _ s6 σ6 H6 _ I6 q6) fun f s7 q7=>?_);have again:∀ {σ7:St} {H7:Hp},Inv X (pins++Gc fp s5.heap) σ7 H7 s7→N σ7 H7→∃ m,m < n∧∃ i σ' H',Inv X pins σ' H' s7∧tn i s7.heap∧(∀ b∈fp,H' b=none)∧W i m σ' H':=fun {σ7 H7} I7 n7=>by
   obtain ⟨m',hm,w7⟩:=hN σ7 H7 n7;refine ⟨m',hm,i+1,σ7,H7,I7.unpinned,T.keep _ _ _ st5 fun b hb o e=>(I7.pin (b,o) (mem_append_right _ (mem_append_right _ (JL hb e)))).1,fun b hb=>?_,w7⟩;obtain ⟨o,e,d⟩:=T.obj _ _ st5 b hb;exact (I7.pin (b,o) (mem_append_right _ (mem_append_right _ (JL hb e)))).2.1
  cases f with
  | next=>obtain ⟨σ7,H7,I7,n7⟩:=q7; exact again I7 n7
  | cont=>obtain ⟨σ7,H7,I7,n7⟩:=q7; exact again I7 n7
  | brk=>obtain ⟨σ7,H7,I7,q7⟩:=q7; exact ⟨σ7,H7,I7.unpinned,q7⟩
  | ret v=>obtain ⟨x7,σ7,H7,I7,r7,q7⟩:=q7; exact ⟨x7,σ7,H7,I7.unpinned,r7,q7⟩
end
theorem zDc {K:PySem.W.Frag} {a:Addr} {xs:List V} {g:TG} {tb:TS} {D:Ends} {σ:St} {H:Hp} (Pv:Nat→St→Hp→Prop) (h0:Pv 0 σ H) (hl:∀ i σ H,i≤xs.length→Pv i σ H→SqL K H a xs)
  (hs:∀ i x σ H,xs[i]?=some x→Pv i σ H→g x σ H fun σ2 H2=>tb { D with nx:=Pv (i+1),ct:=Pv (i+1),bk:=D.nx } σ2 H2) (hd:∀ σ H,Pv xs.length σ H→D.nx σ H) :
  ∃ W:Nat→Nat→St→Hp→Prop,(∃ m,W 0 m σ H)∧∀ i m σ H,W i m σ H →
   ((Itl K a).stop i H∧D.nx σ H)∨((Itl K a).go i H∧∃ N:St→Hp→Prop,(∀ σ' H',N σ' H'→∃ m',m' < m∧W (i+1) m' σ' H')∧∀ x H',(Itl K a).yld i H x H'→g x σ H' fun σ2 H2=>tb { D with nx:=N,ct:=N,bk:=D.nx } σ2 H2):=by
 refine ⟨fun i m σ H=>m=xs.length - i∧i≤xs.length∧Pv i σ H,⟨xs.length,by simp,zero_le _,h0⟩,?_⟩
 rintro i m σ H ⟨rfl,hi,p⟩
 have q:=hl i σ H hi p;by_cases hlt:i < xs.length
 ·refine .inr ⟨⟨xs,xs[i],q,by simp [hlt]⟩,Pv (i+1),fun σ' H' p'=>⟨xs.length - (i+1),by omega,rfl,hlt,p'⟩,fun x H' y=>?_⟩
  obtain ⟨e,y⟩:=y;subst e;exact hs i x σ _ (y xs q) p
 ·have e:i=xs.length:=by omega
  subst e;exact .inl ⟨⟨xs,q,le_refl _⟩,hd σ H p⟩
theorem zBf {lo:Int} {n:Nat} {g:TG} {tb:TS} {D:Ends} {σ:St} {H:Hp} (Pv:Nat→St→Hp→Prop) (h0:Pv 0 σ H)
  (hs:∀ i σ H,i < n→Pv i σ H→g (.int (lo+i)) σ H fun σ2 H2=>tb { D with nx:=Pv (i+1),ct:=Pv (i+1),bk:=D.nx } σ2 H2) (hd:∀ σ H,Pv n σ H→D.nx σ H) :
  ∃ W:Nat→Nat→St→Hp→Prop,(∃ m,W 0 m σ H)∧∀ i m σ H,W i m σ H →
   ((Itr lo n).stop i H∧D.nx σ H)∨((Itr lo n).go i H∧∃ N:St→Hp→Prop,(∀ σ' H',N σ' H'→∃ m',m' < m∧W (i+1) m' σ' H')∧∀ x H',(Itr lo n).yld i H x H'→g x σ H' fun σ2 H2=>tb { D with nx:=N,ct:=N,bk:=D.nx } σ2 H2):=by
 refine ⟨fun i m σ H=>m=n - i∧i≤n∧Pv i σ H,⟨n,by simp,zero_le _,h0⟩,?_⟩
 rintro i m σ H ⟨rfl,hi,p⟩
 by_cases hlt:i < n
 ·refine .inr ⟨hlt,Pv (i+1),fun σ' H' p'=>⟨n - (i+1),by omega,rfl,hlt,p'⟩,fun x H' y=>?_⟩
  obtain ⟨e,y⟩:=y;subst e y;exact hs i σ _ hlt p
 ·have e:i=n:=by omega
  subst e;exact .inl ⟨le_refl _,hd σ H p⟩
end L2
namespace L2
open PySem PySem.Spec PyProof.Rows
abbrev R2:=V→V→Hp→VK→Prop
def OpR (X:Cx) (f:Value→Value→Sem Value) (r:R2):Prop :=
 ∀ (pins:List (Addr × Obj)) (s:Shared) (σ:St) (H:Hp) (x y:V) (v u:Value) (Q:VK),Inv X pins σ H s→yK x v→yK y u→r x y H Q →
  wpAny (model X.prog X.w) X.A (f v u) (EP X pins σ Q) X.xe s
def UnR (X:Cx) (f:Value→Sem Value) (r:V→Hp→VK→Prop):Prop :=
 ∀ (pins:List (Addr × Obj)) (s:Shared) (σ:St) (H:Hp) (x:V) (v:Value) (Q:VK),Inv X pins σ H s→yK x v→r x H Q →
  wpAny (model X.prog X.w) X.A (f v) (EP X pins σ Q) X.xe s
def jm (X:Cx) (f:Value) (r:List V→Hp→VK→Prop):Prop :=
 ∀ (pins:List (Addr × Obj)) (s:Shared) (σ:St) (H:Hp) (xs:List V) (us:List Value) (Q:VK),Inv X pins σ H s→z9 xs us→r xs H Q →
  wpAny (model X.prog X.w) X.A (call f us) (EP X pins σ Q) X.xe s
def tOp (r:R2) (ta tb:TE):TE:=fun σ H Q=>ta σ H fun x H1=>tb σ H1 fun y H2=>r x y H2 Q
def tUn (r:V→Hp→VK→Prop) (ta:TE):TE:=fun σ H Q=>ta σ H fun x H1=>r x H1 Q
def rI (C:Int→Int→Prop) (g:Int→Int→V):R2:=fun x y H Q=>∃ i j,x=.int i∧y=.int j∧C i j∧Q (g i j) H
def rI0 (g:Int→Int→V):R2:=fun x y H Q=>∃ i j,x=.int i∧y=.int j∧Q (g i j) H
def rU (g:Int→V):V→Hp→VK→Prop:=fun x H Q=>∃ i,x=.int i∧Q (g i) H
section
variable {X:Cx} {a b c:Expr} {ta tb tc:TE} {pos:Pos}
theorem binT (ha:PE X a ta) (hb:PE X b tb) {pins:List (Addr × Obj)} {s:Shared} {σ:St} {H:Hp} {R:V→V→Hp→Prop} (I:Inv X pins σ H s)
  (h:ta σ H fun x H1=>tb σ H1 fun y H2=>R x y H2) {Q:Value→Shared→Prop} {f:Value→Value→Sem Value}
  (hf:∀ v u s2 x y H2,Inv X pins σ H2 s2→yK x v→yK y u→R x y H2→wpAny (model X.prog X.w) X.A (f v u) Q X.xe s2) :
  wpAny (model X.prog X.w) X.A (eval a X.env) (fun v s₁=>wpAny (model X.prog X.w) X.A (eval b X.env) (fun u s₂=>wpAny (model X.prog X.w) X.A (f v u) Q X.xe s₂) X.xe s₁) X.xe s:=by
 refine thn (ha pins s σ H _ I h) fun v s1 ⟨x,H1,I1,r1,q1⟩=>?_
 refine thn (hb pins s1 σ H1 _ I1 q1) fun u s2 ⟨y,H2,I2,r2,q2⟩=>?_
 exact hf v u s2 x y H2 I2 r1 r2 q2
theorem pe_op {op:Operator} {r:R2} (ho:OpR X (binaryOp op) r) (ha:PE X a ta) (hb:PE X b tb):PE X (.BinOp a op b pos) (tOp r ta tb):=by
 intro pins s σ H Q I h;exact wpAny_BinOp (binT ha hb I h fun v u s2 x y H2 I2 rx ry q=>ho pins s2 σ H2 x y v u Q I2 rx ry q)
theorem pe_un {op:UnaryOp} {r:V→Hp→VK→Prop} (ho:UnR X (unaryOp op) r) (ha:PE X a ta):PE X (.UnaryOp op a pos) (tUn r ta):=by
 intro pins s σ H Q I h;exact UnaryOp_ (thn (ha pins s σ H _ I h) fun v s1 ⟨x,H1,I1,r1,q1⟩=>ho pins s1 σ H1 x v Q I1 r1 q1)
theorem opI {f:Value→Value→Sem Value} {C:Int→Int→Prop} {g:Int→Int→Int}
  (rule:∀ (i j:Int) (t u:Tok) (s:Shared) (Q:Value→Shared→Prop) (E:Value→Shared→Prop),C i j→Q (.int (g i j) s.toks) { s with toks:=s.toks+1 }→wpAny (model X.prog X.w) X.A (f (.int i t) (.int j u)) Q E s) :
  OpR X f (rI C fun i j=>.int (g i j)):=by
 intro pins s σ H x y v u Q I rx ry h;obtain ⟨i,j,rfl,rfl,hc,q⟩:=h;obtain ⟨t,rfl⟩:=rx;obtain ⟨t',rfl⟩:=ry;exact rule i j t t' s _ _ hc ⟨.int (g i j),H,I.tok _,⟨_,rfl⟩,q⟩
theorem opI0 {f:Value→Value→Sem Value} {g:Int→Int→Int}
  (rule:∀ (i j:Int) (t u:Tok) (s:Shared) (Q:Value→Shared→Prop) (E:Value→Shared→Prop),Q (.int (g i j) s.toks) { s with toks:=s.toks+1 }→wpAny (model X.prog X.w) X.A (f (.int i t) (.int j u)) Q E s) :
  OpR X f (rI0 fun i j=>.int (g i j)):=by
 intro pins s σ H x y v u Q I rx ry h;obtain ⟨i,j,rfl,rfl,q⟩:=h;obtain ⟨t,rfl⟩:=rx;obtain ⟨t',rfl⟩:=ry;exact rule i j t t' s _ _ ⟨.int (g i j),H,I.tok _,⟨_,rfl⟩,q⟩
theorem opB0 {f:Value→Value→Sem Value} {g:Int→Int→Bool}
  (rule:∀ (i j:Int) (t u:Tok) (s:Shared) (Q:Value→Shared→Prop) (E:Value→Shared→Prop),Q (.bool (g i j)) s→wpAny (model X.prog X.w) X.A (f (.int i t) (.int j u)) Q E s) :
  OpR X f (rI0 fun i j=>.bl (g i j)):=by
 intro pins s σ H x y v u Q I rx ry h;obtain ⟨i,j,rfl,rfl,q⟩:=h;obtain ⟨t,rfl⟩:=rx;obtain ⟨t',rfl⟩:=ry;exact rule i j t t' s _ _ ⟨.bl (g i j),H,I,rfl,q⟩
def CPow (i j:Int):Prop:=0≤j∧j≤1000000∧i.natAbs < 2 ^ 64
def CMul (i j:Int):Prop:=(-(2 ^ 64) < i∧i < 2 ^ 64)∨(-(2 ^ 64) < j∧j < 2 ^ 64)
theorem CMul.ok {i j:Int} (h:CMul i j):IntMulOk i j:=by
 rcases h with ⟨h1,h2⟩ | ⟨h1,h2⟩
 ·exact .of_left (intBits_le_64 h1 h2)
 ·exact .of_right (intBits_le_64 h1 h2)
theorem op_add:OpR X (binaryOp .Add) (rI0 fun i j=>.int (i+j)):=opI0 fun _ _ _ _ _ _ _ q=>add_int q
theorem op_sub:OpR X (binaryOp .Sub) (rI0 fun i j=>.int (i - j)):=opI0 fun _ _ _ _ _ _ _ q=>sub_int q
theorem op_mod:OpR X (binaryOp .Mod) (rI (fun _ j=>0 < j) fun i j=>.int (i % j)):=opI fun i j _ _ _ _ _ hc q=>by
 have h1:(0:Int) < j:=hc;exact mod_int' (by omega) (by rw [Int.fmod_eq_emod_of_nonneg i (by omega)]; exact q)
theorem op_pow:OpR X (binaryOp .Pow) (rI CPow fun i j=>.int (i ^ j.toNat)):=opI fun _ _ _ _ _ _ _ hc q=>pow_int_small hc.1 hc.2.1 hc.2.2 q
theorem unI {f:Value→Sem Value} {g:Int→Int}
  (rule:∀ (i:Int) (t:Tok) (s:Shared) (Q:Value→Shared→Prop) (E:Value→Shared→Prop),Q (.int (g i) s.toks) { s with toks:=s.toks+1 }→wpAny (model X.prog X.w) X.A (f (.int i t)) Q E s) :
  UnR X f (rU fun i=>.int (g i)):=by
 intro pins s σ H x v Q I rx h;obtain ⟨i,rfl,q⟩:=h;obtain ⟨t,rfl⟩:=rx;exact rule i t s _ _ ⟨.int (g i),H,I.tok _,⟨_,rfl⟩,q⟩
theorem un_neg:UnR X (unaryOp .USub) (rU fun i=>.int (-i)):=unI fun _ _ _ _ _ q=>neg_int q
end
def scal:V→V→Bool
 | .non,.non=>true | .non,.int _=>true | .int _,.non=>true | .non,.bl _=>true | .bl _,.non=>true | .non,.str _=>true | .str _,.non=>true
 | .int _,.int _=>true | .bl _,.bl _=>true | .str _,.str _=>true | .byt _,.byt _=>true
 | .int _,.str _=>true | .str _,.int _=>true | .bl _,.str _=>true | .str _,.bl _=>true
 | _,_=>false
def rEq:R2:=fun x y H Q=>scal x y=true∧Q (.bl (decide (x=y))) H
def rNe:R2:=fun x y H Q=>scal x y=true∧Q (.bl (!decide (x=y))) H
theorem zBg {i j:Int}:decide (V.int i=V.int j)=(i == j):=by
 rw [Bool.eq_iff_iff];simp
theorem zEw {i j:Bool}:decide (V.bl i=V.bl j)=(i == j):=by
 rw [Bool.eq_iff_iff];simp
theorem zBh {i j:Str}:decide (V.str i=V.str j)=(i == j):=by
 rw [Bool.eq_iff_iff];simp
theorem zBi {i j:Array UInt8}:decide (V.byt i=V.byt j)=(i.toList == j.toList):=by
 rw [Bool.eq_iff_iff];cases i;cases j;simp
section
variable {X:Cx} {a b c:Expr} {ta tb tc:TE} {pos:Pos}
theorem yE {pins:List (Addr × Obj)} {σ:St} {H:Hp} {s:Shared} {Q:VK} {k k':Bool} (I:Inv X pins σ H s) (q:Q (.bl k) H) (e:k=k'):EP X pins σ Q (.bool k') s:=by
 subst e;exact ⟨.bl k,H,I,rfl,q⟩
theorem op_eq:OpR X (compareOp .Eq) rEq:=by
 intro pins s σ H x y v u Q I rx ry h;obtain ⟨hs,q⟩:=h;cases x with
 | non =>
  cases rx;cases y with
  | non=>cases ry; exact PySem.EqNone.eq_none_none (yE I q (by simp))
  | bl j=>cases ry; exact PySem.EqNone.eq_none_bool (yE I q (by simp))
  | int j=>obtain ⟨t',rfl⟩:=ry; exact PySem.EqNone.eq_none_int (yE I q (by simp))
  | str j=>obtain ⟨t',rfl⟩:=ry; exact PySem.EqNone.eq_none_str (yE I q (by simp))
  | _=>exact absurd (show false=true from hs) Bool.false_ne_true
 | bl i =>
  cases rx;cases y with
  | non=>cases ry; exact PySem.EqNone.eq_bool_none (yE I q (by simp))
  | bl j=>cases ry; exact eq_bool (yE I q zEw)
  | str j=>obtain ⟨t',rfl⟩:=ry; exact PySem.EqMixed.eq_bool_str (yE I q (by simp))
  | _=>exact absurd (show false=true from hs) Bool.false_ne_true
 | int i =>
  obtain ⟨t,rfl⟩:=rx;cases y with
  | non=>cases ry; exact PySem.EqNone.eq_int_none (yE I q (by simp))
  | int j=>obtain ⟨t',rfl⟩:=ry; exact eq_int (yE I q zBg)
  | str j=>obtain ⟨t',rfl⟩:=ry; exact PySem.EqMixed.eq_int_str (yE I q (by simp))
  | _=>exact absurd (show false=true from hs) Bool.false_ne_true
 | str i =>
  obtain ⟨t,rfl⟩:=rx;cases y with
  | non=>cases ry; exact PySem.EqNone.eq_str_none (yE I q (by simp))
  | bl j=>cases ry; exact PySem.EqMixed.eq_str_bool (yE I q (by simp))
  | int j=>obtain ⟨t',rfl⟩:=ry; exact PySem.EqMixed.eq_str_int (yE I q (by simp))
  | str j=>obtain ⟨t',rfl⟩:=ry; exact eq_str (yE I q zBh)
  | _=>exact absurd (show false=true from hs) Bool.false_ne_true
 | byt i =>
  obtain ⟨t,rfl⟩:=rx;cases y with
  | byt j=>obtain ⟨t',rfl⟩:=ry; exact PySem.W.eq_bytes (yE I q zBi)
  | _=>exact absurd (show false=true from hs) Bool.false_ne_true
 | _=>cases y <;> exact absurd (show false=true from hs) Bool.false_ne_true
theorem op_ne:OpR X (compareOp .NotEq) rNe:=by
 intro pins s σ H x y v u Q I rx ry h;obtain ⟨hs,q⟩:=h;cases x with
 | non =>
  cases rx;cases y with
  | non=>cases ry; exact PySem.EqNone.ne_none_none (yE I q (by simp))
  | bl j=>cases ry; exact PySem.EqNone.ne_none_bool (yE I q (by simp))
  | int j=>obtain ⟨t',rfl⟩:=ry; exact PySem.EqNone.ne_none_int (yE I q (by simp))
  | str j=>obtain ⟨t',rfl⟩:=ry; exact PySem.EqNone.ne_none_str (yE I q (by simp))
  | _=>exact absurd (show false=true from hs) Bool.false_ne_true
 | bl i =>
  cases rx;cases y with
  | non=>cases ry; exact PySem.EqNone.ne_bool_none (yE I q (by simp))
  | bl j=>cases ry; exact ne_bool (yE I q (congrArg not zEw))
  | str j=>obtain ⟨t',rfl⟩:=ry; exact PySem.EqMixed.ne_bool_str (yE I q (by simp))
  | _=>exact absurd (show false=true from hs) Bool.false_ne_true
 | int i =>
  obtain ⟨t,rfl⟩:=rx;cases y with
  | non=>cases ry; exact PySem.EqNone.ne_int_none (yE I q (by simp))
  | int j=>obtain ⟨t',rfl⟩:=ry; exact ne_int (yE I q (congrArg not zBg))
  | str j=>obtain ⟨t',rfl⟩:=ry; exact PySem.EqMixed.ne_int_str (yE I q (by simp))
  | _=>exact absurd (show false=true from hs) Bool.false_ne_true
 | str i =>
  obtain ⟨t,rfl⟩:=rx;cases y with
  | non=>cases ry; exact PySem.EqNone.ne_str_none (yE I q (by simp))
  | bl j=>cases ry; exact PySem.EqMixed.ne_str_bool (yE I q (by simp))
  | int j=>obtain ⟨t',rfl⟩:=ry; exact PySem.EqMixed.ne_str_int (yE I q (by simp))
  | str j=>obtain ⟨t',rfl⟩:=ry; exact ne_str (yE I q (congrArg not zBh))
  | _=>exact absurd (show false=true from hs) Bool.false_ne_true
 | byt i =>
  obtain ⟨t,rfl⟩:=rx;cases y with
  | byt j=>obtain ⟨t',rfl⟩:=ry; exact PySem.W.ne_bytes (yE I q (congrArg not zBi))
  | _=>exact absurd (show false=true from hs) Bool.false_ne_true
 | _=>cases y <;> exact absurd (show false=true from hs) Bool.false_ne_true
theorem op_lt:OpR X (compareOp .Lt) (rI0 fun i j=>.bl (decide (i < j))):=opB0 fun _ _ _ _ _ _ _ q=>lt_int q
theorem op_le:OpR X (compareOp .LtE) (rI0 fun i j=>.bl (decide (i≤j))):=opB0 fun _ _ _ _ _ _ _ q=>le_int q
theorem op_gt:OpR X (compareOp .Gt) (rI0 fun i j=>.bl (decide (j < i))):=opB0 fun _ _ _ _ _ _ _ q=>gt_int q
theorem op_ge:OpR X (compareOp .GtE) (rI0 fun i j=>.bl (decide (j≤i))):=opB0 fun _ _ _ _ _ _ _ q=>ge_int q
theorem OpR.or {f:Value→Value→Sem Value} {r r':R2} (h:OpR X f r) (h':OpR X f r'):OpR X f (fun x y H Q=>r x y H Q∨r' x y H Q):=by
 intro pins s σ H x y v u Q I rx ry q;rcases q with q | q
 ·exact h pins s σ H x y v u Q I rx ry q
 ·exact h' pins s σ H x y v u Q I rx ry q
theorem pe_cmpR {op:CmpOp} {r:R2} (ho:OpR X (compareOp op) r) (ha:PE X a ta) (hb:PE X b tb) (hm:behindInMarks op b=false):PE X (.Compare a [op] [b] pos) (tOp r ta tb):=by
 intro pins s σ H Q I h;exact wpAny_Compare1 (binT ha hb I h fun v u s2 x y H2 I2 rx ry q=>ho pins s2 σ H2 x y v u Q I2 rx ry q) hm
def tTest (t:TE):TT:=fun σ H Q=>t σ H fun x H'=>∃ k,x=.bl k∧Q k H'
theorem pt_cmpR {op:CmpOp} {r:R2} (ho:OpR X (compareOp op) r) (ha:PE X a ta) (hb:PE X b tb) (hm:behindInMarks op b=false):PT X (.Compare a [op] [b] pos) (tTest (tOp r ta tb)):=by
 intro pins s σ H Q I h;refine wpAny_isTrue_Compare1 (thn (ha pins s σ H _ I h) fun v s1 ⟨x,H1,I1,r1,q1⟩=>thn (hb pins s1 σ H1 _ I1 q1) fun u s2 ⟨y,H2,I2,r2,q2⟩ =>
  thn (ho pins s2 σ H2 x y v u _ I2 r1 r2 q2) fun c s3 ⟨z,H3,I3,r3,k,e,q3⟩=>?_) hm
 subst e;cases r3;exact wpAny_truthy_bool ⟨H3,I3,q3⟩
def zBj (r r':R2) (ta tb tc:TE):TE:=fun σ H Q=>ta σ H fun x H1=>tb σ H1 fun y H2=>r x y H2 fun z H3=>∃ k,z=.bl k ∧
 (if k=true then tc σ H3 fun w' H4=>r' y w' H4 Q else Q (.bl false) H3)
theorem zDd {op op':CmpOp} {r r':R2} (ho:OpR X (compareOp op) r) (ho':OpR X (compareOp op') r') (ha:PE X a ta) (hb:PE X b tb) (hc:PE X c tc)
  (hm:lastMarks [op,op'] [b,c]=false:=by with_unfolding_all rfl):PE X (.Compare a [op,op'] [b,c] pos) (zBj r r' ta tb tc):=by
 intro pins s σ H Q I h;refine Compare_chain (thn (ha pins s σ H _ I h) fun v s1 ⟨x,H1,I1,r1,q1⟩=>chain_link (thn (hb pins s1 σ H1 _ I1 q1) fun u s2 ⟨y,H2,I2,r2,q2⟩ =>
  thn (ho pins s2 σ H2 x y v u _ I2 r1 r2 q2) fun d s3 ⟨z,H3,I3,r3,k,e,q3⟩=>?_)) hm
 subst e;cases r3;refine wpAny_truthy_bool ?_;cases k with
 | false=>exact ite_ff ⟨.bl false,H3,I3,rfl,q3⟩
 | true=>exact ite_tt (chain_last (thn (hc pins s3 σ H3 _ I3 q3) fun w' s4 ⟨z',H4,I4,r4,q4⟩=>ho' pins s4 σ H4 y z' u w' Q I4 r2 r4 q4))
theorem zDe {op op':CmpOp} {r r':R2} (ho:OpR X (compareOp op) r) (ho':OpR X (compareOp op') r') (ha:PE X a ta) (hb:PE X b tb) (hc:PE X c tc)
  (hm:lastMarks [op,op'] [b,c]=false:=by with_unfolding_all rfl):PT X (.Compare a [op,op'] [b,c] pos) (tTest (zBj r r' ta tb tc)):=by
 intro pins s σ H Q I h;refine isTrue_chain (thn (ha pins s σ H _ I h) fun v s1 ⟨x,H1,I1,r1,q1⟩=>test_link (thn (hb pins s1 σ H1 _ I1 q1) fun u s2 ⟨y,H2,I2,r2,q2⟩ =>
  thn (ho pins s2 σ H2 x y v u _ I2 r1 r2 q2) fun d s3 ⟨z,H3,I3,r3,k,e,q3⟩=>?_)) hm
 subst e;cases r3;refine wpAny_truthy_bool ?_;cases k with
 | false =>
  obtain ⟨k',e',q'⟩:=q3;cases e';exact ite_ff ⟨H3,I3,q'⟩
 | true =>
  refine ite_tt (test_last (thn (hc pins s3 σ H3 _ I3 q3) fun w' s4 ⟨z',H4,I4,r4,q4⟩=>thn (ho' pins s4 σ H4 y z' u w' _ I4 r2 r4 q4) fun d' s5 ⟨z2,H5,I5,r5,k2,e2,q5⟩=>?_));subst e2;cases r5;exact wpAny_truthy_bool ⟨H5,I5,q5⟩
theorem zAN:(sizeLine:Nat) < 2 ^ 63:=by rw [sizeLine_eq]; decide
theorem vE {x:V} {us:List Value} (r:z9 [x] us):∃ u,us=[u]∧yK x u:=by
 cases r with
 | cons r1 r2=>cases r2; exact ⟨_,rfl,r1⟩
theorem vals2 {x y:V} {us:List Value} (r:z9 [x,y] us):∃ u w',us=[u,w']∧yK x u∧yK y w':=by
 cases r with
 | cons r1 r2 =>
  cases r2 with
  | cons r3 r4=>cases r4; exact ⟨_,_,rfl,r1,r3⟩
theorem zDf:jm X (.builtin "abs") (fun xs H Q=>∃ i,xs=[.int i]∧Q (.int (if i < 0 then -i else i)) H):=by
 intro pins s σ H xs us Q I r h;obtain ⟨i,rfl,q⟩:=h;obtain ⟨u,rfl,t,rfl⟩:=vE r;exact call_abs_int fun u tk=>⟨.int (if i < 0 then -i else i),H,I.tok _,⟨_,rfl⟩,q⟩
theorem zBk (hc:X.calm=true):jm X (.builtin "max") (fun xs H Q=>∃ i j,xs=[.int i,.int j]∧Q (.int (if j > i then j else i)) H):=by
 intro pins s σ H xs us Q I r h;obtain ⟨i,j,rfl,q⟩:=h;obtain ⟨u,w',rfl,⟨t,rfl⟩,⟨t',rfl⟩⟩:=vals2 r;refine max_two_ints (I.ok.hd hc) fun h' tk k=>⟨_,H,I.kept k,?_,q⟩
 by_cases hj:j > i
 ·rw [if_pos hj,if_pos hj]; exact ⟨_,rfl⟩
 ·rw [if_neg hj,if_neg hj]; exact ⟨_,rfl⟩
theorem zBl:jm X (.type "int") (fun xs H Q=>(∃ i,xs=[.int i]∧Q (.int i) H)∨∃ k,xs=[.bl k]∧Q (.int (if k then 1 else 0)) H):=by
 intro pins s σ H xs us Q I r h;rcases h with ⟨i,rfl,q⟩ | ⟨k,rfl,q⟩
 ·obtain ⟨u,rfl,t,rfl⟩:=vE r
  exact call_int_int ⟨.int i,H,I,⟨_,rfl⟩,q⟩
 ·obtain ⟨u,rfl,r1⟩:=vE r
  cases r1;exact call_int_bool ⟨.int (if k then 1 else 0),H,I.tok _,⟨_,rfl⟩,q⟩
end
end L2
namespace L2
open PySem PySem.Spec PyProof.Rows
structure ObjM (h:Heap) (x dx C:Addr) (mA:Str→Option Value):Prop where
 obj:h.get? x=some (instObj C dx)
 ns:h.Ns1 dx mA
 ne:dx≠x
section
variable {prog:Program} {w:World} {A:Around} {E:Value→Shared→Prop} {s:Shared} {K:PySem.W.Frag} {x dx C f:Addr} {mA:Str→Option Value} {name:Str} {v:Value}
end
section
variable {P:Program} {w:World} {H H':Hp} {h h':Heap} {a C dx:Addr} {fs fs':List (Str × V)}
end
structure Cls (K:PySem.W.Frag) (C:Addr):Prop where
 pg:plainGet K C Str.empty=true
 hd:PySem.W.hasDictIn K C=true
 po:PySem.W.plainOver K C=true
 sa:findIn K (.ref C) "__setattr__"=some (some (.builtin "object.__setattr__"))
theorem Cls.get {K:PySem.W.Frag} {C:Addr} (c:Cls K C) (f:Str):plainGet K C f=true:=c.pg
structure Con (K:PySem.W.Frag) (C:Addr) (f:Str) (v:V) (u:Value):Prop where
 at_:findIn K (.ref C) f=some (some u)
 rel:yK v u
 get:specialIn K u "__get__"=some none
 cp:PySem.W.copiedNames.contains f=false
structure Meth (K:PySem.W.Frag) (C:Addr) (m:Str) (f:Addr):Prop where
 at_:findIn K (.ref C) m=some (some (.ref f))
 fn:PySem.W.isFn K (.ref f)=true
 kp:keepIn K (.ref f)=true
section
variable {X:Cx} {pins:List (Addr × Obj)} {σ:St} {H:Hp} {s:Shared} {a C dx:Addr} {fs:List (Str × V)} {f:Str} {v:V} {A:Around} {E:Value→Shared→Prop}
theorem Inv.made (I:Inv X pins σ H s):Inv X pins σ (upd (upd H s.heap.objs.size (.own (s.heap.objs.size+1))) (s.heap.objs.size+1) (.ins C s.heap.objs.size []))
  { s with heap:=(s.heap.push emptyDict).push (instObj C s.heap.objs.size) }:=by
 have e1:(s.heap.push emptyDict).get? s.heap.objs.size=some emptyDict:=get?_push_size s.heap rfl;have e2:((s.heap.push emptyDict).push (instObj C s.heap.objs.size)).get? (s.heap.objs.size+1)=some (instObj C s.heap.objs.size):=by
  have:=get?_push_size (s.heap.push emptyDict) (o:=instObj C s.heap.objs.size) rfl
  rwa [size_push] at this
 have e3:(s.heap.push emptyDict).Ns s.heap.objs.size (fun _=>none):=⟨emptyDict,#[],_,e1,rfl,(fun e he=>absurd he (by simp)),fun _=>rfl⟩;have I1:=I.laid (a:=s.heap.objs.size) (o:=.own (s.heap.objs.size+1)) (h':=s.heap.push emptyDict) (t':=s.toks) (fun b u q=>get?_push_of_some _ q) (le_refl _) ⟨_,e1⟩;refine I1.laid (a:=s.heap.objs.size+1) (o:=.ins C s.heap.objs.size []) (t':=s.toks) (fun b u q=>get?_push_of_some _ q) (le_of_eq (size_push _ _)) ?_;have ne:s.heap.objs.size≠s.heap.objs.size+1:=ne_of_lt (lt_succ_self _);refine ⟨by rw [yH ne,jq],zero_le _,ne,e2,fun _=>none,(Heap.Ns1.of_empty e3).at fun o q=>get?_push_of_some _ q,fun _=>True.intro,fun y hy=>absurd rfl hy⟩
end
section
variable {X:Cx} {o e value:Expr} {f:Str} {pos pos' tpos:Pos} {ta tv:TE}
end
section
variable {X:Cx} {pins:List (Addr × Obj)} {σ:St} {H:Hp} {s:Shared} {A:Around} {E:Value→Shared→Prop} {Q:Value→Shared→Prop} {c:Value} {b:Bool}
inductive TyOf (K:PySem.W.Frag) (H:Hp):V→Value→Prop where
 | non:TyOf K H .non (.type "NoneType")
 | bl (x:Bool):TyOf K H (.bl x) (.type "bool")
 | int (i:Int):TyOf K H (.int i) (.type "int")
 | str (x:Str):TyOf K H (.str x) (.type "str")
 | flt (x:UInt64):TyOf K H (.flt x) (.type "float")
 | lst {a:Addr} {xs:List V} (e:H a=some (.lst xs)):TyOf K H (.ref a) (.type "list")
 | frz {a:Addr} {o:Obj} {xs:List V} (e:H a=some (.frz o (.lst xs))):TyOf K H (.ref a) (.type "list")
 | tup {a:Addr} {xs:List V} (e:H a=some (.tup xs)):TyOf K H (.ref a) (.type "tuple")
 | dK {a:Addr} {kvs:List (Key × V)} (e:H a=some (.dK kvs)):TyOf K H (.ref a) (.type "dict")
 | dT {a:Addr} {kvs:List (List Key × V)} (e:H a=some (.dT kvs)):TyOf K H (.ref a) (.type "dict")
 | ins {a C dx:Addr} {fs:List (Str × V)} (e:H a=some (.ins C dx fs)) (cl:Cls K C) (ha:findIn K (.ref C) "__class__"=some (some (.builtin "object.__class__")))
   (hn:specialIn K (.builtin "object.__class__") "__get__"=some (some (.builtin "getset_descriptor.__get__"))) (htk:takesIn K (.builtin "object.__class__")=some true)
   (hm:mroIn K C (.type "object")=some true):TyOf K H (.ref a) (.ref C)
end
end L2
namespace L2
open PySem PySem.Spec PyProof.Rows
structure Room (k:Nat) (A:Around):Prop where
 hd:A.handled=none
 gd:A.guards=some []
 dp:A.depth+3 * k+5 < recursionLimit
 un:A.units+16 * k+200 < cLine
theorem Room.mono {j k:Nat} {A:Around} (r:Room k A) (h:j≤k):Room j A:=⟨r.hd,r.gd,by have:=r.dp; omega,by have:=r.un; omega⟩
theorem Room.deeper {k:Nat} {A:Around} (r:Room (k+1) A) (env:Env):Room k (A.deeper env) :=
 ⟨r.hd,r.gd,by have:=r.dp; show A.depth+1+3 * k+5 < _; omega,by have:=r.un; show A.units+3+16 * k+200 < _; omega⟩
theorem Room.in1 {k:Nat} {A:Around} (r:Room (k+1) A):Room k A.in1 :=
 ⟨r.hd,r.gd,by have:=r.dp; show A.depth+3 * k+5 < _; omega,by have:=r.un; show A.units+1+16 * k+200 < _; omega⟩
theorem Room.depth {k:Nat} {A:Around} (r:Room k A):A.depth < recursionLimit:=by have:=r.dp; omega
theorem Room.units {k:Nat} {A:Around} (r:Room k A):A.units+64 < cLine:=by have:=r.un; omega
def tNil:TA:=fun _ H Q=>Q [] H
def zBm (ta:TE) (tr:TA):TA:=fun σ H Q=>ta σ H fun x H1=>tr σ H1 fun xs H2=>Q (x::xs) H2
section
variable {X:Cx} {e:Expr} {es:List Expr} {te:TE} {t:TA} {pos:Pos}
theorem Gd:PA X [] tNil:=fun _ _ _ _ H Q I h=>Calls.spliced_nil ⟨[],H,I,.nil,h⟩
theorem Jx (ha:PE X e te) (hr:PA X es t) (hs:starEach (e::es) X.env=(false,eval e X.env)::starEach es X.env:=by rfl):PA X (e::es) (zBm te t):=by
 intro pos pins s σ H Q I h;rw [hs];show wpAny _ _ (spliced ((false,eval e X.env)::backTo pos (starEach es X.env))) _ _ s;refine Calls.spliced_cons (thn (ha pins s σ H _ I h) fun u s1 ⟨x,H1,I1,r1,q1⟩=>?_);exact thn (hr pos pins s1 σ H1 _ I1 q1) fun us s2 ⟨xs,H2,I2,r2,q2⟩=>⟨x::xs,H2,I2,.cons r1 r2,q2⟩
def tTup (t:TA):TE:=fun σ H Q=>t σ H fun xs H1=>xs.length≤sizeLine∧∀ p,H1 p=none→Q (.ref p) (upd H1 p (.tup xs))
def tLst (t:TA):TE:=fun σ H Q=>t σ H fun xs H1=>xs.length≤sizeLine∧∀ p,H1 p=none→Q (.ref p) (upd H1 p (.lst xs))
theorem pe_tup {x1} (h:PA X es t):PE X (.Tuple es x1 pos) (tTup t):=by
 intro pins s σ H Q I hq;refine wpAny_Tuple_spliced (thn (h pos pins s σ H _ I hq) fun us s1 ⟨xs,H1,I1,r,z,q⟩=>⟨by rw [← r.length]; exact z,?_⟩);have hf:H1 s1.heap.objs.size=none:=I1.hok.fresh (le_refl _);refine ⟨.ref s1.heap.objs.size,upd H1 s1.heap.objs.size (.tup xs),I1.laid (t':=s1.toks) (fun b u e=>get?_push_of_some _ e) (le_refl _) ?_,rfl,q _ hf⟩;exact ⟨z,us,r,⟨_,get?_push_size _ rfl,rfl,_,rfl⟩⟩
theorem pe_lst (h:PA X es t):PE X (.List es pos) (tLst t):=by
 intro pins s σ H Q I hq;refine wpAny_List_spliced (thn (h pos pins s σ H _ I hq) fun us s1 ⟨xs,H1,I1,r,z,q⟩=>⟨by rw [← r.length]; exact z,?_⟩);have hf:H1 s1.heap.objs.size=none:=I1.hok.fresh (le_refl _);refine ⟨.ref s1.heap.objs.size,upd H1 s1.heap.objs.size (.lst xs),I1.laid (t':=s1.toks) (fun b u e=>get?_push_of_some _ e) (le_refl _) ?_,rfl,q _ hf⟩;exact ⟨z,us,0,r,get?_push_size _ rfl⟩
end
abbrev Sp:=List V→Hp→VK→XK→Prop
abbrev CXT:=List Env→Hp→Shared→XK→Value→Shared→Prop
structure Env0 (P:Program) (w:World) (K:PySem.W.Frag) (mg:Str→Option Value) (base:Heap) (A:Around) (outer:List Env) (s:Shared) (H:Hp):Prop where
 frames:A.frames=some outer
 mod:Mod K mg base
 bs:∀ b o,base.get? b=some o→s.heap.get? b=some o∧H b=none
 bsz:base.objs.size≤s.heap.objs.size
 funs:s.heap.FunFrames base outer
 frf:∀ b∈frs outer,H b=none
 hok:HOk P w H s.heap
 bare:AllBare s.gens
def CE (outer:List Env) (P:Program) (w:World) (H:Hp) (s:Shared) (Q:VK) (u:Value) (s':Shared):Prop :=
 ∃ v H',s'.os=s.os∧AllBare s'.gens∧Un (frs outer) [] H H' s.heap s'.heap∧HOk P w H' s'.heap∧yK v u∧Q v H'
def CR (CX:CXT) (outer:List Env) (P:Program) (w:World) (H:Hp) (s:Shared) (Q:VK) (E:XK) (r:Result) (s':Shared):Prop :=
 match r with
 | .ok (.ret u)=>CE outer P w H s Q u s'
 | .ok _=>False
 | .error e=>CX outer H s E e s'
structure FnOk (P:Program) (w:World) (K:PySem.W.Frag) (mg:Str→Option Value) (base:Heap) (CX:CXT) (k:Nat) (f:Addr) (fd:FuncData) (ps:List Str) (sp:Sp):Prop where
 len:∀ vs H Q E,sp vs H Q E→vs.length=ps.length
 run:∀ (A:Around) (outer:List Env) (s:Shared) (H:Hp) (args:Args) (us:List Value) (vs:List V) (Q:VK) (E:XK),Room k A→Env0 P w K mg base A outer s H→BindsTo s fd args (ps.zip us)→z9 vs us→sp vs H Q E →
  codeAny (model P w) A (.call (.ref f) args) (CR CX outer P w H s Q E) s
theorem FnOk.mono {P:Program} {w:World} {K:PySem.W.Frag} {mg:Str→Option Value} {base:Heap} {CX:CXT} {j k:Nat} {f:Addr} {fd:FuncData} {ps:List Str} {sp:Sp} (F:FnOk P w K mg base CX j f fd ps sp) (h:j≤k) :
  FnOk P w K mg base CX k f fd ps sp:=⟨F.len,fun A outer s H args us vs Q E hr=>F.run A outer s H args us vs Q E (hr.mono h)⟩
theorem FnOk.imp {P:Program} {w:World} {K:PySem.W.Frag} {mg:Str→Option Value} {base:Heap} {CX:CXT} {k:Nat} {f:Addr} {fd:FuncData} {ps:List Str} {sp sp':Sp} (F:FnOk P w K mg base CX k f fd ps sp)
  (h:∀ vs H Q E,sp' vs H Q E→sp vs H Q E):FnOk P w K mg base CX k f fd ps sp' :=
 ⟨fun vs H Q E q=>F.len vs H Q E (h _ _ _ _ q),fun A outer s H args us vs Q E hr he hb hv hs=>F.run A outer s H args us vs Q E hr he hb hv (h _ _ _ _ hs)⟩
theorem Env0.in1 {P:Program} {w:World} {K:PySem.W.Frag} {mg:Str→Option Value} {base:Heap} {A:Around} {outer:List Env} {s:Shared} {H:Hp} (e:Env0 P w K mg base A outer s H) :
  Env0 P w K mg base A.in1 outer s H:=⟨e.frames,e.mod,e.bs,e.bsz,e.funs,e.frf,e.hok,e.bare⟩
section
variable {X:Cx} {pins:List (Addr × Obj)} {σ:St} {H:Hp} {s s':Shared}
theorem Inv.env0 (I:Inv X pins σ H s):Env0 X.prog X.w X.K X.mg X.base X.A X.stack s H :=
 ⟨I.ok.frames,I.ok.mod,I.bs,le_trans I.ok.bsz I.sz,I.stack,I.stkFree,I.hok,I.bare⟩
theorem Inv.after {Q:VK} {u:Value} (I:Inv X pins σ H s) (h:CE X.stack X.prog X.w H s Q u s'):EP X pins σ Q u s':=by
 obtain ⟨v,H',os,bare,un,hok,r,q⟩:=h;obtain ⟨hh,g,d,t,os'⟩:=s';obtain rfl:os'=s.os:=os;exact ⟨v,H',I.call (h':=hh) (g':=g) (d':=d) (t':=t) (ch:=[]) un hok bare (fun b z=>absurd z (by simp)),r,q⟩
end
def WN (K:PySem.W.Frag) (fd:FuncData) (ps:List Str) (ds:List Value):Prop :=
 ∀ (s:Shared) (us:List Value),K.In s.heap→(us++ds).length=ps.length→BindsTo s fd ⟨us,[]⟩ (ps.zip (us++ds))
theorem WN.all {K:PySem.W.Frag} {fd:FuncData} {ps:List Str} (h:∀ us:List Value,us.length=ps.length→bindArgs fd ⟨us,[]⟩=pure (ps.zip us)):WN K fd ps []:=fun s us _ hl=>by
 rw [append_nil] at hl ⊢;exact .of_eq (h us hl)
section
variable {X:Cx} {CX:CXT} {k:Nat} {f C:Addr} {fd:FuncData} {ps:List Str} {sp:Sp} {dvs:List V} {ds:List Value} {E:XK} {x m:Str} {p pos apos:Pos} {e o:Expr} {es:List Expr} {ta:TE} {t:TA}
structure Mk (K:PySem.W.Frag) (C f:Addr):Prop where
 makes:PySem.W.makesIn K C=true
 init:findIn K (.ref C) "__init__"=some (some (.ref f))
 fn:PySem.W.isFn K (.ref f)=true
 kp:keepIn K (.ref C)=true
end
section
variable {X:Cx} {CX:CXT} {k:Nat} {f C:Addr} {fd:FuncData} {ps ks:List Str} {sp:Sp} {E:XK} {x m:Str} {p pos apos kpos:Pos} {e o:Expr} {es:List Expr} {kws:List Keyword} {te ta:TE} {t tk:TA} {nm:Option Str}
structure KBinds (K:PySem.W.Frag) (fd:FuncData) (ps ks:List Str) (g:List Value→List Value→List Value) (gV:List V→List V→List V):Prop where
 to:∀ (s:Shared) (us ws:List Value),K.In s.heap→(g us ws).length=ps.length→BindsTo s fd ⟨us,ks.zip ws⟩ (ps.zip (g us ws))
 rel:∀ {vs:List V} {us:List Value} {zs:List V} {ws:List Value},z9 vs us→z9 zs ws→z9 (gV vs zs) (g us ws)
variable {g:List Value→List Value→List Value} {gV:List V→List V→List V}
end
structure FnScope (N P:List Str) (sc:Scope):Prop where
 kind:sc.kind=.function
 co:sc.isCoroutine=false
 gen:sc.isGenerator=false
 nd:N.Nodup
 pre:N.take P.length=P
 par:∀ x∈P,sc.names.lookup x=some .local∨sc.names.lookup x=some .cell
 nofree:∀ y∈sc.names,y.2≠.free
theorem Ge {kindOf:Str→Option NameKind} {x:Str}:∀ {binds:List (Str × Value)} {m:Str→Option Value},(∀ v,(x,v) ∉ binds)→bindL kindOf binds m x=m x
 | [],_,_=>rfl
 | (n,v)::r,m,h=>by
  unfold bindL;rw [Ge fun w hw=>h w (mem_cons_of_mem _ hw)];split
  ·have:x≠n:=by rintro rfl; exact h v mem_cons_self
   simp [this]
  ·rfl
theorem Gf {kindOf:Str→Option NameKind} {x:Str}:∀ {binds:List (Str × Value)} {m:Str→Option Value},(∀ v,(x,v) ∉ binds)→bindC kindOf binds m x=m x
 | [],_,_=>rfl
 | (n,v)::r,m,h=>by
  unfold bindC;rw [Gf fun w hw=>h w (mem_cons_of_mem _ hw)];split
  ·rfl
  ·have:x≠n:=by rintro rfl; exact h v mem_cons_self
   simp [this]
theorem Gg {kindOf:Str→Option NameKind} {x:Str} {v:Value}:∀ {P:List Str} {vs:List Value} {i:Nat} {m:Str→Option Value},P.Nodup→P[i]?=some x→vs[i]?=some v→kindOf x=some .local →
  bindL kindOf (P.zip vs) m x=some v
 | [],_,_,_,_,h,_,_=>by simp at h
 | _::_,[],_,_,_,_,h,_=>by simp at h
 | p::P,w::vs,0,m,nd,h1,h2,hk=>by
  simp at h1 h2; subst h1; subst h2
  show bindL kindOf ((p,w)::P.zip vs) m p=_
  unfold bindL;rw [Ge fun v hv=>(nodup_cons.mp nd).1 (of_mem_zip hv).1,if_pos hk];simp
 | p::P,w::vs,i+1,m,nd,h1,h2,hk=>by
  show bindL kindOf ((p,w)::P.zip vs) m x=_
  unfold bindL;exact Gg (i:=i) (nodup_cons.mp nd).2 (by simpa using h1) (by simpa using h2) hk
theorem Gh {kindOf:Str→Option NameKind} {x:Str} {v:Value}:∀ {P:List Str} {vs:List Value} {i:Nat} {m:Str→Option Value},P.Nodup→P[i]?=some x→vs[i]?=some v→kindOf x≠some .local →
  bindC kindOf (P.zip vs) m x=some v
 | [],_,_,_,_,h,_,_=>by simp at h
 | _::_,[],_,_,_,_,h,_=>by simp at h
 | p::P,w::vs,0,m,nd,h1,h2,hk=>by
  simp at h1 h2; subst h1; subst h2
  show bindC kindOf ((p,w)::P.zip vs) m p=_
  unfold bindC;rw [Gf fun v hv=>(nodup_cons.mp nd).1 (of_mem_zip hv).1,if_neg hk];simp
 | p::P,w::vs,i+1,m,nd,h1,h2,hk=>by
  show bindC kindOf ((p,w)::P.zip vs) m x=_
  unfold bindC;exact Gh (i:=i) (nodup_cons.mp nd).2 (by simpa using h1) (by simpa using h2) hk
def wD (N:List Str) (vs:List V):St:=vs.map some++replicate (N.length - vs.length) none
def zDg (CX:CXT) (P:Program) (w:World) (K:PySem.W.Frag) (mg:Str→Option Value) (base:Heap) (N:List Str) (qual:Str) (scope:Scope) (f:Addr) (cd:Value) (A:Around) (outer:List Env) (s:Shared) (H:Hp) (E:XK):Cx where
 prog:=P
 w:=w
 K:=K
 mg:=mg
 base:=base
 A:=A.deeper (envOfC qual scope s.heap.objs.size f cd)
 N:=N
 s₀:=s
 H₀:=H
 env:=envOfC qual scope s.heap.objs.size f cd
 outer:=outer
 stack:=envOfC qual scope s.heap.objs.size f cd::outer
 ex:=[]
 calm:=true
 fn:=fun _=>true
 pn:=[]
 xe:=fun e s'=>wpAny (model P w) (A.deeper (envOfC qual scope s.heap.objs.size f cd)) (leaving (envOfC qual scope s.heap.objs.size f cd) e) (fun _ s''=>CX outer H s E e s'') (fun e' s''=>CX outer H s E e' s'') s'
theorem zAO {sc:Scope} {n:Nat} {x:Str} (h:sc.names.lookup x=some .cell):∃ c,(cellsFrom n sc.names []).lookup x=some c:=by
 have q:=cellsFrom_some sc.names n [] (.inl h);exact Option.isSome_iff_exists.mp q
theorem Gi {CX:CXT} {P:Program} {w:World} {K:PySem.W.Frag} {mg:Str→Option Value} {base:Heap} {N ps:List Str} {qual:Str} {scope:Scope} {f:Addr} {cd:Value} {A:Around} {outer:List Env} {s s1:Shared} {H:Hp} {E:XK} {us:List Value} {vs:List V}
  (S:FnScope N ps scope) (hd:A.handled=none) (e0:Env0 P w K mg base A outer s H) (hl:vs.length=ps.length) (r:z9 vs us)
  (x:InCallC s s.heap.objs.size (bindL (envOfC qual scope s.heap.objs.size f cd).kindOf (ps.zip us) fun _=>none) (cellsFrom (s.heap.objs.size+1) scope.names []) (bindC (envOfC qual scope s.heap.objs.size f cd).kindOf (ps.zip us) fun _=>none) s1) :
  Inv (zDg CX P w K mg base N qual scope f cd A outer s H E) [] (wD N vs) H s1:=by
 have hpl:ps.length≤N.length:=by have:=congrArg List.length S.pre; rw [List.length_take] at this; omega
 obtain ⟨h1,tk,rfl,hk⟩:=x.done;have noA:∀ b:Addr,b ∉ (zDg CX P w K mg base N qual scope f cd A outer s H E).ex:=fun b z=>absurd (show b∈([]:List Addr) from z) (by simp)
 refine ⟨⟨e0.mod,S.kind,rfl,rfl,le_refl _,fun y z c h1 h2=>?_,fun y hy=>?_,fun y c _ h=>?_,fun _=>hd,Around.frames_deeper e0.frames,.inr ⟨rfl,rfl⟩,fun b z=>absurd z (noA b),e0.bs,e0.bsz,fun b _ _=>noA b,fun b z=>absurd z (noA b),e0.funs,e0.frf⟩,
  rfl,e0.bare,Un.kept hk,⟨_,x.toInCall.ns,fun i y v h1 h2 h3=>?_⟩,fun y c h=>⟨_,x.cell y c h⟩,e0.hok.fresh (le_refl _),fun y c h=>?_,fun p hp=>absurd (show p∈([]:List (Addr × Obj)) from hp) (by simp),e0.hok.kept hk,?_⟩
 ·exact name_of_addr x.apart (PySem.mem_of_lookup h1) (PySem.mem_of_lookup h2)
 ·have hy:scope.names.lookup y=some .cell∨scope.names.lookup y=some .free:=hy
  rcases hy with hy | hy
  ·exact zAO hy
  ·exact absurd rfl (S.nofree _ (PySem.mem_of_lookup hy))
 ·exact le_of_lt (x.above y c (PySem.mem_of_lookup h))
 ·have hi:i < vs.length:=by
   unfold wD at h2;by_cases hi:i < vs.length
   ·exact hi
   ·rw [List.getElem?_append_right (by simpa using hi)] at h2
    rw [List.getElem?_replicate] at h2;split at h2 <;> cases h2
  have ha:vs[i]?=some v:=by
   unfold wD at h2;rw [getElem?_append_left (by simpa using hi),getElem?_map] at h2;cases e:vs[i]? with
   | none=>rw [e] at h2; cases h2
   | some a=>rw [e] at h2; cases h2; rfl
  obtain ⟨u,hu,rv⟩:=r.get ha;have hp:ps[i]?=some y:=by
   rw [← S.pre,List.getElem?_take_of_lt (by omega)]; exact h1
  have ndP:ps.Nodup:=by rw [← S.pre]; exact S.nd.sublist (List.take_sublist _ _)
  refine ⟨u,rv,?_⟩;rcases S.par y (mem_of_getElem? hp) with k | k
  ·exact .inl ⟨k,Gg ndP hp hu k⟩
  ·obtain ⟨c,e⟩:=zAO (n:=s.heap.objs.size+1) k
   refine .inr ⟨.inl k,c,e,?_⟩;have q:=x.cell y c e;rw [Gh ndP hp hu (by show scope.names.lookup y≠_; rw [k]; decide)] at q;exact q
 ·exact e0.hok.fresh (le_of_lt (x.above y c (PySem.mem_of_lookup h)))
 ·unfold wD
  show _=N.length
  rw [length_append,length_map,List.length_replicate];omega
theorem fn_of {CX:CXT} {P:Program} {w:World} {K:PySem.W.Frag} {mg:Str→Option Value} {base:Heap} {k:Nat} {f:Addr} {name qual:Str} {params:Arguments} {body:List Stmt} {scope:Scope} {dV kV doc pm cdv ct oc:Value} {an od:Option Addr}
  {osl:Array (Option Value)} {N ps:List Str} {sp:Sp} (lk:K.lookup f=some ⟨oc,od,.func (fnOf name qual params body scope dV kV doc pm an cdv ct),osl⟩) (hcd:codeIn K cdv qual=true) (S:FnScope N ps scope)
  (len:∀ vs H Q E,sp vs H Q E→vs.length=ps.length)
  (hbody:∀ (A:Around) (outer:List Env) (s:Shared) (H:Hp) (vs:List V) (Q:VK) (E:XK),Room k (A.deeper (envOfC qual scope s.heap.objs.size f cdv))→sp vs H Q E →
   ∃ t,PSs (zDg CX P w K mg base N qual scope f cdv A outer s H E) body t∧t { nx:=fun _ H'=>Q .non H',rt:=Q } (wD N vs) H) :
  FnOk P w K mg base CX (k+1) f (fnOf name qual params body scope dV kV doc pm an cdv ct) ps sp:=by
 refine ⟨len,fun A outer s H args us vs Q E hr e0 hb r hsp=>?_⟩;have hl:=len _ _ _ _ hsp;have KX:K.In s.heap:=e0.mod.kin.keeps fun b o e=>(e0.bs b o e).1
 have lim:s.heap.NoLimit:=e0.mod.nolimit.keeps fun b o e=>(e0.bs b o e).1
 have hkind:∀ y∈ps.zip us,scope.names.lookup y.1=some .local∨(scope.names.lookup y.1=some .cell∧((cellsFrom (s.heap.objs.size+1) scope.names []).lookup y.1).isSome=true):=fun ⟨n,v⟩ hy=>by
  rcases S.par n (of_mem_zip hy).1 with q | q
  ·exact .inl q
  ·exact .inr ⟨q,cellsFrom_some _ _ _ (.inl q)⟩
 refine codeAny_call_function hr.depth (KX _ _ lk) rfl S.co S.gen rfl (codeRec_of KX hcd) (hb _ _ _ _ ?_);refine wpAny_newFunctionEnv_cells S.kind hkind fun env he s1 x=>?_
 subst he;refine ⟨lim.keeps x.toInCall.keep,codeAny_func ?_⟩;obtain ⟨t,ht,hq⟩:=hbody A outer s H vs Q E (hr.deeper _) hsp;have I:Inv (zDg CX P w K mg base N qual scope f cdv A outer s H E) [] (wD N vs) H s1:=Gi S hr.hd e0 hl r x;refine wpAny_mono (ht [] s1 (wD N vs) H _ I hq) (fun fl s' hs=>?_) fun e s' hs=>hs
 have fin:∀ {σ':St} {H':Hp} {v:V} {u:Value},Inv (zDg CX P w K mg base N qual scope f cdv A outer s H E) [] σ' H' s'→yK v u→Q v H'→CE outer P w H s Q u s' :=
  fun {σ' H' v u} J rv q=>⟨v,H',J.os,J.bare,J.base,J.hok,rv,q⟩
 cases fl with
 | ret u =>
  obtain ⟨v,σ',H',J,rv,q⟩:=hs;exact fin J rv q
 | next =>
  obtain ⟨σ',H',J,q⟩:=hs;exact fin (v:=V.non) (u:=Value.none) J rfl q
 | brk =>
  obtain ⟨_,_,_,q⟩:=hs;exact False.elim q
 | cont =>
  obtain ⟨_,_,_,q⟩:=hs;exact False.elim q
end L2
namespace L2
open PySem PySem.Spec PyProof.Rows
section
variable {X:Cx} {x:Str} {p pos:Pos} {e:Expr} {es:List Expr} {t:TA} {id T:String} {r:List V→Hp→VK→Prop}
def tCB (r:List V→Hp→VK→Prop) (t:TA):TE:=fun σ H Q=>t σ H fun vs H1=>r vs H1 Q
theorem uP (hc:jm X (.builtin id) r) (hg:Gl X x) (hm:X.mg x=none) (hv:bootBuiltins x=some (.builtin id)) (ha:PA X (e::es) t) (hn:x≠"__name__":=by decide) (hdb:(x == ("__debug__":Str))=false:=by decide)
  (he:starEach (e::es) X.env=(false,eval e X.env)::starEach es X.env:=by rfl) (hpl:(backTo pos (starEach es X.env)).any (·.1)=false:=by rfl):PE X (.Call (.Name x p) (e::es) [] pos) (tCB r t):=by
 intro pins s σ H Q I h;refine wpAny_Call_Name_kw (Ga I hg hm hv ?_ hn hdb);exact PyProof.Rows.callWith_builtin1 (thn (ha pos pins s σ H _ I h) fun us s1 ⟨vs,H1,I1,r1,q1⟩=>hc pins s1 σ H1 vs us Q I1 r1 q1) he hpl
theorem zBn (hc:jm X (.type T) r) (hg:Gl X x) (hm:X.mg x=none) (hv:bootBuiltins x=some (.type T)) (ha:PA X (e::es) t) (hn:x≠"__name__":=by decide) (hdb:(x == ("__debug__":Str))=false:=by decide)
  (he:starEach (e::es) X.env=(false,eval e X.env)::starEach es X.env:=by rfl) (hpl:(backTo pos (starEach es X.env)).any (·.1)=false:=by rfl):PE X (.Call (.Name x p) (e::es) [] pos) (tCB r t):=by
 intro pins s σ H Q I h;refine wpAny_Call_Name_kw (Ga I hg hm hv ?_ hn hdb);exact PyProof.Rows.callWith_type1 (thn (ha pos pins s σ H _ I h) fun us s1 ⟨vs,H1,I1,r1,q1⟩=>hc pins s1 σ H1 vs us Q I1 r1 q1) he hpl
end
end L2
namespace HT
open PySem PyProof.Rows
section
open PySem.SeqAt
open PySem.AutoSeq1 (wpAny_loadPart')
open PySem.MeetsSeq PySem.MeetsSeq2 PySem.MeetsSeq3
end
section
variable {prog:Program} {w:World} {A:Around} {E:Value→Shared→Prop} {s:Shared}
theorem cat_tup {t b:Addr} {vs ws:List Value} {Q:Value→Shared→Prop} (ht:IsTup s.heap t vs.toArray) (hb:IsTup s.heap b ws.toArray) (hv:vs≠[])
  (h1:ws=[]→Q (.ref t) s) (h2:ws≠[]→Q (.ref s.heap.objs.size) { s with heap:=s.heap.push { cls:=.type "tuple",data:=.seq (vs++ws).toArray } })
  (hsz:vs.length+ws.length≤sizeLine):wpAny (model prog w) A (binaryOp .Add (.ref t) (.ref b)) Q E s:=by
 obtain ⟨⟨cls,dd,data,sl⟩,ho,hc,n,hd⟩:=id ht;obtain ⟨⟨cls2,dd2,data2,sl2⟩,ho2,hc2,n2,hd2⟩:=id hb;simp only at hc hd hc2 hd2;subst hc hd hc2 hd2;have e:vs.toArray++ws.toArray=(vs++ws).toArray:=by simp
 by_cases hw:ws=[]
 ·exact concat_meets ⟨_,ho,rfl⟩ ⟨_,ho2,rfl⟩ noFill_tuple_add seq_tuple_add PySem.F.slot_tuple_add PySem.F.entry_tuple_add (PySem.F.args_tuple_add_2 _ _)
   (tuple_addW1 t b vs.toArray ws.toArray n n2 dd dd2 sl sl2 (by simpa using hv) (by simp [hw])) ⟨ho,ho2,h1 hw⟩
 ·refine concat_meets ⟨_,ho,rfl⟩ ⟨_,ho2,rfl⟩ noFill_tuple_add seq_tuple_add PySem.F.slot_tuple_add PySem.F.entry_tuple_add (PySem.F.args_tuple_add_2 _ _)
   (tuple_addW2 t b vs.toArray ws.toArray n n2 dd dd2 sl sl2 (by simpa using hv) (by simpa using hw) (by rw [size_toArray,size_toArray]; exact hsz)) ⟨ho,ho2,?_⟩
  rw [e];exact h2 hw
def sIx (n d:Nat):Option Int→Nat
 | none=>d
 | some v=>if v < 0 then (v+(n:Int)).toNat else min v.toNat n
theorem sIx_nat (n d k:Nat):sIx n d (some (k:Int))=min k n:=by
 show (if (k:Int) < 0 then ((k:Int)+(n:Int)).toNat else min (k:Int).toNat n)=min k n
 rw [if_neg (by omega),Int.toNat_natCast]
theorem sIx_le (n d:Nat) (hd:d≤n) (o:Option Int):sIx n d o≤n:=by
 cases o with
 | none=>exact hd
 | some v =>
  show (if v < 0 then (v+(n:Int)).toNat else min v.toNat n)≤n
  by_cases hv:v < 0
  ·rw [if_pos hv]; omega
  ·rw [if_neg hv]; exact Nat.min_le_right _ _
theorem zBo (v:Int) (n d:Nat):(if v < 0 then max (v+(n:Int)) 0 else min v (n:Int))=((sIx n d (some v):Nat):Int):=by
 show (if v < 0 then max (v+(n:Int)) 0 else min v (n:Int))=(((if v < 0 then (v+(n:Int)).toNat else min v.toNat n):Nat):Int)
 by_cases hv:v < 0
 ·simp only [if_pos hv]; omega
 ·simp only [if_neg hv]; omega
theorem zA6 (lo hi:Option Int) (n:Nat):Builtin.Slice.sliceAdjust lo hi 1 (n:Int)=(((sIx n 0 lo:Nat):Int),((sIx n n hi:Nat):Int)):=by
 have h1:¬ ((1:Int) < 0):=by omega
 unfold Builtin.Slice.sliceAdjust;simp only [h1,if_false];refine Prod.ext ?_ ?_
 ·cases lo with
  | none=>rfl
  | some v=>exact zBo v n 0
 ·cases hi with
  | none=>rfl
  | some v=>exact zBo v n n
theorem zA7 (i j:Nat):Builtin.Slice.slicePlaces (i:Int) (j:Int) 1=j - i:=by
 unfold Builtin.Slice.slicePlaces;have h1:(1:Int) > 0:=by omega
 simp only [h1,if_true,Int.ediv_one];split <;> omega
theorem ve {v:Value} {o:Option Int} {Q:Option Int→Shared→Prop} (p:IsPart v o) (h:Q o s):wpAny (model prog w) A (Builtin.Slice.slicePartIndex v) Q E s:=by
 cases p with
 | none=>exact slicePart_none h
 | int i t=>exact slicePart_int h
theorem sliceApplied_gen {sl:Addr} {vl vu:Value} {lo hi:Option Int} {n:Nat} {Q:Int × Int × Nat→Shared→Prop} (hs:s.heap.IsSliceOf sl vl vu .none) (pl:IsPart vl lo) (pu:IsPart vu hi)
  (h:Q (((sIx n 0 lo:Nat):Int),1,sIx n n hi - sIx n 0 lo) s):wpAny (model prog w) A (Builtin.Slice.sliceApplied (.ref sl) (pure (n:Int))) Q E s:=by
 obtain ⟨os,hos,hcs,hds⟩:=id hs;unfold Builtin.Slice.sliceApplied Builtin.Slice.sliceFields;refine wpAny_bind (wpAny_bind (wpAny_field hos hds (x:=vl) rfl (wpAny_bind (wpAny_field hos hds (x:=vu) rfl (wpAny_bind (wpAny_field hos hds (x:=.none) rfl (wpAny_pure ?_)))))));refine wpAny_bind (slicePart_none ?_);show wpAny _ _ (if ((1:Int) == 0)=true then _ else _) _ _ s;rw [if_neg (by decide)];refine wpAny_bind (ve pl (wpAny_bind (ve pu (wpAny_bind (wpAny_pure ?_)))));show wpAny _ _ (match Builtin.Slice.sliceAdjust lo hi 1 (n:Int) with | (lo,hi)=>pure (lo,(1:Int),Builtin.Slice.slicePlaces lo hi 1)) _ _ s
 rw [zA6 lo hi n];show wpAny _ _ (pure (((sIx n 0 lo:Nat):Int),(1:Int),Builtin.Slice.slicePlaces ((sIx n 0 lo:Nat):Int) ((sIx n n hi:Nat):Int) 1)) _ _ s;rw [zA7];exact wpAny_pure h
theorem zDh (xs:Array Value) (i k:Nat):((List.range k).filterMap fun (m:Nat)=>xs[((i:Int)+(m:Int) * 1).toNat]?).toArray=((xs.toList.drop i).take k).toArray:=by
 have e:(fun (m:Nat)=>xs[((i:Int)+(m:Int) * 1).toNat]?)=fun m=>xs[i+m]?:=by
  funext m
  have:((i:Int)+(m:Int) * 1).toNat=i+m:=by omega
  rw [this]
 rw [e];have:=pick_run xs i k;rw [List.filterMap_map] at this;have e2:((fun x=>xs[x]?) ∘ fun x=>i+x)=fun m=>xs[i+m]?:=rfl
 rw [e2] at this;rw [this]
theorem getItem_tuple_cut {t sl:Addr} {items:Array Value} {vl vu:Value} {lo hi:Option Int} {Q:Value→Shared→Prop} (ht:IsTup s.heap t items) (hs:s.heap.IsSliceOf sl vl vu .none) (pl:IsPart vl lo) (pu:IsPart vu hi)
  (hw:¬ (sIx items.size 0 lo=0∧sIx items.size items.size hi=items.size))
  (h:Q (.ref s.heap.objs.size) { s with heap:=s.heap.push { cls:=.type "tuple",data:=.seq ((items.toList.drop (sIx items.size 0 lo)).take (sIx items.size items.size hi - sIx items.size 0 lo)).toArray } })
  (hsz:items.size≤sizeLine):wpAny (model prog w) A (getItem (.ref t) (.ref sl)) Q E s:=by
 have htake:sizeOk (.seq ((items.toList.drop (sIx items.size 0 lo)).take (sIx items.size items.size hi - sIx items.size 0 lo)).toArray):=by
  show ((items.toList.drop (sIx items.size 0 lo)).take (sIx items.size items.size hi - sIx items.size 0 lo)).toArray.size≤sizeLine
  rw [size_toArray,List.length_take,length_drop,Array.length_toList];omega
 have hj:sIx items.size items.size hi≤items.size:=sIx_le _ _ (le_refl _) hi;obtain ⟨os,hos,hcs,hds⟩:=id hs;have hTs:s.TypeIs (.ref sl) "slice":=⟨os,hos,hcs⟩;unfold getItem
 try with_reducible refine wpAny_holding ?_
 first | refine wpAny_bind (wpAny_pure ?_) | skip
 refine wpAny_bind (wpAny_sequenceKey ht.typeIs (by decide) ?_);refine wpAny_bind (wpAny_callSpecial?_slot (name:=Str.ofString "__getitem__") ht.typeIs PyProof.Rows.slot_tuple_getitem
  (wpAny_call_entry PyProof.Rows.slot_tuple_getitem ht.typeIs entry_tuple_getitem ?_ (args_tuple_getitem _ _)))
 show wpAny _ _ (Builtin.Tuple.tupleItemsOf (.ref t) >>= _) _ _ s
 refine wpAny_bind (tupleItemsOf_ ht ?_);refine wpAny_bind (wpAny_typeOf hTs ?_);rw [if_pos (by decide)];refine wpAny_bind (sliceApplied_gen hs pl pu ?_);have hno:¬ ((((sIx items.size 0 lo:Nat):Int) == 0&&(1:Int) == 1&&(sIx items.size items.size hi - sIx items.size 0 lo) == items.size)=true):=by
  intro q;rw [Bool.and_eq_true,Bool.and_eq_true] at q;have q1:((sIx items.size 0 lo:Nat):Int)=0:=eq_of_beq q.1.1;have q2:sIx items.size items.size hi - sIx items.size 0 lo=items.size:=eq_of_beq q.2;exact hw ⟨by omega,by omega⟩
 show wpAny _ _ (if (((sIx items.size 0 lo:Nat):Int) == 0&&(1:Int) == 1&&(sIx items.size items.size hi - sIx items.size 0 lo) == items.size)=true then _ else _) _ _ s
 rw [if_neg hno,zDh]
 first
  | exact wpAny_bind (m:=Builtin.Tuple.tupleExact _) (wpAny_newObj_type (wpAny_pure ⟨_,rfl,wpAny_pure h⟩) htake)
  | exact wpAny_bind (m:=Builtin.Tuple.tupleExact _) (wpAny_newObj_type (wpAny_bind (wpAny_pure (wpAny_pure ⟨_,rfl,wpAny_pure h⟩))) htake)
  | exact wpAny_bind (wpAny_bind (m:=Builtin.Tuple.tupleExact _) (wpAny_newObj_type (wpAny_pure (wpAny_pure ⟨_,rfl,wpAny_pure h⟩)) htake))
  | exact wpAny_bind (wpAny_bind (m:=Builtin.Tuple.tupleExact _) (wpAny_newObj_type (wpAny_pure ⟨_,rfl,wpAny_pure h⟩) htake))
end
end HT
namespace L2
open PySem PySem.Spec PyProof.Rows
abbrev TO:=St→Hp→(Option Int→Hp→Prop)→Prop
def PO (X:Cx) (e:Option Expr) (t:TO):Prop :=
 ∀ (pins:List (Addr × Obj)) (s:Shared) (σ:St) (H:Hp) (Q:Option Int→Hp→Prop),Inv X pins σ H s→t σ H Q →
  wpAny (model X.prog X.w) X.A (evalPart e X.env) (fun u s'=>∃ o H',Inv X pins σ H' s'∧IsPart u o∧Q o H') X.xe s
def tNoPart:TO:=fun _ H Q=>Q none H
def tPart (t:TE):TO:=fun σ H Q=>t σ H fun x H1=>∃ i,x=.int i∧Q (some i) H1
section
variable {X:Cx} {e:Expr} {te:TE} {lo hi:Option Expr} {tl th:TO} {pos p2:Pos}
theorem po_none:PO X none tNoPart:=by
 intro pins s σ H Q I h;rw [evalPart_none];exact wpAny_pure ⟨none,H,I,.none,h⟩
theorem po_some (h:PE X e te):PO X (some e) (tPart te):=by
 intro pins s σ H Q I hw;rw [evalPart_some];refine thn (h pins s σ H _ I hw) fun u s1 ⟨x,H1,I1,r1,q1⟩=>?_
 obtain ⟨i,rfl,q⟩:=q1;obtain ⟨t,rfl⟩:=r1;exact ⟨some i,H1,I1,.int i t,q⟩
def SlR (X:Cx) (r:V→Option Int→Option Int→Hp→VK→Prop):Prop :=
 ∀ (pins:List (Addr × Obj)) (s:Shared) (σ:St) (H:Hp) (x:V) (v vl vu:Value) (lo hi:Option Int) (sl:Addr) (Q:VK),Inv X pins σ H s→yK x v→s.heap.IsSliceOf sl vl vu .none→IsPart vl lo→IsPart vu hi→r x lo hi H Q →
  ∃ T id,typeLookup (.type T) "__getitem__"=pure (some (.builtin id))∧s.TypeIs v T∧wpAny (model X.prog X.w) X.A (getItem v (.ref sl)) (EP X pins σ Q) X.xe s
theorem SlR.or {r r':V→Option Int→Option Int→Hp→VK→Prop} (h:SlR X r) (h':SlR X r'):SlR X (fun x lo hi H Q=>r x lo hi H Q∨r' x lo hi H Q):=by
 intro pins s σ H x v vl vu lo hi sl Q I rx hs pl pu q;rcases q with q | q
 ·exact h pins s σ H x v vl vu lo hi sl Q I rx hs pl pu q
 ·exact h' pins s σ H x v vl vu lo hi sl Q I rx hs pl pu q
def tSl (r:V→Option Int→Option Int→Hp→VK→Prop) (te:TE) (tl th:TO):TE:=fun σ H Q=>te σ H fun x H1=>tl σ H1 fun l H2=>th σ H2 fun u H3=>r x l u H3 Q
theorem zDi {r:V→Option Int→Option Int→Hp→VK→Prop} (hr:SlR X r) (he:PE X e te) (hl:PO X lo tl) (hu:PO X hi th):PE X (.Subscript e (.Slice lo hi none p2) pos) (tSl r te tl th):=by
 intro pins s σ H Q I h;refine Subscript_ (thn (he pins s σ H _ I h) fun v s1 ⟨x,H1,I1,r1,q1⟩=>?_);refine wpAny_Slice (thn (hl pins s1 σ H1 _ I1 q1) fun vl s2 ⟨l,H2,I2,pl,q2⟩=>thn (hu pins s2 σ H2 _ I2 q2) fun vu s3 ⟨u,H3,I3,pu,q3⟩=>?_);rw [evalPart_none];refine wpAny_pure ?_;have I4:Inv X pins σ H3 { s3 with heap:=s3.heap.push { cls:=.type "slice",data:=.fields #[vl,vu,.none] } }:=I3.kept (t':=s3.toks) fun b ob q=>get?_push_of_some _ q
 obtain ⟨T,id,hT,ht,hg⟩:=hr pins { s3 with heap:=s3.heap.push { cls:=.type "slice",data:=.fields #[vl,vu,.none] } } σ H3 x v vl vu l u s3.heap.objs.size Q I4 r1 (Heap.IsSliceOf.new ..) pl pu q3
 show wpAny (model X.prog X.w) X.A (subscriptTail e (.Slice lo hi none p2) v (.ref s3.heap.objs.size)) (EP X pins σ Q) X.xe { s3 with heap:=s3.heap.push { cls:=.type "slice",data:=.fields #[vl,vu,.none] } }
 exact tail_any (ops:=[.ref s3.heap.objs.size,v]) ht hT hg (by with_unfolding_all rfl)
def zDj (xs:List V) (lo hi:Option Int):List V:=(xs.drop (HT.sIx xs.length 0 lo)).take (HT.sIx xs.length xs.length hi - HT.sIx xs.length 0 lo)
theorem WO (xs:List V) (lo hi:Option Int):(zDj xs lo hi).length≤xs.length:=by
 unfold zDj;rw [List.length_take,length_drop];omega
def rSlT (K:PySem.W.Frag):V→Option Int→Option Int→Hp→VK→Prop:=fun x lo hi H Q=>∃ a xs,x=.ref a∧SqT K H a xs ∧
 ¬ (HT.sIx xs.length 0 lo=0∧HT.sIx xs.length xs.length hi=xs.length)∧∀ p,H p=none→Q (.ref p) (upd H p (.tup (zDj xs lo hi)))
theorem sl_tup:SlR X (rSlT X.K):=by
 intro pins s σ H x v vl vu lo hi sl Q I rx hs pl pu h;obtain ⟨a,xs,rfl,hx,hw,q⟩:=h;cases rx;obtain ⟨its,r,ht,hz⟩:=I.tuple hx;have hlen:its.toArray.size=xs.length:=by rw [size_toArray]; exact r.length.symm
 refine ⟨"tuple",_,PyProof.Rows.slot_tuple_getitem.lookup,ht.typeIs,?_⟩;refine HT.getItem_tuple_cut ht hs pl pu (by rw [hlen]; exact hw) ?_ (by rw [hlen]; exact hz);rw [hlen];refine ⟨.ref s.heap.objs.size,_,I.laid (t':=s.toks) (o:=.tup (zDj xs lo hi)) (fun b ob q=>get?_push_of_some _ q) (le_refl _) ?_,rfl,q _ (I.hok.fresh (le_refl _))⟩;exact ⟨le_trans (WO xs lo hi) hz,_,(r.drop (HT.sIx xs.length 0 lo)).take (HT.sIx xs.length xs.length hi - HT.sIx xs.length 0 lo),IsTup.new _ _⟩
def rCatT (K:PySem.W.Frag):R2:=fun x y H Q=>∃ a b xs ys,x=.ref a∧y=.ref b∧SqT K H a xs∧SqT K H b ys∧xs≠[]∧xs.length+ys.length≤sizeLine ∧
 (ys=[]→Q (.ref a) H)∧(ys≠[]→∀ p,H p=none→Q (.ref p) (upd H p (.tup (xs++ys))))
theorem z9.nil_iff {xs:List V} {us:List Value} (r:z9 xs us):us=[]↔xs=[]:=by
 cases r with
 | nil=>simp
 | cons _ _=>simp
theorem op_catT:OpR X (binaryOp .Add) (rCatT X.K):=by
 intro pins s σ H x y v u Q I rx ry h;obtain ⟨a,b,xs,ys,rfl,rfl,ha,hb,hx,hz,q1,q2⟩:=h;cases rx;cases ry;obtain ⟨its,r1,p1,_⟩:=I.tuple ha;obtain ⟨its2,r2,p2,_⟩:=I.tuple hb;refine HT.cat_tup p1 p2 (fun z=>hx (r1.nil_iff.mp z)) (fun z=>⟨.ref a,H,I,rfl,q1 (r2.nil_iff.mp z)⟩) (fun z=>?_) (by rw [← r1.length,← r2.length]; exact hz);refine ⟨.ref s.heap.objs.size,_,I.laid (t':=s.toks) (o:=.tup (xs++ys)) (fun b ob q=>get?_push_of_some _ q) (le_refl _) ?_,rfl,q2 (fun w=>z (r2.nil_iff.mpr w)) _ (I.hok.fresh (le_refl _))⟩;exact ⟨by rw [length_append]; exact hz,_,r1.append r2,IsTup.new _ _⟩
end
end L2
namespace L2
open PySem PySem.Spec PyProof.Rows
def ixN (n:Nat) (i:Int):Option Nat:=if 0≤i then (if i < n then some i.toNat else none) else if -(n:Int)≤i then some (i+n).toNat else none
def atI {α:Type} (xs:List α) (i:Int):Option α:=(ixN xs.length i).bind fun j=>xs[j]?
theorem zBp {n:Nat} {i:Int} {j:Nat} (h:ixN n i=some j):seqIndex? i n=some j∧j < n∧-(n:Int)≤i∧i < n:=by
 unfold ixN at h;by_cases h0:0≤i
 ·rw [if_pos h0] at h
  by_cases h1:i < n
  ·rw [if_pos h1] at h
   have e:i.toNat=j:=Option.some.inj h;exact ⟨by rw [seqIndex_of h0 h1,e],by omega,by omega,h1⟩
  ·rw [if_neg h1] at h; cases h
 ·rw [if_neg h0] at h
  by_cases h1:-(n:Int)≤i
  ·rw [if_pos h1] at h
   have e:(i+n).toNat=j:=Option.some.inj h;exact ⟨by rw [seqIndex_neg (by omega) h1,e],by omega,h1,by omega⟩
  ·rw [if_neg h1] at h; cases h
theorem zBq {α:Type} {xs:List α} {i:Int} {v:α} (h:atI xs i=some v):∃ j,seqIndex? i xs.length=some j∧xs[j]?=some v∧j < xs.length∧-(xs.length:Int)≤i∧i < xs.length:=by
 unfold atI at h;cases e:ixN xs.length i with
 | none=>rw [e] at h; cases h
 | some j =>
  rw [e] at h;obtain ⟨h1,h2,h3,h4⟩:=zBp e;exact ⟨j,h1,h,h2,h3,h4⟩
def uQ (b:Expr):Prop:=∀ o i,subscripted b false o i=operate [o,i] (getItem o i)
def IxR (X:Cx) (r:R2):Prop :=
 ∀ (value slice:Expr) (pins:List (Addr × Obj)) (s:Shared) (σ:St) (H:Hp) (x y:V) (v u:Value) (Q:VK),Inv X pins σ H s→yK x v→yK y u→r x y H Q →
  subscripted slice false v u=operate [v,u] (getItem v u)→wpAny (model X.prog X.w) X.A (subscriptTail value slice v u) (EP X pins σ Q) X.xe s
def MtR (X:Cx) (id:String) (r:V→List V→Hp→VK→Prop):Prop :=
 ∀ (pins:List (Addr × Obj)) (s:Shared) (σ:St) (H:Hp) (x:V) (xs:List V) (v:Value) (us:List Value) (Q:VK),Inv X pins σ H s→yK x v→z9 xs us→r x xs H Q →
  wpAny (model X.prog X.w) X.A (call (.builtin id) (v::us)) (EP X pins σ Q) X.xe s
section
variable {X:Cx} {a b:Expr} {ta tb:TE} {pos:Pos}
theorem IxR.or {r r':R2} (h:IxR X r) (h':IxR X r'):IxR X (fun x y H Q=>r x y H Q∨r' x y H Q):=by
 intro value slice pins s σ H x y v u Q I rx ry q hs;rcases q with q | q
 ·exact h value slice pins s σ H x y v u Q I rx ry q hs
 ·exact h' value slice pins s σ H x y v u Q I rx ry q hs
theorem MtR.or {id:String} {r r':V→List V→Hp→VK→Prop} (h:MtR X id r) (h':MtR X id r'):MtR X id (fun x xs H Q=>r x xs H Q∨r' x xs H Q):=by
 intro pins s σ H x xs v us Q I rx rs q;rcases q with q | q
 ·exact h pins s σ H x xs v us Q I rx rs q
 ·exact h' pins s σ H x xs v us Q I rx rs q
theorem pe_ix {r:R2} (hr:IxR X r) (ha:PE X a ta) (hb:PE X b tb) (hs:uQ b):PE X (.Subscript a b pos) (tOp r ta tb):=by
 intro pins s σ H Q I h;exact Subscript_ (binT ha hb I h fun v u s2 x y H2 I2 rx ry q=>hr a b pins s2 σ H2 x y v u Q I2 rx ry q (hs _ _))
def rIxL (K:PySem.W.Frag):R2:=fun x y H Q=>∃ p xs i v,x=.ref p∧y=.int i∧SqL K H p xs∧atI xs i=some v∧Q v H
def rIxT (K:PySem.W.Frag):R2:=fun x y H Q=>∃ p xs i v,x=.ref p∧y=.int i∧SqT K H p xs∧atI xs i=some v∧Q v H
theorem zBr:IxR X (rIxL X.K):=by
 intro value slice pins s σ H x y v u Q I rx ry h hs;obtain ⟨p,xs,i,z,rfl,rfl,hq,he,q⟩:=h;cases rx;obtain ⟨t,rfl⟩:=ry;obtain ⟨its,r,pl,hz⟩:=I.list hq;obtain ⟨j,h1,h2,h3,h4,h5⟩:=zBq he;obtain ⟨w,ew,rw'⟩:=r.get h2;have hl:=r.length;have hn:=zAN;have fin:EP X pins σ Q w s:=⟨z,H,I,rw',q⟩;by_cases h0:0≤i
 ·have hj:i.toNat=j:=by
   rw [seqIndex_of h0 h5] at h1;exact Option.some.inj h1
  exact item_listR pl.isList h0 (by omega) (by rw [hj]; simpa using ew) fin hs
 ·have hj:(i+(its.toArray.size:Int)).toNat=j:=by
   rw [seqIndex_neg (by omega) h4] at h1;rw [size_toArray,← hl];exact Option.some.inj h1
  exact subscriptTail_builtinR (x:=w) pl.isList.typeIs slot_list_getitem.lookup
   (wpAny_getItem_list_neg (Q:=fun r s'=>r=w∧EP X pins σ Q r s') pl.isList (by omega) (by rw [size_toArray] <;> omega) (by omega) (by rw [hj]; simpa using ew) ⟨rfl,fin⟩) hs
theorem ix_tup:IxR X (rIxT X.K):=by
 intro value slice pins s σ H x y v u Q I rx ry h hs;obtain ⟨p,xs,i,z,rfl,rfl,hq,he,q⟩:=h;cases rx;obtain ⟨t,rfl⟩:=ry;obtain ⟨its,r,pl,hz⟩:=I.tuple hq;obtain ⟨j,h1,h2,h3,h4,h5⟩:=zBq he;obtain ⟨w,ew,rw'⟩:=r.get h2;have hl:=r.length;have hn:=zAN;have fin:EP X pins σ Q w s:=⟨z,H,I,rw',q⟩;exact subscriptTail_builtinR (x:=w) pl.typeIs slot_tuple_getitem.lookup
  (getItem_tuple (j:=j) (Q:=fun r s'=>r=w∧EP X pins σ Q r s') pl (by omega) (by omega) (by rw [size_toArray,← hl]; exact h1) (by simpa using ew) ⟨rfl,fin⟩) hs
theorem zA8 (its:List Value) (n j:Nat) (u:Value):Obj.mapSeq (·.setIfInBounds j u) { cls:=.type "list",data:=.seq its.toArray n }={ cls:=.type "list",data:=.seq (its.set j u).toArray n }:=by
 simp [Obj.mapSeq]
theorem Inv.lst {pins:List (Addr × Obj)} {σ:St} {H:Hp} {s:Shared} {p:Addr} {xs:List V} (I:Inv X pins σ H s) (h:H p=some (.lst xs)) :
  ∃ (its:List Value) (n:Nat),z9 xs its∧s.heap.get? p=some { cls:=.type "list",data:=.seq its.toArray n }∧xs.length≤sizeLine:=by
 obtain ⟨z,its,n,r,e⟩:=I.hok p _ h;exact ⟨its,n,r,e,z⟩
theorem Inv.lstUpd {pins:List (Addr × Obj)} {σ:St} {H:Hp} {s:Shared} {p:Addr} {xs ys:List V} {its its':List Value} {n n':Nat} {f:Obj→Obj} (I:Inv X pins σ H s) (h:H p=some (.lst xs))
  (ho:s.heap.get? p=some { cls:=.type "list",data:=.seq its.toArray n }) (hf:f { cls:=.type "list",data:=.seq its.toArray n }={ cls:=.type "list",data:=.seq its'.toArray n' }) (r:z9 ys its') (hz:ys.length≤sizeLine) (t:Nat) :
  Inv X pins σ (upd H p (.lst ys)) { s with heap:=s.heap.update p f,toks:=t }:=by
 have e:(s.heap.update p f).get? p=some { cls:=.type "list",data:=.seq its'.toArray n' }:=by
  rw [Heap.get?_update_self f ho (by rw [hf] <;> rfl),hf]
 refine I.write (x:=p) (e:=p) (by rw [h]; trivial) (.inl rfl) (fun b u hb q=>(Heap.get?_update_other _ _ (Ne.symm hb)).trans q) ⟨_,e⟩ ?_;exact ⟨hz,its',n',r,e⟩
def rSetL:V→V→V→Hp→(Hp→Prop)→Prop:=fun o i v H Q=>∃ p xs k j,o=.ref p∧i=.int k∧H p=some (.lst xs)∧ixN xs.length k=some j∧Q (upd H p (.lst (xs.set j v)))
theorem zDk:PSet X rSetL:=by
 intro pins s σ H o i v ov iv u Q I ro ri rv h;obtain ⟨p,xs,k,j,rfl,rfl,hp,hj,q⟩:=h;cases ro;obtain ⟨t,rfl⟩:=ri;obtain ⟨its,n,r,ho,hz⟩:=I.lst hp;obtain ⟨h1,h2,h3,h4⟩:=zBp hj;have hl:=r.length;have hn:=zAN;have I':Inv X pins σ (upd H p (.lst (xs.set j v))) { s with heap:=s.heap.update p (Obj.mapSeq (·.setIfInBounds j u)) } :=
  I.lstUpd hp ho (zA8 its n j u) (r.set rv j) (by rw [List.length_set]; exact hz) s.toks
 by_cases h0:0≤k
 ·have hk:k.toNat=j:=by
   rw [seqIndex_of h0 h4] at h1;exact Option.some.inj h1
  exact PySem.W.ki_setAt ho h0 (by omega) (by rw [size_toArray,← hl]; exact h4) (by rw [hk]; exact ⟨_,I',q⟩)
 ·have hk:(k+(its.toArray.size:Int)).toNat=j:=by
   rw [seqIndex_neg (by omega) h3] at h1;rw [size_toArray,← hl];exact Option.some.inj h1
  exact PySem.W.ki_setBack ho (by omega) (by rw [size_toArray,← hl]; exact h3) (by omega) (by rw [hk]; exact ⟨_,I',q⟩)
theorem Gj (lo hi:Option Int) (n:Nat):(sliceBounds lo hi none n).1=((HT.sIx n 0 lo:Nat):Int)∧(sliceBounds lo hi none n).2.1=((HT.sIx n n hi:Nat):Int)∧(sliceBounds lo hi none n).2.2=1:=by
 refine ⟨?_,?_,rfl⟩
 ·cases lo with
  | none=>simp [sliceBounds,HT.sIx]
  | some i =>
   simp only [sliceBounds,HT.sIx,Option.getD_none,show (1:Int) > 0 by decide,if_true];by_cases h:i < 0
   ·simp only [h,if_true] <;> omega
   ·simp only [h,if_false] <;> omega
 ·cases hi with
  | none=>simp [sliceBounds,HT.sIx]
  | some i =>
   simp only [sliceBounds,HT.sIx,Option.getD_none,show (1:Int) > 0 by decide,if_true];by_cases h:i < 0
   ·simp only [h,if_true] <;> omega
   ·simp only [h,if_false] <;> omega
theorem uR (its:List Value) (lo hi:Option Int):slicePick its.toArray lo hi none=((its.drop (HT.sIx its.length 0 lo)).take (HT.sIx its.length its.length hi - HT.sIx its.length 0 lo)).toArray:=by
 obtain ⟨h1,h2,h3⟩:=Gj lo hi its.toArray.size;unfold slicePick;rw [h1,h2,h3];simp only [sliceRange_one,pick_run,size_toArray] <;> rfl
def rSlL (K:PySem.W.Frag):V→Option Int→Option Int→Hp→VK→Prop:=fun x lo hi H Q=>∃ a xs,x=.ref a∧SqL K H a xs∧∀ p,H p=none→Q (.ref p) (upd H p (.lst (zDj xs lo hi)))
theorem sl_list:SlR X (rSlL X.K):=by
 intro pins s σ H x v vl vu lo hi sl Q I rx hs pl pu h;obtain ⟨a,xs,rfl,hx,q⟩:=h;cases rx;obtain ⟨its,r,ht,hz⟩:=I.list hx;have hlen:=r.length;refine ⟨"list",_,slot_list_getitem.lookup,ht.isList.typeIs,?_⟩;refine wpAny_getItem_list_slice ht.isList hs pl pu .none (by simp) ?_ (by rw [size_toArray] <;> omega);rw [uR,← hlen];refine ⟨.ref s.heap.objs.size,_,I.laid (t':=s.toks) (o:=.lst (zDj xs lo hi)) (fun b ob q=>get?_push_of_some _ q) (le_refl _) ?_,rfl,q _ (I.hok.fresh (le_refl _))⟩;exact ⟨le_trans (WO xs lo hi) hz,_,0,(r.drop (HT.sIx xs.length 0 lo)).take (HT.sIx xs.length xs.length hi - HT.sIx xs.length 0 lo),get?_push_size _ rfl⟩
def JW:V→Bool
 | .non=>true
 | .bl _=>true
 | .int _=>true
 | .str _=>true
 | _=>false
def eqV:V→V→Bool
 | .non,.non=>true
 | .bl a,.bl b=>a == b
 | .bl a,.int b=>(if a then 1 else 0) == b
 | .int a,.bl b=>a == (if b then 1 else 0)
 | .int a,.int b=>a == b
 | .str a,.str b=>a == b
 | _,_=>false
theorem zBs {A:Around} {s:Shared} {y x:V} {u v:Value} (ry:yK y u) (rx:yK x v) (fy:JW y=true) (fx:JW x=true):SeqAt.EqAt A s u v (eqV y x):=by
 cases y with
 | non =>
  cases ry;cases x with
  | non=>cases rx; exact SeqAt.EqAt.same _
  | bl b=>cases rx; exact SeqAt.EqAt.none_bool b
  | int b=>obtain ⟨t,rfl⟩:=rx; exact SeqAt.EqAt.none_int b t
  | str b=>obtain ⟨t,rfl⟩:=rx; exact SeqAt.EqAt.none_str b t
  | _=>exact absurd (show false=true from fx) Bool.false_ne_true
 | bl a =>
  cases ry;cases x with
  | non=>cases rx; exact SeqAt.EqAt.bool_none a
  | bl b=>cases rx; exact SeqAt.EqAt.bool_bool a b
  | int b=>obtain ⟨t,rfl⟩:=rx; exact SeqAt.EqAt.bool_int a b t
  | str b=>obtain ⟨t,rfl⟩:=rx; exact SeqAt.EqAt.bool_str a b t
  | _=>exact absurd (show false=true from fx) Bool.false_ne_true
 | int a =>
  obtain ⟨t',rfl⟩:=ry;cases x with
  | non=>cases rx; exact SeqAt.EqAt.int_none a t'
  | bl b=>cases rx; exact SeqAt.EqAt.int_bool a t' b
  | int b=>obtain ⟨t,rfl⟩:=rx; exact SeqAt.EqAt.int_int a t' b t
  | str b=>obtain ⟨t,rfl⟩:=rx; exact SeqAt.EqAt.int_str a t' b t
  | _=>exact absurd (show false=true from fx) Bool.false_ne_true
 | str a =>
  obtain ⟨t',rfl⟩:=ry;cases x with
  | non=>cases rx; exact SeqAt.EqAt.str_none a t'
  | bl b=>cases rx; exact SeqAt.EqAt.str_bool a t' b
  | int b=>obtain ⟨t,rfl⟩:=rx; exact SeqAt.EqAt.str_int a t' b t
  | str b=>obtain ⟨t,rfl⟩:=rx; exact SeqAt.EqAt.str_str a t' b t
  | _=>exact absurd (show false=true from fx) Bool.false_ne_true
 | _=>exact absurd (show false=true from fy) Bool.false_ne_true
def eqU (x:V) (u:Value):Bool:=match u with
 | .none=>eqV .non x
 | .bool b=>eqV (.bl b) x
 | .int i _=>eqV (.int i) x
 | .str z _=>eqV (.str z) x
 | _=>false
theorem zEx {x y:V} {u:Value} (r:yK y u) (f:JW y=true):eqU x u=eqV y x:=by
 cases y with
 | non=>cases r; rfl
 | bl b=>cases r; rfl
 | int i=>obtain ⟨t,rfl⟩:=r; rfl
 | str z=>obtain ⟨t,rfl⟩:=r; rfl
 | _=>exact absurd (show false=true from f) Bool.false_ne_true
theorem WP {x:V}:∀ {xs:List V} {us:List Value},z9 xs us→xs.all JW=true→us.any (eqU x)=xs.any fun y=>eqV y x
 | _,_,.nil,_=>rfl
 | y::xs,u::us,.cons r t,f=>by
  rw [all_cons,Bool.and_eq_true] at f;rw [any_cons,any_cons,zEx r f.1,WP t f.2]
theorem YS {A:Around} {s:Shared} {x:V} {v:Value} (rx:yK x v) (fx:JW x=true):∀ {xs:List V} {us:List Value},z9 xs us→xs.all JW=true→∀ u∈us,SeqAt.EqAt A s u v (eqU x u)
 | _,_,.nil,_=>fun u hu=>by cases hu
 | y::xs,u::us,.cons r t,f=>fun u' hu=>by
  rw [all_cons,Bool.and_eq_true] at f;rcases mem_cons.mp hu with rfl | hu
  ·rw [zEx r f.1]; exact zBs r rx f.1 fx
  ·exact YS rx fx t f.2 u' hu
def inV (x:V) (xs:List V):Bool:=xs.any fun y=>eqV y x
def rIn (K:PySem.W.Frag) (neg:Bool):R2:=fun x y H Q=>∃ p xs,y=.ref p∧(SqL K H p xs∨SqT K H p xs)∧JW x=true∧xs.all JW=true∧Q (.bl (if neg then !inV x xs else inV x xs)) H
theorem Gm:OpR X (compareOp .In) (rIn X.K false):=by
 intro pins s σ H x y v u Q I rx ry h;obtain ⟨p,xs,rfl,hq,fx,fs,q⟩:=h;cases ry;rcases hq with hq | hq
 ·obtain ⟨its,r,pl,hz⟩:=I.list hq
  refine SeqAt.in_listAt (eqU x) pl.isList (fun w hw=>YS rx fx r fs w (by simpa using hw)) ⟨.bl _,H,I,rfl,?_⟩;rw [show its.toArray.any (eqU x)=its.any (eqU x) by simp,WP r fs];exact q
 ·obtain ⟨its,r,pl,hz⟩:=I.tuple hq
  refine SeqAt.in_tupleAt (eqU x) pl (fun w hw=>YS rx fx r fs w (by simpa using hw)) ⟨.bl _,H,I,rfl,?_⟩;rw [show its.toArray.any (eqU x)=its.any (eqU x) by simp,WP r fs];exact q
theorem ZR:OpR X (compareOp .NotIn) (rIn X.K true):=by
 intro pins s σ H x y v u Q I rx ry h;obtain ⟨p,xs,rfl,hq,fx,fs,q⟩:=h;cases ry;rcases hq with hq | hq
 ·obtain ⟨its,r,pl,hz⟩:=I.list hq
  refine SeqAt.notIn_listAt (eqU x) pl.isList (fun w hw=>YS rx fx r fs w (by simpa using hw)) ⟨.bl _,H,I,rfl,?_⟩;rw [show its.toArray.any (eqU x)=its.any (eqU x) by simp,WP r fs];exact q
 ·obtain ⟨its,r,pl,hz⟩:=I.tuple hq
  refine SeqAt.notIn_tupleAt (eqU x) pl (fun w hw=>YS rx fx r fs w (by simpa using hw)) ⟨.bl _,H,I,rfl,?_⟩;rw [show its.toArray.any (eqU x)=its.any (eqU x) by simp,WP r fs];exact q
theorem ZS:jm X (.builtin "len") (fun xs H Q=>∃ p ys,xs=[.ref p]∧(SqL X.K H p ys∨SqT X.K H p ys)∧Q (.int ys.length) H):=by
 intro pins s σ H xs us Q I r h;obtain ⟨p,ys,rfl,hq,q⟩:=h;obtain ⟨u,rfl,rx⟩:=vE r;cases rx;have hn:=zAN;rcases hq with hq | hq
 ·obtain ⟨its,r',pl,hz⟩:=I.list hq
  have hlen:=r'.length;exact Calls.call_len_list pl.isList (by simp only [size_toArray] <;> omega) ⟨.int ys.length,H,I.tok _,⟨s.toks+1,by rw [size_toArray,hlen]⟩,q⟩
 ·obtain ⟨its,r',pl,hz⟩:=I.tuple hq
  have hlen:=r'.length;exact len_tuple pl (by simp only [size_toArray] <;> omega) ⟨.int ys.length,H,I.tok _,⟨s.toks+1,by rw [size_toArray,hlen]⟩,q⟩
theorem jm.or {f:Value} {r r':List V→Hp→VK→Prop} (h:jm X f r) (h':jm X f r'):jm X f (fun xs H Q=>r xs H Q∨r' xs H Q):=by
 intro pins s σ H xs us Q I rs q;rcases q with q | q
 ·exact h pins s σ H xs us Q I rs q
 ·exact h' pins s σ H xs us Q I rs q
theorem Gn:jm X (.type "list") (fun xs H Q=>∃ p ys,xs=[.ref p]∧(SqL X.K H p ys∨SqT X.K H p ys)∧∀ l,H l=none→Q (.ref l) (upd H l (.lst ys))):=by
 intro pins s σ H xs us Q I r h;obtain ⟨p,ys,rfl,hq,q⟩:=h;obtain ⟨u,rfl,rx⟩:=vE r;cases rx;have fin:∀ (its:List Value),z9 ys its→ys.length≤sizeLine→∀ (h':Heap) (c':Nat),(∀ b o',s.heap.get? b=some o'→h'.get? b=some o') →
   h'.get? s.heap.objs.size=some { cls:=.type "list",dict:=none,data:=.seq its.toArray c',slots:=#[] }→EP X pins σ Q (.ref s.heap.objs.size) { s with heap:=h' }:=fun its r' hz h' c' kp e =>
  ⟨.ref s.heap.objs.size,_,I.laid (t':=s.toks) kp (le_refl _) (show ww X.prog X.w _ h' _ (.lst ys) from ⟨hz,its,c',r',e⟩),rfl,q _ (I.hok.fresh (le_refl _))⟩
 rcases hq with hq | hq
 ·obtain ⟨its,r',pl,hz⟩:=I.list hq
  have hlen:=r'.length;obtain ⟨o,ho,hc,n,hd⟩:=pl.isList;exact call_list_seq p (.inl rfl) ho hc hd (fun h' c' kp e=>fin its r' hz h' c' kp e) (by simp only [size_toArray] <;> omega)
 ·obtain ⟨its,r',pl,hz⟩:=I.tuple hq
  have hlen:=r'.length;obtain ⟨o,ho,hc,n,hd⟩:=pl;exact call_list_seq p (.inr rfl) ho hc hd (fun h' c' kp e=>fin its r' hz h' c' kp e) (by simp only [size_toArray] <;> omega)
theorem uS:jm X (.type "tuple") (fun xs H Q=>∃ p ys,xs=[.ref p]∧((SqL X.K H p ys∧∀ l,H l=none→Q (.ref l) (upd H l (.tup ys)))∨(SqT X.K H p ys∧Q (.ref p) H))):=by
 intro pins s σ H xs us Q I r h;obtain ⟨p,ys,rfl,h⟩:=h;obtain ⟨u,rfl,rx⟩:=vE r;cases rx;rcases h with ⟨hq,q⟩ | ⟨hq,q⟩
 ·obtain ⟨its,r',pl,hz⟩:=I.list hq
  have hlen:=r'.length;refine call_tuple_list pl.isList (fun h' kp=>?_) (by simp only [size_toArray] <;> omega);have I1:Inv X pins σ H { s with heap:=h' }:=I.kept (t':=s.toks) kp
  have I2:Inv X pins σ (upd H h'.objs.size (.tup ys)) { s with heap:=h'.push { cls:=.type "tuple",data:=.seq its.toArray } } :=
   I1.laid (t':=s.toks) (fun b o e=>get?_push_of_some _ e) (le_refl _) (show ww X.prog X.w _ _ _ (.tup ys) from ⟨hz,its,r',IsTup.new _ _⟩)
  exact ⟨.ref h'.objs.size,_,I2,rfl,q _ (I1.hok.fresh (le_refl _))⟩
 ·obtain ⟨its,r',pl,hz⟩:=I.tuple hq
  exact call_tuple_same pl ⟨.ref p,H,I,rfl,q⟩
def tyV (K:PySem.W.Frag) (T:String) (x:V) (H:Hp):Prop:=match x with
 | .str _=>T="str"
 | .int _=>T="int"
 | .ref p=>(T="list"∧∃ xs,SqL K H p xs)∨(T="tuple"∧∃ o,K.lookup p=some o∧o.cls=.type "tuple"∧o.dict=none) ∨
   (T="dict"∧((∃ kvs,H p=some (.dK kvs))∨∃ kvs,H p=some (.dT kvs)))∨(T="set"∧∃ S n,H p=some (.set S n))
 | _=>False
theorem tyV_is {pins:List (Addr × Obj)} {σ:St} {H:Hp} {s:Shared} {T:String} {x:V} {v:Value} (I:Inv X pins σ H s) (r:yK x v) (ty:tyV X.K T x H) :
  s.TypeIs v T∧∀ a,v=.ref a→∃ ob,s.heap.get? a=some ob∧ob.dict=none:=by
 cases x with
 | str z =>
  obtain ⟨t,rfl⟩:=r;cases (show T="str" from ty);exact ⟨typeIs_str s z t,fun _ e=>nomatch e⟩
 | int i =>
  obtain ⟨t,rfl⟩:=r;cases (show T="int" from ty);exact ⟨typeIs_int s i t,fun _ e=>nomatch e⟩
 | ref p =>
  cases r;rcases ty with ⟨rfl,xs,hq⟩ | ⟨rfl,o,hk,hc,hd⟩ | ⟨rfl,hk⟩ | ⟨rfl,S,n,hk⟩
  ·obtain ⟨its,_,pl,_⟩:=I.list hq
   refine ⟨pl.isList.typeIs,fun a e=>?_⟩;cases e;obtain ⟨o,n,e,c,hd,_⟩:=pl;exact ⟨o,e,hd⟩
  ·refine ⟨⟨o,I.kIn p o hk,hc⟩,fun a e=>?_⟩
   cases e;exact ⟨o,I.kIn _ o hk,hd⟩
  ·have z:∃ o,s.heap.get? p=some o∧o.ExactDict:=by
    rcases hk with ⟨kvs,hk⟩ | ⟨kvs,hk⟩
    ·obtain ⟨_,_,_,_,o,_,_,e,ex,_⟩:=I.hok p _ hk
     exact ⟨o,e,ex⟩
    ·obtain ⟨_,_,_,_,o,_,_,e,ex,_⟩:=I.hok p _ hk
     exact ⟨o,e,ex⟩
   obtain ⟨o,e,ex⟩:=z;refine ⟨⟨o,e,ex.1⟩,fun a e2=>?_⟩;cases e2;exact ⟨o,e,ex.2.1⟩
  ·obtain ⟨o,_,_,_,e,ex,_⟩:=I.hok p _ hk
   refine ⟨⟨o,e,ex.1⟩,fun a e2=>?_⟩;cases e2;exact ⟨o,e,ex.2.1⟩
 | _=>exact False.elim ty
def tBM (K:PySem.W.Frag) (T:String) (r:V→List V→Hp→VK→Prop) (to:TE) (t:TA):TE:=fun σ H Q=>to σ H fun x H1=>tyV K T x H1∧t σ H1 fun xs H2=>r x xs H2 Q
variable {o e:Expr} {es:List Expr} {to:TE} {t:TA} {name:Str} {apos cpos:Pos} {T id:String} {r:V→List V→Hp→VK→Prop}
theorem pe_bm (pa:PlainAttrs T) (slot:Slot T name id) (hty:typeOf (.builtin id)=pure (.type "method_descriptor")) (hm:MtR X id r) (ho:PE X o to) (ha:PA X (e::es) t)
  (hbase:attributeBase o name X.env (eval o X.env)=eval o X.env:=by rfl)
  (hfew:((backTo cpos (starEach (e::es) X.env)).all (fun x=>!x.1)&&(backToKw cpos (keywordEach [] X.env)).all (fun x=>x.1.isSome)
   && decide ((e::es).length+([]:List Keyword).length+(if ([]:List Keyword).isEmpty then 0 else 1) < 30))=true:=by rfl)
  (hline:(apos.endLine == cpos.line)=true:=by rfl) (hs:starEach (e::es) X.env=(false,eval e X.env)::starEach es X.env:=by rfl) (hplain:(backTo cpos (starEach es X.env)).any (·.1)=false:=by rfl) :
  PE X (.Call (.Attribute o name apos) (e::es) [] cpos) (tBM X.K T r to t):=by
 intro pins s σ H Q I h;refine wpAny_Call_method_late hbase hfew hline rfl (thn (ho pins s σ H _ I h) fun v s1 ⟨x,H1,I1,r1,ty,q1⟩=>?_);obtain ⟨h1,h2⟩:=tyV_is I1 r1 ty;refine ⟨T,id,pa,slot,hty,h1,h2,?_⟩;have hA:=ha cpos pins s1 σ H1 _ I1 q1;rw [hs] at hA ⊢;refine Calls.callWith_builtin (by show (false || (backTo cpos (starEach es X.env)).any (·.1))=false; rw [hplain] <;> rfl) (Calls.evalArgs_plain ?_);exact thn hA fun us s2 ⟨vs,H2,I2,r2,q2⟩=>hm pins s2 σ H2 x vs v us Q I2 r1 r2 q2
end
end L2
namespace L2
open PySem PySem.Spec PyProof.Rows
def MtM (X:Cx) (id:String) (r:V→List V→Hp→VK→Prop):Prop :=
 ∀ (pins:List (Addr × Obj)) (s:Shared) (σ:St) (H:Hp) (x:V) (xs:List V) (v:Value) (us:List Value) (Q:VK),Inv X pins σ H s→yK x v→z9 xs us→r x xs H Q →
  wpAny (model X.prog X.w) X.A (call (.builtin id) (v::us)) (EP X pins σ Q) X.xe s
theorem z9.one:∀ {x:V} {us:List Value},z9 [x] us→∃ u,us=[u]∧yK x u
 | _,_,.cons r .nil=>⟨_,rfl,r⟩
theorem z9.zero:∀ {us:List Value},z9 [] us→us=[]
 | _,.nil=>rfl
theorem z9.dropLast {xs:List V} {us:List Value} (h:z9 xs us):z9 xs.dropLast us.dropLast:=by
 induction h with
 | nil=>exact .nil
 | cons r t ih =>
  cases t with
  | nil=>exact .nil
  | cons q t'=>exact .cons r ih
theorem z9.eraseIdx:∀ {xs:List V} {us:List Value} (i:Nat),z9 xs us→z9 (xs.eraseIdx i) (us.eraseIdx i)
 | _,_,_,.nil=>.nil
 | _,_,0,.cons _ t=>t
 | _,_,i+1,.cons r t=>.cons r (z9.eraseIdx i t)
theorem z9.reverse {xs:List V} {us:List Value} (h:z9 xs us):z9 xs.reverse us.reverse:=by
 induction h with
 | nil=>exact .nil
 | cons r t ih=>rw [reverse_cons,reverse_cons]; exact z9.append ih (.cons r .nil)
theorem z9.rep {xs:List V} {us:List Value} (h:z9 xs us):∀ k:Nat,z9 (replicate k xs).flatten (replicate k us).flatten
 | 0=>.nil
 | k+1=>by
  rw [replicate_succ,replicate_succ,flatten_cons,flatten_cons];exact z9.append h (z9.rep h k)
theorem WQ (its:List Value):∀ (k:Nat) (acc:List Value),
  foldl (fun x1 x2=>x1++x2) acc.toArray (replicate k its.toArray)=(acc++(replicate k its).flatten).toArray
 | 0,acc=>by simp
 | k+1,acc=>by
  have e:acc.toArray++its.toArray=(acc++its).toArray:=by simp
  have e2:(acc++its)++(replicate k its).flatten=acc++(replicate (k+1) its).flatten:=by
   rw [replicate_succ,flatten_cons,append_assoc]
  rw [← e2,← WQ its k (acc++its),← e,replicate_succ,List.foldl_cons]
section
variable {X:Cx} {pins:List (Addr × Obj)} {σ:St} {H:Hp} {s:Shared} {l b:Addr} {xs ys zs:List V}
theorem Inv.lset {its its':List Value} {n:Nat} {f:Array Value→Array Value} {t':Nat} (I:Inv X pins σ H s) (hH:H l=some (.lst xs))
  (e:s.heap.get? l=some { cls:=.type "list",data:=.seq its.toArray n }) (hf:f its.toArray=its'.toArray) (hv:z9 ys its') (hz:ys.length≤sizeLine) :
  Inv X pins σ (upd H l (.lst ys)) { s with heap:=s.heap.update l (Obj.mapSeq f),toks:=t' }:=by
 have q:=PySem.IsL.update e f;rw [hf] at q;refine I.write (x:=l) (e:=l) (by rw [hH]; exact trivial) (.inl rfl) (fun b' u hb hu=>(Heap.get?_update_other s.heap (Obj.mapSeq f) (Ne.symm hb)).trans hu) ⟨_,q⟩ ?_;exact ⟨hz,its',_,hv,q⟩
theorem Inv.lnew {its:List Value} {t':Nat} (I:Inv X pins σ H s) (hv:z9 ys its) (hz:ys.length≤sizeLine) :
  Inv X pins σ (upd H s.heap.objs.size (.lst ys)) { s with heap:=s.heap.push { cls:=.type "list",data:=.seq its.toArray },toks:=t' } :=
 I.laid (fun _ _ q=>get?_push_of_some _ q) (le_refl _) ⟨hz,its,0,hv,get?_push_size _ rfl⟩
theorem Inv.fresh (I:Inv X pins σ H s):H s.heap.objs.size=none:=I.hok.fresh (le_refl _)
theorem Inv.lstM (I:Inv X pins σ H s) (hH:H l=some (.lst xs)):xs.length≤sizeLine∧∃ (its:List Value) (n:Nat),z9 xs its∧xs.length=its.length∧s.heap.get? l=some { cls:=.type "list",data:=.seq its.toArray n }:=by
 obtain ⟨z,its,n,r,e⟩:=I.hok l _ hH;exact ⟨z,its,n,r,r.length,e⟩
theorem zDl {n:Nat} (h:n≤sizeLine):Builtin.List.listTooLong n=false:=by
 unfold Builtin.List.listTooLong;exact decide_eq_false (by omega)
end
section
variable {X:Cx}
def zBt:V→List V→Hp→VK→Prop:=fun x vs H Q=>∃ l xs y,x=.ref l∧vs=[y]∧H l=some (.lst xs)∧xs.length < sizeLine∧Q .non (upd H l (.lst (xs++[y])))
theorem Go:MtM X "list.append" zBt:=by
 intro pins s σ H x vs v us Q I rx rv h;obtain ⟨l,xs,y,rfl,rfl,hH,hz,q⟩:=h;cases rx;obtain ⟨u,rfl,ru⟩:=rv.one;obtain ⟨z,its,n,r,hl,e⟩:=I.lstM hH;refine call_meets F.slot_list_append ⟨_,e,rfl⟩ F.entry_list_append (F.args_list_append_2 _ _) (PySem.list_append l its.toArray n u (by rw [size_toArray]; omega)) ⟨e,?_⟩;refine ⟨.non,_,I.lset (its':=its++[u]) hH e (by simp) (r.append (.cons ru .nil)) ?_,rfl,q⟩;rw [length_append,List.length_singleton];omega
theorem Qa {α:Type} (xs:List α) (k:Nat):(replicate k xs).flatten.length=k * xs.length:=by
 induction k with
 | zero=>simp
 | succ k ih=>rw [replicate_succ,flatten_cons,length_append,ih,Nat.succ_mul,add_comm]
end
section
variable {prog:Program} {w:World} {A:Around} {E:Value→Shared→Prop} {s:Shared}
end
section
variable {X:Cx}
end
end L2
namespace Att
open PySem PySem.W PySem.Calls PyProof.Rows
theorem WR {P:Params} {h:Heap}:∀ (ns:List Int) (vs:List Value),WellAll P h vs (ns.map WData.int)→IntsAre vs ns:=by
 intro ns
 induction ns with
 | nil =>
  intro vs w;rw [List.map_nil] at w;cases w;exact .nil
 | cons n ns ih =>
  intro vs w;rw [map_cons] at w;cases w with
  | cons a b =>
   cases a;exact .cons _ _ (ih _ b)
theorem zBu {l:OpenLaw} {n:Nat} (hn:l.most=some n) {P:Params} {h:Heap} {args:List WData} {vals:List Value}
  (hpre:l.row.toRowW.claim.pre args=true) (hwl:WellAll P h vals args) :
  ∃ a vs ns,vals=[Value.ref a]∧args=[WData.list (ns.map WData.int)]∧h.get? a=some { cls:=.type "list",data:=.seq vs.toArray }∧IntsAre vs ns∧ns.length≤n:=by
 have hsh:WShape.hasAll [] args [.list .int]=true:=(pre_splitW hpre).1;have hc:l.pre.holds [] { args:=args }=true:=(pre_splitW hpre).2;obtain ⟨d,r,rfl,h1,h2⟩:=hasAllW_cons hsh;obtain rfl:=hasAllW_nil h2;obtain ⟨xs,rfl,h3⟩:=hasW_list h1;obtain ⟨ns,rfl⟩:=items_int h3;have hlen:ns.length≤n:=by
  unfold OpenLaw.pre at hc;have h4:(WTm.not (.lt (.lit (.int (n:Int))) (.len (.arg 0)))).holds [] { args:=[.list (ns.map .int)] }=true:=by
   have h4:=(holds_andW hc).1;rw [hn] at h4;exact h4
  have h5:=condW_of h4 (w_not (w_lt w_lit (w_len_list (w_arg rfl))));rw [length_map] at h5;refine Nat.le_of_not_lt fun q=>?_
  have q':(n:Int) < ((ns.length:Nat):Int):=by omega
  first
   | (rw [decide_eq_true q'] at h5; exact absurd h5 (by decide))
   | (simp at h5; omega)
 cases hwl with
 | cons w1 w2 =>
  cases w2;cases w1 with
  | list ho hall=>exact ⟨_,_,ns,rfl,rfl,ho,WR ns _ hall,hlen⟩
theorem zBv (l:OpenLaw) (args:List WData):l.row.toRowW.claim.post args (.bool true) args=true :=
 postW_of (r:=l.row.toRowW) (X:=(true == true))
  (show WShape.has [] (.bool true) .bool=true by first | rfl | decide | simp [WShape.has,WShape.arms,WShape.armsAll])
  (show (WTm.eq .res (.lit (.bool true))).value [] { args:=args,res:=some (.bool true),after:=args }=some (.bool (true == true)) from w_eq_bool (w_res rfl) w_lit) rfl
theorem attach_call {l:OpenLaw} {n:Nat} {q:Program} {loose:List Str} {XP:(Str→Option Value)→Heap→Prop} {YP:World→Heap→Prop} {d:DefRec}
  (hn:l.most=some n) (hdf:d.params.defaults=[])
  (call:∀ (w:World) (s₀ s₁:Shared) (mg mb:Str→Option Value) (fa:Addr) (o:Obj) (pm cd doc:Value) (a:Addr) (vs:List Value) (ns:List Int),
   Ground q loose [] XP w s₀ mg mb s₁.heap→YP w s₁.heap →
   s₁.heap.get? fa=some o→o.data=.func (docDef d.name d.params d.body d.scope pm cd doc)→s₁.heap.CodeRec cd d.name→mg d.name=some (.ref fa) →
   s₁.heap.get? a=some { cls:=.type "list",data:=.seq vs.toArray }→IntsAre vs ns→ns.length≤n→s₁.gens=#[] →
   codeAny (model l.prog w) callerA (.call (.ref fa) ⟨[.ref a],[]⟩) (fun r s'=>r=.ok (.ret (.bool true))∧OldK s₁.heap s'.heap∧s'.os=s₁.os∧AllBare s'.gens) s₁) :
  WalkO q loose XP YP l.row.toRowW d [] (fun f vs=>PySem.call f vs):=by
 intro w s₀ s₁ mg mb G Y fa o pm cd doc dV kV ho hd hcd hD hmg hg args vals as hpre hlay hrd hwl hlo;obtain rfl:dV=.none:=Dflts.none hD hdf;obtain rfl:kV=.none:=Dflts.noKw hD;obtain ⟨a,vs,ns,rfl,rfl,hobj,hints,hlen⟩:=zBu hn hpre hwl;refine enter_call (codeAny_mono (call w s₀ s₁ mg mb fa o pm cd doc a vs ns G Y ho (fd_plain hd) hcd hmg hobj hints hlen hg) fun r s' hq=>?_);obtain ⟨rfl,h2,h3,h4⟩:=hq;exact ⟨.inl ⟨.bool true,.bool true,[],rfl,fun _=>rfl,.bool true,zBv l _,fun _=>⟨List.Pairwise.nil,fun _ hm=>(nomatch hm)⟩⟩,h2,h3,h4⟩
section
variable {prog:Program} {w:World} {A:Around} {E:Value→Shared→Prop} {s:Shared} {K:Frag}
end
end Att
namespace L2
open PySem PySem.Spec PyProof.Rows
theorem Gp:∀ {vs:List Value} {ns:List Int},IntsAre vs ns→z9 (ns.map V.int) vs
 | _,_,.nil=>.nil
 | _,_,.cons n t h=>.cons ⟨t,rfl⟩ (Gp h)
def Only (H:Hp):Prop:=∀ b,H b=none∨∃ o xs,H b=some (.frz o (.lst xs))
theorem zDm {P:Program} {w:World} {K:PySem.W.Frag} {mg mb:Str→Option Value} {CX:CXT} {k:Nat} {fa a:Addr} {fd:FuncData} {x:Str} {sp:Sp} {s₁:Shared} {vs:List Value} {ns:List Int}
  (KX:K.In s₁.heap) (hns:s₁.heap.Ns mainGlobals mg) (hb:s₁.heap.Ns builtinsNs mb) (hbb:∀ x:Str,x≠"__name__"→mb x=bootBuiltins x) (hlim:s₁.heap.NoLimit) (hg:s₁.gens=#[])
  (ha:s₁.heap.get? a=some { cls:=.type "list",data:=.seq vs.toArray }) (hi:IntsAre vs ns) (hl:ns.length≤sizeLine) (hr:Room k callerA)
  (F:∀ base:Heap,K.In base→base.Ns mainGlobals mg→FnOk P w K mg base CX k fa fd [x] sp) (hbind:∀ (s:Shared) (u:Value),BindsTo s fd ⟨[u],[]⟩ [(x,u)])
  (hsp:∀ H:Hp,Only H→SqL K H a (ns.map V.int)→sp [.ref a] H (fun v _=>v=.bl true) fun _ _ _=>False)
  (hCX:∀ H e s',CX [] H s₁ (fun _ _ _=>False) e s'→False) :
  codeAny (model P w) callerA (.call (.ref fa) ⟨[.ref a],[]⟩) (fun r s'=>r=.ok (.ret (.bool true))∧OldK s₁.heap s'.heap∧s'.os=s₁.os∧AllBare s'.gens) s₁:=by
 have rv:=Gp hi;have lenV:=hi.length
 -- from an abstract heap in which nothing but the script may be tracked
 have core:∀ H:Hp,Only H→SqL K H a (ns.map V.int)→HOk P w H s₁.heap→(∀ b,H b≠none→b=a)→(H a≠none→K.lookup a=none) →
   codeAny (model P w) callerA (.call (.ref fa) ⟨[.ref a],[]⟩) (fun r s'=>r=.ok (.ret (.bool true))∧OldK s₁.heap s'.heap∧s'.os=s₁.os∧AllBare s'.gens) s₁:=by
  intro H hO hS hok hA hK;have base_of:∀ {b:Addr} {o:Obj},s₁.heap.get? b=some o→H b=none→(zDV s₁.heap H).get? b=some o:=fun e n=>zDW e n
  have noA:∀ {b:Addr} {o:Obj} {es:Array DictEntry} {ep:Nat},s₁.heap.get? b=some o→o.data=.dict es ep→H b=none:=fun {b o es ep} e d=>by
   cases q:H b with
   | none=>rfl
   | some u =>
    have e':b=a:=hA b (by rw [q]; simp);subst e';rw [ha] at e; cases e;have d':Data.seq vs.toArray _=Data.dict es ep:=d;cases d'
  have nsK:∀ {b:Addr} {m:Str→Option Value},s₁.heap.Ns b m→(zDV s₁.heap H).Ns b m:=fun {b m} ⟨o,es,ep,e,d,r⟩=>⟨o,es,ep,base_of e (noA e d),d,r⟩
  have hKb:K.In (zDV s₁.heap H):=fun b o e=>base_of (KX b o e) (by
   cases q:H b with
   | none=>rfl
   | some u =>
    have e':b=a:=hA b (by rw [q]; simp);subst e';rw [hK (by rw [q]; simp)] at e; cases e)
  have hM:Mod K mg (zDV s₁.heap H):=⟨hKb,nsK hns,⟨mb,nsK hb,hbb⟩,let ⟨mc,h1,h2⟩:=hlim; ⟨mc,nsK h1,h2⟩⟩;have e0:Env0 P w K mg (zDV s₁.heap H) callerA [] s₁ H:=⟨rfl,hM,fun b o e=>of_hidT e,le_of_eq (zBW _ _),trivial,fun b hb=>absurd (show b∈([]:List Addr) from hb) (by simp),hok,.of_eq hg⟩;refine codeAny_mono ((F _ hKb (nsK hns)).run callerA [] s₁ H ⟨[.ref a],[]⟩ [.ref a] [.ref a] _ _ hr e0 (hbind s₁ (.ref a)) (.cons rfl .nil) (hsp H hO hS)) fun r s' h=>?_
  cases r with
  | error e=>exact (hCX H e s' h).elim
  | ok fl =>
   cases fl with
   | next=>exact False.elim h
   | brk=>exact False.elim h
   | cont=>exact False.elim h
   | ret u =>
    obtain ⟨v,H',os,bare,un,hok',r',q⟩:=h;have q':v=.bl true:=q;subst q';obtain rfl:u=Value.bool true:=r';refine ⟨rfl,OldK.of_keep fun b o e=>?_,os,bare⟩;cases q:H b with
    | none=>exact un.keep b o e q (by intro z; exact absurd (show b∈([]:List Addr) from z) (by simp)) (by simp)
    | some u =>
     rcases hO b with z | ⟨ob,xs,z⟩
     ·rw [q] at z; cases z
     ·have z2:=un.frzs b ob _ z
      obtain ⟨e1,_⟩:=hok b _ z;obtain ⟨e2,_⟩:=hok' b _ z2;rw [e] at e1; cases e1;exact e2
 cases hk:K.lookup a with
 | some o =>
  -- the script is one of the module's own objects
  have e:=KX a o hk;rw [ha] at e;cases e;refine core (fun _=>none) (fun _=>.inl rfl) (.inr ⟨_,vs.toArray,_,hk,rfl,rfl,rfl,by rw [size_toArray,lenV]; exact hl,by simpa using rv⟩) (fun b u z=>by have z':(none:Option HO)=some u:=z; cases z') (fun b z=>absurd rfl z) fun z=>absurd rfl z
 | none =>
  refine core (fun b=>if b=a then some (.frz { cls:=.type "list",data:=.seq vs.toArray } (.lst (ns.map V.int))) else none) (fun b=>?_) (.inl (.inr ⟨{ cls:=.type "list",data:=.seq vs.toArray },if_pos rfl⟩)) (fun b u z=>?_) (fun b z=>?_) fun _=>hk
  ·by_cases hb:b=a
   ·exact .inr ⟨_,_,if_pos hb⟩
   ·exact .inl (if_neg hb)
  ·by_cases hb:b=a
   ·have z':=(if_pos hb).symm.trans z
    cases z';subst hb;exact ⟨ha,by rw [length_map]; exact hl,vs,_,rv,ha⟩
   ·have z':=(if_neg hb).symm.trans z
    cases z'
  ·by_cases hb:b=a
   ·exact hb
   ·exact absurd (if_neg hb) z
end L2
namespace L2
open PySem PySem.Spec PyProof.Rows
end L2
namespace L2
open PySem PySem.Spec PyProof.Rows
abbrev CX0:CXT:=fun _ _ _ _ _ _=>False
abbrev E0:XK:=fun _ _ _=>False
structure Fun (K:PySem.W.Frag) (x qual:Str) (st:Stmt) (f:Addr) (fd:FuncData):Prop where
 ex:∃ (oc:Value) (od:Option Addr) (kV doc pm:Value) (an:Option Addr) (cdv ct:Value) (osl:Array (Option Value)),
  fd=fnOf x qual (Jw st) (jC st) (zd st) .none kV doc pm an cdv ct∧K.lookup f=some ⟨oc,od,.func fd,osl⟩∧codeIn K cdv qual=true
 kp:keepIn K (.ref f)=true
section
variable {P:Program} {w:World} {K:PySem.W.Frag} {mg:Str→Option Value} {base:Heap}
theorem Fun.ok {x qual:Str} {st:Stmt} {f:Addr} {fd:FuncData} {N ps:List Str} {k:Nat} {sp:Sp} (F:Fun K x qual st f fd) (S:FnScope N ps (zd st)) (len:∀ vs H Q E,sp vs H Q E→vs.length=ps.length)
  (hbody:∀ (cdv:Value) (A:Around) (outer:List Env) (s:Shared) (H:Hp) (vs:List V) (Q:VK) (E:XK),Room k (A.deeper (envOfC qual (zd st) s.heap.objs.size f cdv))→sp vs H Q E →
   ∃ t,PSs (zDg CX0 P w K mg base N qual (zd st) f cdv A outer s H E).nox (jC st) t∧t { nx:=fun _ H'=>Q .non H',rt:=Q } (wD N vs) H):FnOk P w K mg base CX0 (k+1) f fd ps sp:=by
 obtain ⟨oc,od,kV,doc,pm,an,cdv,ct,osl,rfl,lk,hcd⟩:=F.ex;refine fn_of lk hcd S len fun A outer s H vs Q E hr hsp=>?_
 obtain ⟨t,h,q⟩:=hbody cdv A outer s H vs Q E hr hsp;exact ⟨t,h.nox,q⟩
theorem Fun.binds {x qual:Str} {st:Stmt} {f:Addr} {fd:FuncData} {ps:List Str} (F:Fun K x qual st f fd)
  (h:∀ (kV doc pm:Value) (an:Option Addr) (cdv ct:Value) (us:List Value),us.length=ps.length→bindArgs (fnOf x qual (Jw st) (jC st) (zd st) .none kV doc pm an cdv ct) ⟨us,[]⟩=pure (ps.zip us)):WN K fd ps []:=by
 obtain ⟨oc,od,kV,doc,pm,an,cdv,ct,osl,rfl,lk,hcd⟩:=F.ex;exact .all (h kV doc pm an cdv ct)
theorem zEy {x qual:Str} {st:Stmt} {f:Addr} {oc:Value} {od an:Option Addr} {osl:Array (Option Value)} {kV doc pm cdv ct:Value} (l:K.lookup f=some ⟨oc,od,.func (fnOf x qual (Jw st) (jC st) (zd st) .none kV doc pm an cdv ct),osl⟩)
  (c:codeIn K cdv qual=true) (k:keepIn K (.ref f)=true):Fun K x qual st f (fnOf x qual (Jw st) (jC st) (zd st) .none kV doc pm an cdv ct):=⟨⟨oc,od,kV,doc,pm,an,cdv,ct,osl,rfl,l,c⟩,k⟩
end
section
variable {X:Cx}
end
theorem iteF {A B:Prop} (h:B):if false=true then A else B:=by
 rw [if_neg Bool.false_ne_true];exact h
theorem iteT {A B:Prop} (h:A):if true=true then A else B:=by
 rw [if_pos rfl];exact h
def Y1 (H H':Hp):Prop:=∀ b o,H b=some o→H' b=some o
theorem Y1.refl (H:Hp):Y1 H H:=fun _ _ h=>h
theorem Y1.trans {H H1 H2:Hp} (a:Y1 H H1) (b:Y1 H1 H2):Y1 H H2:=fun c o h=>b c o (a c o h)
theorem Y1.free {H H':Hp} (e:Y1 H H') {l:Addr} (h:H' l=Option.none):H l=Option.none:=by
 cases q:H l with
 | none=>rfl
 | some o =>
  rw [e l o q] at h;cases h
theorem Y1.seq {K:PySem.W.Frag} {H H':Hp} {a:Addr} {xs:List V} (e:Y1 H H') (h:SqL K H a xs):SqL K H' a xs:=by
 rcases h with (h | ⟨o,h⟩) | h
 ·exact .inl (.inl (e _ _ h))
 ·exact .inl (.inr ⟨o,e _ _ h⟩)
 ·exact .inr h
end L2
namespace DV
open PySem L2 PyProof.Rows
def ExO (C a:Addr):HO:=.ext fun h=>∃ o,h.get? a=some o∧o.cls=.ref C
theorem zDn {P:Program} {w:World} {H:Hp} {h:Heap} {a:Addr} {o:HO} (x:ww P w H h a o):∃ u,h.get? a=some u:=by
 cases o with
 | lst xs=>obtain ⟨_,_,_,_,e⟩:=x; exact ⟨_,e⟩
 | tup xs=>obtain ⟨_,_,_,o,e,_⟩:=x; exact ⟨_,e⟩
 | dK kvs=>obtain ⟨_,_,_,_,o,_,_,e,_⟩:=x; exact ⟨_,e⟩
 | dT kvs=>obtain ⟨_,_,_,_,o,_,_,e,_⟩:=x; exact ⟨_,e⟩
 | set S n=>obtain ⟨o,_,_,_,e,_⟩:=x; exact ⟨_,e⟩
 | ins C dx fs=>obtain ⟨_,_,_,e,_⟩:=x; exact ⟨_,e⟩
 | own y=>exact x
 | xd fs=>obtain ⟨_,⟨_,_,_,e,_⟩,_⟩:=x; exact ⟨_,e⟩
 | rng lo hi=>obtain ⟨_,_,_,e⟩:=x; exact ⟨_,e⟩
 | frz ob u=>obtain ⟨e,_⟩:=x; exact ⟨_,e⟩
 | tbl ps=>exact ⟨_,(show h.get? a=some _ from x)⟩
 | met f y=>exact ⟨_,(show h.get? a=some _ from x)⟩
 | ext φ=>obtain ⟨_,e,_⟩:=x; exact e
def zEz (B:Heap) (H:Hp) (g:Heap) (fs:List Addr) (h:Heap):Prop:=∀ b o,h.get? b=some o→((∃ o',g.get? b=some o')∨H b≠none)→b ∉ fs→B.get? b=some o
def Flies (l:List Env) (H:Hp) (g:Heap) (a C:Addr) (h:Heap):Prop:=∃ B t,Heap.FlyingW B l a (.ref C) (.ref t) h∧zEz B H g (frs l) h
def CXx (P:Program) (w:World):CXT:=fun outer H s E e s'=>∃ a C H',e=.ref a∧s'.os=s.os∧AllBare s'.gens∧Un (frs outer) [] H H' s.heap s'.heap∧HOk P w H' s'.heap∧H' a=none∧Flies outer H' s.heap a C s'.heap∧E (.ref C) none H'
section
variable {P:Program} {w:World} {fs:List Addr} {H H':Hp} {g h h' B:Heap} {L:Addr}
theorem un_on (u:Un fs [] H H' g h) (ok:HOk P w H' h) (kb:zEz B H' g (L::fs) h) (st:B.StaysIn h') (hL:g.get? L=none) (hf:∀ b∈fs,∀ o,h.get? b=some o→∃ sl,h'.get? b=some { o with slots:=sl }):Un fs [] H H' g h' where
 keep:=fun b o e n hb hx=>st b o (kb b o (u.keep b o e n hb hx) (.inl ⟨o,e⟩) fun z=>by
  rcases mem_cons.mp z with rfl | z
  ·rw [hL] at e; cases e
  ·exact hb z)
 slot:=fun b o e n hb hx=>by
  obtain ⟨sl,q⟩:=u.slot b o e n hb hx;obtain ⟨sl',q'⟩:=hf b hb _ q;exact ⟨sl',q'⟩
 free:=u.free
 there:=fun b o e hx=>by
  obtain ⟨o',q⟩:=u.there b o e hx;by_cases hb:b∈fs
  ·obtain ⟨sl,q'⟩:=hf b hb _ q; exact ⟨_,q'⟩
  ·exact ⟨o',st b o' (kb b o' q (.inl ⟨o,e⟩) fun z=>by
    rcases mem_cons.mp z with rfl | z
    ·rw [hL] at e; cases e
    ·exact hb z)⟩
 tups:=u.tups
 frzs:=u.frzs
 tbls:=u.tbls
theorem zE0 (ok:HOk P w H' h) (kb:zEz B H' g (L::fs) h) (st:B.StaysIn h') (hn:∀ b∈L::fs,H' b=none):HOk P w H' h':=fun a o e=>by
 refine (ok a o e).stay (fun b u hb q=>?_) (fun _ q=>q) fun _ _ q=>q
 have ht:H' b≠none:=by
  rcases hb with rfl | hb
  ·rw [e]; exact fun z=>by cases z
  ·rw [hb]; exact fun z=>by cases z
 exact st b u (kb b u q (.inr ht) fun z=>ht (hn b z))
theorem zBw (u:Un fs [] H H' g h) (ok:HOk P w H' h) (kb:zEz B H' g (L::fs) h) (st:B.StaysIn h') (hL:g.get? L=none) (hn:∀ b∈L::fs,H' b=none):zEz B H' g fs h':=fun b o e hb nf=>by
 have nL:b ∉ L::fs:=fun z=>by
  rcases mem_cons.mp z with rfl | z
  ·rcases hb with ⟨o',q⟩ | q
   ·rw [hL] at q; cases q
   ·exact q (hn _ (mem_cons_self))
  ·exact nf z
 have:∃ o1,h.get? b=some o1:=by
  rcases hb with ⟨o',q⟩ | q
  ·exact u.there b o' q (by simp)
  ·obtain ⟨x,hx⟩:=Option.ne_none_iff_exists'.mp q
   exact zDn (ok b x hx)
 obtain ⟨o1,q1⟩:=this;have q2:=kb b o1 q1 hb nL;have q3:=st b o1 q2;rw [e] at q3; cases q3;exact q2
end
section
variable {P:Program} {w:World} {K:PySem.W.Frag} {mg:Str→Option Value} {base:Heap} {N:List Str} {qual:Str} {scope:Scope} {f:Addr} {cd:Value} {A:Around} {outer:List Env} {s:Shared} {H:Hp} {E:XK}
abbrev cxC (c:Bool) (P:Program) (w:World) (K:PySem.W.Frag) (mg:Str→Option Value) (base:Heap) (N:List Str) (qual:Str) (scope:Scope) (f:Addr) (cd:Value) (A:Around) (outer:List Env) (s:Shared) (H:Hp) (E:XK):Cx :=
 { zDg (CXx P w) P w K mg base N qual scope f cd A outer s H E with calm:=c }
variable {c:Bool}
abbrev cxX (P:Program) (w:World) (K:PySem.W.Frag) (mg:Str→Option Value) (base:Heap) (N:List Str) (qual:Str) (scope:Scope) (f:Addr) (cd:Value) (A:Around) (outer:List Env) (s:Shared) (H:Hp) (E:XK):Cx :=
 zDg (CXx P w) P w K mg base N qual scope f cd A outer s H E
variable {pins:List (Addr × Obj)} {σ:L2.St} {H':Hp} {s' s1:Shared} {a C:Addr}
theorem Qb:frs (envOfC qual scope s.heap.objs.size f cd::outer)=s.heap.objs.size::frs outer:=rfl
theorem zA9 (I:Inv (cxC c P w K mg base N qual scope f cd A outer s H E) pins σ H' s') (u:Un (frs outer) [] H H' s.heap s'.heap) (hn:H' a=none)
  (hf:∃ B t,Heap.FlyingW B (cxC c P w K mg base N qual scope f cd A outer s H E).stack a (.ref C) (.ref t) s'.heap∧zEz B H' s.heap (frs (cxC c P w K mg base N qual scope f cd A outer s H E).stack) s'.heap) (hE:E (.ref C) none H') :
  (cxC c P w K mg base N qual scope f cd A outer s H E).xe (.ref a) s':=by
 obtain ⟨B,t,fl,kb⟩:=hf;have hL:s.heap.get? s.heap.objs.size=none:=Heap.get?_none_of_le (le_refl _);have hN:∀ b∈s.heap.objs.size::frs outer,H' b=none:=fun b hb=>I.stkFree b (by show b∈frs (envOfC qual scope s.heap.objs.size f cd::outer); rw [Qb]; exact hb)
 have kb':zEz B H' s.heap (s.heap.objs.size::frs outer) s'.heap:=kb;refine wpAny_leaves_onW (base:=B) I.ok.frames rfl fl fun h' fl' sl=>?_
 have st:B.StaysIn h':=fl'.1;have hfs:∀ b∈frs outer,∀ o,s'.heap.get? b=some o→∃ sl,h'.get? b=some { o with slots:=sl }:=fun b hb o e=>by
  obtain ⟨_,o',q,nd⟩:=I.funs.mem hb;rw [e] at q; cases q;exact sl b o e nd
 exact ⟨a,C,H',rfl,I.os,I.bare,un_on u I.hok kb' st hL hfs,zE0 I.hok kb' st hN,hn,⟨B,t,fl',zBw u I.hok kb' st hL hN⟩,hE⟩
theorem Qc (I:Inv (cxC c P w K mg base N qual scope f cd A outer s H E) pins σ H' s1) (hx:Heap.MadeExcOf s1.heap s'.heap a (.ref C) []) (hs:s'={ s1 with heap:=s'.heap }) (hn:H' a=none) (hE:E (.ref C) none H') :
  (cxC c P w K mg base N qual scope f cd A outer s H E).xe (.ref a) s':=by
 have u:Un (frs outer) [] H H' s.heap s1.heap:=I.base;have hL:s.heap.get? s.heap.objs.size=none:=Heap.get?_none_of_le (le_refl _);have hN:∀ b∈s.heap.objs.size::frs outer,H' b=none:=fun b hb=>I.stkFree b (by show b∈frs (envOfC qual scope s.heap.objs.size f cd::outer); rw [Qb]; exact hb)
 have kb:zEz (hideAll s1.heap (s.heap.objs.size::frs outer)) H' s.heap (s.heap.objs.size::frs outer) s1.heap:=fun b o e _ nf=>hideAll_get _ e nf
 have hin:∀ env∈(envOfC qual scope s.heap.objs.size f cd::outer),∀ b,env.frame=some b→b∈s.heap.objs.size::frs outer:=fun env he b hb=>by
  rw [← Qb (qual:=qual) (scope:=scope) (f:=f) (cd:=cd)];exact mem_filterMap.mpr ⟨env,he,hb⟩
 have hstk:s1.heap.FunFrames base (envOfC qual scope s.heap.objs.size f cd::outer):=I.stack;refine wpAny_leaves_madeW (base:=hideAll s1.heap (s.heap.objs.size::frs outer)) (h:=s1.heap) I.ok.frames rfl (fun b o q=>of_hideAll _ q) (PySem.W.funFrames_hide hstk hin) hx fun h' t x1 x2 x3 x4=>?_
 have st:=x1.1;have hfs:∀ b∈frs outer,∀ o,s1.heap.get? b=some o→∃ sl,h'.get? b=some { o with slots:=sl }:=fun b hb o e=>by
  obtain ⟨_,o',q,nd⟩:=I.funs.mem hb;rw [e] at q; cases q;exact x4 b o (hx.keeps b o e) nd
 have os:s'.os=s1.os:=by rw [hs]
 have ge:s'.gens=s1.gens:=by rw [hs]
 refine ⟨a,C,H',rfl,os.trans I.os,?_,un_on u I.hok kb st hL hfs,zE0 I.hok kb st hN,hn,⟨_,t,x1,zBw u I.hok kb st hL hN⟩,hE⟩;show AllBare s'.gens;rw [ge]; exact I.bare
end
end DV
namespace DV
open PySem L2 PyProof.Rows
structure RoomN (k:Nat) (A:Around):Prop where
 gd:A.guards=some []
 dp:A.depth+3 * k+5 < recursionLimit
 un:A.units+16 * k+200 < cLine
theorem RoomN.mono {j k:Nat} {A:Around} (r:RoomN k A) (h:j≤k):RoomN j A:=⟨r.gd,by have:=r.dp; omega,by have:=r.un; omega⟩
theorem RoomN.deeper {k:Nat} {A:Around} (r:RoomN (k+1) A) (env:Env):RoomN k (A.deeper env) :=
 ⟨r.gd,by have:=r.dp; show A.depth+1+3 * k+5 < _; omega,by have:=r.un; show A.units+3+16 * k+200 < _; omega⟩
theorem RoomN.depth {k:Nat} {A:Around} (r:RoomN k A):A.depth < recursionLimit:=by have:=r.dp; omega
theorem RoomN.room {k:Nat} {A:Around} (r:RoomN k A) (h:A.handled=none):Room k A:=⟨h,r.gd,r.dp,r.un⟩
theorem zDo {k:Nat} {A:Around} (r:Room k A):RoomN k A:=⟨r.gd,r.dp,r.un⟩
section
variable {X:Cx} {pins:List (Addr × Obj)} {σ:L2.St} {H:Hp} {s:Shared}
theorem vf (I:Inv X pins σ H s) (A':Around) (c:Bool) (E:Value→Shared→Prop) (hd:c=true→A'.handled=none) (fr:A'.frames=some X.stack):Inv { X with A:=A',calm:=c,xe:=E } pins σ H s :=
 ⟨⟨I.ok.mod,I.ok.kind,I.ok.glob,I.ok.blt,I.ok.above,I.ok.inj,I.ok.has,I.ok.cab,hd,fr,I.ok.stk,I.ok.exf,I.ok.bs,I.ok.bsz,I.ok.noex,I.ok.exfs,I.ok.funs,I.ok.frf⟩,I.os,I.bare,I.base,I.loc,I.cell,I.free,I.freeC,I.pin,I.hok,I.len⟩
end
abbrev cxN (c:Bool) (P:Program) (w:World) (K:PySem.W.Frag) (mg:Str→Option Value) (base:Heap) (N:List Str) (qual:Str) (scope:Scope) (f:Addr) (cd:Value) (A:Around) (outer:List Env) (s:Shared) (H:Hp) (E:XK):Cx :=
 cxC c P w K mg base N qual scope f cd A outer s H E
structure FnOkN (c:Bool) (P:Program) (w:World) (K:PySem.W.Frag) (mg:Str→Option Value) (base:Heap) (k:Nat) (f:Addr) (fd:FuncData) (ps:List Str) (sp:Sp):Prop where
 len:∀ vs H Q E,sp vs H Q E→vs.length=ps.length
 run:∀ (A:Around) (outer:List Env) (s:Shared) (H:Hp) (args:Args) (us:List Value) (vs:List V) (Q:VK) (E:XK),(c=true→A.handled=none)→RoomN k A→Env0 P w K mg base A outer s H→BindsTo s fd args (ps.zip us)→z9 vs us→sp vs H Q E →
  codeAny (model P w) A (.call (.ref f) args) (CR (CXx P w) outer P w H s Q E) s
section
variable {c:Bool} {P:Program} {w:World} {K:PySem.W.Frag} {mg:Str→Option Value} {base:Heap}
theorem FnOkN.mono {j k:Nat} {f:Addr} {fd:FuncData} {ps:List Str} {sp:Sp} (F:FnOkN c P w K mg base j f fd ps sp) (h:j≤k):FnOkN c P w K mg base k f fd ps sp :=
 ⟨F.len,fun A outer s H args us vs Q E hd hr=>F.run A outer s H args us vs Q E hd (hr.mono h)⟩
theorem FnOkN.fn {k:Nat} {f:Addr} {fd:FuncData} {ps:List Str} {sp:Sp} (F:FnOkN c P w K mg base k f fd ps sp):FnOk P w K mg base (CXx P w) k f fd ps sp :=
 ⟨F.len,fun A outer s H args us vs Q E hr=>F.run A outer s H args us vs Q E (fun _=>hr.hd) (zDo hr)⟩
theorem fn_ofN {k:Nat} {f:Addr} {name qual:Str} {params:Arguments} {body:List Stmt} {scope:Scope} {dV kV doc pm cdv ct oc:Value} {an od:Option Addr}
  {osl:Array (Option Value)} {N ps:List Str} {sp:Sp} (lk:K.lookup f=some ⟨oc,od,.func (fnOf name qual params body scope dV kV doc pm an cdv ct),osl⟩) (hcd:codeIn K cdv qual=true) (S:FnScope N ps scope)
  (len:∀ vs H Q E,sp vs H Q E→vs.length=ps.length)
  (hbody:∀ (A:Around) (outer:List Env) (s:Shared) (H:Hp) (vs:List V) (Q:VK) (E:XK),(c=true→A.handled=none)→RoomN k (A.deeper (envOfC qual scope s.heap.objs.size f cdv))→sp vs H Q E →
   ∃ t,PSs (cxN c P w K mg base N qual scope f cdv A outer s H E) body t∧t { nx:=fun _ H'=>Q .non H',rt:=Q } (wD N vs) H) :
  FnOkN c P w K mg base (k+1) f (fnOf name qual params body scope dV kV doc pm an cdv ct) ps sp:=by
 refine ⟨len,fun A outer s H args us vs Q E hd hr e0 hb r hsp=>?_⟩;have hl:=len _ _ _ _ hsp;have KX:K.In s.heap:=e0.mod.kin.keeps fun b o e=>(e0.bs b o e).1
 have lim:s.heap.NoLimit:=e0.mod.nolimit.keeps fun b o e=>(e0.bs b o e).1
 have hkind:∀ y∈ps.zip us,scope.names.lookup y.1=some .local∨(scope.names.lookup y.1=some .cell∧((cellsFrom (s.heap.objs.size+1) scope.names []).lookup y.1).isSome=true):=fun ⟨n,v⟩ hy=>by
  rcases S.par n (of_mem_zip hy).1 with q | q
  ·exact .inl q
  ·exact .inr ⟨q,cellsFrom_some _ _ _ (.inl q)⟩
 refine codeAny_call_function hr.depth (KX _ _ lk) rfl S.co S.gen rfl (codeRec_of KX hcd) (hb _ _ _ _ ?_);refine wpAny_newFunctionEnv_cells S.kind hkind fun env he s1 x=>?_
 subst he;refine ⟨lim.keeps x.toInCall.keep,codeAny_func ?_⟩;obtain ⟨t,ht,hq⟩:=hbody A outer s H vs Q E hd (hr.deeper _) hsp;have e1:Env0 P w K mg base { A with handled:=none } outer s H:=⟨e0.frames,e0.mod,e0.bs,e0.bsz,e0.funs,e0.frf,e0.hok,e0.bare⟩
 have I0:Inv (zDg (CXx P w) P w K mg base N qual scope f cdv { A with handled:=none } outer s H E) [] (wD N vs) H s1:=Gi S rfl e1 hl r x
 have I:Inv (cxN c P w K mg base N qual scope f cdv A outer s H E) [] (wD N vs) H s1:=vf I0 (A.deeper (envOfC qual scope s.heap.objs.size f cdv)) c _ hd (Around.frames_deeper e0.frames);refine wpAny_mono (ht [] s1 (wD N vs) H _ I hq) (fun fl s' hs=>?_) fun e s' hs=>hs
 have fin:∀ {σ':L2.St} {H':Hp} {v:V} {u:Value},Inv (cxN c P w K mg base N qual scope f cdv A outer s H E) [] σ' H' s'→yK v u→Q v H'→CE outer P w H s Q u s' :=
  fun {σ' H' v u} J rv q=>⟨v,H',J.os,J.bare,J.base,J.hok,rv,q⟩
 cases fl with
 | ret u =>
  obtain ⟨v,σ',H',J,rv,q⟩:=hs;exact fin J rv q
 | next =>
  obtain ⟨σ',H',J,q⟩:=hs;exact fin (v:=V.non) (u:=Value.none) J rfl q
 | brk =>
  obtain ⟨_,_,_,q⟩:=hs;exact False.elim q
 | cont =>
  obtain ⟨_,_,_,q⟩:=hs;exact False.elim q
end
structure Exn where
 cls:Str
 made:Bool
 deriving Inhabited
def RelX (X:Cx) (pins:List (Addr × Obj)) (σ:L2.St) (x:Exn) (H:Hp) (e:Value) (s:Shared):Prop:=∃ a C,e=.ref a∧X.mg x.cls=some (.ref C)∧H a=none ∧
 ((x.made=true∧∃ s1,Inv X pins σ H s1∧s={ s1 with heap:=s.heap }∧Heap.MadeExcOf s1.heap s.heap a (.ref C) []) ∨
  (x.made=false∧∃ sc Hc,Inv X pins σ Hc sc∧Un (frs X.stack) [] Hc H sc.heap s.heap∧Flies X.stack H sc.heap a C s.heap))
def XE (X:Cx) (σ:L2.St) (H:Hp) (x:Exn):Prop:=∀ (pins:List (Addr × Obj)) (s:Shared) (e:Value),Inv X pins σ H s→RelX X pins σ x H e s→X.xe e s
def EX (X:Cx) (σ:L2.St):XK:=fun c _ H'=>∃ x C,c=.ref C∧X.mg x.cls=some (.ref C)∧x.made=false∧XE X σ H' x
section
variable {X:Cx} {pins:List (Addr × Obj)} {σ:L2.St} {H:Hp} {s s':Shared} {e:Value}
theorem pass_x (I:Inv X pins σ H s) (h:CXx X.prog X.w X.stack H s (EX X σ) e s'):X.xe e s':=by
 obtain ⟨a,C,H',rfl,os,bare,un,hok,hn,fl,x,C',ec,hm,hmd,k⟩:=h;cases ec;have I':Inv X pins σ H' s':=I.call' (ch:=[]) os un hok bare (fun b z=>absurd z (by simp));exact k pins s' _ I' ⟨a,C,rfl,hm,hn,.inr ⟨hmd,s,H,I,un,fl⟩⟩
theorem run_fnN {c:Bool} {k:Nat} {f:Addr} {fd:FuncData} {ps:List Str} {sp:Sp} {Q:VK} {us:List Value} {vs:List V} (F:FnOkN c X.prog X.w X.K X.mg X.base k f fd ps sp) (hd:c=true→X.A.handled=none) (hr:RoomN k X.A) (hb:WN X.K fd ps [])
  (I:Inv X pins σ H s) (r:z9 vs us) (h:sp vs H Q (EX X σ)):wpAny (model X.prog X.w) X.A (call (.ref f) us) (EP X pins σ Q) X.xe s:=by
 have hl:us.length=ps.length:=by rw [← r.length]; exact F.len _ _ _ _ h
 have hbd:=hb s us I.kIn (by rw [append_nil]; exact hl);rw [append_nil] at hbd;refine wpAny_call (codeAny_mono (F.run X.A X.stack s H ⟨us,[]⟩ us vs Q (EX X σ) hd hr I.env0 hbd r h) fun r s' hq=>?_);cases r with
 | error e=>exact pass_x I hq
 | ok fl =>
  cases fl with
  | ret u=>exact I.after hq
  | next=>exact False.elim hq
  | brk=>exact False.elim hq
  | cont=>exact False.elim hq
end
section
variable {X:Cx} {c:Bool} {k:Nat} {f:Addr} {fd:FuncData} {ps:List Str} {sp:Sp} {x:Str} {p pos:Pos} {e:Expr} {es:List Expr} {t:TA}
theorem zDp (F:FnOkN c X.prog X.w X.K X.mg X.base k f fd ps sp) (hdl:c=true→X.A.handled=none) (hr:RoomN k X.A) (hg:Gl X x) (hm:X.mg x=some (.ref f)) (hk:keepIn X.K (.ref f)=true) (hb:WN X.K fd ps [])
  (ha:PA X (e::es) t) (hdb:(x == ("__debug__":Str))=false:=by decide) (he:starEach (e::es) X.env=(false,eval e X.env)::starEach es X.env:=by rfl) (hpl:(backTo pos (starEach es X.env)).any (·.1)=false:=by rfl) :
  PE X (.Call (.Name x p) (e::es) [] pos) (fun σ H Q=>t σ H fun vs H1=>sp vs H1 Q (EX X σ)):=by
 intro pins s σ H Q I h;refine wpAny_Call_Name_kw (zBX I hg hm ?_ hdb);refine PySem.W.callWith_K (h₀:=X.base) I.ok.mod.kin hk (thn (ha pos pins s σ H _ I h) fun us s1 ⟨vs,H1,I1,r,q⟩=>⟨I1.kIn,?_⟩) he hpl;exact run_fnN F hdl hr hb I1 r q
end
theorem zDq {c:Bool} {P:Program} {w:World} {K:PySem.W.Frag} {mg:Str→Option Value} {base:Heap} {N:List Str} {qual:Str} {scope:Scope} {f:Addr} {cd:Value} {A:Around} {outer:List Env} {s:Shared} {H H':Hp} {E:XK} {σ:L2.St} {x:Exn}
  (hE:∀ C,mg x.cls=some (.ref C)→E (.ref C) none H'):XE (cxN c P w K mg base N qual scope f cd A outer s H E) σ H' x:=by
 intro pins s' e I ⟨a,C,he,hm,hn,h⟩;subst he;have sw:∀ {H1:Hp} {s1:Shared},Inv (cxN c P w K mg base N qual scope f cd A outer s H E) pins σ H1 s1→Inv (cxX P w K mg base N qual scope f cd { A with handled:=none } outer s H E) pins σ H1 s1:=fun J=>vf J _ true _ (fun _=>rfl) J.ok.frames
 rcases h with ⟨_,s1,I1,hs,hx⟩ | ⟨_,sc,Hc,Ic,un,fl⟩
 ·exact Qc I1 hx hs hn (hE C hm)
 ·obtain ⟨B,t,f1,f2⟩:=fl
  refine zA9 I I.base hn ⟨B,t,f1,fun b o q z nf=>f2 b o q ?_ nf⟩ (hE C hm);rcases z with ⟨o',z⟩ | z
  ·exact .inl (Ic.base.there b o' z (by show b ∉ ([]:List Addr); simp))
  ·exact .inr z
end DV
namespace DV
open PySem L2 PyProof.Rows PySem.Spec
open PySem.W (Frag Looks)
structure XCls (K:Frag) (c:Str) (C T:Addr):Prop where
 cd:∃ cd,clsIn K C=some cd∧cd.name=c∧cd.mro=[.ref C,.ref T,.type "ValueError",.type "Exception",.type "BaseException",.type "object"]
 ty:typeIn K (.ref C)=some (.type "type")
 ga:findIn K (.ref C) "__getattribute__"=some (some (.builtin "BaseException.__getattribute__"))
 gn:findIn K (.ref C) "__getattr__"=some none
 gc:findIn K (.ref C) "__class__"=some (some (.builtin "object.__class__"))
 sp:specialIn K (.builtin "object.__class__") "__get__"=some (some (.builtin "getset_descriptor.__get__"))
 tk:takesIn K (.builtin "object.__class__")=some true
section
open Builtin Builtin.ObjectAttr Builtin.Getset_descriptor
variable {K:Frag} {c:Str} {C T x:Addr} {h:Heap} {ox:Obj} {M:Model}
theorem XCls.mro (F:XCls K c C T) (b:Value):mroIn K C b=some ([Value.ref C,.ref T,.type "ValueError",.type "Exception",.type "BaseException",.type "object"].contains b):=by
 obtain ⟨cd,h1,_,h3⟩:=F.cd;unfold mroIn;rw [h1,Option.bind_some,h3]; rfl
end
section
open Builtin Builtin.ObjectAttr Builtin.Getset_descriptor
variable {K:Frag} {c:Str} {C T x:Addr} {ox:Obj} {prog:Program} {w:World} {A:Around} {E:Value→Shared→Prop} {s:Shared}
end
end DV
namespace DV
open PySem L2 PyProof.Rows PySem.Spec
open PySem.W (Frag Looks)
structure TCls (K:Frag) (T:Addr):Prop where
 cd:∃ cd,clsIn K T=some cd∧cd.mro=.ref T::VB
 ty:typeIn K (.ref T)=some (.type "type")
section
variable {K:Frag} {c y:Str} {C Y T x:Addr} {h:Heap} {ox:Obj} {M:Model}
theorem TCls.mro (F:TCls K T) (b:Value):mroIn K T b=some ((Value.ref T::VB).contains b):=by
 obtain ⟨cd,h1,h3⟩:=F.cd;unfold mroIn;rw [h1,Option.bind_some,h3]; rfl
end
end DV
namespace DV
open PySem L2
inductive D where
 | non
 | bl (b:Bool)
 | int (i:Int)
 | str (x:Str)
 | tup (ds:List D)
 | lst (ds:List D)
 | fn (x:Str)
 | dic
 | exn (c:Str)
 deriving Inhabited
mutual
def Rep (K:PySem.W.Frag) (mg:Str→Option Value) (H:Hp):D→V→Prop
 | .non,v=>v=.non
 | .bl b,v=>v=.bl b
 | .int i,v=>v=.int i
 | .str x,v=>v=.str x
 | .tup ds,v=>∃ a xs,v=.ref a∧SqT K H a xs∧Reps K mg H ds xs
 | .lst ds,v=>∃ a xs,v=.ref a∧SqL K H a xs∧Reps K mg H ds xs
 | .fn x,v=>∃ f,v=.ref f∧mg x=some (.ref f)
 | .dic,v=>∃ a,v=.ref a∧H a=some (.dK [])
 | .exn c,v=>∃ a C,v=.ref a∧mg c=some (.ref C)∧H a=some (ExO C a)
def Reps (K:PySem.W.Frag) (mg:Str→Option Value) (H:Hp):List D→List V→Prop
 | [],vs=>vs=[]
 | d::ds,vs=>∃ v r,vs=v::r∧Rep K mg H d v∧Reps K mg H ds r
end
section
variable {K:PySem.W.Frag} {mg:Str→Option Value} {H H':Hp}
theorem yD {a:Addr} {xs:List V} (e:Y1 H H') (h:SqT K H a xs):SqT K H' a xs:=by
 rcases h with (h | ⟨o,h⟩) | h
 ·exact .inl (.inl (e _ _ h))
 ·exact .inl (.inr ⟨o,e _ _ h⟩)
 ·exact .inr h
mutual
theorem Rep.mono (e:Y1 H H'):∀ {d:D} {v:V},Rep K mg H d v→Rep K mg H' d v
 | .non,_,h=>by simpa only [Rep] using h
 | .bl _,_,h=>by simpa only [Rep] using h
 | .int _,_,h=>by simpa only [Rep] using h
 | .str _,_,h=>by simpa only [Rep] using h
 | .tup ds,_,h=>by
  simp only [Rep] at h ⊢;obtain ⟨a,xs,h1,h2,h3⟩:=h;exact ⟨a,xs,h1,yD e h2,Reps.mono e h3⟩
 | .lst ds,_,h=>by
  simp only [Rep] at h ⊢;obtain ⟨a,xs,h1,h2,h3⟩:=h;exact ⟨a,xs,h1,e.seq h2,Reps.mono e h3⟩
 | .fn _,_,h=>by simpa only [Rep] using h
 | .dic,_,h=>by
  simp only [Rep] at h ⊢;obtain ⟨a,h1,h2⟩:=h;exact ⟨a,h1,e _ _ h2⟩
 | .exn _,_,h=>by
  simp only [Rep] at h ⊢;obtain ⟨a,C,h1,h2,h3⟩:=h;exact ⟨a,C,h1,h2,e _ _ h3⟩
theorem Reps.mono (e:Y1 H H'):∀ {ds:List D} {vs:List V},Reps K mg H ds vs→Reps K mg H' ds vs
 | [],_,h=>by simpa only [Reps] using h
 | d::ds,_,h=>by
  simp only [Reps] at h ⊢;obtain ⟨v,r,h1,h2,h3⟩:=h;exact ⟨v,r,h1,Rep.mono e h2,Reps.mono e h3⟩
end
theorem Reps.length:∀ {ds:List D} {vs:List V},Reps K mg H ds vs→vs.length=ds.length
 | [],_,h=>by simp only [Reps] at h; subst h; rfl
 | d::ds,_,h=>by
  simp only [Reps] at h;obtain ⟨v,r,rfl,h2,h3⟩:=h;simp [Reps.length h3]
theorem Reps.nil:Reps K mg H [] []:=by simp only [Reps]
theorem Reps.cons {d:D} {v:V} {ds:List D} {vs:List V} (h:Rep K mg H d v) (t:Reps K mg H ds vs):Reps K mg H (d::ds) (v::vs):=by
 simp only [Reps]; exact ⟨v,vs,rfl,h,t⟩
theorem Reps.get:∀ {ds:List D} {vs:List V} {i:Nat} {v:V},Reps K mg H ds vs→vs[i]?=some v→∃ d,ds[i]?=some d∧Rep K mg H d v
 | [],_,_,_,h,e=>by simp only [Reps] at h; subst h; simp at e
 | d::ds,_,i,v,h,e=>by
  simp only [Reps] at h;obtain ⟨v',r,rfl,h2,h3⟩:=h;cases i with
  | zero=>simp at e; subst e; exact ⟨d,rfl,h2⟩
  | succ i=>simp at e; obtain ⟨d',q1,q2⟩:=Reps.get h3 e; exact ⟨d',by simpa using q1,q2⟩
theorem Reps.get':∀ {ds:List D} {vs:List V} {i:Nat} {d:D},Reps K mg H ds vs→ds[i]?=some d→∃ v,vs[i]?=some v∧Rep K mg H d v
 | [],_,_,_,h,e=>by simp at e
 | d::ds,_,i,d',h,e=>by
  simp only [Reps] at h;obtain ⟨v',r,rfl,h2,h3⟩:=h;cases i with
  | zero=>simp at e; subst e; exact ⟨v',rfl,h2⟩
  | succ i=>simp at e; obtain ⟨v,q1,q2⟩:=Reps.get' h3 e; exact ⟨v,by simpa using q1,q2⟩
theorem Reps.append:∀ {ds es:List D} {vs ws:List V},Reps K mg H ds vs→Reps K mg H es ws→Reps K mg H (ds++es) (vs++ws)
 | [],_,_,_,h,g=>by simp only [Reps] at h; subst h; exact g
 | d::ds,_,_,_,h,g=>by
  simp only [Reps] at h;obtain ⟨v',r,rfl,h2,h3⟩:=h;exact Reps.cons h2 (Reps.append h3 g)
theorem Reps.set:∀ {ds:List D} {vs:List V} (i:Nat) {d:D} {v:V},Reps K mg H ds vs→Rep K mg H d v→Reps K mg H (ds.set i d) (vs.set i v)
 | [],_,_,_,_,h,g=>by simp only [Reps] at h; subst h; exact Reps.nil
 | d::ds,_,i,_,_,h,g=>by
  simp only [Reps] at h;obtain ⟨v',r,rfl,h2,h3⟩:=h;cases i with
  | zero=>exact Reps.cons g h3
  | succ i=>exact Reps.cons h2 (Reps.set i h3 g)
theorem Reps.take:∀ {ds:List D} {vs:List V} (n:Nat),Reps K mg H ds vs→Reps K mg H (ds.take n) (vs.take n)
 | [],_,_,h=>by simp only [Reps] at h; subst h; simp [Reps.nil]
 | d::ds,_,n,h=>by
  simp only [Reps] at h;obtain ⟨v',r,rfl,h2,h3⟩:=h;cases n with
  | zero=>exact Reps.nil
  | succ n=>exact Reps.cons h2 (Reps.take n h3)
theorem Reps.drop:∀ {ds:List D} {vs:List V} (n:Nat),Reps K mg H ds vs→Reps K mg H (ds.drop n) (vs.drop n)
 | [],_,_,h=>by simp only [Reps] at h; subst h; simp [Reps.nil]
 | d::ds,_,n,h=>by
  simp only [Reps] at h;obtain ⟨v',r,rfl,h2,h3⟩:=h;cases n with
  | zero=>exact Reps.cons h2 h3
  | succ n=>exact Reps.drop n h3
theorem Reps.flatten {ds:List D} {vs:List V} (h:Reps K mg H ds vs):∀ n:Nat,Reps K mg H (replicate n ds).flatten (replicate n vs).flatten
 | 0=>Reps.nil
 | n+1=>by simp only [replicate_succ,flatten_cons]; exact h.append (Reps.flatten h n)
end
open Classical in
def Hm (M:Addr→Prop) (H:Hp):Hp:=fun b=>if M b then none else H b
section
variable {M M':Addr→Prop} {H H':Hp} {b:Addr} {o:HO}
theorem yI:Hm M H b=some o↔¬ M b∧H b=some o:=by
 unfold Hm;by_cases h:M b
 ·simp [h]
 ·simp [h]
theorem zL:Y1 (Hm M H) H:=fun b o h=>(yI.mp h).2
theorem wE (h:∀ b,M' b→M b):Y1 (Hm M H) (Hm M' H):=fun b o e=>yI.mpr ⟨fun x=>(yI.mp e).1 (h b x),(yI.mp e).2⟩
end
inductive Slot where
 | emp
 | val (d:D)
 | own (ds:List D)
 | par (ds:List D)
 deriving Inhabited
abbrev zY:=List Slot
inductive R where
 | val (d:D)
 | own (ds:List D)
 deriving Inhabited
def R.slot:R→Slot
 | .val d=>.val d
 | .own ds=>.own ds
def R.d:R→D
 | .val d=>d
 | .own ds=>.lst ds
def Slot.list?:Slot→Option (List D)
 | .own ds=>some ds
 | .par ds=>some ds
 | _=>none
abbrev Fz:=List (Option V × Slot)
def Qd:Option V × Slot→Option Addr
 | (some (.ref a),.own _)=>some a
 | (some (.ref a),.par _)=>some a
 | _=>none
def yX (Z:Fz):List Addr:=Z.filterMap Qd
def Mo (M:Addr→Prop) (Z:Fz):Addr→Prop:=fun b=>M b∨b∈yX Z
theorem zc (Z T:Fz):yX (Z++T)=yX Z++yX T:=List.filterMap_append
theorem zz (o:Option V) (d:D) (Z:Fz):yX ((o,.val d)::Z)=yX Z:=by
 unfold yX;rw [List.filterMap_cons_none];cases o with
 | none=>rfl
 | some v=>cases v <;> rfl
theorem YT (a:Addr) (ds:List D) (Z:Fz):yX ((some (.ref a),.own ds)::Z)=a::yX Z:=rfl
theorem yr (o:Option V) (Z:Fz):yX ((o,.emp)::Z)=yX Z:=by
 unfold yX;rw [List.filterMap_cons_none];cases o with
 | none=>rfl
 | some v=>cases v <;> rfl
theorem jM (M:Addr→Prop) (T Z:Fz):Mo M (T++Z)=Mo (Mo M T) Z:=by
 funext b
 apply propext;simp only [Mo,zc,mem_append];constructor
 ·rintro (h | h | h)
  ·exact .inl (.inl h)
  ·exact .inl (.inr h)
  ·exact .inr h
 ·rintro ((h | h) | h)
  ·exact .inl h
  ·exact .inr (.inl h)
  ·exact .inr (.inr h)
theorem Qe {M:Addr→Prop} {T Z:Fz} (p:T.Perm Z):Mo M T=Mo M Z:=by
 funext b
 apply propext;simp only [Mo,yX];rw [(p.filterMap Qd).mem_iff]
theorem ZT (M:Addr→Prop) (o:Option V) (d:D) (Z:Fz):Mo M ((o,.val d)::Z)=Mo M Z:=by unfold Mo; rw [zz]
theorem Mo_emp (M:Addr→Prop) (o:Option V) (Z:Fz):Mo M ((o,.emp)::Z)=Mo M Z:=by unfold Mo; rw [yr]
structure FR (K:PySem.W.Frag) (mg:Str→Option Value) (M:Addr→Prop) (H:Hp) (Z:Fz):Prop where
 val:∀ o d,(o,Slot.val d)∈Z→∃ v,o=some v∧Rep K mg (Hm (Mo M Z) H) d v
 own:∀ o s ds,(o,s)∈Z→s.list?=some ds→∃ a xs,o=some (.ref a)∧H a=some (.lst xs)∧¬ M a∧Reps K mg (Hm (Mo M Z) H) ds xs
 nd:(yX Z).Nodup
 mal:∀ b,M b→∃ o,H b=some o
structure Step (M:Addr→Prop) (H:Hp) (Z:Fz) (H':Hp) (Z':Fz):Prop where
 same:Y1 (Hm (Mo M Z) H) (Hm (Mo M Z') H')
 keep:∀ b o,M b→H b=some o→H' b=some o
section
variable {K:PySem.W.Frag} {mg:Str→Option Value} {M:Addr→Prop} {H H' H1 H2:Hp} {Z Z' T Z1 Z2:Fz}
theorem Step.refl:Step M H Z H Z:=⟨Y1.refl _,fun _ _ _ h=>h⟩
theorem Step.trans (a:Step M H Z H1 Z1) (b:Step M H1 Z1 H2 Z2):Step M H Z H2 Z2 :=
 ⟨a.same.trans b.same,fun x o m h=>b.keep x o m (a.keep x o m h)⟩
theorem YU (h:∀ b,b∈yX Z→b∈yX Z'):∀ b,Mo M Z b→Mo M Z' b:=fun b q=>q.elim .inl fun q=>.inr (h b q)
theorem Step.weak (a:Step M H Z H' Z') (h:∀ b,b∈yX T→b∈yX Z'):Step M H Z H' T :=
 ⟨a.same.trans (wE (YU h)),a.keep⟩
theorem Step.left (a:Step M H Z H' Z') (h:∀ b,b∈yX Z→b∈yX T):Step M H T H' Z' :=
 ⟨(wE (YU h)).trans a.same,a.keep⟩
theorem zD (h:T.Sublist Z):∀ b,b∈yX T→b∈yX Z:=fun b q=>(h.filterMap Qd).subset q
theorem zF (h:T.Perm Z):∀ b,b∈yX T→b∈yX Z:=fun b q=>(h.filterMap Qd).subset q
theorem FR.perm (h:FR K mg M H Z) (p:Z.Perm T):FR K mg M H T where
 val:=fun o d q=>by rw [← Qe p]; exact h.val o d (p.mem_iff.mpr q)
 own:=fun o s ds q e=>by rw [← Qe p]; exact h.own o s ds (p.mem_iff.mpr q) e
 nd:=(p.filterMap Qd).nodup_iff.mp h.nd
 mal:=h.mal
theorem FR.sub (h:FR K mg M H Z) (p:T.Sublist Z):FR K mg M H T where
 val:=fun o d q=>by
  obtain ⟨v,e,r⟩:=h.val o d (p.subset q);exact ⟨v,e,r.mono (wE (YU (zD p)))⟩
 own:=fun o s ds q e=>by
  obtain ⟨a,xs,e1,e2,e3,r⟩:=h.own o s ds (p.subset q) e;exact ⟨a,xs,e1,e2,e3,r.mono (wE (YU (zD p)))⟩
 nd:=h.nd.sublist (p.filterMap Qd)
 mal:=h.mal
theorem FR.tail {x:Option V × Slot} (h:FR K mg M H (x::Z)):FR K mg M H Z:=h.sub (sublist_cons_self _ _)
theorem wY {o:Option V} {s:Slot} {ds:List D} {a:Addr} (h:(o,s)∈Z) (e:s.list?=some ds) (ho:o=some (.ref a)):a∈yX Z:=by
 subst ho;refine mem_filterMap.mpr ⟨_,h,?_⟩;cases s <;> simp [Slot.list?] at e <;> rfl
theorem Qf {a:Addr} (h:a∈yX Z):∃ s ds,(some (V.ref a),s)∈Z∧Slot.list? s=some ds:=by
 obtain ⟨⟨o,s⟩,h1,h2⟩:=mem_filterMap.mp h;unfold Qd at h2;split at h2
 ·rename_i e; cases e; cases h2; exact ⟨_,_,h1,rfl⟩
 ·rename_i e; cases e; cases h2; exact ⟨_,_,h1,rfl⟩
 ·cases h2
theorem FR.ownAt (h:FR K mg M H Z) {a:Addr} (e:a∈yX Z):∃ xs,H a=some (.lst xs)∧¬ M a:=by
 obtain ⟨s,ds,h1,h2⟩:=Qf e;obtain ⟨a',xs,e1,e2,e3,_⟩:=h.own _ s ds h1 h2;cases e1;exact ⟨xs,e2,e3⟩
theorem FR.moAl (h:FR K mg M H Z) (b:Addr) (e:Mo M Z b):∃ o,H b=some o:=by
 rcases e with e | e
 ·exact h.mal b e
 ·obtain ⟨xs,q,_⟩:=h.ownAt e
  exact ⟨_,q⟩
theorem FR.inner (h:FR K mg M H (T++Z)):FR K mg (Mo M T) H Z where
 val:=fun o d q=>by rw [← jM]; exact h.val o d (mem_append_right _ q)
 own:=fun o s ds q e=>by
  obtain ⟨a,xs,e1,e2,e3,r⟩:=h.own o s ds (mem_append_right _ q) e;refine ⟨a,xs,e1,e2,fun m=>?_,by rw [← jM]; exact r⟩;rcases m with m | m
  ·exact e3 m
  ·have nd:=h.nd
   rw [zc] at nd;exact (nodup_append.mp nd).2.2 a m a (wY q e e1) rfl
 nd:=by
  have nd:=h.nd;rw [zc] at nd;exact (nodup_append.mp nd).2.1
 mal:=fun b q=>by
  rcases q with q | q
  ·exact h.mal b q
  ·obtain ⟨xs,q,_⟩:=h.ownAt (a:=b) (by rw [zc]; exact mem_append_left _ q)
   exact ⟨_,q⟩
theorem FR.outer (h:FR K mg M H (T++Z)) (g:FR K mg (Mo M T) H' Z') (st:Step (Mo M T) H Z H' Z'):FR K mg M H' (T++Z') where
 val:=fun o d q=>by
  rw [jM];rcases mem_append.mp q with q | q
  ·obtain ⟨v,e,r⟩:=h.val o d (mem_append_left _ q)
   rw [jM] at r;exact ⟨v,e,r.mono st.same⟩
  ·exact g.val o d q
 own:=fun o s ds q e=>by
  rw [jM];rcases mem_append.mp q with q | q
  ·obtain ⟨a,xs,e1,e2,e3,r⟩:=h.own o s ds (mem_append_left _ q) e
   rw [jM] at r;exact ⟨a,xs,e1,st.keep a _ (.inr (wY q e e1)) e2,e3,r.mono st.same⟩
  ·obtain ⟨a,xs,e1,e2,e3,r⟩:=g.own o s ds q e
   exact ⟨a,xs,e1,e2,fun m=>e3 (.inl m),r⟩
 nd:=by
  rw [zc];have nd:=h.nd;rw [zc] at nd;refine nodup_append.mpr ⟨(nodup_append.mp nd).1,g.nd,fun a ha b hb e=>?_⟩;subst e;obtain ⟨xs,_,q⟩:=g.ownAt hb;exact q (.inr ha)
 mal:=fun b q=>g.mal b (.inl q)
theorem Step.outer (st:Step (Mo M T) H Z H' Z'):Step M H (T++Z) H' (T++Z') :=
 ⟨by rw [jM,jM]; exact st.same,fun b o m h=>st.keep b o (.inl m) h⟩
theorem yt {p:Addr} {o:HO} (hp:H p=none):Y1 H (upd H p o):=fun b u e=>by
 rw [yH (fun q=>by subst q; rw [hp] at e; cases e)]; exact e
theorem FR.grow (h:FR K mg M H Z) {p:Addr} {o:HO} (hp:H p=none):FR K mg M (upd H p o) Z where
 val:=fun o' d q=>by
  obtain ⟨v,e,r⟩:=h.val o' d q;exact ⟨v,e,r.mono fun b u x=>yI.mpr ⟨(yI.mp x).1,yt hp b u (yI.mp x).2⟩⟩
 own:=fun o' s ds q e=>by
  obtain ⟨a,xs,e1,e2,e3,r⟩:=h.own o' s ds q e;exact ⟨a,xs,e1,yt hp _ _ e2,e3,r.mono fun b u x=>yI.mpr ⟨(yI.mp x).1,yt hp b u (yI.mp x).2⟩⟩
 nd:=h.nd
 mal:=fun b q=>by obtain ⟨u,e⟩:=h.mal b q; exact ⟨u,yt hp _ _ e⟩
theorem Step.grow {p:Addr} {o:HO} (hp:H p=none):Step M H Z (upd H p o) Z :=
 ⟨fun b u x=>yI.mpr ⟨(yI.mp x).1,yt hp b u (yI.mp x).2⟩,fun b u _ e=>yt hp b u e⟩
theorem FR.add (h:FR K mg M H Z) {v:V} {d:D} (r:Rep K mg (Hm (Mo M Z) H) d v):FR K mg M H ((some v,.val d)::Z) where
 val:=fun o d' q=>by
  rw [ZT];rcases mem_cons.mp q with q | q
  ·cases q; exact ⟨v,rfl,r⟩
  ·exact h.val o d' q
 own:=fun o s ds q e=>by
  rw [ZT];rcases mem_cons.mp q with q | q
  ·cases q; cases e
  ·exact h.own o s ds q e
 nd:=by rw [zz]; exact h.nd
 mal:=h.mal
theorem Step.add {v:Option V} {d:D} (st:Step M H Z H' Z'):Step M H Z H' ((v,.val d)::Z'):=by
 refine ⟨?_,st.keep⟩;rw [ZT]; exact st.same
theorem uT (h:FR K mg M H Z) {p:Addr} (hp:H p=none):¬ Mo M Z p:=fun q=>by
 obtain ⟨o,e⟩:=h.moAl p q;rw [hp] at e; cases e
theorem wZ (h:FR K mg M H Z) {p:Addr} {ds:List D} {xs:List V} (hp:H p=none):Y1 (Hm (Mo M Z) H) (Hm (Mo M ((some (.ref p),.own ds)::Z)) (upd H p (.lst xs))):=fun b u x=>by
 obtain ⟨h1,h2⟩:=yI.mp x;refine yI.mpr ⟨fun q=>?_,yt hp _ _ h2⟩;rcases q with q | q
 ·exact h1 (.inl q)
 ·rw [YT] at q
  rcases mem_cons.mp q with q | q
  ·subst q; rw [hp] at h2; cases h2
  ·exact h1 (.inr q)
theorem FR.newOwn (h:FR K mg M H Z) {p:Addr} {ds:List D} {xs:List V} (hp:H p=none) (r:Reps K mg (Hm (Mo M Z) H) ds xs):FR K mg M (upd H p (.lst xs)) ((some (.ref p),.own ds)::Z) where
 val:=fun o d q=>by
  rcases mem_cons.mp q with q | q
  ·cases q
  ·obtain ⟨v,e,r⟩:=h.val o d q
   exact ⟨v,e,r.mono (wZ h hp)⟩
 own:=fun o s ds' q e=>by
  rcases mem_cons.mp q with q | q
  ·cases q; cases e
   exact ⟨p,xs,rfl,jq,fun m=>uT h hp (.inl m),r.mono (wZ h hp)⟩
  ·obtain ⟨a,ys,e1,e2,e3,r⟩:=h.own o s ds' q e
   exact ⟨a,ys,e1,yt hp _ _ e2,e3,r.mono (wZ h hp)⟩
 nd:=by
  rw [YT];exact nodup_cons.mpr ⟨fun q=>uT h hp (.inr q),h.nd⟩
 mal:=fun b q=>by obtain ⟨u,e⟩:=h.mal b q; exact ⟨u,yt hp _ _ e⟩
theorem Step.newOwn (h:FR K mg M H Z) {p:Addr} {ds:List D} {xs:List V} (hp:H p=none):Step M H Z (upd H p (.lst xs)) ((some (.ref p),.own ds)::Z) :=
 ⟨wZ h hp,fun b u _ e=>yt hp b u e⟩
theorem FR.newTup (h:FR K mg M H Z) {p:Addr} {ds:List D} {xs:List V} (hp:H p=none) (r:Reps K mg (Hm (Mo M Z) H) ds xs):FR K mg M (upd H p (.tup xs)) ((some (.ref p),.val (.tup ds))::Z):=by
 refine (h.grow hp).add ?_;simp only [Rep];refine ⟨p,xs,rfl,SqT.of (yI.mpr ⟨uT h hp,jq⟩),r.mono fun b u x=>yI.mpr ⟨(yI.mp x).1,yt hp b u (yI.mp x).2⟩⟩
theorem Step.newVal {p:Addr} {o:HO} {v:Option V} {d:D} (hp:H p=none):Step M H Z (upd H p o) ((v,.val d)::Z):=(Step.grow hp).add
theorem FR.frz {o:Option V} {r:R} (h:FR K mg M H ((o,r.slot)::Z)):FR K mg M H ((o,.val r.d)::Z):=by
 cases r with
 | val d=>exact h
 | own ds =>
  obtain ⟨a,xs,e1,e2,e3,rr⟩:=h.own o (.own ds) ds mem_cons_self rfl;subst e1;have hn:¬ Mo M Z a:=fun q=>by
   rcases q with q | q
   ·exact e3 q
   ·exact (nodup_cons.mp h.nd).1 q
  refine h.tail.add ?_;simp only [R.d,Rep];exact ⟨a,xs,rfl,SqL.of (yI.mpr ⟨hn,e2⟩),rr.mono (wE (YU (zD (sublist_cons_self _ _))))⟩
theorem Step.frz {o:Option V} {r:R} (h:Step M H Z H' ((o,r.slot)::Z')):Step M H Z H' ((o,.val r.d)::Z'):=by
 cases r with
 | val d=>exact h
 | own ds =>
  refine h.weak fun b q=>?_
  rw [zz] at q;exact (zD (sublist_cons_self _ _)) b q
theorem uU:∀ (σ:St) (E:zY) (i:Nat) (o:Option V) (s:Slot),(σ.set i o).zip (E.set i s)=(σ.zip E).set i (o,s)
 | [],_,_,_,_=>by simp
 | _::_,[],_,_,_=>by simp
 | x::σ,y::E,0,o,s=>by simp
 | x::σ,y::E,i+1,o,s=>by simp [uU σ E i o s]
theorem yS {α:Type} (x:α):∀ (l:List α) (i:Nat),i < l.length→(l.set i x).Perm (x::l.eraseIdx i)
 | [],_,h=>by simp at h
 | y::l,0,_=>List.Perm.refl _
 | y::l,i+1,h=>by
  have ih:=yS x l i (by simpa using h);simp only [List.set_cons_succ,List.eraseIdx_cons_succ];exact (ih.cons y).trans (List.Perm.swap x y _)
theorem FR.put (h:FR K mg M H (((o:Option V),s)::Z)) {i:Nat} (hi:i < Z.length):FR K mg M H (Z.set i (o,s)) :=
 (h.sub ((List.eraseIdx_sublist Z i).cons_cons (o,s))).perm (yS _ _ _ hi).symm
theorem Step.put {o:Option V} {s:Slot} (h:Step M H Z H' ((o,s)::Z')) {i:Nat} (hi:i < Z'.length):Step M H Z H' (Z'.set i (o,s)):=by
 refine h.weak fun b q=>?_
 exact zD ((List.eraseIdx_sublist Z' i).cons_cons (o,s)) b (zF (yS _ _ _ hi) b q)
end
end DV
namespace DV
open PySem L2
inductive Out (α:Type) where
 | stuck
 | ok (a:α)
 | exc (x:Exn) (E:zY)
 deriving Inhabited
abbrev ME:=zY→Out (R × zY)
abbrev MA:=zY→Out (List R × zY)
abbrev MT:=zY→Out (Bool × zY)
def PKp (σ:St) (E:zY) (σ':St) (E':zY):Prop:=∀ (i:Nat) ds,E[i]?=some (.par ds)→(∃ ds',E'[i]?=some (.par ds'))∧σ'[i]?=σ[i]?
theorem PKp.refl {σ:St} {E:zY}:PKp σ E σ E:=fun i ds h=>⟨⟨ds,h⟩,rfl⟩
theorem PKp.trans {σ σ1 σ2:St} {E E1 E2:zY} (a:PKp σ E σ1 E1) (b:PKp σ1 E1 σ2 E2):PKp σ E σ2 E2:=fun i ds h=>by
 obtain ⟨⟨ds1,h1⟩,e1⟩:=a i ds h;obtain ⟨h2,e2⟩:=b i ds1 h1;exact ⟨h2,e2.trans e1⟩
structure Got (K:PySem.W.Frag) (mg:Str→Option Value) (M:Addr→Prop) (σ:St) (E:zY) (H:Hp) (T0:Fz) (σ':St) (E':zY) (H':Hp) (T:Fz):Prop where
 len:E'.length=σ'.length
 fr:FR K mg M H' (T++(T0++σ'.zip E'))
 st:Step M H (T0++σ.zip E) H' (T++(T0++σ'.zip E'))
 pk:PKp σ E σ' E'
def zBx (vs:List V) (rs:List R):Fz:=(vs.zip rs).map fun p=>(some p.1,p.2.slot)
def KM (X:Cx) (M:Addr→Prop) (σ:St) (E:zY) (H:Hp) (T0:Fz) (Q:VK):Out (R × zY)→Prop
 | .stuck=>False
 | .ok (r,E')=>∀ v H',Got X.K X.mg M σ E H T0 σ E' H' [(some v,r.slot)]→Q v H'
 | .exc x E'=>∀ H',Got X.K X.mg M σ E H T0 σ E' H' []→XE X σ H' x
def KT (X:Cx) (M:Addr→Prop) (σ:St) (E:zY) (H:Hp) (T0:Fz) (Q:Bool→Hp→Prop):Out (Bool × zY)→Prop
 | .stuck=>False
 | .ok (b,E')=>∀ H',Got X.K X.mg M σ E H T0 σ E' H' []→Q b H'
 | .exc x E'=>∀ H',Got X.K X.mg M σ E H T0 σ E' H' []→XE X σ H' x
def KA (X:Cx) (M:Addr→Prop) (σ:St) (E:zY) (H:Hp) (T0:Fz) (Q:List V→Hp→Prop):Out (List R × zY)→Prop
 | .stuck=>False
 | .ok (rs,E')=>∀ vs H',vs.length=rs.length→Got X.K X.mg M σ E H T0 σ E' H' (zBx vs rs)→Q vs H'
 | .exc x E'=>∀ H',Got X.K X.mg M σ E H T0 σ E' H' []→XE X σ H' x
def tM (X:Cx) (m:ME):TE:=fun σ H Q=>∃ M E,E.length=σ.length∧FR X.K X.mg M H (σ.zip E)∧KM X M σ E H [] Q (m E)
def tMT (X:Cx) (m:MT):TT:=fun σ H Q=>∃ M E,E.length=σ.length∧FR X.K X.mg M H (σ.zip E)∧KT X M σ E H [] Q (m E)
def tMA (X:Cx) (m:MA):TA:=fun σ H Q=>∃ M E,E.length=σ.length∧FR X.K X.mg M H (σ.zip E)∧KA X M σ E H [] Q (m E)
abbrev EOk (X:Cx) (e:Expr) (m:ME):Prop:=PE X e (tM X m)
abbrev TOk (X:Cx) (e:Expr) (m:MT):Prop:=PT X e (tMT X m)
abbrev AOk (X:Cx) (es:List Expr) (m:MA):Prop:=PA X es (tMA X m)
theorem yY {X:Cx} {e:Expr} {t t':TE} (h:PE X e t) (i:∀ σ H Q,t' σ H Q→t σ H Q):PE X e t':=fun pins s σ H Q I q=>h pins s σ H Q I (i σ H Q q)
theorem zAP {X:Cx} {e:Expr} {t t':TT} (h:PT X e t) (i:∀ σ H Q,t' σ H Q→t σ H Q):PT X e t':=fun pins s σ H Q I q=>h pins s σ H Q I (i σ H Q q)
theorem pw_imp {X:Cx} {e:Expr} {t t':TT} (h:PW X e t) (i:∀ σ H Q,t' σ H Q→t σ H Q):PW X e t':=fun wh pins s σ H Q I q=>h wh pins s σ H Q I (i σ H Q q)
theorem Gq {X:Cx} {e:List Expr} {t t':TA} (h:PA X e t) (i:∀ σ H Q,t' σ H Q→t σ H Q):PA X e t':=fun p pins s σ H Q I q=>h p pins s σ H Q I (i σ H Q q)
theorem y8 {X:Cx} {e:Stmt} {t t':TS} (h:PS X e t) (i:∀ D σ H,t' D σ H→t D σ H):PS X e t':=fun pins s σ H D I q=>h pins s σ H D I (i D σ H q)
theorem zBy {X:Cx} {e:List Stmt} {t t':TS} (h:PSs X e t) (i:∀ D σ H,t' D σ H→t D σ H):PSs X e t':=fun pins s σ H D I q=>h pins s σ H D I (i D σ H q)
section
variable {X:Cx} {K:PySem.W.Frag} {mg:Str→Option Value} {M:Addr→Prop} {σ σ' σ1 σ2:St} {E E' E1 E2:zY} {H H' H1 H2:Hp} {T0 T T1 T2:Fz} {Q:VK}
theorem swapP {α:Type} (A B C:List α):(A++(B++([]++C))).Perm (B++(A++C)):=by
 rw [nil_append,← append_assoc,← append_assoc];exact (perm_append_comm).append_right _
theorem uV {α:Type} {l:List α} {i:Nat} {x:α} (h:l[i]?=some x):l.set i x=l:=by
 obtain ⟨hi,rfl⟩:=List.getElem?_eq_some_iff.mp h;exact List.set_getElem_self hi
theorem Got.outer (h:FR K mg M H (T0++σ.zip E)) (g:Got K mg (Mo M T0) σ E H [] σ' E' H' T):Got K mg M σ E H T0 σ' E' H' T where
 len:=g.len
 fr:=by
  have q:=FR.outer h g.fr g.st;exact q.perm (swapP _ _ _)
 st:=by
  have q:=Step.outer g.st;refine q.weak fun b hb=>?_
  exact zF (swapP _ _ _).symm b hb
 pk:=g.pk
theorem Got.trans (a:Got K mg M σ E H T0 σ1 E1 H1 T1) (b:Got K mg M σ1 E1 H1 (T1++T0) σ2 E2 H2 T2):Got K mg M σ E H T0 σ2 E2 H2 (T2++T1) where
 len:=b.len
 fr:=by
  have q:=b.fr;rw [append_assoc] at q;rw [append_assoc];exact q
 st:=by
  have q:=b.st;rw [append_assoc,append_assoc] at q;rw [append_assoc];exact a.st.trans q
 pk:=a.pk.trans b.pk
theorem Got.drop (a:Got K mg M σ E H T0 σ1 E1 H1 (T2++T1)):Got K mg M σ E H T0 σ1 E1 H1 T1 where
 len:=a.len
 fr:=a.fr.sub (by rw [append_assoc]; exact sublist_append_right _ _)
 st:=a.st.weak (zD (by rw [append_assoc]; exact sublist_append_right _ _))
 pk:=a.pk
theorem Got.dropAll (a:Got K mg M σ E H T0 σ1 E1 H1 T1):Got K mg M σ E H T0 σ1 E1 H1 [] where
 len:=a.len
 fr:=a.fr.sub (sublist_append_right _ _)
 st:=a.st.weak (zD (sublist_append_right _ _))
 pk:=a.pk
theorem Got.trans' (a:Got K mg M σ E H [] σ1 E1 H1 T1) (b:Got K mg M σ1 E1 H1 T1 σ2 E2 H2 T2):Got K mg M σ E H [] σ2 E2 H2 (T2++T1):=a.trans (by rw [append_nil]; exact b)
theorem Got.refl (hl:E.length=σ.length) (h:FR K mg M H (T0++σ.zip E)):Got K mg M σ E H T0 σ E H []:=⟨hl,h,Step.refl,PKp.refl⟩
theorem Got.more (a:Got K mg M σ E H [] σ1 E1 H1 T1) (f:FR K mg M H2 (T++σ1.zip E1)) (s:Step M H1 (σ1.zip E1) H2 (T++σ1.zip E1)):Got K mg M σ E H [] σ1 E1 H2 T where
 len:=a.len
 fr:=f
 st:=(a.st.weak (zD (sublist_append_right _ _))).trans s
 pk:=a.pk
theorem Got.frame (a:Got K mg M σ E H [] σ1 E1 H1 T1):FR K mg M H1 (σ1.zip E1):=a.fr.sub (sublist_append_right _ _)
theorem vg (v:V) (r:R) (vs:List V) (rs:List R):zBx (v::vs) (r::rs)=(some v,r.slot)::zBx vs rs:=rfl
theorem zBz:∀ {vs:List V} {rs:List R} {Z:Fz},vs.length=rs.length→FR K mg M H (zBx vs rs++Z)→Reps K mg (Hm (Mo M Z) H) (rs.map R.d) vs
 | [],[],Z,_,h=>Reps.nil
 | v::vs,r::rs,Z,hl,h=>by
  rw [vg,List.cons_append] at h;refine Reps.cons ?_ (zBz (by simpa using hl) h.tail);obtain ⟨v',e,q⟩:=h.frz.val (some v) r.d mem_cons_self;cases e;refine q.mono (wE (YU fun b hb=>?_));rw [zz,zc];exact mem_append_right _ hb
theorem Got.reps {vs:List V} {rs:List R} (hl:vs.length=rs.length) (a:Got K mg M σ E H [] σ1 E1 H1 (zBx vs rs)):Reps K mg (Hm (Mo M (σ1.zip E1)) H1) (rs.map R.d) vs:=zBz hl a.fr
theorem Got.rep {v:V} {r:R} (a:Got K mg M σ E H [] σ1 E1 H1 [(some v,r.slot)]):Rep K mg (Hm (Mo M (σ1.zip E1)) H1) r.d v:=by
 have q:=Got.reps (vs:=[v]) (rs:=[r]) rfl a;simp only [List.map,Reps] at q;obtain ⟨v',r',e,h,_⟩:=q;cases e; exact h
theorem yM {m:ME} (hl:E.length=σ.length) (h:FR X.K X.mg M H (T0++σ.zip E))
  (k:KM X M σ E H T0 Q (m E)):tM X m σ H Q:=by
 refine ⟨Mo M T0,E,hl,h.inner,?_⟩;cases e:m E with
 | stuck=>rw [e] at k; exact k
 | ok a=>rw [e] at k; exact fun v H' g=>k v H' (g.outer h)
 | exc x E'=>rw [e] at k; exact fun H' g=>k H' (g.outer h)
theorem WS {m:MT} {Q:Bool→Hp→Prop} (hl:E.length=σ.length) (h:FR X.K X.mg M H (T0++σ.zip E))
  (k:KT X M σ E H T0 Q (m E)):tMT X m σ H Q:=by
 refine ⟨Mo M T0,E,hl,h.inner,?_⟩;cases e:m E with
 | stuck=>rw [e] at k; exact k
 | ok a=>rw [e] at k; exact fun H' g=>k H' (g.outer h)
 | exc x E'=>rw [e] at k; exact fun H' g=>k H' (g.outer h)
theorem Jy {m:MA} {Q:List V→Hp→Prop} (hl:E.length=σ.length) (h:FR X.K X.mg M H (T0++σ.zip E))
  (k:KA X M σ E H T0 Q (m E)):tMA X m σ H Q:=by
 refine ⟨Mo M T0,E,hl,h.inner,?_⟩;cases e:m E with
 | stuck=>rw [e] at k; exact k
 | ok a=>rw [e] at k; exact fun vs H' hv g=>k vs H' hv (g.outer h)
 | exc x E'=>rw [e] at k; exact fun H' g=>k H' (g.outer h)
def eC (d:D):ME:=fun E=>.ok (.val d,E)
def flat:D→Bool
 | .non | .bl _ | .int _ | .str _=>true
 | _=>false
def flV:D→V
 | .bl b=>.bl b
 | .int i=>.int i
 | .str x=>.str x
 | _=>.non
theorem zAQ {d:D} (h:flat d=true):Rep K mg H d (flV d):=by
 cases d <;> simp [flat] at h <;> simp [Rep,flV]
theorem Got.flat (a:Got K mg M σ E H [] σ1 E1 H1 T1) {d:D} (h:flat d=true):Got K mg M σ E H [] σ1 E1 H1 [(some (flV d),.val d)] :=
 a.more (a.frame.add (zAQ h)) Step.refl.add
theorem ok_c {e:Expr} {d:D} (h:PE X e (tC (flV d))) (hf:flat d=true:=by rfl):EOk X e (eC d):=yY h fun σ H Q ⟨M,E,hl,f,k⟩ =>
 k (flV d) H ((Got.refl (T0:=[]) hl f).flat hf)
theorem ok_int {i j pos}:EOk X (.Constant (.int i) j pos) (eC (.int i)):=ok_c pe_int
theorem ok_bl {b j pos}:EOk X (.Constant (.bool b) j pos) (eC (.bl b)):=ok_c pe_bl
theorem ok_non {j pos}:EOk X (.Constant .none j pos) (eC .non):=ok_c pe_non
theorem ok_str {x j pos}:EOk X (.Constant (.str x) j pos) (eC (.str x)):=ok_c pe_str
def zBM (i:Nat):ME:=fun E=>match E[i]? with
 | some (.val d)=>.ok (.val d,E)
 | some (.own ds)=>.ok (.val (.lst ds),E.set i (.val (.lst ds)))
 | _=>.stuck
theorem WT {i:Nat} {s:Slot} (hl:E.length=σ.length) (h:E[i]?=some s):∃ o,σ[i]?=some o∧(σ.zip E)[i]?=some (o,s):=by
 have hi:i < E.length:=(List.getElem?_eq_some_iff.mp h).1;have:i < σ.length:=hl ▸ hi;refine ⟨σ[i],by simp [this],?_⟩;rw [List.getElem?_zip_eq_some];exact ⟨by simp [this],h⟩
theorem wa {i:Nat} {s:Slot} (hl:E.length=σ.length) (h:E[i]?=some s):∃ o,σ[i]?=some o∧(o,s)∈σ.zip E:=by
 obtain ⟨o,h1,h2⟩:=WT hl h;exact ⟨o,h1,mem_of_getElem? h2⟩
theorem yk {i:Nat} {o:Option V} (s:Slot) (h:σ[i]?=some o):σ.zip (E.set i s)=(σ.zip E).set i (o,s):=by
 rw [← uU];congr 1;have hi:i < σ.length:=(List.getElem?_eq_some_iff.mp h).1;apply List.ext_getElem?;intro j;by_cases e:i=j
 ·subst e; rw [getElem?_set_self hi,h]
 ·rw [getElem?_set_ne e]
theorem pk_set {i:Nat} {s:Slot} {ds0:List D} (h:E[i]?=some s) (hs:∀ ds,s≠.par ds) (o:Slot):PKp σ E σ (E.set i o):=fun j ds e=>by
 have ne:i≠j:=fun q=>by subst q; rw [h] at e; exact hs ds (Option.some.inj e)
 exact ⟨⟨ds,by rw [getElem?_set_ne ne]; exact e⟩,rfl⟩
theorem ok_var (i:Nat) {x:Str} {pos:Pos} (h:PE X (.Name x pos) (zA3 i)):EOk X (.Name x pos) (zBM i):=yY h fun σ H Q ⟨M,E,hl,f,k⟩=>by
 unfold zBM at k;cases e:E[i]? with
 | none=>rw [e] at k; exact k.elim
 | some sl =>
 rw [e] at k;cases sl with
 | emp=>exact k.elim
 | par ds=>exact k.elim
 | val d =>
  obtain ⟨o,h1,h2⟩:=wa hl e;obtain ⟨v,rfl,r⟩:=f.val o d h2;exact ⟨v,h1,k v H ⟨hl,f.add r,Step.refl.add,PKp.refl⟩⟩
 | own ds =>
  obtain ⟨o,h1,h2⟩:=WT hl e;obtain ⟨a,xs,rfl,q1,q2,q3⟩:=f.own o (.own ds) ds (mem_of_getElem? h2) rfl;refine ⟨.ref a,h1,k _ H ?_⟩;have hlt:i < (σ.zip E).length:=(List.getElem?_eq_some_iff.mp h2).1;have p:(σ.zip E).Perm ((some (.ref a),R.slot (.own ds))::(σ.zip E).eraseIdx i):=by
   have:=yS (some (V.ref a),Slot.own ds) (σ.zip E) i hlt;rw [uV h2] at this;exact this
  have f1:=(f.perm p).frz;have f2:FR X.K X.mg M H ((σ.zip E).set i (some (.ref a),.val (.lst ds))):=f1.perm (yS _ _ _ hlt).symm;rw [← yk (.val (.lst ds)) h1] at f2;have r:=f1.val _ _ mem_cons_self;obtain ⟨v,ev,rr⟩:=r;cases ev;have em:Mo M ((some (V.ref a),Slot.val (R.own ds).d)::(σ.zip E).eraseIdx i)=Mo M (σ.zip (E.set i (.val (.lst ds)))):=by
   rw [yk (.val (.lst ds)) h1];exact (Qe (yS _ _ _ hlt)).symm
  rw [em] at rr;refine ⟨by simp [hl],f2.add rr,?_,?_⟩
  ·refine Step.add ?_
   refine Step.weak Step.refl fun b hb=>?_
   refine zF p.symm b ?_;rw [nil_append,yk (.val (.lst ds)) h1] at hb;have hb':=zF (yS _ _ _ hlt) b hb;rw [zz] at hb';exact zD (sublist_cons_self _ _) b hb'
  ·exact pk_set (ds0:=[]) e (fun ds' q=>by cases q) _
end
def za:Expr→Bool
 | .Starred _ _=>true
 | _=>false
def jN:List Expr→Bool
 | []=>true
 | e::es=>!za e&&jN es
theorem zp {e:Expr} {es:List Expr} {env:Env} (h:za e=false):starEach (e::es) env=(false,eval e env)::starEach es env:=by
 cases e <;> first | rfl | (cases h)
theorem star2 {a b:Expr} {env:Env} (ha:za a=false) (hb:za b=false):starEach [a,b] env=[(false,eval a env),(false,eval b env)]:=by
 rw [zp ha,zp hb]; rfl
theorem star1 {a:Expr} {env:Env} (ha:za a=false):starEach [a] env=[(false,eval a env)]:=by
 rw [zp ha]; rfl
def y9:Expr→Bool
 | .Set _ _ _=>false
 | _=>true
theorem wP {e:Expr} {env:Env} (h:y9 e=true):∀ x,foldedSetIterable e env x=pure x:=by
 intro x;cases e <;> first | rfl | (cases h)
def wb:Expr→Bool
 | .ListComp _ _ _ _=>false
 | .SetComp _ _ _ _=>false
 | .DictComp _ _ _ _ _=>false
 | _=>true
theorem uW {e:Expr} {t:Option Expr} {l:Nat} {env:Env} (h:wb e=true):swapsWith e t l env=pure false:=by
 cases e <;> first | rfl | (cases h)
def zE1:Expr→Bool
 | .UnaryOp .Not _ _=>false
 | .BoolOp _ _ _=>false
 | .IfExp _ _ _ _=>false
 | .Compare _ _ _ _=>false
 | _=>true
theorem test_of {e:Expr} {env:Env} (h:zE1 e=true):∀ whole,isTrue e env whole=(do let v ← whole; standAt e.pos; holding [v] (truthy v)):=by
 intro x;cases e <;> first | rfl | (cases h) | skip;rename_i op _ _;cases op <;> first | rfl | (cases h)
def Gr:Expr→Bool
 | .Slice _ _ _ _=>false
 | _=>true
theorem Gs {env:Env}:∀ {es:List Expr},jN es=true→(starEach es env).any (·.1)=false
 | [],_=>rfl
 | e::es,h=>by
  simp only [jN,Bool.and_eq_true,Bool.not_eq_true'] at h;rw [zp h.1];simp [Gs h.2]
theorem zDr (pos:Pos) (l:List (Bool × Sem Value)):(backTo pos l).any (·.1)=l.any (·.1):=by
 unfold backTo;rw [List.any_map];rfl
theorem wz {env:Env} {es:List Expr} {pos:Pos} (h:jN es=true):(backTo pos (starEach es env)).any (·.1)=false:=by
 rw [zDr,Gs h]
end DV
namespace L2
open PySem PySem.Spec PyProof.Rows
section
variable {X:Cx}
def zE2 (K:PySem.W.Frag):R2:=fun x y H Q=>∃ a b xs ys,x=.ref a∧y=.ref b∧SqT K H a xs∧SqT K H b ys∧xs.length+ys.length≤sizeLine ∧
 (xs=[]→Q (.ref b) H)∧(xs≠[]→ys=[]→Q (.ref a) H)∧(xs≠[]→ys≠[]→∀ p,H p=none→Q (.ref p) (upd H p (.tup (xs++ys))))
theorem zDs:OpR X (binaryOp .Add) (zE2 X.K):=by
 intro pins s σ H x y v u Q I rx ry h;obtain ⟨a,b,xs,ys,rfl,rfl,ha,hb,hz,q0,q1,q2⟩:=h;cases rx;cases ry;obtain ⟨its,r1,p1,_⟩:=I.tuple ha;obtain ⟨its2,r2,p2,_⟩:=I.tuple hb;by_cases hx:xs=[]
 ·have hi:its=[]:=r1.nil_iff.mpr hx
  obtain ⟨⟨cls,dd,data,sl⟩,ho,hc,n,hd⟩:=id p1;obtain ⟨⟨cls2,dd2,data2,sl2⟩,ho2,hc2,n2,hd2⟩:=id p2;simp only at hc hd hc2 hd2;subst hc hd hc2 hd2;exact concat_meets ⟨_,ho,rfl⟩ ⟨_,ho2,rfl⟩ noFill_tuple_add seq_tuple_add PySem.F.slot_tuple_add PySem.F.entry_tuple_add (PySem.F.args_tuple_add_2 _ _)
   (tuple_addW0 a b its.toArray its2.toArray n n2 dd dd2 sl sl2 (by simp [hi])) ⟨ho,ho2,⟨.ref b,H,I,rfl,q0 hx⟩⟩
 ·exact op_catT pins s σ H (.ref a) (.ref b) (.ref a) (.ref b) Q I rfl rfl ⟨a,b,xs,ys,rfl,rfl,ha,hb,hx,hz,q1 hx,q2 hx⟩
def rCatL (K:PySem.W.Frag):R2:=fun x y H Q=>∃ l b xs zs,x=.ref l∧y=.ref b∧SqL K H l xs∧SqL K H b zs∧xs.length+zs.length≤sizeLine∧∀ p,H p=none→Q (.ref p) (upd H p (.lst (xs++zs)))
theorem op_catL:OpR X (binaryOp .Add) (rCatL X.K):=by
 intro pins s σ H x y v u Q I rx ry h;obtain ⟨l,b,xs,zs,rfl,rfl,hH,hB,hz,q⟩:=h;cases rx;cases ry;obtain ⟨its,r,pl,_⟩:=I.list hH;obtain ⟨its2,r2,pl2,_⟩:=I.list hB;have hl:=r.length;have hl2:=r2.length;obtain ⟨⟨cls,dd,data,sl⟩,n,ho,hc,hdd,hd⟩:=pl;obtain ⟨⟨cls2,dd2,data2,sl2⟩,n2,ho2,hc2,hdd2,hd2⟩:=pl2;simp only at hc hd hc2 hd2;subst hc hd hc2 hd2;refine concat_meets ⟨_,ho,rfl⟩ ⟨_,ho2,rfl⟩ noFill_list_add seq_list_add PySem.F.slot_list_add PySem.F.entry_list_add (PySem.F.args_list_add_2 _ _) (list_addW l b its.toArray its2.toArray n n2 dd dd2 sl sl2 (by rw [size_toArray,size_toArray]; omega)) ⟨ho,ho2,?_⟩;have ea:its.toArray++its2.toArray=(its++its2).toArray:=by simp
 rw [ea];exact ⟨.ref _,_,I.lnew (t':=s.toks) (r.append r2) (by rw [length_append]; omega),rfl,q _ I.fresh⟩
theorem Jz {prog:Program} {w:World} {A:Around} {E:Value→Shared→Prop} {s:Shared} {t sl:Addr} {items:Array Value} {vl vu:Value} {lo hi:Option Int} {Q:Value→Shared→Prop} (ht:IsTup s.heap t items) (hs:s.heap.IsSliceOf sl vl vu .none) (pl:IsPart vl lo) (pu:IsPart vu hi)
  (h1:HT.sIx items.size 0 lo=0) (h2:HT.sIx items.size items.size hi=items.size)
  (h:Q (.ref t) s):wpAny (model prog w) A (getItem (.ref t) (.ref sl)) Q E s:=by
 obtain ⟨os,hos,hcs,hds⟩:=id hs;have hTs:s.TypeIs (.ref sl) "slice":=⟨os,hos,hcs⟩;unfold getItem
 try with_reducible refine wpAny_holding ?_
 first | refine wpAny_bind (wpAny_pure ?_) | skip
 refine wpAny_bind (wpAny_sequenceKey ht.typeIs (by decide) ?_);refine wpAny_bind (wpAny_callSpecial?_slot (name:=Str.ofString "__getitem__") ht.typeIs PyProof.Rows.slot_tuple_getitem
  (wpAny_call_entry PyProof.Rows.slot_tuple_getitem ht.typeIs entry_tuple_getitem ?_ (args_tuple_getitem _ _)))
 show wpAny _ _ (Builtin.Tuple.tupleItemsOf (.ref t) >>= _) _ _ s
 refine wpAny_bind (tupleItemsOf_ ht ?_);refine wpAny_bind (wpAny_typeOf hTs ?_);rw [if_pos (by decide)];refine wpAny_bind (HT.sliceApplied_gen hs pl pu ?_);have hyes:(((HT.sIx items.size 0 lo:Nat):Int) == 0&&(1:Int) == 1&&(HT.sIx items.size items.size hi - HT.sIx items.size 0 lo) == items.size)=true:=by
  rw [h1,h2]; simp
 show wpAny _ _ (if (((HT.sIx items.size 0 lo:Nat):Int) == 0&&(1:Int) == 1&&(HT.sIx items.size items.size hi - HT.sIx items.size 0 lo) == items.size)=true then _ else _) _ _ s
 rw [if_pos hyes];unfold Builtin.Tuple.tupleIsExact;refine wpAny_bind (wpAny_bind (wpAny_typeOf ht.typeIs (wpAny_pure ?_)));rw [if_pos (by decide)];exact wpAny_bind (wpAny_rule (wpAny_pure ⟨_,rfl,wpAny_pure h⟩))
def rSlTT (K:PySem.W.Frag):V→Option Int→Option Int→Hp→VK→Prop:=fun x lo hi H Q=>∃ a xs,x=.ref a∧SqT K H a xs ∧
 ((HT.sIx xs.length 0 lo=0∧HT.sIx xs.length xs.length hi=xs.length)→Q (.ref a) H) ∧
 (¬ (HT.sIx xs.length 0 lo=0∧HT.sIx xs.length xs.length hi=xs.length)→∀ p,H p=none→Q (.ref p) (upd H p (.tup (zDj xs lo hi))))
theorem sl_tupT:SlR X (rSlTT X.K):=by
 intro pins s σ H x v vl vu lo hi sl Q I rx hs pl pu h;obtain ⟨a,xs,rfl,hx,q1,q2⟩:=h;by_cases hw:HT.sIx xs.length 0 lo=0∧HT.sIx xs.length xs.length hi=xs.length
 ·cases rx
  obtain ⟨its,r,ht,hz⟩:=I.tuple hx;have hlen:its.toArray.size=xs.length:=by rw [size_toArray]; exact r.length.symm
  refine ⟨"tuple",_,PyProof.Rows.slot_tuple_getitem.lookup,ht.typeIs,?_⟩;exact Jz ht hs pl pu (by rw [hlen]; exact hw.1) (by rw [hlen]; exact hw.2) ⟨.ref a,H,I,rfl,q1 hw⟩
 ·exact sl_tup pins s σ H (.ref a) v vl vu lo hi sl Q I rx hs pl pu ⟨a,xs,rfl,hx,hw,q2 hw⟩
theorem Gu:∀ bs:List Bool,(List.range bs.length).all (fun i=>bs.getD i false)=bs.all id
 | []=>rfl
 | b::bs=>by
  rw [length_cons,List.range_succ_eq_map,all_cons,all_cons,List.all_map,← Gu bs];rfl
theorem zDt (hc:X.calm=true):jm X (.builtin "all") (fun xs H Q=>∃ (p:Addr) (bs:List Bool),xs=[.ref p]∧SqL X.K H p (bs.map V.bl)∧Q (.bl (bs.all id)) H):=by
 intro pins s σ H xs us Q I r h;obtain ⟨p,bs,rfl,hq,q⟩:=h;obtain ⟨u,rfl,rx⟩:=vE r;cases rx;obtain ⟨its,rv,pl,hz⟩:=I.list hq;have hlen:=rv.length;refine call_all_walk (wpAny_pyIter_list pl.isList ?_);have hp:p < s.heap.objs.size:=by obtain ⟨o,n,e,_⟩:=pl; exact lt_size e
 have hk:∀ b o,s.heap.get? b=some o→(s.heap.push { cls:=.type "list_iterator",data:=.fields #[.ref p,.int 0 0] }).get? b=some o:=fun b o e=>get?_push_of_some _ e
 have htr:∀ (i:Nat) (v:Value),its.toArray[i]?=some v→v=Value.bool (bs.getD i false):=fun i v hv=>by
  have hv':its[i]?=some v:=by simpa using hv
  have hi:i < its.length:=(List.getElem?_eq_some_iff.mp hv').1;have hx:i < (bs.map V.bl).length:=by rw [hlen]; exact hi
  obtain ⟨u',e1,e2⟩:=rv.get (i:=i) (x:=(bs.map V.bl)[i]) (by simp [hx]);rw [hv'] at e1; cases e1;rw [length_map] at hx;rw [List.getElem_map] at e2;have:v=.bool (bs[i]):=e2;rw [this]; simp [hx]
 refine ⟨s.heap.objs.size,[s.heap.objs.size,p],[s.heap.objs.size],its.toArray.size,_,_,fun i=>bs.getD i false,rfl,
  Walks.list (by show X.A.handled=none; exact I.ok.hd hc) _ p (ne_of_lt hp) its.toArray,⟨⟨_,get?_push_size _ rfl,rfl,rfl⟩,?_⟩,?_,?_⟩
 ·obtain ⟨o,e,c⟩:=pl.isList
  exact ⟨o,hk _ _ e,c⟩
 ·intro i v s' Q' E' hv hQ
  rw [htr i v hv];exact wpAny_truthy_bool hQ
 ·intro h' tk kp
  have e:(List.range its.toArray.size).all (fun i=>bs.getD i false)=bs.all id:=by
   rw [size_toArray,← hlen,length_map,Gu]
  rw [e];exact ⟨.bl (bs.all id),H,I.kept (t':=tk) fun b o eb=>kp b o (fun m=>by
   have:b=s.heap.objs.size:=by simpa using m
   subst this;exact absurd (lt_size eb) (lt_irrefl _)) (hk b o eb),rfl,q⟩
theorem Zx:fillsNumberSlot (.type "tuple") "mul"=pure false :=
 PySem.fillsNumberSlot_seq (id:="tuple.__mul__") (r:=some (.builtin "tuple.__rmul__")) F.slot_tuple_mul.lookup (by decide +kernel) F.slot_tuple_rmul.lookup (by decide +kernel)
theorem Gv:seqRepeat? (.type "tuple")=pure (some (.builtin "tuple.__mul__")):=by
 unfold seqRepeat?;rw [PySem.seqSlot_of (T:="tuple") (name:="__mul__") (id:="tuple.__mul__") F.slot_tuple_mul.lookup (by decide +kernel),PySem.seqSlot_of (T:="tuple") (name:="__rmul__") (id:="tuple.__rmul__") F.slot_tuple_rmul.lookup (by decide +kernel)];rfl
theorem vF (a:Int) (t:Tok) (l:Addr) (items:Array Value) (n:Nat) (dd:Option Addr) (sl:Array (Option Value)) :
  Meets (Builtin.«int.__rmul__» ⟨[.int a t,.ref l],[]⟩) (fun _ R s=>s.heap.get? l=some { cls:=.type "tuple",dict:=dd,data:=.seq items n,slots:=sl }∧R (.ok (.ret Value.notImplemented)) s) :=
 .of_wp fun prog w A R s h=>by obtain ⟨hp,g,d,tk,os⟩:=s; obtain ⟨hl,h⟩:=h; wp_walk; exact ⟨_,rfl,h⟩
theorem vG {prog:Program} {w:World} {A:Around} {E:Value→Shared→Prop} {s:Shared} {l:Addr} {items:Array Value} {k:Int} {t:Tok} {Q:Value→Shared→Prop} (hl:IsTup s.heap l items) (h1:-(2 ^ 63)≤k) (h2:k < 2 ^ 63)
  (hz:(items.size:Int) * k≤sizeLine) (q0:items.isEmpty=true∨k=1→Q (.ref l) s)
  (q1:k≤0→Q (.ref s.heap.objs.size) { s with heap:=s.heap.push { cls:=.type "tuple",data:=.seq #[] } })
  (q2:Q (.ref s.heap.objs.size) { s with heap:=s.heap.push { cls:=.type "tuple",data:=.seq ((replicate k.toNat items).foldl (·++·) #[]) } })
  (hfit:sizeOk (.seq ((replicate k.toNat items).foldl (·++·) #[]))) :
  wpAny (model prog w) A (call (.builtin "tuple.__mul__") [.ref l,.int k t]) Q E s:=by
 refine wpAny_call_entry F.slot_tuple_mul hl.typeIs F.entry_tuple_mul ?_ (F.args_tuple_mul_2 _ _);show wpAny _ _ (asIndex (.int k t) >>= _) _ _ s;refine wpAny_bind (wpAny_of_eq (a:=k) rfl ?_);dsimp only;rw [if_neg (by simp only [Bool.or_eq_true,decide_eq_true_eq]; omega)];refine wpAny_bind (tupleItemsOf_ hl ?_);by_cases e1:(items.isEmpty || k == 1)=true
 ·rw [if_pos e1]
  unfold Builtin.Tuple.tupleIsExact;refine wpAny_bind (wpAny_bind (wpAny_typeOf hl.typeIs (wpAny_pure ?_)));rw [if_pos (by decide)];refine wpAny_bind (wpAny_rule (wpAny_pure ⟨_,rfl,q0 ?_⟩));rw [Bool.or_eq_true,beq_iff_eq] at e1;exact e1
 ·rw [if_neg e1]
  by_cases e2:(decide (k≤0) || items.isEmpty)=true
  ·rw [if_pos e2]
   have hk:k≤0:=by
    simp only [Bool.or_eq_true,decide_eq_true_eq,beq_iff_eq,not_or] at e1 e2;rcases e2 with e2 | e2
    ·exact e2
    ·exact absurd e2 e1.1
   exact wpAny_bind (m:=Builtin.Tuple.tupleExact _) (wpAny_newObj_type (wpAny_pure ⟨_,rfl,q1 hk⟩) (by show (#[]:Array Value).size≤sizeLine; simp))
  ·rw [if_neg e2]
   have hs:sizeLine=16777216:=sizeLine_eq;rw [if_neg (by rw [hs] at hz; omega),if_neg (by unfold Builtin.Tuple.tupleTooMany; simp only [decide_eq_true_eq]; omega)];exact wpAny_bind (m:=Builtin.Tuple.tupleExact _) (wpAny_newObj_type (wpAny_pure ⟨_,rfl,q2⟩) hfit)
def rRepT (K:PySem.W.Frag):R2:=fun x y H Q=>∃ l k xs,x=.ref l∧y=.int k∧SqT K H l xs∧-(2 ^ 63)≤k∧k < 2 ^ 63∧xs.length * k.toNat≤sizeLine ∧
 (xs=[]∨k=1→Q (.ref l) H)∧(∀ p,H p=none→Q (.ref p) (upd H p (.tup (replicate k.toNat xs).flatten)))
theorem op_repT:OpR X (binaryOp .Mult) (rRepT X.K):=by
 intro pins s σ H x y v u Q I rx ry h;obtain ⟨l,k,xs,rfl,rfl,hH,h1,h2,hz,q0,q⟩:=h;cases rx;obtain ⟨t,rfl⟩:=ry;obtain ⟨its,r,pt,_⟩:=I.tuple hH;have hl:=r.length;obtain ⟨⟨cls,dd,data,sl⟩,ho,hc,n,hd⟩:=id pt;simp only at hc hd;subst hc hd;have hnew:foldl (fun x1 x2=>x1++x2) #[] (replicate k.toNat its.toArray)=(replicate k.toNat its).flatten.toArray:=by
  have:=WQ its k.toNat [];rw [nil_append] at this;exact this
 have hlen:(replicate k.toNat its).flatten.length≤sizeLine:=by rw [Qa,mul_comm,← hl]; exact hz
 have hzz:((its.toArray.size:Nat):Int) * k≤(sizeLine:Nat):=by
  rw [size_toArray,← hl];by_cases hk:0≤k
  ·obtain ⟨m,rfl⟩:=Int.eq_ofNat_of_zero_le hk
   have:xs.length * m≤sizeLine:=by simpa using hz
   exact_mod_cast this
  ·have:(xs.length:Int) * k≤0:=Int.mul_nonpos_of_nonneg_of_nonpos (Int.natCast_nonneg _) (by omega)
   omega
 refine wpAny_binaryOp_repeat_ref (T:="tuple") (U:="int") (by decide) ⟨_,ho,rfl⟩ (fun s'=>typeIs_int s' k t) Zx F.fills_int_mul F.slot_int_rmul Gv F.slot_int_index.lookup
  (call_meets F.slot_int_rmul (typeIs_int s k t) F.entry_int_rmul (F.args_int_rmul_2 _ _) (vF k t l its.toArray n dd sl) ⟨ho,rfl,⟨_,ho,rfl⟩,?_⟩)
 refine vG pt h1 h2 hzz (fun e=>⟨.ref l,H,I,rfl,q0 ?_⟩) (fun e=>?_) ?_ ?_
 ·rcases e with e | e
  ·left
   have:its=[]:=by simpa using e
   exact r.nil_iff.mp this
  ·right; exact e
 ·have ek:k.toNat=0:=by omega
  have q':=q s.heap.objs.size I.fresh;rw [ek] at q';exact ⟨.ref s.heap.objs.size,_,I.laid (t':=s.toks) (o:=.tup []) (fun b ob q=>get?_push_of_some _ q) (le_refl _) ⟨zero_le _,[],.nil,IsTup.new _ _⟩,rfl,q'⟩
 ·rw [hnew]
  exact ⟨.ref s.heap.objs.size,_,I.laid (t':=s.toks) (o:=.tup (replicate k.toNat xs).flatten) (fun b ob q=>get?_push_of_some _ q) (le_refl _) ⟨by rw [Qa,mul_comm]; exact hz,_,r.rep k.toNat,IsTup.new _ _⟩,rfl,q _ I.fresh⟩
 ·rw [hnew]
  show (replicate k.toNat its).flatten.toArray.size≤sizeLine
  rw [size_toArray]; exact hlen
end
end L2
namespace DV
open PySem L2
def cap:Nat:=1000000
theorem ZU {n:Nat} (h:n≤cap):n≤sizeLine:=le_trans h (by rw [sizeLine_eq]; decide)
abbrev Kt (K:PySem.W.Frag) (mg:Str→Option Value) (M:Addr→Prop) (H:Hp) (Z:Fz) (res:R) (Q:VK):Prop :=
 ∀ v H',FR K mg M H' ((some v,res.slot)::Z)→Step M H Z H' ((some v,res.slot)::Z)→Q v H'
def ROk (K:PySem.W.Frag) (mg:Str→Option Value) (rel:R2) (f:D→D→Option R):Prop :=
 ∀ (M:Addr→Prop) (H:Hp) (Z:Fz) (x y:V) (d1 d2:D) (res:R) (Q:VK),FR K mg M H Z→Rep K mg (Hm (Mo M Z) H) d1 x→Rep K mg (Hm (Mo M Z) H) d2 y→f d1 d2=some res→Kt K mg M H Z res Q→rel x y H Q
def COk (K:PySem.W.Frag) (mg:Str→Option Value) (rel:List V→Hp→VK→Prop) (f:List D→Option R):Prop :=
 ∀ (M:Addr→Prop) (H:Hp) (Z:Fz) (xs:List V) (ds:List D) (res:R) (Q:VK),FR K mg M H Z→Reps K mg (Hm (Mo M Z) H) ds xs→f ds=some res→Kt K mg M H Z res Q→rel xs H Q
section
variable {X:Cx} {K:PySem.W.Frag} {mg:Str→Option Value} {M:Addr→Prop} {H H':Hp} {Z:Fz} {Q:VK} {σ:St}
theorem Kt.flat {d:D} (k:Kt K mg M H Z (.val d) Q) (f:FR K mg M H Z) (h:flat d=true):Q (flV d) H:=k _ _ (f.add (zAQ h)) Step.refl.add
theorem Kt.rep {d:D} {v:V} (k:Kt K mg M H Z (.val d) Q) (f:FR K mg M H Z) (h:Rep K mg (Hm (Mo M Z) H) d v):Q v H:=k _ _ (f.add h) Step.refl.add
theorem Kt.tup {ds:List D} {xs:List V} {p:Addr} (k:Kt K mg M H Z (.val (.tup ds)) Q) (f:FR K mg M H Z) (hp:H p=none) (h:Reps K mg (Hm (Mo M Z) H) ds xs):Q (.ref p) (upd H p (.tup xs)):=k _ _ (f.newTup hp h) (Step.newVal hp)
theorem Kt.own {ds:List D} {xs:List V} {p:Addr} (k:Kt K mg M H Z (.own ds) Q) (f:FR K mg M H Z) (hp:H p=none) (h:Reps K mg (Hm (Mo M Z) H) ds xs):Q (.ref p) (upd H p (.lst xs)):=k _ _ (f.newOwn hp h) (Step.newOwn f hp)
def vA (f:D→D→Option R) (a b:ME):ME:=fun E=>match a E with
 | .stuck=>.stuck
 | .exc x E1=>.exc x E1
 | .ok (r1,E1)=>match b E1 with
  | .stuck=>.stuck
  | .exc x E2=>.exc x E2
  | .ok (r2,E2)=>match f r1.d r2.d with
   | some r=>.ok (r,E2)
   | none=>.stuck
theorem uX {rel:R2} {f:D→D→Option R} {a b:ME} (hr:ROk X.K X.mg rel f) {H:Hp} {Q:VK} (h:tM X (vA f a b) σ H Q):tOp rel (tM X a) (tM X b) σ H Q:=by
 obtain ⟨M,E,hl,fr,k⟩:=h;unfold vA at k;refine yM (T0:=[]) hl fr ?_;cases ea:a E with
 | stuck=>rw [ea] at k; exact k
 | exc x E1=>rw [ea] at k; exact fun H' g=>k H' g
 | ok p =>
  obtain ⟨r1,E1⟩:=p;rw [ea] at k;intro x H1 g1;refine yM (T0:=[(some x,r1.slot)]) g1.len g1.fr ?_;dsimp only at k;cases eb:b E1 with
  | stuck=>rw [eb] at k; exact k
  | exc x E2=>rw [eb] at k; exact fun H' g=>k H' (g1.trans' g).dropAll
  | ok p =>
   obtain ⟨r2,E2⟩:=p;rw [eb] at k;intro y H2 g2;have g:=g1.trans' g2;have rp:=Got.reps (vs:=[y,x]) (rs:=[r2,r1]) rfl g;simp only [List.map,Reps] at rp;obtain ⟨y',_,e1,ry,x',_,e2,rx,_⟩:=rp;cases e1; cases e2;dsimp only at k;cases ef:f r1.d r2.d with
   | none=>rw [ef] at k; exact k.elim
   | some r =>
    rw [ef] at k;exact hr M H2 _ x y r1.d r2.d r Q g.frame rx ry ef fun v H' f' s'=>k v H' (g.more (T:=[(some v,r.slot)]) f' s')
theorem zBA {op:Operator} {rel:R2} {f:D→D→Option R} {a b:Expr} {ma mb:ME} {pos:Pos} (ho:OpR X (binaryOp op) rel) (hr:ROk X.K X.mg rel f) (ha:EOk X a ma) (hb:EOk X b mb):EOk X (.BinOp a op b pos) (vA f ma mb) :=
 yY (pe_op ho ha hb) fun σ H Q h=>uX hr h
theorem Jf {op:CmpOp} {rel:R2} {f:D→D→Option R} {a b:Expr} {ma mb:ME} {pos:Pos} (ho:OpR X (compareOp op) rel) (hr:ROk X.K X.mg rel f) (hm:behindInMarks op b=false) (ha:EOk X a ma) (hb:EOk X b mb):EOk X (.Compare a [op] [b] pos) (vA f ma mb) :=
 yY (pe_cmpR ho ha hb hm) fun σ H Q h=>uX hr h
theorem ok_ix {rel:R2} {f:D→D→Option R} {a b:Expr} {ma mb:ME} {pos:Pos} (ho:IxR X rel) (hr:ROk X.K X.mg rel f) (hs:uQ b) (ha:EOk X a ma) (hb:EOk X b mb):EOk X (.Subscript a b pos) (vA f ma mb) :=
 yY (pe_ix ho ha hb hs) fun σ H Q h=>uX hr h
def tT (m:ME):MT:=fun E=>match m E with
 | .stuck=>.stuck
 | .exc x E1=>.exc x E1
 | .ok (.val (.bl b),E1)=>.ok (b,E1)
 | _=>.stuck
theorem zB0 {m:ME} {H:Hp} {Q:Bool→Hp→Prop} (h:tMT X (tT m) σ H Q):tM X m σ H fun x H'=>∃ k,x=.bl k∧Q k H':=by
 obtain ⟨M,E,hl,fr,k⟩:=h;refine ⟨M,E,hl,fr,?_⟩;unfold tT at k;cases e:m E with
 | stuck=>rw [e] at k; exact k
 | exc x E1=>rw [e] at k; exact k
 | ok p =>
  obtain ⟨r,E1⟩:=p;rw [e] at k;cases r with
  | own ds=>exact k.elim
  | val d =>
   cases d with
   | bl b =>
    intro v H' g;have rp:=g.rep;simp only [R.d,Rep] at rp;exact ⟨b,rp,k H' g.dropAll⟩
   | _=>exact k.elim
theorem ok_test {e:Expr} {m:ME} (h:EOk X e m) (he:∀ whole,isTrue e X.env whole=(do let v ← whole; standAt e.pos; holding [v] (truthy v)):=by intro _; rfl):TOk X e (tT m) :=
 zAP (pt_val h he) fun σ H Q q=>zB0 q
theorem wF {op:CmpOp} {rel:R2} {f:D→D→Option R} {a b:Expr} {ma mb:ME} {pos:Pos} (ho:OpR X (compareOp op) rel) (hr:ROk X.K X.mg rel f) (hm:behindInMarks op b=false) (ha:EOk X a ma) (hb:EOk X b mb):TOk X (.Compare a [op] [b] pos) (tT (vA f ma mb)) :=
 zAP (pt_cmpR ho ha hb hm) fun σ H Q h=>uX hr (zB0 h)
def Qg (a b:MT):MT:=fun E=>match a E with
 | .ok (true,E1)=>b E1
 | o=>o
def zBN (a b:MT):MT:=fun E=>match a E with
 | .ok (false,E1)=>b E1
 | o=>o
def Zy (a:MT):MT:=fun E=>match a E with
 | .stuck=>.stuck
 | .exc x E1=>.exc x E1
 | .ok (b,E1)=>.ok (!b,E1)
theorem or_run {a b:MT} {H:Hp} {Q:Bool→Hp→Prop} (h:tMT X (zBN a b) σ H Q):tOr (tMT X a) (tMT X b) σ H Q:=by
 obtain ⟨M,E,hl,fr,k⟩:=h;unfold zBN at k;refine WS (T0:=[]) hl fr ?_;cases ea:a E with
 | stuck=>rw [ea] at k; exact k
 | exc x E1=>rw [ea] at k; exact k
 | ok p =>
  obtain ⟨c,E1⟩:=p;rw [ea] at k;intro H1 g1;cases c with
  | true=>exact iteT (k H1 g1)
  | false =>
   refine iteF ?_;refine WS (T0:=[]) g1.len g1.fr ?_;dsimp only at k;cases eb:b E1 with
   | stuck=>rw [eb] at k; exact k
   | exc x E2=>rw [eb] at k; exact fun H' g=>k H' (g1.trans' g)
   | ok p=>rw [eb] at k; exact fun H' g=>k H' (g1.trans' g)
theorem not_run {a:MT} {H:Hp} {Q:Bool→Hp→Prop} (h:tMT X (Zy a) σ H Q):tNot (tMT X a) σ H Q:=by
 obtain ⟨M,E,hl,fr,k⟩:=h;unfold Zy at k;refine WS (T0:=[]) hl fr ?_;cases ea:a E with
 | stuck=>rw [ea] at k; exact k
 | exc x E1=>rw [ea] at k; exact k
 | ok p=>rw [ea] at k; exact k
abbrev WOk (X:Cx) (e:Expr) (m:MT):Prop:=PW X e (tMT X m)
theorem wk_or1 {a:Expr} {m:MT} {pos:Pos} (h:TOk X a m):WOk X (.BoolOp .Or [a] pos) m:=pw_or1 h
theorem wk_or {a b:Expr} {vd:List Expr} {ma mb:MT} {pos:Pos} (ha:TOk X a ma) (hb:WOk X (.BoolOp .Or (b::vd) pos) mb):WOk X (.BoolOp .Or (a::b::vd) pos) (zBN ma mb):=pw_imp (pw_or ha hb) fun σ H Q=>or_run
theorem tk_w {e:Expr} {m:MT} (h:WOk X e m):TOk X e m:=h.pt
theorem tk_not {a:Expr} {m:MT} {pos:Pos} (h:TOk X a m):TOk X (.UnaryOp .Not a pos) (Zy m):=zAP (pt_not h) fun σ H Q=>not_run
def zBO (a:ME):ME:=fun E=>match a E with
 | .ok (.val (.bl b),E1)=>.ok (.val (.bl (!b)),E1)
 | .exc x E1=>.exc x E1
 | _=>.stuck
def zBP (a b:ME):ME:=fun E=>match a E with
 | .ok (.val (.bl true),E1)=>b E1
 | .ok (.val (.bl false),E1)=>.ok (.val (.bl false),E1)
 | .exc x E1=>.exc x E1
 | _=>.stuck
def eOr (a b:ME):ME:=fun E=>match a E with
 | .ok (.val (.bl false),E1)=>b E1
 | .ok (.val (.bl true),E1)=>.ok (.val (.bl true),E1)
 | .exc x E1=>.exc x E1
 | _=>.stuck
theorem zDu {a:ME} {H:Hp} {Q:VK} (h:tM X (zBO a) σ H Q):tNotV (tM X a) σ H Q:=by
 obtain ⟨M,E,hl,fr,k⟩:=h;unfold zBO at k;refine yM (T0:=[]) hl fr ?_;cases ea:a E with
 | stuck=>rw [ea] at k; exact k
 | exc x E1=>rw [ea] at k; exact k
 | ok p =>
  obtain ⟨r,E1⟩:=p;rw [ea] at k;cases r with
  | own ds=>exact k.elim
  | val d =>
   cases d with
   | bl b =>
    intro v H' g;have rp:=g.rep;simp only [R.d,Rep] at rp;exact ⟨b,rp,k _ H' (g.flat (d:=.bl (!b)) rfl)⟩
   | _=>exact k.elim
theorem zDv {a b:ME} {H:Hp} {Q:VK} (h:tM X (zBP a b) σ H Q):tAndV (tM X a) (tM X b) σ H Q:=by
 obtain ⟨M,E,hl,fr,k⟩:=h;unfold zBP at k;refine yM (T0:=[]) hl fr ?_;cases ea:a E with
 | stuck=>rw [ea] at k; exact k
 | exc x E1=>rw [ea] at k; exact k
 | ok p =>
  obtain ⟨r,E1⟩:=p;rw [ea] at k;cases r with
  | own ds=>exact k.elim
  | val d =>
   cases d with
   | bl c =>
    intro v H' g;have rp:=g.rep;simp only [R.d,Rep] at rp;refine ⟨c,rp,?_⟩;cases c with
    | false=>exact iteF (k _ H' (g.flat (d:=.bl false) rfl))
    | true =>
     refine iteT (yM (T0:=[]) g.len g.frame ?_);dsimp only at k;cases eb:b E1 with
     | stuck=>rw [eb] at k; exact k
     | exc x E2=>rw [eb] at k; exact fun H'' g'=>k H'' (g.dropAll.trans' g')
     | ok p=>rw [eb] at k; exact fun v'' H'' g'=>k v'' H'' (g.dropAll.trans' g')
   | _=>exact k.elim
theorem ok_not {a:Expr} {m:ME} {pos:Pos} (h:EOk X a m):EOk X (.UnaryOp .Not a pos) (zBO m):=yY (pe_not h) fun σ H Q=>zDu
theorem zE3 {a b:Expr} {vd:List Expr} {ma mb:ME} {pos:Pos} (ha:EOk X a ma) (hb:EOk X (.BoolOp .And (b::vd) pos) mb):EOk X (.BoolOp .And (a::b::vd) pos) (zBP ma mb):=yY (pe_and ha hb) fun σ H Q=>zDv
theorem ok_one {a:Expr} {op:BoolOp} {m:ME} {pos:Pos} (h:EOk X a m):EOk X (.BoolOp op [a] pos) m:=pe_one h
def zDO:MA:=fun E=>.ok ([],E)
def Zz (a:ME) (m:MA):MA:=fun E=>match a E with
 | .stuck=>.stuck
 | .exc x E1=>.exc x E1
 | .ok (r,E1)=>match m E1 with
  | .stuck=>.stuck
  | .exc x E2=>.exc x E2
  | .ok (rs,E2)=>.ok (r::rs,E2)
theorem ak_nil:AOk X [] zDO:=Gq Gd fun σ H Q ⟨M,E,hl,fr,k⟩=>k [] H rfl (Got.refl (T0:=[]) hl fr)
theorem Got.perm {K:PySem.W.Frag} {mg:Str→Option Value} {M:Addr→Prop} {σ σ1:St} {E E1:zY} {H H1:Hp} {T0 T T':Fz} (a:Got K mg M σ E H T0 σ1 E1 H1 T) (p:T.Perm T'):Got K mg M σ E H T0 σ1 E1 H1 T' where
 len:=a.len
 fr:=a.fr.perm (p.append_right _)
 st:=a.st.weak (zF (p.append_right _).symm)
 pk:=a.pk
theorem zDw {a:ME} {m:MA} {H:Hp} {Q:List V→Hp→Prop} (h:tMA X (Zz a m) σ H Q):zBm (tM X a) (tMA X m) σ H Q:=by
 obtain ⟨M,E,hl,fr,k⟩:=h;unfold Zz at k;refine yM (T0:=[]) hl fr ?_;cases ea:a E with
 | stuck=>rw [ea] at k; exact k
 | exc x E1=>rw [ea] at k; exact k
 | ok p =>
  obtain ⟨r1,E1⟩:=p;rw [ea] at k;intro x H1 g1;refine Jy (T0:=[(some x,r1.slot)]) g1.len g1.fr ?_;dsimp only at k;cases eb:m E1 with
  | stuck=>rw [eb] at k; exact k
  | exc x E2=>rw [eb] at k; exact fun H' g=>k H' (g1.trans' g).dropAll
  | ok p =>
   obtain ⟨rs,E2⟩:=p;rw [eb] at k;intro vs H2 hv g2;refine k (x::vs) H2 (by simp [hv]) ?_;rw [vg];exact (g1.trans' g2).perm (perm_append_comm)
theorem ak_cons {e:Expr} {es:List Expr} {a:ME} {m:MA} (ha:EOk X e a) (hm:AOk X es m) (hs:za e=false:=by rfl):AOk X (e::es) (Zz a m):=Gq (Jx ha hm (zp hs)) fun σ H Q=>zDw
def eCB (f:List D→Option R) (m:MA):ME:=fun E=>match m E with
 | .stuck=>.stuck
 | .exc x E1=>.exc x E1
 | .ok (rs,E1)=>match f (rs.map R.d) with
  | some r=>.ok (r,E1)
  | none=>.stuck
theorem zAR {rel:List V→Hp→VK→Prop} {f:List D→Option R} {m:MA} (hr:COk X.K X.mg rel f) {H:Hp} {Q:VK} (h:tM X (eCB f m) σ H Q):tCB rel (tMA X m) σ H Q:=by
 obtain ⟨M,E,hl,fr,k⟩:=h;unfold eCB at k;refine Jy (T0:=[]) hl fr ?_;cases ea:m E with
 | stuck=>rw [ea] at k; exact k
 | exc x E1=>rw [ea] at k; exact k
 | ok p =>
  obtain ⟨rs,E1⟩:=p;rw [ea] at k;intro vs H1 hv g;have rp:=Got.reps hv g;dsimp only at k;cases ef:f (rs.map R.d) with
  | none=>rw [ef] at k; exact k.elim
  | some r =>
   rw [ef] at k;exact hr M H1 _ vs _ r Q g.frame rp ef fun v H' f' s'=>k v H' (g.more (T:=[(some v,r.slot)]) f' s')
def zDP (m:MA):ME:=eCB (fun ds=>if ds.length≤cap then some (.val (.tup ds)) else none) m
def zDQ (m:MA):ME:=eCB (fun ds=>if ds.length≤cap then some (.own ds) else none) m
theorem ok_tup {es:List Expr} {m:MA} {x1:Nat} {pos:Pos} (h:AOk X es m):EOk X (.Tuple es x1 pos) (zDP m) :=
 yY (pe_tup h) fun σ H Q q=>zAR (rel:=fun xs H1 Q=>xs.length≤sizeLine∧∀ p,H1 p=none→Q (.ref p) (upd H1 p (.tup xs))) (fun M H Z xs ds res Q f r e k=>by
  split at e
  ·rename_i hc
   cases e;exact ⟨by rw [r.length]; exact ZU hc,fun p hp=>k.tup f hp r⟩
  ·cases e) q
theorem ok_lst {es:List Expr} {m:MA} {pos:Pos} (h:AOk X es m):EOk X (.List es pos) (zDQ m) :=
 yY (pe_lst h) fun σ H Q q=>zAR (rel:=fun xs H1 Q=>xs.length≤sizeLine∧∀ p,H1 p=none→Q (.ref p) (upd H1 p (.lst xs))) (fun M H Z xs ds res Q f r e k=>by
  split at e
  ·rename_i hc
   cases e;exact ⟨by rw [r.length]; exact ZU hc,fun p hp=>k.own f hp r⟩
  ·cases e) q
theorem YV {f:List D→Option R} {m:MA} {rel:List V→Hp→VK→Prop} {id:String} {x:Str} {p pos:Pos} {e:Expr} {es:List Expr} (hc:jm X (.builtin id) rel) (hr:COk X.K X.mg rel f) (hg:Gl X x) (hm:X.mg x=none) (hv:bootBuiltins x=some (.builtin id)) (ha:AOk X (e::es) m) (hn:x≠"__name__":=by decide) (hdb:(x == ("__debug__":Str))=false:=by decide)
  (he:za e=false:=by rfl) (hpl:jN es=true:=by rfl):EOk X (.Call (.Name x p) (e::es) [] pos) (eCB f m) :=
 yY (uP hc hg hm hv ha hn hdb (zp he) (wz hpl)) fun σ H Q q=>zAR hr q
theorem WU {f:List D→Option R} {m:MA} {rel:List V→Hp→VK→Prop} {T:String} {x:Str} {p pos:Pos} {e:Expr} {es:List Expr} (hc:jm X (.type T) rel) (hr:COk X.K X.mg rel f) (hg:Gl X x) (hm:X.mg x=none) (hv:bootBuiltins x=some (.type T)) (ha:AOk X (e::es) m) (hn:x≠"__name__":=by decide) (hdb:(x == ("__debug__":Str))=false:=by decide)
  (he:za e=false:=by rfl) (hpl:jN es=true:=by rfl):EOk X (.Call (.Name x p) (e::es) [] pos) (eCB f m) :=
 yY (zBn hc hg hm hv ha hn hdb (zp he) (wz hpl)) fun σ H Q q=>zAR hr q
end
end DV
namespace DV
open PySem L2
section
variable {X:Cx} {K:PySem.W.Frag} {mg:Str→Option Value}
theorem zQ {H:Hp} {i:Int} {v:V} (h:Rep K mg H (.int i) v):v=.int i:=by simpa only [Rep] using h
theorem jA {H:Hp} {i:Bool} {v:V} (h:Rep K mg H (.bl i) v):v=.bl i:=by simpa only [Rep] using h
theorem wG {H:Hp} {i:Str} {v:V} (h:Rep K mg H (.str i) v):v=.str i:=by simpa only [Rep] using h
theorem jR {H:Hp} {v:V} (h:Rep K mg H .non v):v=.non:=by simpa only [Rep] using h
theorem zb {H:Hp} {ds:List D} {v:V} (h:Rep K mg H (.tup ds) v):∃ a xs,v=.ref a∧SqT K H a xs∧Reps K mg H ds xs:=by simpa only [Rep] using h
theorem zS {H:Hp} {ds:List D} {v:V} (h:Rep K mg H (.lst ds) v):∃ a xs,v=.ref a∧SqL K H a xs∧Reps K mg H ds xs:=by simpa only [Rep] using h
theorem zV {H:Hp} {d:D} {v:V} (hf:flat d=true) (h:Rep K mg H d v):v=flV d:=by
 cases d <;> simp [flat] at hf <;> simpa only [Rep,flV] using h
def QS:D→D→Option R
 | .int i,.int j=>some (.val (.int (i+j)))
 | .tup a,.tup b=>if a.length+b.length≤cap then some (.val (.tup (a++b))) else none
 | .lst a,.lst b=>if a.length+b.length≤cap then some (.own (a++b)) else none
 | _,_=>none
def rAddD (K:PySem.W.Frag):R2:=fun x y H Q=>rI0 (fun i j=>.int (i+j)) x y H Q∨(zE2 K x y H Q∨rCatL K x y H Q)
theorem op_addD:OpR X (binaryOp .Add) (rAddD X.K):=op_add.or (zDs.or op_catL)
theorem ro_add:ROk K mg (rAddD K) QS:=by
 intro M H Z x y d1 d2 res Q f r1 r2 e k;cases d1 with
 | int i =>
  cases d2 with
  | int j =>
   cases e;exact .inl ⟨i,j,zQ r1,zQ r2,k.flat f rfl⟩
  | _=>cases e
 | tup a =>
  cases d2 with
  | tup b =>
   simp only [QS] at e;split at e
   ·rename_i hc
    cases e;obtain ⟨p,xs,rfl,h1,h2⟩:=zb r1;obtain ⟨q,ys,rfl,h3,h4⟩:=zb r2;have l1:=h2.length;have l2:=h4.length;refine .inr (.inl ⟨p,q,xs,ys,rfl,rfl,yD zL h1,yD zL h3,by rw [l1,l2]; exact ZU hc,fun e=>?_,fun _ e=>?_,fun _ _ p' hp=>k.tup f hp (h2.append h4)⟩)
    ·subst e
     have:a=[]:=by simpa using l1.symm
     subst this;exact k.rep f (by simpa using r2)
    ·subst e
     have:b=[]:=by simpa using l2.symm
     subst this;exact k.rep f (by simpa using r1)
   ·cases e
  | _=>cases e
 | lst a =>
  cases d2 with
  | lst b =>
   simp only [QS] at e;split at e
   ·rename_i hc
    cases e;obtain ⟨p,xs,rfl,h1,h2⟩:=zS r1;obtain ⟨q,ys,rfl,h3,h4⟩:=zS r2;have l1:=h2.length;have l2:=h4.length;exact .inr (.inr ⟨p,q,xs,ys,rfl,rfl,zL.seq h1,zL.seq h3,by rw [l1,l2]; exact ZU hc,fun p' hp=>k.own f hp (h2.append h4)⟩)
   ·cases e
  | _=>cases e
 | _=>cases e
def zBQ (C:Int→Int→Bool) (g:Int→Int→D):D→D→Option R
 | .int i,.int j=>if C i j=true then some (.val (g i j)) else none
 | _,_=>none
theorem zB1 {C:Int→Int→Bool} {P:Int→Int→Prop} {g:Int→Int→D} {gv:Int→Int→V} (hC:∀ i j,C i j=true→P i j) (hg:∀ i j,flat (g i j)=true∧flV (g i j)=gv i j):ROk K mg (rI P gv) (zBQ C g):=by
 intro M H Z x y d1 d2 res Q f r1 r2 e k;cases d1 with
 | int i =>
  cases d2 with
  | int j =>
   simp only [zBQ] at e;split at e
   ·rename_i hc
    cases e;refine ⟨i,j,zQ r1,zQ r2,hC i j hc,?_⟩;have:=k.flat f (hg i j).1;rw [(hg i j).2] at this;exact this
   ·cases e
  | _=>cases e
 | _=>cases e
def zBR (g:Int→Int→D):D→D→Option R
 | .int i,.int j=>some (.val (g i j))
 | _,_=>none
theorem WV {g:Int→Int→D} {gv:Int→Int→V} (hg:∀ i j,flat (g i j)=true∧flV (g i j)=gv i j):ROk K mg (rI0 gv) (zBR g):=by
 intro M H Z x y d1 d2 res Q f r1 r2 e k;cases d1 with
 | int i =>
  cases d2 with
  | int j =>
   cases e;refine ⟨i,j,zQ r1,zQ r2,?_⟩;have:=k.flat f (hg i j).1;rw [(hg i j).2] at this;exact this
  | _=>cases e
 | _=>cases e
abbrev zE4:=zBR fun i j=>.int (i - j)
theorem ro_sub:ROk K mg (rI0 fun i j=>.int (i - j)) zE4:=WV fun _ _=>⟨rfl,rfl⟩
def Big:Nat:=2 ^ 4000
theorem zB2 {n:Nat} (h:n < Big):n.log2 < 4000:=by
 by_cases h0:n=0
 ·subst h0; decide +kernel
 ·exact (Nat.log2_lt h0).mpr h
theorem zAS {i:Int} (h:i.natAbs < Big):Builtin.Int.intBits i≤4000:=by
 unfold Builtin.Int.intBits;split
 ·exact zero_le _
 ·exact zB2 h
theorem zB3 {i j:Int} (h1:i.natAbs < Big) (h2:j.natAbs < Big):IntMulOk i j:=by
 have b1:=zAS h1;have b2:=zAS h2;unfold IntMulOk;have:Builtin.Int.intTooBig (((Builtin.Int.intBits i:Nat):Int)+(Builtin.Int.intBits j:Nat))=false:=by
  unfold Builtin.Int.intTooBig bitsLine;simp only [decide_eq_false_iff_not];have:(2 ^ 27:Nat)=134217728:=by decide
  omega
 rw [this,Bool.and_false];decide
def CDivB (i j:Int):Prop:=0 < j∧(j < 1073741824∨j.natAbs < Big)
theorem zDx:OpR X (binaryOp .FloorDiv) (rI CDivB fun i j=>.int (i / j)):=opI fun i j _ _ _ _ _ hc q=>by
 have h1:(0:Int) < j:=hc.1;refine PyProof.Rows.floordiv_int (by omega) (by rw [Int.fdiv_eq_ediv_of_nonneg i (by omega)]; exact q) (.inl ?_);rcases hc.2 with h | h
 ·exact PyProof.noPylong_small (by omega)
 ·exact PyProof.noPylong_of_log2 (lt_of_lt_of_le (zB2 h) (by decide))
def CMulB (i j:Int):Prop:=CMul i j∨(i.natAbs < Big∧j.natAbs < Big)
theorem op_mulB:OpR X (binaryOp .Mult) (rI CMulB fun i j=>.int (i * j)):=opI fun _ _ _ _ _ _ _ hc q=>PyProof.Rows.mul_int q (by
 rcases hc with h | h
 ·exact h.ok
 ·exact zB3 h.1 h.2)
abbrev Gw:=zBQ (fun _ j=>decide (0 < j∧(j < 1073741824∨j.natAbs < Big))) fun i j=>.int (i / j)
theorem ro_fdiv:ROk K mg (rI CDivB fun i j=>.int (i / j)) Gw:=zB1 (fun i j h=>(of_decide_eq_true h:0 < j∧(j < 1073741824∨j.natAbs < Big))) fun _ _=>⟨rfl,rfl⟩
abbrev zE5:=zBQ (fun _ j=>decide (0 < j)) fun i j=>.int (i % j)
theorem ro_mod:ROk K mg (rI (fun _ j=>0 < j) fun i j=>.int (i % j)) zE5:=zB1 (fun i j h=>of_decide_eq_true h) fun _ _=>⟨rfl,rfl⟩
abbrev powD:=zBQ (fun i j=>decide (0≤j∧j≤1000000∧i.natAbs < 2 ^ 64)) fun i j=>.int (i ^ j.toNat)
theorem ro_pow:ROk K mg (rI CPow fun i j=>.int (i ^ j.toNat)) powD:=zB1 (fun i j h=>(of_decide_eq_true h:0≤j∧j≤1000000∧i.natAbs < 2 ^ 64)) fun _ _=>⟨rfl,rfl⟩
def WW:D→D→Option R
 | .int i,.int j=>if ((-(2 ^ 64) < i∧i < 2 ^ 64)∨(-(2 ^ 64) < j∧j < 2 ^ 64))∨(i.natAbs < Big∧j.natAbs < Big) then some (.val (.int (i * j))) else none
 | .tup a,.int k=>if -(2 ^ 63)≤k∧k < 2 ^ 63∧a.length * k.toNat≤cap then some (.val (.tup (replicate k.toNat a).flatten)) else none
 | _,_=>none
def rMulD (K:PySem.W.Frag):R2:=fun x y H Q=>rI CMulB (fun i j=>.int (i * j)) x y H Q∨rRepT K x y H Q
theorem op_mulD:OpR X (binaryOp .Mult) (rMulD X.K):=op_mulB.or op_repT
theorem ro_mul:ROk K mg (rMulD K) WW:=by
 intro M H Z x y d1 d2 res Q f r1 r2 e k;cases d1 with
 | int i =>
  cases d2 with
  | int j =>
   simp only [WW] at e;split at e
   ·rename_i hc
    cases e;exact .inl ⟨i,j,zQ r1,zQ r2,hc,k.flat f rfl⟩
   ·cases e
  | _=>cases e
 | tup a =>
  cases d2 with
  | int n =>
   simp only [WW] at e;split at e
   ·rename_i hc
    cases e;obtain ⟨p,xs,rfl,h1,h2⟩:=zb r1;have l1:=h2.length;refine .inr ⟨p,n,xs,rfl,zQ r2,yD zL h1,hc.1,hc.2.1,by rw [l1]; exact ZU hc.2.2,fun e=>?_,fun p' hp=>k.tup f hp (h2.flatten _)⟩;refine k.rep f ?_;rcases e with e | e
    ·subst e
     have:a=[]:=by simpa using l1.symm
     subst this;simpa using r1
    ·subst e
     simpa using r1
   ·cases e
  | _=>cases e
 | _=>cases e
abbrev ltD:=zBR fun i j=>.bl (decide (i < j))
theorem ro_lt:ROk K mg (rI0 fun i j=>.bl (decide (i < j))) ltD:=WV fun _ _=>⟨rfl,rfl⟩
abbrev leD:=zBR fun i j=>.bl (decide (i≤j))
theorem ro_le:ROk K mg (rI0 fun i j=>.bl (decide (i≤j))) leD:=WV fun _ _=>⟨rfl,rfl⟩
abbrev gtD:=zBR fun i j=>.bl (decide (j < i))
theorem ro_gt:ROk K mg (rI0 fun i j=>.bl (decide (j < i))) gtD:=WV fun _ _=>⟨rfl,rfl⟩
abbrev geD:=zBR fun i j=>.bl (decide (j≤i))
theorem ro_ge:ROk K mg (rI0 fun i j=>.bl (decide (j≤i))) geD:=WV fun _ _=>⟨rfl,rfl⟩
def eqF:D→D→Option R
 | .int i,.int j=>some (.val (.bl (decide (i=j))))
 | .bl i,.bl j=>some (.val (.bl (decide (i=j))))
 | .str i,.str j=>some (.val (.bl (decide (i=j))))
 | _,_=>none
def neF:D→D→Option R
 | .int i,.int j=>some (.val (.bl (!decide (i=j))))
 | .bl i,.bl j=>some (.val (.bl (!decide (i=j))))
 | .str i,.str j=>some (.val (.bl (!decide (i=j))))
 | _,_=>none
theorem vint {i j:Int}:decide (V.int i=V.int j)=decide (i=j):=by simp
theorem vbl {i j:Bool}:decide (V.bl i=V.bl j)=decide (i=j):=by simp
theorem vstr {i j:Str}:decide (V.str i=V.str j)=decide (i=j):=by simp
theorem ro_eq:ROk K mg rEq eqF:=by
 intro M H Z x y d1 d2 res Q f r1 r2 e k;cases d1 <;> cases d2 <;> cases e
 ·rw [jA r1,jA r2]; refine ⟨rfl,?_⟩; rw [vbl]; exact k.flat f rfl
 ·rw [zQ r1,zQ r2]; refine ⟨rfl,?_⟩; rw [vint]; exact k.flat f rfl
 ·rw [wG r1,wG r2]; refine ⟨rfl,?_⟩; rw [vstr]; exact k.flat f rfl
theorem ro_ne:ROk K mg rNe neF:=by
 intro M H Z x y d1 d2 res Q f r1 r2 e k;cases d1 <;> cases d2 <;> cases e
 ·rw [jA r1,jA r2]; refine ⟨rfl,?_⟩; rw [vbl]; exact k.flat f rfl
 ·rw [zQ r1,zQ r2]; refine ⟨rfl,?_⟩; rw [vint]; exact k.flat f rfl
 ·rw [wG r1,wG r2]; refine ⟨rfl,?_⟩; rw [vstr]; exact k.flat f rfl
def inF (neg:Bool) (d:D):D→Option R
 | .tup ds=>if flat d=true∧ds.all flat=true then some (.val (.bl (if neg then !inV (flV d) (ds.map flV) else inV (flV d) (ds.map flV)))) else none
 | .lst ds=>if flat d=true∧ds.all flat=true then some (.val (.bl (if neg then !inV (flV d) (ds.map flV) else inV (flV d) (ds.map flV)))) else none
 | _=>none
theorem WX {H:Hp}:∀ {ds:List D} {xs:List V},ds.all flat=true→Reps K mg H ds xs→xs=ds.map flV
 | [],_,_,h=>by simp only [Reps] at h; subst h; rfl
 | d::ds,_,hf,h=>by
  simp only [Reps] at h;obtain ⟨v,r,rfl,h1,h2⟩:=h;simp only [all_cons,Bool.and_eq_true] at hf;rw [zV hf.1 h1,WX hf.2 h2]; rfl
theorem yL {d:D} (h:flat d=true):JW (flV d)=true:=by cases d <;> simp [flat] at h <;> rfl
theorem WY:∀ {ds:List D},ds.all flat=true→(ds.map flV).all JW=true
 | [],_=>rfl
 | d::ds,h=>by
  simp only [all_cons,Bool.and_eq_true] at h;simp only [map_cons,all_cons,Bool.and_eq_true];exact ⟨yL h.1,WY h.2⟩
theorem ro_in {neg:Bool}:ROk K mg (rIn K neg) (inF neg):=by
 intro M H Z x y d1 d2 res Q f r1 r2 e k;cases d2 with
 | tup ds =>
  simp only [inF] at e;split at e
  ·rename_i hc
   cases e;obtain ⟨p,xs,rfl,h1,h2⟩:=zb r2;rw [zV hc.1 r1];have:=WX hc.2 h2;subst this;exact ⟨p,_,rfl,.inr (yD zL h1),yL hc.1,WY hc.2,k.flat f rfl⟩
  ·cases e
 | lst ds =>
  simp only [inF] at e;split at e
  ·rename_i hc
   cases e;obtain ⟨p,xs,rfl,h1,h2⟩:=zS r2;rw [zV hc.1 r1];have:=WX hc.2 h2;subst this;exact ⟨p,_,rfl,.inl (zL.seq h1),yL hc.1,WY hc.2,k.flat f rfl⟩
  ·cases e
 | _=>cases e
def ixD:D→D→Option R
 | .tup ds,.int i=>(atI ds i).map .val
 | .lst ds,.int i=>(atI ds i).map .val
 | _,_=>none
theorem Z6 {H:Hp} {ds:List D} {xs:List V} {i:Int} {d:D} (h:Reps K mg H ds xs) (e:atI ds i=some d):∃ v,atI xs i=some v∧Rep K mg H d v:=by
 unfold atI at e ⊢;have hl:=h.length;rw [hl];cases hj:ixN ds.length i with
 | none=>rw [hj] at e; cases e
 | some j =>
  rw [hj] at e;exact h.get' e
theorem ro_ix:ROk K mg (fun x y H Q=>rIxL K x y H Q∨rIxT K x y H Q) ixD:=by
 intro M H Z x y d1 d2 res Q f r1 r2 e k;cases d1 with
 | tup ds =>
  cases d2 with
  | int i =>
   simp only [ixD] at e;cases ea:atI ds i with
   | none=>rw [ea] at e; cases e
   | some d =>
    rw [ea] at e; cases e;obtain ⟨p,xs,rfl,h1,h2⟩:=zb r1;obtain ⟨v,e1,e2⟩:=Z6 h2 ea;exact .inr ⟨p,xs,i,v,rfl,zQ r2,yD zL h1,e1,k.rep f e2⟩
  | _=>cases e
 | lst ds =>
  cases d2 with
  | int i =>
   simp only [ixD] at e;cases ea:atI ds i with
   | none=>rw [ea] at e; cases e
   | some d =>
    rw [ea] at e; cases e;obtain ⟨p,xs,rfl,h1,h2⟩:=zS r1;obtain ⟨v,e1,e2⟩:=Z6 h2 ea;exact .inl ⟨p,xs,i,v,rfl,zQ r2,zL.seq h1,e1,k.rep f e2⟩
  | _=>cases e
 | _=>cases e
theorem ix_both:IxR X (fun x y H Q=>rIxL X.K x y H Q∨rIxT X.K x y H Q):=zBr.or ix_tup
def lenD:List D→Option R
 | [.tup ds]=>some (.val (.int ds.length))
 | [.lst ds]=>some (.val (.int ds.length))
 | _=>none
theorem J0 {H:Hp} {d:D} {xs:List V} (h:Reps K mg H [d] xs):∃ v,xs=[v]∧Rep K mg H d v:=by
 simp only [Reps] at h;obtain ⟨v,r,rfl,h1,rfl⟩:=h;exact ⟨v,rfl,h1⟩
theorem reps2 {H:Hp} {d e:D} {xs:List V} (h:Reps K mg H [d,e] xs):∃ v w,xs=[v,w]∧Rep K mg H d v∧Rep K mg H e w:=by
 simp only [Reps] at h;obtain ⟨v,r,rfl,h1,w,r',rfl,h2,rfl⟩:=h;exact ⟨v,w,rfl,h1,h2⟩
theorem co_len:COk K mg (fun xs H Q=>∃ p ys,xs=[.ref p]∧(SqL K H p ys∨SqT K H p ys)∧Q (.int ys.length) H) lenD:=by
 intro M H Z xs ds res Q f r e k
 match ds,e with
 | [.tup ds],e =>
  cases e;obtain ⟨v,rfl,h⟩:=J0 r;obtain ⟨p,ys,rfl,h1,h2⟩:=zb h;refine ⟨p,ys,rfl,.inr (yD zL h1),?_⟩;rw [h2.length]; exact k.flat f rfl
 | [.lst ds],e =>
  cases e;obtain ⟨v,rfl,h⟩:=J0 r;obtain ⟨p,ys,rfl,h1,h2⟩:=zS h;refine ⟨p,ys,rfl,.inl (zL.seq h1),?_⟩;rw [h2.length]; exact k.flat f rfl
def zDR:List D→Option R
 | [.int i,.int j]=>some (.val (.int (if j > i then j else i)))
 | _=>none
theorem co_max:COk K mg (fun xs H Q=>∃ i j,xs=[.int i,.int j]∧Q (.int (if j > i then j else i)) H) zDR:=by
 intro M H Z xs ds res Q f r e k
 match ds,e with
 | [.int i,.int j],e =>
  cases e;obtain ⟨v,w,rfl,h1,h2⟩:=reps2 r;exact ⟨i,j,by rw [zQ h1,zQ h2],k.flat f rfl⟩
def intF:List D→Option R
 | [.int i]=>some (.val (.int i))
 | [.bl b]=>some (.val (.int (if b then 1 else 0)))
 | _=>none
theorem co_int:COk K mg (fun xs H Q=>(∃ i,xs=[.int i]∧Q (.int i) H)∨∃ k,xs=[.bl k]∧Q (.int (if k then 1 else 0)) H) intF:=by
 intro M H Z xs ds res Q f r e k
 match ds,e with
 | [.int i],e =>
  cases e;obtain ⟨v,rfl,h1⟩:=J0 r;exact .inl ⟨i,by rw [zQ h1],k.flat f rfl⟩
 | [.bl b],e =>
  cases e;obtain ⟨v,rfl,h1⟩:=J0 r;exact .inr ⟨b,by rw [jA h1],k.flat f rfl⟩
def zE6:List D→Option R
 | [.lst ds]=>some (.val (.tup ds))
 | [.tup ds]=>some (.val (.tup ds))
 | _=>none
theorem zDy:COk K mg (fun xs H Q=>∃ p ys,xs=[.ref p]∧((SqL K H p ys∧∀ l,H l=none→Q (.ref l) (upd H l (.tup ys)))∨(SqT K H p ys∧Q (.ref p) H))) zE6:=by
 intro M H Z xs ds res Q f r e k
 match ds,e with
 | [.lst ds],e =>
  cases e;obtain ⟨v,rfl,h⟩:=J0 r;obtain ⟨p,ys,rfl,h1,h2⟩:=zS h;exact ⟨p,ys,rfl,.inl ⟨zL.seq h1,fun l hl=>k.tup f hl h2⟩⟩
 | [.tup ds],e =>
  cases e;obtain ⟨v,rfl,h⟩:=J0 r;have h':=h;obtain ⟨p,ys,rfl,h1,h2⟩:=zb h;exact ⟨p,ys,rfl,.inr ⟨yD zL h1,k.rep f h'⟩⟩
def listD:List D→Option R
 | [.lst ds]=>some (.own ds)
 | [.tup ds]=>some (.own ds)
 | _=>none
theorem co_list:COk K mg (fun xs H Q=>∃ p ys,xs=[.ref p]∧(SqL K H p ys∨SqT K H p ys)∧∀ l,H l=none→Q (.ref l) (upd H l (.lst ys))) listD:=by
 intro M H Z xs ds res Q f r e k
 match ds,e with
 | [.lst ds],e =>
  cases e;obtain ⟨v,rfl,h⟩:=J0 r;obtain ⟨p,ys,rfl,h1,h2⟩:=zS h;exact ⟨p,ys,rfl,.inl (zL.seq h1),fun l hl=>k.own f hl h2⟩
 | [.tup ds],e =>
  cases e;obtain ⟨v,rfl,h⟩:=J0 r;obtain ⟨p,ys,rfl,h1,h2⟩:=zb h;exact ⟨p,ys,rfl,.inr (yD zL h1),fun l hl=>k.own f hl h2⟩
def w6:List D→Option (List Bool)
 | []=>some []
 | .bl b::ds=>(w6 ds).map (b::·)
 | _=>none
theorem vh {H:Hp}:∀ {ds:List D} {xs:List V} {bs:List Bool},w6 ds=some bs→Reps K mg H ds xs→xs=bs.map V.bl
 | [],_,_,e,h=>by cases e; simp only [Reps] at h; subst h; rfl
 | d::ds,_,bs,e,h=>by
  simp only [Reps] at h;obtain ⟨v,r,rfl,h1,h2⟩:=h;cases d with
  | bl b =>
   simp only [w6] at e;cases eb:w6 ds with
   | none=>rw [eb] at e; cases e
   | some cs =>
    rw [eb] at e; cases e;rw [jA h1,vh eb h2]; rfl
  | _=>cases e
def allD:List D→Option R
 | [.lst ds]=>(w6 ds).map fun bs=>.val (.bl (bs.all id))
 | _=>none
theorem co_all:COk K mg (fun xs H Q=>∃ (p:Addr) (bs:List Bool),xs=[.ref p]∧SqL K H p (bs.map V.bl)∧Q (.bl (bs.all id)) H) allD:=by
 intro M H Z xs ds res Q f r e k
 match ds,e with
 | [.lst ds],e =>
  simp only [allD] at e;cases eb:w6 ds with
  | none=>rw [eb] at e; cases e
  | some bs =>
   rw [eb] at e; cases e;obtain ⟨v,rfl,h⟩:=J0 r;obtain ⟨p,ys,rfl,h1,h2⟩:=zS h;have:=vh eb h2;subst this;exact ⟨p,bs,rfl,zL.seq h1,k.flat f rfl⟩
end
end DV
namespace DV
open PySem L2
abbrev MO:=zY→Out (Option Int × zY)
def tMO (X:Cx) (m:MO):TO:=fun σ H Q=>∃ M E,E.length=σ.length∧FR X.K X.mg M H (σ.zip E)∧match m E with
 | .stuck=>False
 | .ok (b,E')=>∀ H',Got X.K X.mg M σ E H [] σ E' H' []→Q b H'
 | .exc x E'=>∀ H',Got X.K X.mg M σ E H [] σ E' H' []→XE X σ H' x
section
variable {X:Cx} {K:PySem.W.Frag} {mg:Str→Option Value} {σ:St} {M:Addr→Prop} {E:zY} {H:Hp} {T0:Fz}
theorem zB4 {m:MO} {Q:Option Int→Hp→Prop} (hl:E.length=σ.length) (h:FR X.K X.mg M H (T0++σ.zip E))
  (k:match m E with | .stuck=>False | .ok (b,E')=>∀ H',Got X.K X.mg M σ E H T0 σ E' H' []→Q b H' | .exc x E'=>∀ H',Got X.K X.mg M σ E H T0 σ E' H' []→XE X σ H' x):tMO X m σ H Q:=by
 refine ⟨Mo M T0,E,hl,h.inner,?_⟩;cases e:m E with
 | stuck=>rw [e] at k; exact k
 | ok a=>rw [e] at k; exact fun H' g=>k H' (g.outer h)
 | exc x E'=>rw [e] at k; exact fun H' g=>k H' (g.outer h)
abbrev OOk (X:Cx) (e:Option Expr) (m:MO):Prop:=PO X e (tMO X m)
theorem zE7 {e:Option Expr} {t t':TO} (h:PO X e t) (i:∀ σ H Q,t' σ H Q→t σ H Q):PO X e t':=fun pins s σ H Q I q=>h pins s σ H Q I (i σ H Q q)
def oNone:MO:=fun E=>.ok (none,E)
def zDz (m:ME):MO:=fun E=>match m E with
 | .ok (.val (.int i),E1)=>.ok (some i,E1)
 | .exc x E1=>.exc x E1
 | _=>.stuck
theorem oo_none:OOk X none oNone:=zE7 po_none fun σ H Q ⟨M,E,hl,fr,k⟩=>k H (Got.refl (T0:=[]) hl fr)
theorem oo_some {e:Expr} {m:ME} (h:EOk X e m):OOk X (some e) (zDz m):=zE7 (po_some h) fun σ H Q ⟨M,E,hl,fr,k⟩=>by
 unfold zDz at k;refine yM (T0:=[]) hl fr ?_;cases ea:m E with
 | stuck=>rw [ea] at k; exact k
 | exc x E1=>rw [ea] at k; exact k
 | ok p =>
  obtain ⟨r,E1⟩:=p;rw [ea] at k;cases r with
  | own ds=>exact k.elim
  | val d =>
   cases d with
   | int i =>
    intro v H' g;exact ⟨i,zQ g.rep,k H' g.dropAll⟩
   | _=>exact k.elim
def eSl (f:D→Option Int→Option Int→Option R) (a:ME) (lo hi:MO):ME:=fun E=>match a E with
 | .stuck=>.stuck
 | .exc x E1=>.exc x E1
 | .ok (r,E1)=>match lo E1 with
  | .stuck=>.stuck
  | .exc x E2=>.exc x E2
  | .ok (l,E2)=>match hi E2 with
   | .stuck=>.stuck
   | .exc x E3=>.exc x E3
   | .ok (u,E3)=>match f r.d l u with
    | some r=>.ok (r,E3)
    | none=>.stuck
def zAT (ds:List D) (lo hi:Option Int):List D:=(ds.drop (HT.sIx ds.length 0 lo)).take (HT.sIx ds.length ds.length hi - HT.sIx ds.length 0 lo)
def slD:D→Option Int→Option Int→Option R
 | .tup ds,lo,hi=>some (.val (.tup (zAT ds lo hi)))
 | .lst ds,lo,hi=>some (.own (zAT ds lo hi))
 | _,_,_=>none
theorem zAU {ds:List D} {xs:List V} (h:Reps K mg H ds xs) (lo hi:Option Int):Reps K mg H (zAT ds lo hi) (zDj xs lo hi):=by
 unfold zAT zDj;rw [h.length];exact (h.drop _).take _
theorem sl_run {a:ME} {lo hi:MO} {Q:VK} (h:tM X (eSl slD a lo hi) σ H Q):tSl (fun x l u H Q=>rSlTT X.K x l u H Q∨rSlL X.K x l u H Q) (tM X a) (tMO X lo) (tMO X hi) σ H Q:=by
 obtain ⟨M,E,hl,fr,k⟩:=h;unfold eSl at k;refine yM (T0:=[]) hl fr ?_;cases ea:a E with
 | stuck=>rw [ea] at k; exact k
 | exc x E1=>rw [ea] at k; exact fun H' g=>k H' g
 | ok p =>
  obtain ⟨r1,E1⟩:=p;rw [ea] at k;intro x H1 g1;refine zB4 (T0:=[(some x,r1.slot)]) g1.len g1.fr ?_;dsimp only at k;cases eb:lo E1 with
  | stuck=>rw [eb] at k; exact k
  | exc x E2=>rw [eb] at k; exact fun H' g=>k H' (g1.trans' g).dropAll
  | ok p =>
   obtain ⟨l,E2⟩:=p;rw [eb] at k;intro H2 g2;have g12:=g1.trans' g2;refine zB4 (T0:=[(some x,r1.slot)]) g12.len g12.fr ?_;dsimp only at k;cases ec:hi E2 with
   | stuck=>rw [ec] at k; exact k
   | exc x E3=>rw [ec] at k; exact fun H' g=>k H' (g12.trans' g).dropAll
   | ok p =>
    obtain ⟨u,E3⟩:=p;rw [ec] at k;intro H3 g3;have g:=g12.trans' g3;have rx:=g.rep;dsimp only at k;have f:=g.frame;cases ed:r1.d with
    | tup ds =>
     rw [ed] at k rx;have k':Kt X.K X.mg M H3 (σ.zip E3) (.val (.tup (zAT ds l u))) Q:=fun v H' f' s'=>k v H' (g.more (T:=[(some v,_)]) f' s')
     obtain ⟨p,xs,rfl,h1,h2⟩:=zb rx;refine .inl ⟨p,xs,rfl,yD zL h1,fun hw=>k'.rep f ?_,fun _ p' hp=>k'.tup f hp (zAU h2 l u)⟩;have:zAT ds l u=ds:=by
      have hl:=h2.length;rw [hl] at hw;unfold zAT;rw [hw.1,hw.2];simp
     rw [this]; exact rx
    | lst ds =>
     rw [ed] at k rx;have k':Kt X.K X.mg M H3 (σ.zip E3) (.own (zAT ds l u)) Q:=fun v H' f' s'=>k v H' (g.more (T:=[(some v,_)]) f' s')
     obtain ⟨p,xs,rfl,h1,h2⟩:=zS rx;exact .inr ⟨p,xs,rfl,zL.seq h1,fun p' hp=>k'.own f hp (zAU h2 l u)⟩
    | _=>rw [ed] at k; exact k.elim
theorem ok_sl {a:Expr} {lo hi:Option Expr} {ma:ME} {ml mh:MO} {p2 pos:Pos} (ha:EOk X a ma) (hl:OOk X lo ml) (hh:OOk X hi mh):EOk X (.Subscript a (.Slice lo hi none p2) pos) (eSl slD ma ml mh) :=
 yY (zDi (sl_tupT.or sl_list) ha hl hh) fun σ H Q=>sl_run
def tyD:D→Option String
 | .non=>some "NoneType"
 | .bl _=>some "bool"
 | .int _=>some "int"
 | .str _=>some "str"
 | .tup _=>some "tuple"
 | .lst _=>some "list"
 | .dic=>some "dict"
 | .fn _=>none
 | .exn _=>none
def Gy (t T:String):Bool:=t == T || (t == "bool"&&T == "int")
theorem zD0 {T:String} (hk:∀ t∈["NoneType","bool","int","str","tuple","list","dict"],kitOne X.K (.type t) (.type T)=some (Gy t T)) :
  jm X (.builtin "isinstance") (fun xs H Q=>∃ x d t,xs=[x,.ty T]∧Rep X.K X.mg H d x∧tyD d=some t∧Q (.bl (Gy t T)) H):=by
 intro pins s σ H xs us Q I r h;obtain ⟨x,d,t,rfl,rd,et,q⟩:=h;obtain ⟨u,w',rfl,rx,ry⟩:=vals2 r;cases (show w'=Value.type T from ry);have fin:∀ tk,EP X pins σ Q (.bool (Gy t T)) { s with toks:=tk }:=fun tk=>⟨.bl _,H,I.tok tk,rfl,q⟩
 cases d with
 | non=>cases et; rw [jR rd] at rx; cases (show u=Value.none from rx); exact kia_one PySem.W.kitx_none I.kIn True.intro (hk _ (by simp)) (fun z=>nomatch z) fin
 | bl b=>cases et; rw [jA rd] at rx; cases (show u=Value.bool b from rx); exact kia_one PySem.W.kitx_bool I.kIn True.intro (hk _ (by simp)) (fun z=>nomatch z) fin
 | int i=>cases et; rw [zQ rd] at rx; obtain ⟨t,q⟩:=(show ∃ t,u=Value.int i t from rx); cases q; exact kia_one PySem.W.kitx_int I.kIn True.intro (hk _ (by simp)) (fun z=>nomatch z) fin
 | str y=>cases et; rw [wG rd] at rx; obtain ⟨t,q⟩:=(show ∃ t,u=Value.str y t from rx); cases q; exact kia_one PySem.W.kitx_str I.kIn True.intro (hk _ (by simp)) (fun z=>nomatch z) fin
 | tup ds =>
  cases et;obtain ⟨a,xs,rfl,h1,_⟩:=zb rd;cases (show u=Value.ref a from rx);obtain ⟨its,_,p,_⟩:=I.tuple h1;obtain ⟨o,e1,e2,_⟩:=p;exact kia_one PySem.W.kitx_tuple I.kIn ⟨o,e1,e2⟩ (hk _ (by simp)) (fun z=>nomatch z) fin
 | lst ds =>
  cases et;obtain ⟨a,xs,rfl,h1,_⟩:=zS rd;cases (show u=Value.ref a from rx);obtain ⟨its,_,p,_⟩:=I.list h1;obtain ⟨o,n,e1,e2,_⟩:=p;exact kia_one PySem.W.kitx_list I.kIn ⟨o,e1,e2⟩ (hk _ (by simp)) (fun z=>nomatch z) fin
 | dic =>
  cases et;simp only [Rep] at rd;obtain ⟨a,rfl,e⟩:=rd;cases (show u=Value.ref a from rx);obtain ⟨_,_,vs,_,p⟩:=(show ww X.prog X.w H s.heap a (.dK []) from I.hok a _ e);obtain ⟨o,es,ep,h1,h2,_⟩:=p;exact kia_one PySem.W.kitx_dict I.kIn ⟨o,h1,h2.1⟩ (hk _ (by simp)) (fun z=>nomatch z) fin
 | fn x=>cases et
 | exn x=>cases et
def eIs (T:String) (m:ME):ME:=fun E=>match m E with
 | .stuck=>.stuck
 | .exc x E1=>.exc x E1
 | .ok (r,E1)=>match tyD r.d with
  | some t=>.ok (.val (.bl (Gy t T)),E1)
  | none=>.stuck
theorem ok_is {T:String} {a:Expr} {m:ME} {x:Str} {p p1 pos:Pos} (hk:∀ t∈["NoneType","bool","int","str","tuple","list","dict"],kitOne X.K (.type t) (.type T)=some (Gy t T)) (hg:Gl X "isinstance") (hm:X.mg "isinstance"=none)
  (hgT:Gl X x) (hmT:X.mg x=none) (hvT:bootBuiltins x=some (.type T)) (ha:EOk X a m) (hv:bootBuiltins "isinstance"=some (.builtin "isinstance")) (hn:x≠"__name__":=by decide) (hd:(x == ("__debug__":Str))=false:=by decide)
  (he:za a=false:=by rfl) :
  EOk X (.Call (.Name "isinstance" p) [a,.Name x p1] [] pos) (eIs T m):=by
 refine yY (uP (zD0 hk) hg hm hv (Jx ha (Jx (pe_bltn (v:=.ty T) hgT hmT hvT rfl hn hd) Gd (zp rfl)) (zp he)) (by decide) (by decide) (zp he) (wz rfl)) fun σ H Q ⟨M,E,hl,fr,k⟩=>?_
 unfold eIs at k;refine yM (T0:=[]) hl fr ?_;cases ea:m E with
 | stuck=>rw [ea] at k; exact k
 | exc x E1=>rw [ea] at k; exact k
 | ok pr =>
  obtain ⟨r,E1⟩:=pr;rw [ea] at k;intro v H' g;dsimp only at k;cases et:tyD r.d with
  | none=>rw [et] at k; exact k.elim
  | some t =>
   rw [et] at k;exact ⟨v,r.d,t,rfl,g.rep.mono zL,et,k _ H' (g.flat (d:=.bl (Gy t T)) rfl)⟩
inductive Fl where
 | nx
 | ret (r:R)
 | bk
 | ct
 deriving Inhabited
abbrev MS:=zY→Out (Fl × zY)
def KS (X:Cx) (M:Addr→Prop) (σ:St) (E:zY) (H:Hp) (T0:Fz) (D:Ends):Out (Fl × zY)→Prop
 | .stuck=>False
 | .ok (.nx,E')=>∀ σ' H',Got X.K X.mg M σ E H T0 σ' E' H' []→D.nx σ' H'
 | .ok (.bk,E')=>∀ σ' H',Got X.K X.mg M σ E H T0 σ' E' H' []→D.bk σ' H'
 | .ok (.ct,E')=>∀ σ' H',Got X.K X.mg M σ E H T0 σ' E' H' []→D.ct σ' H'
 | .ok (.ret r,E')=>∀ v σ' H',Got X.K X.mg M σ E H T0 σ' E' H' [(some v,r.slot)]→D.rt v H'
 | .exc x E'=>∀ σ' H',Got X.K X.mg M σ E H T0 σ' E' H' []→XE X σ' H' x
def tS (X:Cx) (m:MS):TS:=fun D σ H=>∃ M E,E.length=σ.length∧FR X.K X.mg M H (σ.zip E)∧KS X M σ E H [] D (m E)
abbrev SOk (X:Cx) (st:Stmt) (m:MS):Prop:=PS X st (tS X m)
abbrev zBS (X:Cx) (st:List Stmt) (m:MS):Prop:=PSs X st (tS X m)
theorem vi {m:MS} {D:Ends} (hl:E.length=σ.length) (h:FR X.K X.mg M H (T0++σ.zip E))
  (k:KS X M σ E H T0 D (m E)):tS X m D σ H:=by
 refine ⟨Mo M T0,E,hl,h.inner,?_⟩;cases e:m E with
 | stuck=>rw [e] at k; exact k
 | ok a =>
  obtain ⟨fl,E'⟩:=a;rw [e] at k;cases fl with
  | nx=>exact fun σ' H' g=>k σ' H' (g.outer h)
  | bk=>exact fun σ' H' g=>k σ' H' (g.outer h)
  | ct=>exact fun σ' H' g=>k σ' H' (g.outer h)
  | ret r=>exact fun v σ' H' g=>k v σ' H' (g.outer h)
 | exc x E'=>rw [e] at k; exact fun σ' H' g=>k σ' H' (g.outer h)
def zDS:MS:=fun E=>.ok (.nx,E)
def zBB (a b:MS):MS:=fun E=>match a E with
 | .ok (.nx,E1)=>b E1
 | o=>o
theorem sk_nil:zBS X [] zDS:=zBy pss_nil fun D σ H ⟨M,E,hl,fr,k⟩=>k σ H (Got.refl (T0:=[]) hl fr)
theorem sk_one {st:Stmt} {m:MS} (h:SOk X st m):zBS X [st] m:=pss_one h
theorem seq_run {a b:MS} {D:Ends} (h:tS X (zBB a b) D σ H):tSeq (tS X a) (tS X b) D σ H:=by
 obtain ⟨M,E,hl,fr,k⟩:=h;unfold zBB at k;refine vi (T0:=[]) hl fr ?_;cases ea:a E with
 | stuck=>rw [ea] at k; exact k
 | exc x E1=>rw [ea] at k; exact k
 | ok p =>
  obtain ⟨fl,E1⟩:=p;rw [ea] at k;cases fl with
  | bk=>exact k
  | ct=>exact k
  | ret r=>exact k
  | nx =>
   intro σ1 H1 g1;refine vi (T0:=[]) g1.len g1.fr ?_;dsimp only at k;cases eb:b E1 with
   | stuck=>rw [eb] at k; exact k
   | exc x E2=>rw [eb] at k; exact fun σ' H' g=>k σ' H' (g1.trans' g)
   | ok p =>
    obtain ⟨fl2,E2⟩:=p;rw [eb] at k;cases fl2 with
    | nx=>exact fun σ' H' g=>k σ' H' (g1.trans' g)
    | bk=>exact fun σ' H' g=>k σ' H' (g1.trans' g)
    | ct=>exact fun σ' H' g=>k σ' H' (g1.trans' g)
    | ret r=>exact fun v σ' H' g=>k v σ' H' (g1.trans' g)
theorem sk_cons {st:Stmt} {vd:List Stmt} {a b:MS} (h1:SOk X st a) (h2:zBS X vd b):zBS X (st::vd) (zBB a b):=zBy (zDX h1 h2) fun D σ H=>seq_run
def sIf (c:MT) (a b:MS):MS:=fun E=>match c E with
 | .ok (true,E1)=>a E1
 | .ok (false,E1)=>b E1
 | .exc x E1=>.exc x E1
 | .stuck=>.stuck
theorem tS_go {m:MS} {D:Ends} {σ1:St} {E1:zY} {H1:Hp} (g1:Got X.K X.mg M σ E H [] σ1 E1 H1 [])
  (k:match m E1 with
   | .stuck=>False
   | .ok (.nx,E')=>∀ σ' H',Got X.K X.mg M σ E H [] σ' E' H' []→D.nx σ' H'
   | .ok (.bk,E')=>∀ σ' H',Got X.K X.mg M σ E H [] σ' E' H' []→D.bk σ' H'
   | .ok (.ct,E')=>∀ σ' H',Got X.K X.mg M σ E H [] σ' E' H' []→D.ct σ' H'
   | .ok (.ret r,E')=>∀ v σ' H',Got X.K X.mg M σ E H [] σ' E' H' [(some v,r.slot)]→D.rt v H'
   | .exc x E'=>∀ σ' H',Got X.K X.mg M σ E H [] σ' E' H' []→XE X σ' H' x):tS X m D σ1 H1:=by
 refine vi (T0:=[]) g1.len g1.fr ?_;cases eb:m E1 with
 | stuck=>rw [eb] at k; exact k
 | exc x E2=>rw [eb] at k; exact fun σ' H' g=>k σ' H' (g1.trans' g)
 | ok p =>
  obtain ⟨fl2,E2⟩:=p;rw [eb] at k;cases fl2 with
  | nx=>exact fun σ' H' g=>k σ' H' (g1.trans' g)
  | bk=>exact fun σ' H' g=>k σ' H' (g1.trans' g)
  | ct=>exact fun σ' H' g=>k σ' H' (g1.trans' g)
  | ret r=>exact fun v σ' H' g=>k v σ' H' (g1.trans' g)
theorem sif_run {c:MT} {a b:MS} {D:Ends} (h:tS X (sIf c a b) D σ H):tIfS (tMT X c) (tS X a) (tS X b) D σ H:=by
 obtain ⟨M,E,hl,fr,k⟩:=h;unfold sIf at k;refine WS (T0:=[]) hl fr ?_;cases ea:c E with
 | stuck=>rw [ea] at k; exact k
 | exc x E1=>rw [ea] at k; exact fun H' g=>k σ H' g
 | ok p =>
  obtain ⟨t,E1⟩:=p;rw [ea] at k;intro H1 g1;cases t with
  | true=>exact iteT (tS_go g1 k)
  | false=>exact iteF (tS_go g1 k)
theorem sk_if {c:Expr} {a b:List Stmt} {mc:MT} {ma mb:MS} {pos:Pos} (hc:TOk X c mc) (ha:zBS X a ma) (hb:zBS X b mb):SOk X (.If c a b pos) (sIf mc ma mb):=y8 (ps_if hc ha hb) fun D σ H=>sif_run
def vB (i:Nat) (r:R) (E:zY):Out zY:=match E[i]? with
 | none=>.stuck
 | some (.par _)=>.stuck
 | some _=>.ok (E.set i r.slot)
def sSet (i:Nat) (m:ME):MS:=fun E=>match m E with
 | .stuck=>.stuck
 | .exc x E1=>.exc x E1
 | .ok (r,E1)=>match vB i r E1 with
  | .ok E2=>.ok (.nx,E2)
  | _=>.stuck
theorem uY {σ1:St} {E1 E2:zY} {H1:Hp} {i:Nat} {r:R} {v:V} (g:Got K mg M σ E H T0 σ1 E1 H1 [(some v,r.slot)]) (e:vB i r E1=.ok E2):Got K mg M σ E H T0 (σ1.set i (some v)) E2 H1 []:=by
 unfold vB at e;cases e1:E1[i]? with
 | none=>rw [e1] at e; cases e
 | some sl =>
  rw [e1] at e;have hne:∀ ds,sl≠.par ds:=fun ds q=>by subst q; cases e
  have e2:E2=E1.set i r.slot:=by
   cases sl with
   | par ds=>exact absurd rfl (hne ds)
   | _=>cases e; rfl
  subst e2;have hi:i < E1.length:=(List.getElem?_eq_some_iff.mp e1).1;have hl:=g.len;have hz:i < (σ1.zip E1).length:=by rw [List.length_zip]; omega
  have hT:T0++((σ1.set i (some v)).zip (E1.set i r.slot))=(T0++σ1.zip E1).set (T0.length+i) (some v,r.slot):=by
   rw [uU,List.set_append_right _ _ (by omega)];congr 2;omega
  have hz2:T0.length+i < (T0++σ1.zip E1).length:=by rw [length_append]; omega
  refine ⟨by simp [hl],?_,?_,?_⟩
  ·show FR K mg M H1 (T0++((σ1.set i (some v)).zip (E1.set i r.slot)))
   rw [hT];exact FR.put g.fr hz2
  ·show Step M H _ H1 (T0++((σ1.set i (some v)).zip (E1.set i r.slot)))
   rw [hT];exact Step.put g.st hz2
  ·refine g.pk.trans fun j ds q=>?_
   have ne:i≠j:=fun z=>by subst z; rw [e1] at q; exact hne ds (Option.some.inj q)
   exact ⟨⟨ds,by rw [getElem?_set_ne ne]; exact q⟩,by rw [getElem?_set_ne ne]⟩
theorem zB5 {i:Nat} {m:ME} {D:Ends} (h:tS X (sSet i m) D σ H):tAsg (tM X m) (QZ i) D σ H:=by
 obtain ⟨M,E,hl,fr,k⟩:=h;unfold sSet at k;refine yM (T0:=[]) hl fr ?_;cases ea:m E with
 | stuck=>rw [ea] at k; exact k
 | exc x E1=>rw [ea] at k; exact fun H' g=>k σ H' g
 | ok p =>
  obtain ⟨r,E1⟩:=p;rw [ea] at k;intro v H' g;dsimp only at k;cases ep:vB i r E1 with
  | stuck=>rw [ep] at k; exact k.elim
  | exc _ _=>rw [ep] at k; exact k.elim
  | ok E2 =>
   rw [ep] at k;exact k _ H' (uY g ep)
theorem zE8 {i:Nat} {x:Str} {e:Expr} {m:ME} {pos pos':Pos} (hN:X.N.Nodup) (hi:X.N[i]?=some x) (hx:Loc X.env.scope x) (he:EOk X e m) (hs:swapsWith e (some (.Name x pos')) pos.line X.env=pure false:=by rfl)
  (hf:X.fn x=true∨X.env.scope.names.lookup x=some .local:=by first | exact .inl rfl | exact .inr rfl | assumption):SOk X (.Assign [.Name x pos'] e pos) (sSet i m) :=
 y8 (ps_set hN hi hx he hs hf) fun D σ H=>zB5
def sRet (m:ME):MS:=fun E=>match m E with
 | .stuck=>.stuck
 | .exc x E1=>.exc x E1
 | .ok (r,E1)=>.ok (.ret r,E1)
theorem ret_run {m:ME} {D:Ends} (h:tS X (sRet m) D σ H):tRet (tM X m) D σ H:=by
 obtain ⟨M,E,hl,fr,k⟩:=h;unfold sRet at k;refine yM (T0:=[]) hl fr ?_;cases ea:m E with
 | stuck=>rw [ea] at k; exact k
 | exc x E1=>rw [ea] at k; exact fun H' g=>k σ H' g
 | ok p=>rw [ea] at k; exact fun v H' g=>k v σ H' g
theorem sk_ret {e:Expr} {m:ME} {pos:Pos} (he:EOk X e m):SOk X (.Return (some e) pos) (sRet m):=y8 (ps_ret he) fun D σ H=>ret_run
def sDrop (m:ME):MS:=fun E=>match m E with
 | .stuck=>.stuck
 | .exc x E1=>.exc x E1
 | .ok (_,E1)=>.ok (.nx,E1)
theorem zD1 {m:ME} {D:Ends} (h:tS X (sDrop m) D σ H):tDrop (tM X m) D σ H:=by
 obtain ⟨M,E,hl,fr,k⟩:=h;unfold sDrop at k;refine yM (T0:=[]) hl fr ?_;cases ea:m E with
 | stuck=>rw [ea] at k; exact k
 | exc x E1=>rw [ea] at k; exact fun H' g=>k σ H' g
 | ok p=>rw [ea] at k; exact fun v H' g=>k σ H' g.dropAll
theorem sk_drop {e:Expr} {m:ME} {pos:Pos} (he:EOk X e m) (hs:swapsWith e none pos.line X.env=pure false:=by rfl):SOk X (.Expr e pos) (sDrop m):=y8 (zBY he hs) fun D σ H=>zD1
end
end DV
namespace DV
open PySem L2
theorem jt {α β:Type} {f:α→Option β} {x y:α} (h:f y=f x):∀ {l:List α} {i:Nat},l[i]?=some x→(l.set i y).filterMap f=l.filterMap f
 | [],_,e=>by simp at e
 | a::l,0,e=>by
  simp at e; subst e
  simp only [List.set_cons_zero,filterMap_cons,h]
 | a::l,i+1,e=>by
  simp at e
  simp only [List.set_cons_succ,filterMap_cons,jt h e]
section
variable {X:Cx} {K:PySem.W.Frag} {mg:Str→Option Value} {σ:St} {M:Addr→Prop} {E:zY} {H:Hp} {T0 Z:Fz}
def Slot.put:Slot→List D→Slot
 | .own _,es=>.own es
 | .par _,es=>.par es
 | s,_=>s
theorem uZ {p:Addr} {s:Slot} {ds es:List D} (hs:s.list?=some ds):Qd (some (.ref p),s.put es)=Qd (some (.ref p),s)∧(s.put es).list?=some es:=by
 cases s <;> simp [Slot.list?] at hs <;> exact ⟨rfl,rfl⟩
theorem FR.mut (h:FR K mg M H Z) {i:Nat} {p:Addr} {s:Slot} {ds es:List D} {ys:List V} (hi:Z[i]?=some (some (.ref p),s)) (hs:s.list?=some ds) (r:Reps K mg (Hm (Mo M Z) H) es ys) :
  FR K mg M (upd H p (.lst ys)) (Z.set i (some (.ref p),s.put es))∧Step M H Z (upd H p (.lst ys)) (Z.set i (some (.ref p),s.put es)):=by
 have eo:yX (Z.set i (some (.ref p),s.put es))=yX Z:=jt (uZ hs).1 hi;have em:Mo M (Z.set i (some (.ref p),s.put es))=Mo M Z:=by unfold Mo; rw [eo]
 have hp:p∈yX Z:=wY (mem_of_getElem? hi) hs rfl;obtain ⟨xs0,hH,hM⟩:=h.ownAt hp;have ehm:Hm (Mo M Z) (upd H p (.lst ys))=Hm (Mo M Z) H:=by
  funext b
  unfold Hm;by_cases hb:Mo M Z b
  ·simp [hb]
  ·have:b≠p:=fun e=>hb (by subst e; exact .inr hp)
   simp [hb,yH this]
 have mem:∀ {q:Option V × Slot},q∈Z.set i (some (.ref p),s.put es)→q=(some (.ref p),s.put es)∨q∈Z:=fun {q} hq=>(List.mem_or_eq_of_mem_set hq).symm
 have hlt:i < Z.length:=(List.getElem?_eq_some_iff.mp hi).1;have nd2:(yX (Z.eraseIdx i)).Nodup∧p ∉ yX (Z.eraseIdx i):=by
  have pz:Z.Perm ((some (.ref p),s)::Z.eraseIdx i):=by
   have:=yS (some (V.ref p),s) Z i hlt;rw [uV hi] at this;exact this
  have nd:=(pz.filterMap Qd).nodup_iff.mp h.nd;have e:List.filterMap Qd ((some (V.ref p),s)::Z.eraseIdx i)=p::yX (Z.eraseIdx i):=by
   cases s <;> simp [Slot.list?] at hs <;> rfl
  rw [e] at nd;exact ⟨(nodup_cons.mp nd).2,(nodup_cons.mp nd).1⟩
 have pz2:(Z.set i (some (.ref p),s.put es)).Perm ((some (.ref p),s.put es)::Z.eraseIdx i):=yS _ _ _ hlt;refine ⟨⟨fun o d q=>?_,fun o s' ds' q e=>?_,by rw [eo]; exact h.nd,fun b q=>?_⟩,⟨by rw [em,ehm]; exact Y1.refl _,fun b o m e=>?_⟩⟩
 ·rw [em,ehm]
  rcases mem q with q | q
  ·exfalso
   cases s <;> simp [Slot.list?] at hs <;> cases q
  ·exact h.val o d q
 ·rw [em,ehm]
  rcases mem_cons.mp (pz2.mem_iff.mp q) with q' | q'
  ·cases q'
   rw [(uZ (p:=p) hs).2] at e;cases e;exact ⟨p,ys,rfl,jq,hM,r⟩
  ·have q'':(o,s')∈Z:=(List.eraseIdx_sublist Z i).subset q'
   obtain ⟨a,xs,e1,e2,e3,rr⟩:=h.own o s' ds' q'' e;have ne:a≠p:=fun z=>by
    subst z;exact nd2.2 (wY q' e e1)
   exact ⟨a,xs,e1,by rw [yH ne]; exact e2,e3,rr⟩
 ·obtain ⟨o,e⟩:=h.mal b q
  by_cases z:b=p
  ·subst z; exact ⟨_,jq⟩
  ·exact ⟨o,by rw [yH z]; exact e⟩
 ·have ne:b≠p:=fun z=>hM (by subst z; exact m)
  rw [yH ne]; exact e
theorem Got.mut {σ1:St} {E1:zY} {H1:Hp} {T:Fz} (g:Got K mg M σ E H [] σ1 E1 H1 T) {i:Nat} {s:Slot} {ds es:List D} {ys:List V} (hi:E1[i]?=some s) (hs:s.list?=some ds) (r:Reps K mg (Hm (Mo M (σ1.zip E1)) H1) es ys) :
  ∃ p,σ1[i]?=some (some (.ref p))∧Got K mg M σ E H [] σ1 (E1.set i (s.put es)) (upd H1 p (.lst ys)) []:=by
 obtain ⟨o,h1,h2⟩:=WT g.len hi;obtain ⟨p,xs,rfl,_⟩:=g.frame.own o s ds (mem_of_getElem? h2) hs;refine ⟨p,h1,?_⟩;obtain ⟨f,st⟩:=FR.mut g.frame h2 hs r;have e:=yk (E:=E1) (s.put es) h1;rw [← e] at f st;refine ⟨by simp [g.len],f,(g.st.weak (zD (sublist_append_right _ _))).trans st,g.pk.trans fun j ds' q=>?_⟩;by_cases ej:i=j
 ·subst ej
  rw [hi] at q; cases q;have hlt:i < E1.length:=(List.getElem?_eq_some_iff.mp hi).1;exact ⟨⟨es,by rw [getElem?_set_self hlt]; rfl⟩,rfl⟩
 ·exact ⟨⟨ds',by rw [getElem?_set_ne ej]; exact q⟩,rfl⟩
theorem zB6 {i:Nat} {s:Slot} (hl:E.length=σ.length) (f:FR K mg M H (σ.zip E)) (h:E[i]?=some s) (hs:s≠.emp):∃ v,σ[i]?=some (some v):=by
 obtain ⟨o,h1,h2⟩:=wa hl h;cases s with
 | emp=>exact absurd rfl hs
 | val d=>obtain ⟨v,rfl,_⟩:=f.val o d h2; exact ⟨v,h1⟩
 | own ds=>obtain ⟨a,_,rfl,_⟩:=f.own o _ ds h2 rfl; exact ⟨_,h1⟩
 | par ds=>obtain ⟨a,_,rfl,_⟩:=f.own o _ ds h2 rfl; exact ⟨_,h1⟩
def JX:Option Slot→Bool
 | none=>true
 | some .emp=>true
 | _=>false
theorem Qh {o:Option Slot} (h:JX o=false):∃ s,o=some s∧s≠.emp:=by
 cases o with
 | none=>cases h
 | some s=>cases s <;> simp [JX] at h <;> exact ⟨_,rfl,by intro q; cases q⟩
def ixS:Slot→Int→Option D
 | .own ds,i=>atI ds i
 | .par ds,i=>atI ds i
 | .val (.lst ds),i=>atI ds i
 | _,_=>none
def eIxO (i:Nat) (m:ME):ME:=fun E=>if JX E[i]?=true then .stuck else match m E with
 | .stuck=>.stuck
 | .exc x E1=>.exc x E1
 | .ok (.val (.int k),E1)=>match E1[i]? with
  | some s=>match ixS s k with
   | some d=>.ok (.val d,E1)
   | none=>.stuck
  | none=>.stuck
 | _=>.stuck
theorem ixO_run {i:Nat} {m:ME} {Q:VK} (h:tM X (eIxO i m) σ H Q):tOp (rIxL X.K) (zA3 i) (tM X m) σ H Q:=by
 obtain ⟨M,E,hl,fr,k⟩:=h;unfold eIxO at k;cases em:JX E[i]? with
 | true=>rw [em] at k; exact k.elim
 | false =>
  rw [em] at k;obtain ⟨s,hs1,hs2⟩:=Qh em;obtain ⟨v,hv⟩:=zB6 hl fr hs1 hs2;refine ⟨v,hv,?_⟩;refine yM (T0:=[]) hl fr ?_;simp only [Bool.false_eq_true,if_false] at k;cases ea:m E with
  | stuck=>rw [ea] at k; exact k
  | exc x E1=>rw [ea] at k; exact k
  | ok p =>
   obtain ⟨r,E1⟩:=p;rw [ea] at k;cases r with
   | own ds=>exact k.elim
   | val d =>
    cases d with
    | int n =>
     intro y H' g;dsimp only at k;cases e1:E1[i]? with
     | none=>rw [e1] at k; exact k.elim
     | some s1 =>
      rw [e1] at k;dsimp only at k;cases e2:ixS s1 n with
      | none=>rw [e2] at k; exact k.elim
      | some d =>
       rw [e2] at k;have f:=g.frame;have fin:∀ {w:V},Rep X.K X.mg (Hm (Mo M (σ.zip E1)) H') d w→Q w H':=fun {w} rw'=>k w H' (g.more (T:=[(some w,.val d)]) (f.add rw') Step.refl.add)
       obtain ⟨o,h1,h2⟩:=wa g.len e1;have ho:o=some v:=by rw [hv] at h1; exact (Option.some.inj h1).symm
       subst ho;have key:∀ {ds:List D},s1.list?=some ds→atI ds n=some d→rIxL X.K v y H' Q:=fun {ds} hl1 ha=>by
        obtain ⟨a,xs,ev,q1,_,q3⟩:=f.own _ s1 ds h2 hl1;cases ev;obtain ⟨w,a1,a2⟩:=Z6 q3 ha;exact ⟨a,xs,n,w,rfl,zQ g.rep,SqL.of q1,a1,fin a2⟩
       cases s1 with
       | emp=>cases e2
       | own ds=>exact key rfl e2
       | par ds=>exact key rfl e2
       | val dd =>
        cases dd with
        | lst ds =>
         obtain ⟨v',ev,rr⟩:=f.val _ _ h2;cases ev;obtain ⟨a,xs,rfl,q1,q2⟩:=zS rr;obtain ⟨w,a1,a2⟩:=Z6 q2 e2;exact ⟨a,xs,n,w,rfl,zQ g.rep,zL.seq q1,a1,fin a2⟩
        | _=>cases e2
    | _=>exact k.elim
theorem ok_ixO (i:Nat) {x:Str} {b:Expr} {m:ME} {p pos:Pos} (hv:PE X (.Name x p) (zA3 i)) (hb:EOk X b m) (hs:uQ b):EOk X (.Subscript (.Name x p) b pos) (eIxO i m) :=
 yY (pe_ix zBr hv hb hs) fun σ H Q=>ixO_run
def zB7 (i:Nat):ME:=fun E=>match E[i]? with
 | some (.own ds)=>.ok (.val (.int ds.length),E)
 | some (.par ds)=>.ok (.val (.int ds.length),E)
 | some (.val (.lst ds))=>.ok (.val (.int ds.length),E)
 | _=>.stuck
theorem zD2 {i:Nat} {Q:VK} (h:tM X (zB7 i) σ H Q):tCB (fun xs H Q=>∃ p ys,xs=[.ref p]∧(SqL X.K H p ys∨SqT X.K H p ys)∧Q (.int ys.length) H) (zBm (zA3 i) tNil) σ H Q:=by
 obtain ⟨M,E,hl,f,k⟩:=h;unfold zB7 at k;cases e1:E[i]? with
 | none=>rw [e1] at k; exact k.elim
 | some s =>
  rw [e1] at k;obtain ⟨o,h1,h2⟩:=wa hl e1;have key:∀ {ds:List D},s.list?=some ds→(∀ (v:V) (H':Hp),Got X.K X.mg M σ E H [] σ E H' [(some v,.val (.int ds.length))]→Q v H')→tCB (fun xs H Q=>∃ p ys,xs=[.ref p]∧(SqL X.K H p ys∨SqT X.K H p ys)∧Q (.int ys.length) H) (zBm (zA3 i) tNil) σ H Q:=fun {ds} hl1 kk=>by
   obtain ⟨a,xs,ev,q1,_,q3⟩:=f.own _ s ds h2 hl1;subst ev;refine ⟨.ref a,h1,a,xs,rfl,.inl (SqL.of q1),?_⟩;rw [q3.length];exact kk _ H ((Got.refl (T0:=[]) hl f).flat (d:=.int ds.length) rfl)
  cases s with
  | emp=>exact k.elim
  | own ds=>exact key rfl k
  | par ds=>exact key rfl k
  | val d =>
   cases d with
   | lst ds =>
    obtain ⟨v',ev,rr⟩:=f.val _ _ h2;subst ev;obtain ⟨a,xs,rfl,q1,q2⟩:=zS rr;refine ⟨.ref a,h1,a,xs,rfl,.inl (zL.seq q1),?_⟩;rw [q2.length];exact k _ H ((Got.refl (T0:=[]) hl f).flat (d:=.int ds.length) rfl)
   | _=>exact k.elim
theorem ok_lenO (i:Nat) {x:Str} {p p1 pos:Pos} (hv:PE X (.Name x p1) (zA3 i)) (hg:Gl X "len") (hm:X.mg "len"=none) :
  EOk X (.Call (.Name "len" p) [.Name x p1] [] pos) (zB7 i) :=
 yY (uP ZS hg hm PySem.boot_len (Jx hv Gd (zp rfl)) (by decide) (by decide) (zp rfl) (wz rfl)) fun σ H Q=>zD2
def WZ (i:Nat) (mi mv:ME):MS:=fun E=>if JX E[i]?=true then .stuck else match mv E with
 | .stuck=>.stuck
 | .exc x E1=>.exc x E1
 | .ok (r,E1)=>match mi E1 with
  | .stuck=>.stuck
  | .exc x E2=>.exc x E2
  | .ok (.val (.int k),E2)=>match E2[i]? with
   | none=>.stuck
   | some s=>match s.list? with
    | none=>.stuck
    | some ds=>match ixN ds.length k with
     | none=>.stuck
     | some j=>.ok (.nx,E2.set i (s.put (ds.set j r.d)))
  | _=>.stuck
theorem zB8 {i:Nat} {mi mv:ME} {D:Ends} (h:tS X (WZ i mi mv) D σ H):tAsg (tM X mv) (gSub (zA3 i) (tM X mi) rSetL) D σ H:=by
 obtain ⟨M,E,hl,fr,k⟩:=h;unfold WZ at k;cases em:JX E[i]? with
 | true=>rw [em] at k; exact k.elim
 | false =>
  rw [em] at k;obtain ⟨s,hs1,hs2⟩:=Qh em;obtain ⟨v,hv⟩:=zB6 hl fr hs1 hs2;refine yM (T0:=[]) hl fr ?_;simp only [Bool.false_eq_true,if_false] at k;cases ea:mv E with
  | stuck=>rw [ea] at k; exact k
  | exc x E1=>rw [ea] at k; exact fun H' g=>k σ H' g
  | ok p =>
   obtain ⟨r,E1⟩:=p;rw [ea] at k;intro y H1 g1;refine ⟨v,hv,?_⟩;refine yM (T0:=[(some y,r.slot)]) g1.len g1.fr ?_;dsimp only at k;cases eb:mi E1 with
   | stuck=>rw [eb] at k; exact k
   | exc x E2=>rw [eb] at k; exact fun H' g=>k σ H' (g1.trans' g).dropAll
   | ok p =>
    obtain ⟨r2,E2⟩:=p;rw [eb] at k;cases r2 with
    | own ds=>exact k.elim
    | val d =>
     cases d with
     | int n =>
      intro z H2 g2;have g:=g1.trans' g2;dsimp only at k;cases e1:E2[i]? with
      | none=>rw [e1] at k; exact k.elim
      | some s1 =>
       rw [e1] at k;dsimp only at k;cases e2:s1.list? with
       | none=>rw [e2] at k; exact k.elim
       | some ds =>
        rw [e2] at k;dsimp only at k;cases e3:ixN ds.length n with
        | none=>rw [e3] at k; exact k.elim
        | some j =>
         rw [e3] at k;have rp:=Got.reps (vs:=[z,y]) (rs:=[.val (.int n),r]) rfl g;simp only [List.map,Reps] at rp;obtain ⟨z',_,q1,rz,y',_,q2,ry,_⟩:=rp;cases q1; cases q2;obtain ⟨o,h1,h2⟩:=wa g.len e1;obtain ⟨a,xs,ev,w1,_,w3⟩:=g.frame.own _ s1 ds h2 e2;subst ev;have ev:v=.ref a:=by rw [hv] at h1; exact Option.some.inj (Option.some.inj h1)
         subst ev;obtain ⟨p,hp,g'⟩:=g.mut e1 e2 (w3.set j ry);have ep:p=a:=by rw [h1] at hp; cases hp; rfl
         subst ep;exact ⟨p,xs,n,j,rfl,zQ rz,w1,by rw [w3.length]; exact e3,k σ _ g'⟩
     | _=>exact k.elim
theorem zD3 (i:Nat) {x:Str} {b e:Expr} {mi mv:ME} {p p1 pos:Pos} (hv:PE X (.Name x p) (zA3 i)) (hb:EOk X b mi) (he:EOk X e mv)
  (ha:∀ v,assign (.Subscript (.Name x p) b p1) X.env v=(do
   let ov ← holding [v] (eval (.Name x p) X.env)
   let iv ← holding [v,ov] (eval b X.env)
   standAt p1
   holding [v,ov,iv] (setItem ov iv v)
   release [v,ov,iv] []):=by intro _; rfl) (hs:swapsWithSole [.Subscript (.Name x p) b p1] e pos.line X.env=pure false:=by rfl):SOk X (.Assign [.Subscript (.Name x p) b p1] e pos) (WZ i mi mv) :=
 y8 (zEu he (pg_sub hv hb zDk ha) hs) fun D σ H=>zB8
def sApp (i:Nat) (m:ME):MS:=fun E=>match E[i]? with
 | none=>.stuck
 | some s0=>match s0.list? with
  | none=>.stuck
  | some _=>match m E with
   | .stuck=>.stuck
   | .exc x E1=>.exc x E1
   | .ok (r,E1)=>match E1[i]? with
    | none=>.stuck
    | some s=>match s.list? with
     | none=>.stuck
     | some ds=>if ds.length < cap then .ok (.nx,E1.set i (s.put (ds++[r.d]))) else .stuck
theorem app_run {i:Nat} {m:ME} {D:Ends} (h:tS X (sApp i m) D σ H):tDrop (tBM X.K "list" zBt (zA3 i) (zBm (tM X m) tNil)) D σ H:=by
 obtain ⟨M,E,hl,fr,k⟩:=h;unfold sApp at k;cases e0:E[i]? with
 | none=>rw [e0] at k; exact k.elim
 | some s0 =>
  rw [e0] at k;dsimp only at k;cases e00:s0.list? with
  | none=>rw [e00] at k; exact k.elim
  | some ds0 =>
   rw [e00] at k;obtain ⟨o,h1,h2⟩:=wa hl e0;obtain ⟨a,xs,ev,w1,_,w3⟩:=fr.own _ s0 ds0 h2 e00;subst ev;refine ⟨.ref a,h1,.inl ⟨rfl,xs,SqL.of w1⟩,?_⟩;refine yM (T0:=[]) hl fr ?_;dsimp only at k;cases ea:m E with
   | stuck=>rw [ea] at k; exact k
   | exc x E1=>rw [ea] at k; exact fun H' g=>k σ H' g
   | ok p =>
    obtain ⟨r,E1⟩:=p;rw [ea] at k;intro y H1 g;dsimp only at k;cases e1:E1[i]? with
    | none=>rw [e1] at k; exact k.elim
    | some s =>
     rw [e1] at k;dsimp only at k;cases e2:s.list? with
     | none=>rw [e2] at k; exact k.elim
     | some ds =>
      rw [e2] at k;dsimp only at k;by_cases hc:ds.length < cap
      ·rw [if_pos hc] at k
       obtain ⟨o,h1',h2'⟩:=wa g.len e1;obtain ⟨a',ys,ev,q1,_,q3⟩:=g.frame.own _ s ds h2' e2;subst ev;have ea':a'=a:=by rw [h1] at h1'; cases h1'; rfl
       subst ea';obtain ⟨p,hp,g'⟩:=g.mut e1 e2 (q3.append (Reps.cons g.rep Reps.nil));have ep:p=a':=by rw [h1] at hp; cases hp; rfl
       subst ep;exact ⟨p,ys,y,rfl,rfl,q1,by rw [q3.length]; exact lt_of_lt_of_le hc (ZU (le_refl _)),k σ _ g'⟩
      ·rw [if_neg hc] at k; exact k.elim
theorem sk_app (i:Nat) {x:Str} {e:Expr} {m:ME} {p apos cpos pos:Pos} (hv:PE X (.Name x p) (zA3 i)) (he:EOk X e m)
  (hbase:attributeBase (.Name x p) "append" X.env (eval (.Name x p) X.env)=eval (.Name x p) X.env:=by rfl)
  (hfew:((backTo cpos (starEach (e::[]) X.env)).all (fun x=>!x.1)&&(backToKw cpos (keywordEach [] X.env)).all (fun x=>x.1.isSome)
   && decide ((e::([]:List Expr)).length+([]:List Keyword).length+(if ([]:List Keyword).isEmpty then 0 else 1) < 30))=true:=by rfl)
  (hline:(apos.endLine == cpos.line)=true:=by rfl) (hs:starEach (e::[]) X.env=(false,eval e X.env)::starEach [] X.env:=by rfl) (hplain:(backTo cpos (starEach [] X.env)).any (·.1)=false:=by rfl)
  (hsw:swapsWith (.Call (.Attribute (.Name x p) "append" apos) [e] [] cpos) none pos.line X.env=pure false:=by rfl):SOk X (.Expr (.Call (.Attribute (.Name x p) "append" apos) [e] [] cpos) pos) (sApp i m) :=
 y8 (zBY (pe_bm PySem.F.plainAttrs_list PySem.F.slot_list_append PySem.F.type_list_append Go hv (Jx he Gd hs) hbase hfew hline hs hplain) hsw) fun D σ H=>app_run
end
end DV
namespace DV
open PySem L2
section
variable {X:Cx} {K:PySem.W.Frag} {mg:Str→Option Value} {σ:St} {M:Addr→Prop} {E:zY} {H:Hp} {T0 Z:Fz}
abbrev MG:=D→zY→Out zY
def GOk (X:Cx) (g:TG) (tg:MG):Prop:=∀ (M:Addr→Prop) (σ:St) (E:zY) (H:Hp) (T0:Fz) (x:V) (d:D) (E':zY) (Q:St→Hp→Prop),E.length=σ.length→FR X.K X.mg M H ((some x,.val d)::(T0++σ.zip E))→tg d E=.ok E' →
 (∀ σ',Got X.K X.mg M σ E H T0 σ' E' H []→Q σ' H)→g x σ H Q
def gN (i:Nat):MG:=fun d E=>vB i (.val d) E
theorem go_name (i:Nat):GOk X (QZ i) (gN i):=fun M σ E H T0 x d E' Q hl f e k =>
 k _ (uY (σ1:=σ) (E1:=E) (H1:=H) (r:=.val d) (v:=x) ⟨hl,f,Step.refl.add,PKp.refl⟩ e)
def gNs:List Nat→List D→zY→Out zY
 | [],[],E=>.ok E
 | i::is,d::ds,E=>match vB i (.val d) E with
  | .ok E1=>gNs is ds E1
  | _=>.stuck
 | _,_,_=>.stuck
def gT (is:List Nat):MG:=fun d E=>match d with
 | .tup ds=>gNs is ds E
 | _=>.stuck
def J1:List Nat→TGs
 | []=>gNil
 | i::is=>gCons (QZ i) (J1 is)
theorem YW:∀ (is:List Nat) (ds:List D) (xs:List V) {M:Addr→Prop} {σ0 σ:St} {E0 E E':zY} {H:Hp} {T0:Fz} {a:Addr} {ts:List D} {Q:St→Hp→Prop},
  Got X.K X.mg M σ0 E0 H T0 σ E H []→Reps X.K X.mg (Hm (Mo M (T0++σ.zip E)) H) ds xs→gNs is ds E=.ok E'→(∀ σ',Got X.K X.mg M σ0 E0 H T0 σ' E' H []→Q σ' H)→J1 is xs σ H Q
 | [],[],xs,M,σ0,σ,E0,E,E',H,T0,a,ts,Q,g,r,e,k=>by
  cases e;simp only [Reps] at r;exact ⟨r,k σ g⟩
 | [],d::ds,xs,M,σ0,σ,E0,E,E',H,T0,a,ts,Q,g,r,e,k=>by cases e
 | i::is,[],xs,M,σ0,σ,E0,E,E',H,T0,a,ts,Q,g,r,e,k=>by cases e
 | i::is,d::ds,xs,M,σ0,σ,E0,E,E',H,T0,a,ts,Q,g,r,e,k=>by
  simp only [Reps] at r;obtain ⟨x,vd,rfl,rx,rr⟩:=r;simp only [gNs] at e;cases e1:vB i (.val d) E with
  | stuck=>rw [e1] at e; cases e
  | exc _ _=>rw [e1] at e; cases e
  | ok E1 =>
   rw [e1] at e;refine ⟨x,vd,rfl,?_⟩;have g1:Got X.K X.mg M σ0 E0 H T0 σ E H [(some x,R.slot (.val d))]:=⟨g.len,g.fr.add rx,g.st.add,g.pk⟩;have g2:=uY g1 e1;refine YW is ds vd (a:=a) (ts:=ts) g2 (rr.mono ?_) e k;refine wE (YU fun b hb=>?_);have st:=g2.fr
   -- the stored slot is a value: it yX nothing
   unfold vB at e1;cases e2:E[i]? with
   | none=>rw [e2] at e1; cases e1
   | some sl =>
    rw [e2] at e1;have e3:E1=E.set i (.val d):=by cases sl <;> cases e1 <;> rfl
    subst e3;have hi:i < E.length:=(List.getElem?_eq_some_iff.mp e2).1;have hz:i < (σ.zip E).length:=by rw [List.length_zip]; have:=g.len; omega
    rw [uU] at hb;rw [zc] at hb ⊢;rcases mem_append.mp hb with hb | hb
    ·exact mem_append_left _ hb
    ·refine mem_append_right _ ?_
     have:=zF (yS _ _ _ hz) b hb;rw [zz] at this;exact zD (List.eraseIdx_sublist _ _) b this
theorem zE9 {n:Nat} (is:List Nat) (hn:is.length=n):GOk X (gTup X.K n (J1 is)) (gT is):=fun M σ E H T0 x d E' Q hl f e k=>by
 cases d with
 | tup ds =>
  obtain ⟨v,ev,r⟩:=f.val _ _ mem_cons_self;cases ev;obtain ⟨a,xs,rfl,h1,h2⟩:=zb r;rw [ZT] at h2;have hlen:ds.length=is.length:=by
   have:∀ (is:List Nat) (ds:List D) (E E':zY),gNs is ds E=.ok E'→ds.length=is.length:=by
    intro is
    induction is with
    | nil=>intro ds E E' h; cases ds with | nil=>rfl | cons d ds=>cases h
    | cons i is ih =>
     intro ds E E' h;cases ds with
     | nil=>cases h
     | cons d ds =>
      simp only [gNs] at h;cases e1:vB i (.val d) E with
      | ok E1=>rw [e1] at h; simp [ih ds E1 E' h]
      | stuck=>rw [e1] at h; cases h
      | exc _ _=>rw [e1] at h; cases h
   exact this is ds E E' e
  refine ⟨a,xs,rfl,yD zL h1,by rw [h2.length,hlen,hn],?_⟩;exact YW is ds xs (a:=a) (ts:=[]) (Got.refl hl f.tail) h2 e k
 | _=>cases e
def vC (tg:MG) (body:MS):List D→zY→Out (Fl × zY)
 | [],E=>.ok (.nx,E)
 | d::ds,E=>match tg d E with
  | .ok E1=>match body E1 with
   | .ok (.nx,E2)=>vC tg body ds E2
   | .ok (.ct,E2)=>vC tg body ds E2
   | .ok (.bk,E2)=>.ok (.nx,E2)
   | .ok (.ret r,E2)=>.ok (.ret r,E2)
   | .exc x E2=>.exc x E2
   | .stuck=>.stuck
  | _=>.stuck
def Fin (X:Cx) (M:Addr→Prop) (σ:St) (E:zY) (H:Hp) (D:Ends) (o:Out (Fl × zY)):Prop:=match o with
 | .stuck=>False
 | .ok (.nx,E')=>∀ σ' H',Got X.K X.mg M σ E H [] σ' E' H' []→D.nx σ' H'
 | .ok (.bk,E')=>∀ σ' H',Got X.K X.mg M σ E H [] σ' E' H' []→D.bk σ' H'
 | .ok (.ct,E')=>∀ σ' H',Got X.K X.mg M σ E H [] σ' E' H' []→D.ct σ' H'
 | .ok (.ret r,E')=>∀ v σ' H',Got X.K X.mg M σ E H [] σ' E' H' [(some v,r.slot)]→D.rt v H'
 | .exc x E'=>∀ σ' H',Got X.K X.mg M σ E H [] σ' E' H' []→XE X σ' H' x
theorem Got.dropT {K:PySem.W.Frag} {mg:Str→Option Value} {M:Addr→Prop} {σ σ1:St} {E E1:zY} {H H1:Hp} {T T':Fz} (a:Got K mg M σ E H [] σ1 E1 H1 (T++T')):Got K mg M σ E H [] σ1 E1 H1 T where
 len:=a.len
 fr:=a.fr.sub (by rw [append_assoc]; exact (sublist_append_right _ _).append_left _)
 st:=a.st.weak (zD (by rw [append_assoc]; exact (sublist_append_right _ _).append_left _))
 pk:=a.pk
theorem ua {tg:MG} {body:MS} {g:TG} {D:Ends} {d:DV.D} {ds:List DV.D} {σ1:St} {E1:zY} {H1:Hp} {T:Fz} {x:V} {P:St→Hp→Prop} (hg:GOk X g tg)
  (g1:Got X.K X.mg M σ E H [] σ1 E1 H1 T) (rx:Rep X.K X.mg (Hm (Mo M (T++σ1.zip E1)) H1) d x) (fin:Fin X M σ E H D (vC tg body (d::ds) E1))
  (next:∀ σ2 E2 H2,Got X.K X.mg M σ E H [] σ2 E2 H2 T→Step M H1 (T++σ1.zip E1) H2 (T++σ2.zip E2)→Fin X M σ E H D (vC tg body ds E2)→P σ2 H2) :
  g x σ1 H1 fun σ2 H2=>tS X body { D with nx:=P,ct:=P,bk:=D.nx } σ2 H2:=by
 simp only [vC] at fin;cases e1:tg d E1 with
 | stuck=>rw [e1] at fin; exact fin.elim
 | exc _ _=>rw [e1] at fin; exact fin.elim
 | ok E2 =>
  rw [e1] at fin;dsimp only at fin;refine hg M σ1 E1 H1 T x d E2 _ g1.len (g1.fr.add rx) e1 fun σ2 g2=>?_
  have g12:=g1.trans' g2;refine vi (T0:=T) g2.len g2.fr ?_;cases e2:body E2 with
  | stuck=>rw [e2] at fin; exact fin
  | exc y E3=>rw [e2] at fin; exact fun σ' H' g'=>fin σ' H' (g12.trans' g').dropAll
  | ok p =>
   obtain ⟨fl,E3⟩:=p;rw [e2] at fin;cases fl with
   | nx=>exact fun σ' H' g'=>next σ' E3 H' (g12.trans' g') (g2.st.trans g'.st) fin
   | ct=>exact fun σ' H' g'=>next σ' E3 H' (g12.trans' g') (g2.st.trans g'.st) fin
   | bk=>exact fun σ' H' g'=>fin σ' H' (g12.trans' g').dropAll
   | ret r=>exact fun v σ' H' g'=>fin v σ' H' (g12.trans' g').dropT
def sForL (m:ME) (tg:MG) (body:MS):MS:=fun E=>match m E with
 | .stuck=>.stuck
 | .exc x E1=>.exc x E1
 | .ok (r,E1)=>match r.d with
  | .lst ds=>vC tg body ds E1
  | _=>.stuck
theorem zB9 {m:MS} {D:Ends} (h:tS X m D σ H):∃ M E,E.length=σ.length∧FR X.K X.mg M H (σ.zip E)∧Fin X M σ E H D (m E):=h
theorem zD4 {m:ME} {tg:MG} {g:TG} {body:MS} {D:Ends} (hg:GOk X g tg) (h:tS X (sForL m tg body) D σ H):tFor (iList X.K (tM X m)) g (tS X body) D σ H:=by
 obtain ⟨M,E,hl,fr,k⟩:=zB9 h;unfold sForL at k;refine yM (T0:=[]) hl fr ?_;cases ea:m E with
 | stuck=>rw [ea] at k; exact k
 | exc x E1=>rw [ea] at k; exact fun H' g=>k σ H' g
 | ok p =>
  obtain ⟨r,E1⟩:=p;rw [ea] at k;intro v H1 g0;have g1:Got X.K X.mg M σ E H [] σ E1 H1 [(some v,.val r.d)]:=⟨g0.len,g0.fr.frz,g0.st.frz,g0.pk⟩;dsimp only at k;cases ed:r.d with
  | lst ds =>
   rw [ed] at k g1;have rl:=g0.rep;rw [ed] at rl;obtain ⟨a,xs,rfl,q1,q2⟩:=zS rl;refine ⟨a,rfl,⟨xs,zL.seq q1⟩,?_⟩;have em:∀ (σ':St) (E':zY),Mo M ([(some (V.ref a),Slot.val (.lst ds))]++σ'.zip E')=Mo M (σ'.zip E'):=fun σ' E'=>ZT _ _ _ _
   refine zDc (K:=X.K) (a:=a) (xs:=xs) (fun i σ1 H2=>∃ E2,Got X.K X.mg M σ E H [] σ1 E2 H2 [(some (.ref a),.val (.lst ds))]∧SqL X.K (Hm (Mo M (σ1.zip E2)) H2) a xs∧Reps X.K X.mg (Hm (Mo M (σ1.zip E2)) H2) ds xs∧Fin X M σ E H D (vC tg body (ds.drop i) E2))
    ⟨E1,g1,q1,q2,k⟩ (fun i σ' H' _ ⟨E2,_,q,_⟩=>zL.seq q) ?_ ?_
   ·rintro i x σ1 H2 hx ⟨E2,g2,s2,r2,fin⟩
    obtain ⟨d,hd,rx⟩:=r2.get hx;have ed:ds.drop i=d::ds.drop (i+1):=by
     obtain ⟨hi,rfl⟩:=List.getElem?_eq_some_iff.mp hd;exact List.drop_eq_getElem_cons hi
    rw [ed] at fin;refine ua hg g2 (by rw [em]; exact rx) fin fun σ3 E3 H3 g3 st fin3=>?_
    have sm:=st.same;rw [em,em] at sm;exact ⟨E3,g3,sm.seq s2,r2.mono sm,fin3⟩
   ·rintro σ1 H2 ⟨E2,g2,s2,r2,fin⟩
    rw [r2.length,List.drop_length] at fin;exact fin σ1 H2 g2.dropAll
  | _=>rw [ed] at k; exact k.elim
def zO (lo:Int):Nat→List D
 | 0=>[]
 | n+1=>.int lo::zO (lo+1) n
theorem ya (lo:Int):∀ n,(zO lo n).length=n
 | 0=>rfl
 | n+1=>by simp [zO,ya (lo+1) n]
theorem wc:∀ (n i:Nat) (lo:Int),i < n→(zO lo n).drop i=.int (lo+i)::(zO lo n).drop (i+1)
 | 0,_,_,h=>by omega
 | n+1,0,lo,_=>by simp [zO]
 | n+1,i+1,lo,h=>by
  have:=wc n i (lo+1) (by omega);simp only [zO,List.drop_succ_cons];rw [this];congr 2;omega
def sForR1 (m:MA) (tg:MG) (body:MS):MS:=fun E=>match m E with
 | .stuck=>.stuck
 | .exc x E1=>.exc x E1
 | .ok ([r],E1)=>match r.d with
  | .int j=>if -(2 ^ 62)≤j∧j < 2 ^ 62 then vC tg body (zO 0 j.toNat) E1 else .stuck
  | _=>.stuck
 | _=>.stuck
theorem Qi {tg:MG} {g:TG} {body:MS} {D:Ends} (hg:GOk X g tg) {lo:Int} {n:Nat} {E1:zY} {H1:Hp} (g1:Got X.K X.mg M σ E H [] σ E1 H1 []) (fin:Fin X M σ E H D (vC tg body (zO lo n) E1)) :
  ∃ W:Nat→Nat→St→Hp→Prop,(∃ m,W 0 m σ H1)∧∀ i m σ H,W i m σ H →
   ((Itr lo n).stop i H∧D.nx σ H)∨((Itr lo n).go i H∧∃ N:St→Hp→Prop,(∀ σ' H',N σ' H'→∃ m',m' < m∧W (i+1) m' σ' H')∧∀ x H',(Itr lo n).yld i H x H'→g x σ H' fun σ2 H2=>tS X body { D with nx:=N,ct:=N,bk:=D.nx } σ2 H2):=by
 refine zBf (fun i σ1 H2=>∃ E2,Got X.K X.mg M σ E H [] σ1 E2 H2 []∧Fin X M σ E H D (vC tg body ((zO lo n).drop i) E2)) ⟨E1,g1,fin⟩ ?_ ?_
 ·rintro i σ1 H2 hi ⟨E2,g2,fin⟩
  rw [wc n i lo hi] at fin;exact ua hg g2 (by simp only [Rep]) fin fun σ3 E3 H3 g3 st fin3=>⟨E3,g3,fin3⟩
 ·rintro σ1 H2 ⟨E2,g2,fin⟩
  rw [List.drop_of_length_le (by rw [ya]; exact le_refl _)] at fin;exact fin σ1 H2 g2
theorem zCA {m:MA} {tg:MG} {g:TG} {body:MS} {D:Ends} (hg:GOk X g tg) (h:tS X (sForR1 m tg body) D σ H):tFor (iRng1 (tMA X m)) g (tS X body) D σ H:=by
 obtain ⟨M,E,hl,fr,k⟩:=zB9 h;unfold sForR1 at k;refine Jy (T0:=[]) hl fr ?_;cases ea:m E with
 | stuck=>rw [ea] at k; exact k
 | exc x E1=>rw [ea] at k; exact fun H' g=>k σ H' g
 | ok p =>
  obtain ⟨rs,E1⟩:=p;rw [ea] at k
  match rs,k with
  | [r],k =>
   intro vs H1 hv g1;have rp:=Got.reps hv g1;dsimp only at k;cases ed:r.d with
   | int j =>
    rw [ed] at k;simp only [List.map,ed] at rp;obtain ⟨v,rfl,h1⟩:=J0 rp;dsimp only at k;by_cases hc:-(2 ^ 62)≤j∧j < 2 ^ 62
    ·rw [if_pos hc] at k
     exact ⟨j,by rw [zQ h1],hc.1,hc.2,Qi hg g1.dropAll k⟩
    ·rw [if_neg hc] at k; exact k.elim
   | _=>rw [ed] at k; exact k.elim
  | [],k=>exact k.elim
  | _::_::_,k=>exact k.elim
theorem sk_forL {tgt iter:Expr} {body:List Stmt} {m:ME} {g:TG} {tg:MG} {mb:MS} {pos:Pos} (hp:PassesOwn (model X.prog X.w) X.A X.env X.xe) (hc:X.calm=true) (hi:EOk X iter m) (hg:PG X tgt g) (ho:GOk X g tg) (hb:zBS X body mb)
  (hs:∀ x,foldedSetIterable iter X.env x=pure x:=by intro _; rfl):SOk X (.For tgt iter body [] pos) (sForL m tg mb):=y8 (zBe hp hc (zBc hi) hg hb hs) fun D σ H=>zD4 ho
theorem zD5 {tgt a:Expr} {body:List Stmt} {m:MA} {g:TG} {tg:MG} {mb:MS} {p cpos pos:Pos} (hp:PassesOwn (model X.prog X.w) X.A X.env X.xe) (hc:X.calm=true) (hgl:Gl X "range") (hm:X.mg "range"=none) (ha:AOk X [a] m) (hg:PG X tgt g) (ho:GOk X g tg) (hb:zBS X body mb)
  (hst:za a=false:=by rfl) (hs:∀ x,foldedSetIterable (.Call (.Name "range" p) [a] [] cpos) X.env x=pure x:=by intro _; rfl):SOk X (.For tgt (.Call (.Name "range" p) [a] [] cpos) body [] pos) (sForR1 m tg mb) :=
 y8 (zBe hp hc (Gb hgl hm ha (star1 hst)) hg hb hs) fun D σ H=>zCA ho
end
end DV
namespace DV
open PySem L2
section
variable {X:Cx} {K:PySem.W.Frag} {mg:Str→Option Value} {σ:St} {M:Addr→Prop} {E:zY} {H H':Hp} {T0 Z T:Fz}
theorem zD6 {o:Option V} {s s':Slot} {ds:List D} (h:s.list?=some ds) (h':s'.list?=some ds):Qd (o,s')=Qd (o,s):=by
 cases s <;> simp [Slot.list?] at h <;> cases s' <;> simp [Slot.list?] at h' <;> (cases o with | none=>rfl | some v=>cases v <;> rfl)
theorem Z7 {o:Option V} {s s':Slot} {ds:List D} (h:s.list?=some ds) (h':s'.list?=some ds):yX ((o,s')::Z)=yX ((o,s)::Z):=by
 unfold yX;rw [filterMap_cons,filterMap_cons,zD6 h h']
theorem FR.lab {o:Option V} {s s':Slot} {ds:List D} (f:FR K mg M H ((o,s)::Z)) (h:s.list?=some ds) (h':s'.list?=some ds):FR K mg M H ((o,s')::Z):=by
 have em:Mo M ((o,s')::Z)=Mo M ((o,s)::Z):=by unfold Mo; rw [Z7 h h']
 refine ⟨fun o' d q=>?_,fun o' t es q e=>?_,by rw [Z7 h h']; exact f.nd,f.mal⟩
 ·rw [em]
  rcases mem_cons.mp q with q | q
  ·cases q; cases h'
  ·exact f.val o' d (mem_cons_of_mem _ q)
 ·rw [em]
  rcases mem_cons.mp q with q | q
  ·cases q
   rw [h'] at e; cases e;exact f.own o s ds mem_cons_self h
  ·exact f.own o' t es (mem_cons_of_mem _ q) e
theorem Gz {o:Option V} {s1 s2:Slot} {i:Nat} (hi:Z[i]?=some (o,s2)):((o,s1)::(T++Z)).Perm ((o,s2)::(T++Z.set i (o,s1))):=by
 have hlt:i < Z.length:=(List.getElem?_eq_some_iff.mp hi).1;have p1:Z.Perm ((o,s2)::Z.eraseIdx i):=by
  have:=yS (o,s2) Z i hlt;rw [uV hi] at this;exact this
 have p2:(Z.set i (o,s1)).Perm ((o,s1)::Z.eraseIdx i):=yS _ _ _ hlt;refine ((p1.append_left T).cons _).trans ?_;refine List.Perm.trans ?_ ((p2.append_left T).cons _).symm;have a:(T++(o,s2)::Z.eraseIdx i).Perm ((o,s2)::(T++Z.eraseIdx i)):=perm_middle;have b:(T++(o,s1)::Z.eraseIdx i).Perm ((o,s1)::(T++Z.eraseIdx i)):=perm_middle;exact ((a.cons _).trans (List.Perm.swap _ _ _)).trans (b.cons _).symm
inductive AR where
 | tmp (d:D)
 | ln (i:Nat)
 deriving Inhabited
def AR.slot:AR→Slot
 | .tmp d=>.val d
 | .ln _=>.emp
def yB (vs:List V) (as:List AR):Fz:=(vs.map some).zip (as.map AR.slot)
def AV (σ:St):List AR→List V→Prop
 | [],vs=>vs=[]
 | .tmp _::as,vs=>∃ v r,vs=v::r∧AV σ as r
 | .ln i::as,vs=>∃ v r,vs=v::r∧σ[i]?=some (some v)∧AV σ as r
theorem AV.length:∀ {as:List AR} {vs:List V},AV σ as vs→vs.length=as.length
 | [],_,h=>by simp only [AV] at h; subst h; rfl
 | .tmp _::as,_,h=>by simp only [AV] at h; obtain ⟨v,r,rfl,h⟩:=h; simp [AV.length h]
 | .ln i::as,_,h=>by simp only [AV] at h; obtain ⟨v,r,rfl,_,h⟩:=h; simp [AV.length h]
def zJ:List AR→zY→Out (List Slot × zY)
 | [],E=>.ok ([],E)
 | .tmp d::as,E=>match zJ as E with
  | .ok (ss,E')=>.ok (.val d::ss,E')
  | _=>.stuck
 | .ln i::as,E=>match E[i]? with
  | none=>.stuck
  | some s=>match s.list? with
   | none=>.stuck
   | some ds=>match zJ as (E.set i .emp) with
    | .ok (ss,E')=>.ok (.par ds::ss,E')
    | _=>.stuck
def zH:List AR→List Slot→zY→zY→Out zY
 | [],[],_,E=>.ok E
 | .tmp _::as,_::ss,E0,E=>zH as ss E0 E
 | .ln i::as,s'::ss,E0,E=>match E0[i]? with
  | none=>.stuck
  | some s=>match s.list?,s'.list?,E[i]? with
   | some _,some ds,some .emp=>zH as ss E0 (E.set i (s.put ds))
   | _,_,_=>.stuck
 | _,_,_,_=>.stuck
theorem Wa:∀ (as:List AR) {vs:List V} {E E':zY} {ss:List Slot} {T:Fz},E.length=σ.length→AV σ as vs→zJ as E=.ok (ss,E')→FR K mg M H (T++(yB vs as++σ.zip E)) →
  FR K mg M H (T++((vs.map some).zip ss++σ.zip E'))∧(∀ b,b∈yX (T++(yB vs as++σ.zip E))↔b∈yX (T++((vs.map some).zip ss++σ.zip E')))∧ss.length=as.length∧E'.length=σ.length
 | [],vs,E,E',ss,T,hl,av,e,f=>by
  cases e;simp only [AV] at av; subst av;exact ⟨f,fun b=>Iff.rfl,rfl,hl⟩
 | .tmp d::as,vs,E,E',ss,T,hl,av,e,f=>by
  simp only [AV] at av;obtain ⟨v,r,rfl,av⟩:=av;simp only [zJ] at e;cases e1:zJ as E with
  | stuck=>rw [e1] at e; cases e
  | exc _ _=>rw [e1] at e; cases e
  | ok p =>
   obtain ⟨ss1,E1⟩:=p;rw [e1] at e; cases e;have f1:FR K mg M H ((T++[(some v,.val d)])++(yB r as++σ.zip E)):=by
    rw [append_assoc]; exact f
   obtain ⟨g1,g2,g3,g4⟩:=Wa as hl av e1 f1;refine ⟨by rw [append_assoc] at g1; exact g1,fun b=>?_,by simp [g3],g4⟩;have:=g2 b;rw [append_assoc,append_assoc] at this;exact this
 | .ln i::as,vs,E,E',ss,T,hl,av,e,f=>by
  simp only [AV] at av;obtain ⟨v,r,rfl,hv,av⟩:=av;simp only [zJ] at e;cases e0:E[i]? with
  | none=>rw [e0] at e; cases e
  | some s =>
   rw [e0] at e;dsimp only at e;cases e2:s.list? with
   | none=>rw [e2] at e; cases e
   | some ds =>
    rw [e2] at e;dsimp only at e;cases e1:zJ as (E.set i .emp) with
    | stuck=>rw [e1] at e; cases e
    | exc _ _=>rw [e1] at e; cases e
    | ok p =>
     obtain ⟨ss1,E1⟩:=p;rw [e1] at e; cases e;obtain ⟨o,h1,h2⟩:=WT hl e0;have ho:o=some v:=by rw [hv] at h1; exact (Option.some.inj h1).symm
     subst ho;have ez:σ.zip (E.set i .emp)=(σ.zip E).set i (some v,.emp):=yk .emp hv;have pA:(T++(((some v,Slot.emp)::yB r as)++σ.zip E)).Perm ((some v,s)::(T++(yB r as++σ.zip (E.set i .emp)))):=by
      rw [ez];have a:(T++(((some v,Slot.emp)::yB r as)++σ.zip E)).Perm ((some v,Slot.emp)::((T++yB r as)++σ.zip E)):=by
       rw [append_assoc];exact perm_middle
      refine a.trans ((Gz h2).trans ?_);rw [append_assoc]
     have f1:=(f.perm pA).lab e2 (s':=.par ds) rfl;have f2:FR K mg M H ((((some v,Slot.par ds))::T)++(yB r as++σ.zip (E.set i .emp))):=f1;obtain ⟨g1,g2,g3,g4⟩:=Wa as (by simp [hl]) av e1 f2;have pB:(((some v,Slot.par ds)::T)++((r.map some).zip ss1++σ.zip E')).Perm (T++(((some v,Slot.par ds)::(r.map some).zip ss1)++σ.zip E')):=perm_middle.symm;refine ⟨g1.perm pB,fun b=>?_,by simp [g3],g4⟩;have x1:b∈yX (T++(((some v,Slot.emp)::yB r as)++σ.zip E))↔b∈yX ((some v,s)::(T++(yB r as++σ.zip (E.set i .emp)))):=(pA.filterMap Qd).mem_iff;have x2:yX ((some v,Slot.par ds)::(T++(yB r as++σ.zip (E.set i .emp))))=yX ((some v,s)::(T++(yB r as++σ.zip (E.set i .emp)))):=Z7 e2 rfl;have x3:=g2 b;have x4:b∈yX (((some v,Slot.par ds)::T)++((r.map some).zip ss1++σ.zip E'))↔b∈yX (T++(((some v,Slot.par ds)::(r.map some).zip ss1)++σ.zip E')):=(pB.filterMap Qd).mem_iff;refine x1.trans ?_;rw [← x2];exact x3.trans x4
theorem ub:∀ (as:List AR) {vs:List V} {E0 E E':zY} {ss:List Slot} {T:Fz},E.length=σ.length→AV σ as vs→zH as ss E0 E=.ok E'→FR K mg M H (T++((vs.map some).zip ss++σ.zip E)) →
  FR K mg M H (T++σ.zip E')∧(∀ b,b∈yX (T++σ.zip E')→b∈yX (T++((vs.map some).zip ss++σ.zip E)))∧E'.length=σ.length
 | [],vs,E0,E,E',ss,T,hl,av,e,f=>by
  cases ss with
  | cons _ _=>cases e
  | nil =>
   cases e;simp only [AV] at av; subst av;exact ⟨f,fun b q=>q,hl⟩
 | .tmp d::as,vs,E0,E,E',ss,T,hl,av,e,f=>by
  simp only [AV] at av;obtain ⟨v,r,rfl,av⟩:=av;cases ss with
  | nil=>cases e
  | cons s ss =>
   simp only [zH] at e;have sub:(T++((r.map some).zip ss++σ.zip E)).Sublist (T++(((some v,s)::(r.map some).zip ss)++σ.zip E)):=(sublist_cons_self _ _).append_left _;obtain ⟨g1,g2,g3⟩:=ub as hl av e (f.sub sub);exact ⟨g1,fun b q=>zD sub b (g2 b q),g3⟩
 | .ln i::as,vs,E0,E,E',ss,T,hl,av,e,f=>by
  simp only [AV] at av;obtain ⟨v,r,rfl,hv,av⟩:=av;cases ss with
  | nil=>cases e
  | cons s' ss =>
   simp only [zH] at e;cases e0:E0[i]? with
   | none=>rw [e0] at e; cases e
   | some s =>
    rw [e0] at e;dsimp only at e;cases e1:s.list? with
    | none=>rw [e1] at e; cases e
    | some ds0 =>
     cases e2:s'.list? with
     | none=>rw [e1,e2] at e; cases e
     | some ds =>
      cases e3:E[i]? with
      | none=>rw [e1,e2,e3] at e; cases e
      | some se =>
       rw [e1,e2,e3] at e;cases se with
       | emp =>
        dsimp only at e;obtain ⟨o,h1,h2⟩:=WT hl e3;have ho:o=some v:=by rw [hv] at h1; exact (Option.some.inj h1).symm
        subst ho;have ez:σ.zip (E.set i (s.put ds))=(σ.zip E).set i (some v,s.put ds):=yk _ hv;have hp:(s.put ds).list?=some ds:=(uZ (p:=0) e1).2;have pA:(T++(((some v,s')::(r.map some).zip ss)++σ.zip E)).Perm ((some v,s')::((T++(r.map some).zip ss)++σ.zip E)):=by
         rw [append_assoc];exact perm_middle
        have f1:=(f.perm pA).lab e2 hp;have pB:((some v,s.put ds)::((T++(r.map some).zip ss)++σ.zip E)).Perm ((some v,Slot.emp)::((T++(r.map some).zip ss)++σ.zip (E.set i (s.put ds)))):=by
         rw [ez]; exact Gz h2
        have f2:=(f1.perm pB).tail;rw [append_assoc] at f2;obtain ⟨g1,g2,g3⟩:=ub as (by simp [hl]) av e f2;refine ⟨g1,fun b q=>?_,g3⟩;have q1:=g2 b q;rw [← append_assoc] at q1;have q2:b∈yX ((some v,Slot.emp)::((T++(r.map some).zip ss)++σ.zip (E.set i (s.put ds)))):=zD (sublist_cons_self _ _) b q1;have q3:=zF pB.symm b q2;rw [Z7 e2 hp] at q3;exact zF pA.symm b q3
       | _=>cases e
def Qj:List AR→List Nat
 | []=>[]
 | .tmp _::as=>Qj as
 | .ln i::as=>i::Qj as
theorem uc:∀ (as:List AR) {E E':zY} {ss:List Slot},zJ as E=.ok (ss,E')→∀ (k:Nat),k ∉ Qj as→E'[k]?=E[k]?
 | [],E,E',ss,e,k,h=>by cases e; rfl
 | .tmp d::as,E,E',ss,e,k,h=>by
  simp only [zJ] at e;cases e1:zJ as E with
  | stuck=>rw [e1] at e; cases e
  | exc _ _=>rw [e1] at e; cases e
  | ok p =>
   obtain ⟨ss1,E1⟩:=p;rw [e1] at e; cases e;exact uc as e1 k h
 | .ln i::as,E,E',ss,e,k,h=>by
  simp only [zJ] at e;cases e0:E[i]? with
  | none=>rw [e0] at e; cases e
  | some s =>
   rw [e0] at e;dsimp only at e;cases e2:s.list? with
   | none=>rw [e2] at e; cases e
   | some ds =>
    rw [e2] at e;dsimp only at e;cases e1:zJ as (E.set i .emp) with
    | stuck=>rw [e1] at e; cases e
    | exc _ _=>rw [e1] at e; cases e
    | ok p =>
     obtain ⟨ss1,E1⟩:=p;rw [e1] at e; cases e;simp only [Qj,mem_cons,not_or] at h;rw [uc as e1 k h.2,getElem?_set_ne (fun q=>h.1 q.symm)]
theorem Z8:∀ (as:List AR) {E0 E E':zY} {ss:List Slot},zH as ss E0 E=.ok E'→∀ (k:Nat),E'[k]?=E[k]?∨∃ (s:Slot) (ds:List D),E0[k]?=some s∧E'[k]?=some (s.put ds)
 | [],E0,E,E',ss,e,k=>by
  cases ss with
  | cons _ _=>cases e
  | nil=>cases e; exact .inl rfl
 | .tmp d::as,E0,E,E',ss,e,k=>by
  cases ss with
  | nil=>cases e
  | cons s ss=>exact Z8 as e k
 | .ln i::as,E0,E,E',ss,e,k=>by
  cases ss with
  | nil=>cases e
  | cons s' ss =>
   simp only [zH] at e;cases e0:E0[i]? with
   | none=>rw [e0] at e; cases e
   | some s =>
    rw [e0] at e;dsimp only at e;cases e1:s.list? with
    | none=>rw [e1] at e; cases e
    | some ds0 =>
     cases e2:s'.list? with
     | none=>rw [e1,e2] at e; cases e
     | some ds =>
      cases e3:E[i]? with
      | none=>rw [e1,e2,e3] at e; cases e
      | some se =>
       rw [e1,e2,e3] at e;cases se with
       | emp =>
        dsimp only at e;rcases Z8 as e k with q | q
        ·by_cases ek:i=k
         ·subst ek
          have hlt:i < E.length:=(List.getElem?_eq_some_iff.mp e3).1;rw [getElem?_set_self hlt] at q;exact .inr ⟨s,ds,e0,q⟩
         ·rw [getElem?_set_ne ek] at q
          exact .inl q
        ·exact .inr q
       | _=>cases e
theorem Wb:∀ (as:List AR) {E0 E E':zY} {ss:List Slot},zH as ss E0 E=.ok E'→∀ (k:Nat),k∈Qj as→∃ (s:Slot) (ds:List D),E0[k]?=some s∧E'[k]?=some (s.put ds)
 | [],E0,E,E',ss,e,k,h=>by cases h
 | .tmp d::as,E0,E,E',ss,e,k,h=>by
  cases ss with
  | nil=>cases e
  | cons s ss=>exact Wb as e k h
 | .ln i::as,E0,E,E',ss,e,k,h=>by
  cases ss with
  | nil=>cases e
  | cons s' ss =>
   simp only [zH] at e;cases e0:E0[i]? with
   | none=>rw [e0] at e; cases e
   | some s =>
    rw [e0] at e;dsimp only at e;cases e1:s.list? with
    | none=>rw [e1] at e; cases e
    | some ds0 =>
     cases e2:s'.list? with
     | none=>rw [e1,e2] at e; cases e
     | some ds =>
      cases e3:E[i]? with
      | none=>rw [e1,e2,e3] at e; cases e
      | some se =>
       rw [e1,e2,e3] at e;cases se with
       | emp =>
        dsimp only at e;by_cases ek:i=k
        ·subst ek
         rcases Z8 as e i with q | q
         ·have hlt:i < E.length:=(List.getElem?_eq_some_iff.mp e3).1
          rw [getElem?_set_self hlt] at q;exact ⟨s,ds,e0,q⟩
         ·exact q
        ·simp only [Qj,mem_cons] at h
         rcases h with h | h
         ·exact absurd h.symm ek
         ·exact Wb as e k h
       | _=>cases e
theorem zCB {as:List AR} {E1 E2 E3:zY} {ss outs:List Slot} (h1:zJ as E1=.ok (ss,E2)) (h2:zH as outs E1 E2=.ok E3):PKp σ E1 σ E3:=fun k ds e=>by
 refine ⟨?_,rfl⟩;by_cases hk:k∈Qj as
 ·obtain ⟨s,es,q1,q2⟩:=Wb as h2 k hk
  rw [e] at q1; cases q1;exact ⟨es,q2⟩
 ·rcases Z8 as h2 k with q | ⟨s,es,q1,q2⟩
  ·rw [q,uc as h1 k hk]; exact ⟨ds,e⟩
  ·rw [e] at q1; cases q1
   exact ⟨es,q2⟩
abbrev MF:=List Slot→Out (R × List Slot)
def spM (K:PySem.W.Frag) (mg:Str→Option Value) (n:Nat) (F:MF):Sp:=fun vs H Q XQ=>vs.length=n∧∃ (M:Addr→Prop) (ss:List Slot),ss.length=vs.length∧FR K mg M H ((vs.map some).zip ss)∧match F ss with
 | .stuck=>False
 | .ok (r,outs)=>∀ v H',outs.length=vs.length→FR K mg M H' ((some v,r.slot)::(vs.map some).zip outs)→Step M H ((vs.map some).zip ss) H' ((some v,r.slot)::(vs.map some).zip outs)→Q v H'
 | .exc x _=>∀ C H',mg x.cls=some (.ref C)→FR K mg M H' []→Step M H ((vs.map some).zip ss) H' []→XQ (.ref C) none H'
inductive Arg where
 | ev (m:ME)
 | lend (i:Nat)
def zq:List Arg→zY→Out (List AR × zY)
 | [],E=>.ok ([],E)
 | .ev m::as,E=>match m E with
  | .stuck=>.stuck
  | .exc x E1=>.exc x E1
  | .ok (r,E1)=>match zq as E1 with
   | .ok (ars,E2)=>.ok (.tmp r.d::ars,E2)
   | .exc x E2=>.exc x E2
   | .stuck=>.stuck
 | .lend i::as,E=>if JX E[i]?=true then .stuck else match zq as E with
  | .ok (ars,E2)=>.ok (.ln i::ars,E2)
  | .exc x E2=>.exc x E2
  | .stuck=>.stuck
def tArgs (X:Cx) (as:List Arg):TA:=fun σ H Q=>∃ M E,E.length=σ.length∧FR X.K X.mg M H (σ.zip E)∧match zq as E with
 | .stuck=>False
 | .ok (ars,E')=>∀ vs H',AV σ ars vs→Got X.K X.mg M σ E H [] σ E' H' (yB vs ars)→Q vs H'
 | .exc x E'=>∀ H',Got X.K X.mg M σ E H [] σ E' H' []→XE X σ H' x
abbrev zFA (X:Cx) (es:List Expr) (as:List Arg):Prop:=PA X es (tArgs X as)
theorem Wc {as:List Arg} {Q:List V→Hp→Prop} (hl:E.length=σ.length) (h:FR X.K X.mg M H (T0++σ.zip E))
  (k:match zq as E with | .stuck=>False | .ok (ars,E')=>∀ vs H',AV σ ars vs→Got X.K X.mg M σ E H T0 σ E' H' (yB vs ars)→Q vs H' | .exc x E'=>∀ H',Got X.K X.mg M σ E H T0 σ E' H' []→XE X σ H' x):tArgs X as σ H Q:=by
 refine ⟨Mo M T0,E,hl,h.inner,?_⟩;cases e:zq as E with
 | stuck=>rw [e] at k; exact k
 | ok a=>rw [e] at k; exact fun vs H' av g=>k vs H' av (g.outer h)
 | exc x E'=>rw [e] at k; exact fun H' g=>k H' (g.outer h)
theorem ga_nil:zFA X [] []:=Gq Gd fun σ H Q ⟨M,E,hl,fr,k⟩=>k [] H (by simp only [AV]) (Got.refl (T0:=[]) hl fr)
theorem ga_ev {e:Expr} {es:List Expr} {m:ME} {as:List Arg} (he:EOk X e m) (hr:zFA X es as) (hs:za e=false:=by rfl):zFA X (e::es) (.ev m::as):=Gq (Jx he hr (zp hs)) fun σ H Q ⟨M,E,hl,fr,k⟩=>by
 simp only [zq] at k;refine yM (T0:=[]) hl fr ?_;cases ea:m E with
 | stuck=>rw [ea] at k; exact k
 | exc x E1=>rw [ea] at k; exact k
 | ok p =>
  obtain ⟨r1,E1⟩:=p;rw [ea] at k;intro x H1 g0;have g1:Got X.K X.mg M σ E H [] σ E1 H1 [(some x,.val r1.d)]:=⟨g0.len,g0.fr.frz,g0.st.frz,g0.pk⟩;refine Wc (T0:=[(some x,.val r1.d)]) g1.len g1.fr ?_;dsimp only at k;cases eb:zq as E1 with
  | stuck=>rw [eb] at k; exact k
  | exc x E2=>rw [eb] at k; exact fun H' g=>k H' (g1.trans' g).dropAll
  | ok p =>
   obtain ⟨ars,E2⟩:=p;rw [eb] at k;intro vs H2 av g2;refine k (x::vs) H2 (by simp only [AV]; exact ⟨x,vs,rfl,av⟩) ?_;exact (g1.trans' g2).perm (perm_append_comm)
theorem ga_lend {x:Str} {p:Pos} {es:List Expr} {i:Nat} {as:List Arg} (hv:PE X (.Name x p) (zA3 i)) (hr:zFA X es as)  : zFA X (.Name x p::es) (.lend i::as):=Gq (Jx hv hr (zp rfl)) fun σ H Q ⟨M,E,hl,fr,k⟩=>by
 simp only [zq] at k;cases em:JX E[i]? with
 | true=>rw [em] at k; exact k.elim
 | false =>
  rw [em] at k;simp only [Bool.false_eq_true,if_false] at k;obtain ⟨s,hs1,hs2⟩:=Qh em;obtain ⟨v,hv⟩:=zB6 hl fr hs1 hs2;refine ⟨v,hv,?_⟩;refine Wc (T0:=[]) hl fr ?_;cases eb:zq as E with
  | stuck=>rw [eb] at k; exact k
  | exc x E2=>rw [eb] at k; exact k
  | ok p =>
   obtain ⟨ars,E2⟩:=p;rw [eb] at k;intro vs H2 av g2;refine k (v::vs) H2 (by simp only [AV]; exact ⟨v,vs,rfl,hv,av⟩) ?_;have em2:Mo M ((some v,Slot.emp)::(yB vs ars++([]++σ.zip E2)))=Mo M (yB vs ars++([]++σ.zip E2)):=Mo_emp _ _ _;refine ⟨g2.len,⟨fun o d q=>?_,fun o t ds q e=>?_,?_,g2.fr.mal⟩,⟨?_,g2.st.keep⟩,g2.pk⟩
   ·show ∃ v',_∧Rep X.K X.mg (Hm (Mo M ((some v,Slot.emp)::(yB vs ars++([]++σ.zip E2)))) H2) d v'
    rw [em2];rcases mem_cons.mp q with q | q
    ·cases q
    ·exact g2.fr.val o d q
   ·show ∃ a xs,_∧_∧_∧Reps X.K X.mg (Hm (Mo M ((some v,Slot.emp)::(yB vs ars++([]++σ.zip E2)))) H2) ds xs
    rw [em2];rcases mem_cons.mp q with q | q
    ·cases q; cases e
    ·exact g2.fr.own o t ds q e
   ·show (yX ((some v,Slot.emp)::(yB vs ars++([]++σ.zip E2)))).Nodup
    rw [yr]; exact g2.fr.nd
   ·show Y1 _ (Hm (Mo M ((some v,Slot.emp)::(yB vs ars++([]++σ.zip E2)))) H2)
    rw [em2]; exact g2.st.same
def G0:List AR→Bool
 | []=>true
 | .tmp _::as=>G0 as
 | .ln _::_=>false
theorem vj:∀ {as:List AR} {E E':zY} {ss:List Slot},G0 as=true→zJ as E=.ok (ss,E')→E'=E
 | [],E,E',ss,_,e=>by cases e; rfl
 | .tmp d::as,E,E',ss,h,e=>by
  simp only [zJ] at e;cases q:zJ as E with
  | stuck=>rw [q] at e; cases e
  | exc _ _=>rw [q] at e; cases e
  | ok p=>obtain ⟨s1,E1⟩:=p; rw [q] at e; cases e; exact vj (as:=as) h q
 | .ln i::as,E,E',ss,h,e=>by cases h
def jf (F:MF) (as:List Arg):ME:=fun E=>match zq as E with
 | .stuck=>.stuck
 | .exc x E1=>.exc x E1
 | .ok (ars,E1)=>match zJ ars E1 with
  | .ok (ss,E2)=>match F ss with
   | .ok (r,outs)=>match zH ars outs E1 E2 with
    | .ok E3=>.ok (r,E3)
    | _=>.stuck
   | .exc x _=>if G0 ars=true then .exc ⟨x.cls,false⟩ E1 else .stuck
   | .stuck=>.stuck
  | _=>.stuck
theorem zD7 {F:MF} {n:Nat} {ars:List AR} {E1 E2 E3:zY} {ss outs:List Slot} {r:R} {vs:List V} {H1:Hp} {Q:VK} {XQ:XK} (hn:ars.length=n) (e1:zJ ars E1=.ok (ss,E2)) (e2:F ss=.ok (r,outs)) (e3:zH ars outs E1 E2=.ok E3)
  (av:AV σ ars vs) (g:Got K mg M σ E H [] σ E1 H1 (yB vs ars)) (k:∀ v H',Got K mg M σ E H [] σ E3 H' [(some v,r.slot)]→Q v H'):spM K mg n F vs H1 Q XQ:=by
 obtain ⟨f1,o1,l1,l2⟩:=Wa (T:=[]) ars g.len av e1 g.fr;have f1':FR K mg M H1 (σ.zip E2++(vs.map some).zip ss):=FR.perm (T:=σ.zip E2++(vs.map some).zip ss) (Z:=(vs.map some).zip ss++σ.zip E2) f1 perm_append_comm;have hlen:=av.length;refine ⟨hlen.trans hn,Mo M (σ.zip E2),ss,l1.trans hlen.symm,f1'.inner,?_⟩;rw [e2];intro v H' ol f2 s2;have f3:=FR.outer f1' f2 s2;have s3:=Step.outer s2;have p:(σ.zip E2++((some v,r.slot)::(vs.map some).zip outs)).Perm ([(some v,r.slot)]++((vs.map some).zip outs++σ.zip E2)):=by
  refine perm_append_comm.trans ?_;exact List.Perm.refl _
 obtain ⟨f4,o4,l4⟩:=ub ars l2 av e3 (f3.perm p);refine k v H' ⟨l4,f4,?_,g.pk.trans (zCB e1 e3)⟩;have st1:Step M H (σ.zip E) H1 (σ.zip E2++(vs.map some).zip ss):=g.st.weak fun b hb=>(o1 b).mpr (zF (T:=σ.zip E2++(vs.map some).zip ss) (Z:=(vs.map some).zip ss++σ.zip E2) perm_append_comm b hb)
 have st2:=st1.trans s3;exact st2.weak fun b hb=>zF p.symm b (o4 b hb)
theorem zD8 {F:MF} {n:Nat} {ars:List AR} {E1 E2:zY} {ss outs:List Slot} {x:Exn} {vs:List V} {H1:Hp} {Q:VK} {XQ:XK} (hn:ars.length=n) (hl:G0 ars=true) (e1:zJ ars E1=.ok (ss,E2)) (e2:F ss=.exc x outs)
  (av:AV σ ars vs) (g:Got K mg M σ E H [] σ E1 H1 (yB vs ars)) (k:∀ C H',mg x.cls=some (.ref C)→Got K mg M σ E H [] σ E1 H' []→XQ (.ref C) none H'):spM K mg n F vs H1 Q XQ:=by
 obtain ⟨f1,o1,l1,l2⟩:=Wa (T:=[]) ars g.len av e1 g.fr;have f1':FR K mg M H1 (σ.zip E2++(vs.map some).zip ss):=FR.perm (T:=σ.zip E2++(vs.map some).zip ss) (Z:=(vs.map some).zip ss++σ.zip E2) f1 perm_append_comm;have hlen:=av.length;refine ⟨hlen.trans hn,Mo M (σ.zip E2),ss,l1.trans hlen.symm,f1'.inner,?_⟩;rw [e2];intro C H' hm f2 s2;have f3:=FR.outer f1' f2 s2;have s3:=Step.outer s2;rw [append_nil] at f3 s3;have st1:Step M H (σ.zip E) H1 (σ.zip E2++(vs.map some).zip ss):=g.st.weak fun b hb=>(o1 b).mpr (zF (T:=σ.zip E2++(vs.map some).zip ss) (Z:=(vs.map some).zip ss++σ.zip E2) perm_append_comm b hb)
 obtain rfl:=vj hl e1;exact k C H' hm ⟨g.len,f3,st1.trans s3,g.pk⟩
theorem jV:∀ (as:List Arg) {E E':zY} {ars:List AR},zq as E=.ok (ars,E')→ars.length=as.length
 | [],E,E',ars,e=>by cases e; rfl
 | .ev m::as,E,E',ars,e=>by
  simp only [zq] at e;cases ea:m E with
  | stuck=>rw [ea] at e; cases e
  | exc _ _=>rw [ea] at e; cases e
  | ok p =>
   obtain ⟨r,E1⟩:=p;rw [ea] at e;dsimp only at e;cases eb:zq as E1 with
   | stuck=>rw [eb] at e; cases e
   | exc _ _=>rw [eb] at e; cases e
   | ok p=>obtain ⟨a,b⟩:=p; rw [eb] at e; cases e; simp [jV as eb]
 | .lend i::as,E,E',ars,e=>by
  simp only [zq] at e;split at e
  ·cases e
  ·cases eb:zq as E with
   | stuck=>rw [eb] at e; cases e
   | exc _ _=>rw [eb] at e; cases e
   | ok p=>obtain ⟨a,b⟩:=p; rw [eb] at e; cases e; simp [jV as eb]
theorem zD9 {F:MF} {n:Nat} {as:List Arg} {Q:VK} (hn:as.length=n) (h:tM X (jf F as) σ H Q):tArgs X as σ H fun vs H1=>spM X.K X.mg n F vs H1 Q (EX X σ):=by
 obtain ⟨M,E,hl,fr,k⟩:=h;unfold jf at k;refine Wc (T0:=[]) hl fr ?_;cases ea:zq as E with
 | stuck=>rw [ea] at k; exact k
 | exc x E1=>rw [ea] at k; exact k
 | ok p =>
  obtain ⟨ars,E1⟩:=p;rw [ea] at k;intro vs H1 av g;dsimp only at k;cases e1:zJ ars E1 with
  | stuck=>rw [e1] at k; exact k.elim
  | exc _ _=>rw [e1] at k; exact k.elim
  | ok p =>
   obtain ⟨ss,E2⟩:=p;rw [e1] at k;dsimp only at k;cases e2:F ss with
   | stuck=>rw [e2] at k; exact k.elim
   | exc x o =>
    rw [e2] at k;dsimp only at k;cases hl:G0 ars with
    | false=>rw [hl] at k; exact k.elim
    | true =>
     rw [hl] at k;exact zD8 ((jV as ea).trans hn) hl e1 e2 av g fun C H' hm g'=>⟨⟨x.cls,false⟩,C,rfl,hm,rfl,k H' g'⟩
   | ok p =>
    obtain ⟨r,outs⟩:=p;rw [e2] at k;dsimp only at k;cases e3:zH ars outs E1 E2 with
    | stuck=>rw [e3] at k; exact k.elim
    | exc _ _=>rw [e3] at k; exact k.elim
    | ok E3 =>
     rw [e3] at k;exact zD7 ((jV as ea).trans hn) e1 e2 e3 av g k
inductive Mask:Fz→Fz→Prop
 | nil (Z:Fz):Mask Z []
 | keep {z:Option V × Slot} {Z W:Fz}:Mask Z W→Mask (z::Z) (z::W)
 | skip {z:Option V × Slot} {Z W:Fz}:Mask Z W→Mask (z::Z) W
 | extra {o:Option V} {Z W:Fz}:Mask Z W→Mask Z ((o,.emp)::W)
theorem Mask.emp {z:Option V × Slot} {o:Option V} {Z W:Fz} (h:Mask Z W):Mask (z::Z) ((o,.emp)::W):=.skip (.extra h)
theorem Mask.sub:∀ {Z W:Fz},Mask Z W→(yX W).Sublist (yX Z)
 | _,_,.nil Z=>by simp [yX]
 | _,_,.keep (z:=z) (Z:=Z) (W:=W) h=>by
  have e:∀ W:Fz,yX (z::W)=yX [z]++yX W:=fun W=>zc [z] W
  rw [e Z,e W];exact h.sub.append_left _
 | _,_,.skip (z:=z) (Z:=Z) (W:=W) h=>by
  have e:∀ W:Fz,yX (z::W)=yX [z]++yX W:=fun W=>zc [z] W
  rw [e Z];exact h.sub.trans (sublist_append_right _ _)
 | _,_,.extra (Z:=Z) (W:=W) h=>by
  rw [yr];exact h.sub
theorem Mask.mem:∀ {Z W:Fz},Mask Z W→∀ o s,s≠Slot.emp→(o,s)∈W→(o,s)∈Z
 | _,_,.nil Z,o,s,hs,h=>by cases h
 | _,_,.keep h,o,s,hs,q=>by
  rcases mem_cons.mp q with q | q
  ·subst q; exact mem_cons_self
  ·exact mem_cons_of_mem _ (h.mem o s hs q)
 | _,_,.skip h,o,s,hs,q=>mem_cons_of_mem _ (h.mem o s hs q)
 | _,_,.extra h,o,s,hs,q=>by
  rcases mem_cons.mp q with q | q
  ·cases q; exact absurd rfl hs
  ·exact h.mem o s hs q
theorem FR.mask {Z W:Fz} (f:FR K mg M H Z) (h:Mask Z W):FR K mg M H W where
 val:=fun o d q=>by
  obtain ⟨v,e,r⟩:=f.val o d (h.mem o _ (by intro z; cases z) q);exact ⟨v,e,r.mono (wE (YU fun b hb=>h.sub.subset hb))⟩
 own:=fun o s ds q e=>by
  obtain ⟨a,xs,e1,e2,e3,r⟩:=f.own o s ds (h.mem o s (by intro z; subst z; cases e) q) e;exact ⟨a,xs,e1,e2,e3,r.mono (wE (YU fun b hb=>h.sub.subset hb))⟩
 nd:=f.nd.sublist h.sub
 mal:=f.mal
def yF:List Slot→zY→List Slot
 | [],_=>[]
 | .par _::ss,s::E=>s::yF ss E
 | _::ss,_::E=>.emp::yF ss E
 | _::ss,[]=>.emp::yF ss []
def fnM (N:Nat) (body:MS):MF:=fun ss=>match body (ss++replicate (N - ss.length) .emp) with
 | .ok (.ret r,E')=>.ok (r,yF ss E')
 | .ok (.nx,E')=>.ok (.val .non,yF ss E')
 | .exc x E'=>.exc x (yF ss E')
 | _=>.stuck
theorem z0:∀ (ss:List Slot) (E:zY),(yF ss E).length=ss.length
 | [],_=>rfl
 | .par _::ss,s::E=>by simp [yF,z0 ss E]
 | .emp::ss,s::E=>by simp [yF,z0 ss E]
 | .val _::ss,s::E=>by simp [yF,z0 ss E]
 | .own _::ss,s::E=>by simp [yF,z0 ss E]
 | .par _::ss,[]=>by simp [yF,z0 ss []]
 | .emp::ss,[]=>by simp [yF,z0 ss []]
 | .val _::ss,[]=>by simp [yF,z0 ss []]
 | .own _::ss,[]=>by simp [yF,z0 ss []]
theorem Z9:∀ (ss:List Slot) (vs:List (Option V)) (σ:St) (E:zY),E.length=σ.length→vs.length=ss.length→(∀ (i:Nat) ds,ss[i]?=some (.par ds)→σ[i]?=vs[i]?)→Mask (σ.zip E) (vs.zip (yF ss E))
 | [],vs,σ,E,_,_,_=>by
  simp only [yF,List.zip_nil_right];exact .nil _
 | s::ss,[],σ,E,_,h,_=>by simp at h
 | s::ss,v::vs,[],y::E,h,_,_=>by simp at h
 | s::ss,v::vs,x::σ,[],h,_,_=>by simp at h
 | s::ss,v::vs,[],[],h1,h2,h4=>by
  have ih:=Z9 ss vs [] [] rfl (by simpa using h2) fun i ds e=>by
   have:=h4 (i+1) ds (by simpa using e);simpa using this
  cases s <;> exact .extra ih
 | s::ss,v::vs,x::σ,y::E,h1,h2,h4=>by
  have ih:=Z9 ss vs σ E (by simpa using h1) (by simpa using h2) fun i ds e=>by
   have:=h4 (i+1) ds (by simpa using e);simpa using this
  cases s with
  | par ds =>
   have e:=h4 0 ds rfl;simp at e;subst e;simp only [yF,zip_cons_cons];exact .keep ih
  | emp=>simp only [yF,zip_cons_cons]; exact .emp ih
  | val d=>simp only [yF,zip_cons_cons]; exact .emp ih
  | own ds=>simp only [yF,zip_cons_cons]; exact .emp ih
theorem Qk:∀ n:Nat,(replicate n (none:Option V)).zip (replicate n Slot.emp)=replicate n (none,Slot.emp)
 | 0=>rfl
 | n+1=>by simp [replicate_succ,Qk n]
theorem ud (n:Nat):yX (replicate n ((none:Option V),Slot.emp))=[]:=by
 induction n with
 | zero=>rfl
 | succ n ih=>rw [replicate_succ,yr,ih]
theorem FR.emps (f:FR K mg M H Z) (n:Nat):FR K mg M H (Z++replicate n (none,.emp)):=by
 have eo:yX (Z++replicate n (none,Slot.emp))=yX Z:=by rw [zc,ud,append_nil]
 have em:Mo M (Z++replicate n (none,Slot.emp))=Mo M Z:=by unfold Mo; rw [eo]
 refine ⟨fun o d q=>?_,fun o s ds q e=>?_,by rw [eo]; exact f.nd,f.mal⟩
 ·rw [em]
  rcases mem_append.mp q with q | q
  ·exact f.val o d q
  ·have:=List.eq_of_mem_replicate q; cases this
 ·rw [em]
  rcases mem_append.mp q with q | q
  ·exact f.own o s ds q e
  ·have:=List.eq_of_mem_replicate q; cases this; cases e
theorem body_ok {N:List Str} {n:Nat} {body:MS} {vs:List V} {Q:VK} {XQ:XK} (hx:∀ x σ' H',(∀ C,X.mg x.cls=some (.ref C)→XQ (.ref C) none H')→XE X σ' H' x) (h:spM X.K X.mg n (fnM N.length body) vs H Q XQ):tS X body { nx:=fun _ H'=>Q .non H',rt:=Q } (L2.wD N vs) H:=by
 obtain ⟨hv,M,ss,hl,f,k⟩:=h;have e0:(L2.wD N vs).zip (ss++replicate (N.length - ss.length) Slot.emp)=(vs.map some).zip ss++replicate (N.length - ss.length) (none,.emp):=by
  unfold L2.wD;rw [List.zip_append (by simp [hl]),hl,Qk]
 have hE:(ss++replicate (N.length - ss.length) Slot.emp).length=(L2.wD N vs).length:=by
  unfold L2.wD;simp [hl]
 have f0:FR X.K X.mg M H ((L2.wD N vs).zip (ss++replicate (N.length - ss.length) Slot.emp)):=by rw [e0]; exact f.emps _
 have eo:∀ b,b∈yX ((L2.wD N vs).zip (ss++replicate (N.length - ss.length) Slot.emp))→b∈yX ((vs.map some).zip ss):=fun b hb=>by
  rw [e0,zc,ud,append_nil] at hb;exact hb
 refine ⟨M,ss++replicate (N.length - ss.length) Slot.emp,hE,f0,?_⟩;unfold fnM at k;have fin:∀ {σ':St} {E':zY} {H':Hp} {v:V} {r:R},Got X.K X.mg M (L2.wD N vs) (ss++replicate (N.length - ss.length) Slot.emp) H [] σ' E' H' [(some v,r.slot)] →
   (∀ v H',(yF ss E').length=vs.length→FR X.K X.mg M H' ((some v,r.slot)::(vs.map some).zip (yF ss E'))→Step M H ((vs.map some).zip ss) H' ((some v,r.slot)::(vs.map some).zip (yF ss E'))→Q v H')→Q v H':=fun {σ' E' H' v r} g kk=>by
  have mk:Mask (σ'.zip E') ((vs.map some).zip (yF ss E')):=Z9 ss _ σ' E' g.len (by simp [hl]) fun i ds e=>by
   have hi:i < ss.length:=(List.getElem?_eq_some_iff.mp e).1;have e1:(ss++replicate (N.length - ss.length) Slot.emp)[i]?=some (.par ds):=by rw [getElem?_append_left hi]; exact e
   have:=(g.pk i ds e1).2;rw [this];unfold L2.wD;rw [getElem?_append_left (by simp; omega)]
  refine kk v H' (by rw [z0,hl]) (g.fr.mask (.keep mk)) ?_;exact (g.st.weak fun b hb=>(Mask.keep mk).sub.subset hb).left eo
 cases eb:body (ss++replicate (N.length - ss.length) Slot.emp) with
 | stuck=>rw [eb] at k; exact k
 | exc x E' =>
  rw [eb] at k;intro σ' H' g;refine hx x σ' H' fun C hm=>k C H' hm (g.fr.sub (List.nil_sublist _)) ?_
  exact (g.st.weak fun b hb=>by cases hb).left eo
 | ok p =>
  obtain ⟨fl,E'⟩:=p;rw [eb] at k;cases fl with
  | bk=>exact k.elim
  | ct=>exact k.elim
  | ret r=>exact fun v σ' H' g=>fin g k
  | nx=>exact fun σ' H' g=>fin (r:=.val .non) (g.flat (d:=.non) rfl) k
end
section
variable {P:Program} {w:World} {K:PySem.W.Frag} {mg:Str→Option Value} {base:Heap}
theorem fn_ok {c:Bool} {x qual:Str} {st:Stmt} {f:Addr} {fd:FuncData} {N ps:List Str} {k:Nat} {body:MS} (F:Fun K x qual st f fd) (S:FnScope N ps (zd st))
  (hb:∀ (cdv:Value) (A:Around) (outer:List Env) (s:Shared) (H:Hp) (E:XK),(c=true→A.handled=none)→RoomN k (A.deeper (PyProof.Rows.envOfC qual (zd st) s.heap.objs.size f cdv)) →
   zBS (cxN c P w K mg base N qual (zd st) f cdv A outer s H E) (jC st) body):FnOkN c P w K mg base (k+1) f fd ps (spM K mg ps.length (fnM N.length body)):=by
 obtain ⟨oc,od,kV,doc,pm,an,cdv,ct,osl,rfl,lk,hcd⟩:=F.ex;exact fn_ofN lk hcd S (fun vs H Q E h=>h.1) fun A outer s H vs Q E hd hr h=>⟨_,hb cdv A outer s H E hd hr,body_ok (X:=cxN c P w K mg base N qual (zd st) f cdv A outer s H E) (fun x σ' H' hE=>zDq hE) h⟩
end
section
variable {X:Cx} {k:Nat} {f:Addr} {fd:FuncData} {ps:List Str} {F:MF} {x:Str} {p pos:Pos} {e:Expr} {es:List Expr} {as:List Arg}
theorem ok_call {c:Bool} (G:FnOkN c X.prog X.w X.K X.mg X.base k f fd ps (spM X.K X.mg ps.length F)) (hd:c=true→X.A.handled=none) (hr:RoomN k X.A) (hg:Gl X x) (hm:X.mg x=some (.ref f)) (hk:keepIn X.K (.ref f)=true) (hb:WN X.K fd ps []) (ha:zFA X (e::es) as) (hn:as.length=ps.length:=by rfl)
  (hdb:(x == ("__debug__":Str))=false:=by decide) (he:za e=false:=by rfl) (hpl:jN es=true:=by rfl):EOk X (.Call (.Name x p) (e::es) [] pos) (jf F as) :=
 yY (zDp G hd hr hg hm hk hb ha hdb (zp he) (wz hpl)) fun σ H Q=>zD9 hn
end
end DV
namespace DV
open PySem L2
section
variable {X:Cx} {σ:St} {H:Hp}
end
end DV
namespace L2
open PySem PySem.Spec PyProof.Rows
def cxB (X:Cx) (N:List Str) (scope:Scope) (cl:List (Str × Addr)) (C:Addr) (ex:List Addr) (s:Shared) (H:Hp):Cx :=
 { X with N:=N,s₀:=s,H₀:=H,env:=compEnvC scope cl C X.env,outer:=X.stack,ex:=ex,fn:=fun y=>scope.names.lookup y == some NameKind.cell,pn:=[] }
theorem J2 {prog:Program} {w:World} {A:Around} {R:Result→Shared→Prop} {s:Shared} {elt target iter:Expr} {ifs:List Expr} {scope:Scope} {pos:Pos} {it acc:Value} {env:Env} (I:Nat→Shared→Prop)
  (turn:∀ n s,I n s→wpAny (model prog w) A (pyNext it) (fun r s₁=>match r with
   | none=>R (.ok .next) s₁
   | some v=>wpAny (model prog w) A (letOwnedTupleGo target it v) (fun _ s₁=>wpAny (model prog w) A (assign target env v) (fun _ s₂ =>
     wpAny (model prog w) A (forIn ifs true fun c r=>if r=true then do let ok ← isTrue c env (eval c env); pure (ForInStep.yield ok) else pure (ForInStep.yield r)) (fun ok s₃ =>
      if ok=true then wpAny (model prog w) A (eval elt env) (fun x s₄ =>
       wpAny (model prog w) A (call (.builtin "list.append") [acc,x]) (fun _ s₅=>∃ m,m < n∧I m s₅) (notedBy (model prog w) A env fun e s'=>R (.error e) s') s₄) (notedBy (model prog w) A env fun e s'=>R (.error e) s') s₃
      else ∃ m,m < n∧I m s₃) (notedBy (model prog w) A env fun e s'=>R (.error e) s') s₂) (notedBy (model prog w) A env fun e s'=>R (.error e) s') s₁) (notedBy (model prog w) A env fun e s'=>R (.error e) s') s₁) (notedBy (model prog w) A env fun e s'=>R (.error e) s') s)
  (n:Nat) (h:I n s) :
  codeAny (model prog w) A (.compLoop (.ListComp elt [⟨target,iter,ifs,0⟩] scope pos) 0 it acc env) R s:=by
 refine codeAny_loop rfl I (fun n s hI=>?_) n h;show wpAny _ A ((compTurn (.ListComp elt [⟨target,iter,ifs,0⟩] scope pos) 0 it acc env).onRaise (fun x=>do noteFrame x env; theTreesLotGoes x)) _ _ s;refine wpAny_noted ?_;rw [compTurn_list];refine wpAny_bind (wpAny_standAt (wpAny_bind (wpAny_mono (turn n s hI) (fun r s₁ h₁=>?_) fun _ _ h'=>h')));cases r with
 | none=>exact wpAny_pure h₁
 | some v =>
  refine wpAny_bind (wpAny_mono h₁ (fun _ s₁' h₁'=>?_) fun _ _ h'=>h');refine wpAny_bind (wpAny_mono h₁' (fun _ s₂ h₂=>wpAny_bind (wpAny_mono h₂ (fun ok s₃ h₃=>?_) fun _ _ h'=>h')) fun _ _ h'=>h');cases ok with
  | false=>exact wpAny_pure ⟨rfl,h₃⟩
  | true =>
   exact wpAny_bind (wpAny_bind (wpAny_mono h₃ (fun x s₄ h₄=>wpAny_bind (wpAny_mono h₄ (fun _ s₅ h₅=>wpAny_pure (wpAny_pure ⟨rfl,h₅⟩)) fun _ _ h'=>h')) fun _ _ h'=>h'))
def zFB (X:Cx) (ifs:List Expr) (t:TT):Prop:=∀ (pins:List (Addr × Obj)) (s:Shared) (σ:St) (H:Hp) (Q:Bool→Hp→Prop),Inv X pins σ H s→t σ H Q →
 wpAny (model X.prog X.w) X.A (forIn ifs true fun c r=>if r=true then do let ok ← isTrue c X.env (eval c X.env); pure (ForInStep.yield ok) else pure (ForInStep.yield r)) (TP X pins σ Q) X.xe s
theorem pif_nil {X:Cx}:zFB X [] (fun σ H Q=>Q true H):=fun pins s σ H Q I h=>wpAny_tests_nil ⟨H,I,h⟩
theorem pif_one {X:Cx} {c:Expr} {t:TT} (h:PT X c t):zFB X [c] t:=fun pins s σ H Q I q=>wpAny_tests_one (h pins s σ H Q I q)
def yd (nl:Nat) (caps:List Nat) (σ:St):St:=replicate nl none++caps.map fun j=>(σ[j]?).getD none
def zEA (nl:Nat) (caps:List Nat) (wi:TI) (g:TG) (tt:TT) (te:TE):TE:=fun σ H Q=>wi σ H fun J H1=>∀ D,H1 D=none→∃ W:Nat→Nat→St→Hp→Prop,(∃ m,W 0 m (yd nl caps σ) (upd H1 D (.lst [])))∧∀ i m σ' H',W i m σ' H' →
 (J.stop i H'∧Q (.ref D) H')∨(J.go i H'∧∃ Nx:St→Hp→Prop,(∀ σ'' H'',Nx σ'' H''→∃ m',m' < m∧W (i+1) m' σ'' H'')∧∀ x H'',J.yld i H' x H''→g x σ' H'' fun σ2 H2 =>
  tt σ2 H2 fun b H3=>if b=true then te σ2 H3 fun y H4=>∃ ys,H4 D=some (.lst ys)∧ys.length < sizeLine∧Nx σ2 (upd H4 D (.lst (ys++[y]))) else Nx σ2 H3)
theorem Jg {env:Env}:∀ {names:List (Str × NameKind)} {x:Str} {k:NameKind},(names.map fun (n,k)=>if (k == NameKind.free&&env.scope.kind == .function&&env.kindOf n == some .cell) then (n,NameKind.cell) else (n,k)).lookup x=some k →
  ∃ k0,names.lookup x=some k0∧(k=k0∨(k0=.free∧k=.cell))
 | [],_,_,h=>by simp at h
 | (n,k1)::r,x,k,h=>by
  have ih:=@Jg env r x k;rw [map_cons] at h;by_cases hc:(k1 == NameKind.free&&env.scope.kind == .function&&env.kindOf n == some .cell)=true
  ·simp only [hc,if_true] at h
   cases hx:x == n with
   | true =>
    simp only [lookup_cons,hx] at h ⊢;cases h;refine ⟨k1,rfl,.inr ⟨?_,rfl⟩⟩;simp only [Bool.and_eq_true,beq_iff_eq] at hc;exact hc.1.1
   | false=>simp only [lookup_cons,hx] at h ⊢; exact ih h
  ·have hc':(k1 == NameKind.free&&env.scope.kind == .function&&env.kindOf n == some .cell)=false:=by simpa using hc
   simp only [hc',Bool.false_eq_true,if_false] at h;cases hx:x == n with
   | true=>simp only [lookup_cons,hx] at h ⊢; cases h; exact ⟨k1,rfl,.inl rfl⟩
   | false=>simp only [lookup_cons,hx] at h ⊢; exact ih h
theorem ZV {env:Env}:∀ {names:List (Str × NameKind)} {x:Str},names.lookup x=some .free→env.scope.kind=.function→env.kindOf x=some .cell →
  (names.map fun (n,k)=>if (k == NameKind.free&&env.scope.kind == .function&&env.kindOf n == some .cell) then (n,NameKind.cell) else (n,k)).lookup x=some .cell
 | [],_,h,_,_=>by simp at h
 | (n,k1)::r,x,h,hk,hc=>by
  have ih:=@ZV env r x;rw [map_cons];cases hx:x == n with
  | true =>
   have:x=n:=by simpa using hx
   subst this;simp only [lookup_cons,hx] at h;cases h;have:(NameKind.free == NameKind.free&&env.scope.kind == .function&&env.kindOf x == some .cell)=true:=by simp [hk,hc]
   simp only [this,if_true,lookup_cons,hx]
  | false =>
   simp only [lookup_cons,hx] at h;by_cases hcc:(k1 == NameKind.free&&env.scope.kind == .function&&env.kindOf n == some .cell)=true
   ·simp only [hcc,if_true,lookup_cons,hx]; exact ih h hk hc
   ·have hcc':(k1 == NameKind.free&&env.scope.kind == .function&&env.kindOf n == some .cell)=false:=by simpa using hcc
    simp only [hcc',Bool.false_eq_true,if_false,lookup_cons,hx]; exact ih h hk hc
def zBT (env:Env):List (Str × NameKind)→List (Str × Addr)→List (Str × Addr)
 | [],cs=>cs
 | (n,k)::r,cs=>if k == .free then zBT env r ((n,(env.cells.lookup n).getD 0)::cs) else zBT env r cs
theorem Y2 {env:Env}:∀ (names:List (Str × NameKind)) (cs:List (Str × Addr)),(∀ y∈names,y.2=.free→∃ c,env.cells.lookup y.1=some c) →
  (forIn names cs (fun x r=>if (x.snd == NameKind.free)=true then do
    let c ← cellOf env x.fst
    pure (ForInStep.yield ((x.fst,c)::r))
   else pure (ForInStep.yield r)):Sem (List (Str × Addr)))=pure (zBT env names cs)
 | [],cs,_=>by rfl
 | (n,k)::r,cs,h=>by
  rw [List.forIn_cons];dsimp only;by_cases hk:(k == NameKind.free)=true
  ·obtain ⟨c,hc⟩:=h (n,k) mem_cons_self (by simpa using hk)
   have ec:cellOf env n=pure c:=by unfold cellOf; rw [hc]
   rw [if_pos hk,ec];show (forIn r ((n,c)::cs) _:Sem (List (Str × Addr)))=_;rw [Y2 r _ fun y hy=>h y (mem_cons_of_mem _ hy)]
   conv=>rhs; unfold zBT
   rw [if_pos hk,hc];rfl
  ·rw [if_neg hk]
   show (forIn r cs _:Sem (List (Str × Addr)))=_
   rw [Y2 r _ fun y hy=>h y (mem_cons_of_mem _ hy)]
   conv=>rhs; unfold zBT
   rw [if_neg hk]
theorem wd {env:Env}:∀ (names:List (Str × NameKind)) (cs:List (Str × Addr)) (x:Str),(∀ y∈names,y.2=.free→∃ c,env.cells.lookup y.1=some c)→(∀ c,cs.lookup x=some c→env.cells.lookup x=some c) →
  (∀ c,(zBT env names cs).lookup x=some c→env.cells.lookup x=some c)∧(((∃ c,cs.lookup x=some c)∨∃ y∈names,y.1=x∧y.2=.free)→∃ c,(zBT env names cs).lookup x=some c)
 | [],cs,x,_,hcs=>⟨hcs,fun h=>h.elim id fun ⟨y,hy,_⟩=>by cases hy⟩
 | (n,k)::r,cs,x,h,hcs=>by
  unfold zBT;by_cases hk:(k == NameKind.free)=true
  ·rw [if_pos hk]
   obtain ⟨c,hc⟩:=h (n,k) mem_cons_self (by simpa using hk);have ih:=wd r ((n,(env.cells.lookup n).getD 0)::cs) x (fun y hy=>h y (mem_cons_of_mem _ hy)) (fun c' e=>by
    rw [lookup_cons] at e;cases hx:x == n with
    | true =>
     have:x=n:=by simpa using hx
     subst this;rw [hx] at e;simp only [hc,Option.getD_some] at e;rw [hc]; exact e
    | false=>rw [hx] at e; exact hcs c' e)
   refine ⟨ih.1,fun q=>ih.2 ?_⟩;rcases q with ⟨c',q⟩ | ⟨y,hy,q1,q2⟩
   ·left
    rw [lookup_cons];cases hx:x == n with
    | true=>exact ⟨_,rfl⟩
    | false=>exact ⟨c',q⟩
   ·rcases mem_cons.mp hy with hy | hy
    ·subst hy
     left
     have q1:n=x:=q1;subst q1;exact ⟨(env.cells.lookup n).getD 0,by rw [lookup_cons,beq_self_eq_true]⟩
    ·right; exact ⟨y,hy,q1,q2⟩
  ·rw [if_neg hk]
   have ih:=wd r cs x (fun y hy=>h y (mem_cons_of_mem _ hy)) hcs;refine ⟨ih.1,fun q=>ih.2 ?_⟩;rcases q with q | ⟨y,hy,q1,q2⟩
   ·exact .inl q
   ·rcases mem_cons.mp hy with hy | hy
    ·subst hy
     exact absurd (by simpa using q2) hk
    ·exact .inr ⟨y,hy,q1,q2⟩
theorem Wd:∀ (names:List (Str × NameKind)) (h:Heap) (acc:List (Str × Addr)) (x:Str) (c:Addr),(cellsFrom h.objs.size names acc).lookup x=some c →
  acc.lookup x=some c∨((x,NameKind.cell)∈names∧h.objs.size≤c∧(pushCells h names).IsCell c none)
 | [],h,acc,x,c,e=>.inl e
 | (n,k)::r,h,acc,x,c,e=>by
  unfold cellsFrom at e;unfold pushCells;split at e
  ·rename_i hk
   rw [if_pos hk];have sz:(h.push { cls:=.type "cell",data:=.cell none }).objs.size=h.objs.size+1:=size_push ..;rw [← sz] at e;rcases Wd r (h.push { cls:=.type "cell",data:=.cell none }) _ x c e with q | ⟨q1,q2,q3⟩
   ·rw [lookup_cons] at q
    cases hx:x == n with
    | true =>
     rw [hx] at q; cases q;have hx':x=n:=by simpa using hx
     have hk':k=.cell:=by simpa using hk
     subst hx'; subst hk';exact .inr ⟨mem_cons_self,le_refl _,⟨_,pushCells_keeps _ _ _ _ (get?_push_size _ rfl),rfl⟩⟩
    | false=>rw [hx] at q; exact .inl q
   ·exact .inr ⟨mem_cons_of_mem _ q1,by rw [sz] at q2; omega,q3⟩
  ·rename_i hk
   rw [if_neg hk];rcases Wd r h acc x c e with q | ⟨q1,q2,q3⟩
   ·exact .inl q
   ·exact .inr ⟨mem_cons_of_mem _ q1,q2,q3⟩
theorem ue:∀ (names:List (Str × NameKind)) (n:Nat) (acc:List (Str × Addr)) (x:Str),(x,NameKind.cell) ∉ names→(cellsFrom n names acc).lookup x=acc.lookup x
 | [],n,acc,x,_=>rfl
 | (y,k)::r,n,acc,x,h=>by
  simp only [mem_cons,not_or] at h;unfold cellsFrom;split
  ·rename_i hk
   rw [ue r _ _ x h.2,lookup_cons];cases hx:x == y with
   | true =>
    have hx':x=y:=by simpa using hx
    have hk':k=.cell:=by simpa using hk
    subst hx'; subst hk';exact absurd rfl h.1
   | false=>rfl
  ·exact ue r _ _ x h.2
theorem zCC:∀ (names:List (Str × NameKind)) (n:Nat) (acc:List (Str × Addr)) (x:Str) (c:Addr),(x,NameKind.cell)∈names→(cellsFrom n names acc).lookup x=some c→n≤c
 | [],_,_,_,_,h,_=>by cases h
 | (y,k)::r,n,acc,x,c,h,e=>by
  unfold cellsFrom at e;by_cases hr:(x,NameKind.cell)∈r
  ·split at e
   ·exact Nat.le_of_succ_le (zCC r _ _ x c hr e)
   ·exact zCC r _ _ x c hr e
  ·rcases mem_cons.mp h with q | q
   ·cases q
    rw [if_pos (by rfl),ue r _ _ _ hr,lookup_cons,beq_self_eq_true] at e;cases e; exact le_refl _
   ·exact absurd q hr
theorem zCD:∀ (names:List (Str × NameKind)) (n:Nat) (acc:List (Str × Addr)),(∀ x y c,acc.lookup x=some c→acc.lookup y=some c→x=y)→(∀ x c,acc.lookup x=some c→c < n) →
  ∀ x y c,(cellsFrom n names acc).lookup x=some c→(cellsFrom n names acc).lookup y=some c→x=y
 | [],n,acc,hi,_,x,y,c,e1,e2=>hi x y c e1 e2
 | (z,k)::r,n,acc,hi,hb,x,y,c,e1,e2=>by
  unfold cellsFrom at e1 e2;split at e1
  ·refine zCD r (n+1) ((z,n)::acc) (fun x y c e1 e2=>?_) (fun x c e=>?_) x y c e1 (by rename_i hk; rwa [if_pos hk] at e2)
   ·rw [lookup_cons] at e1 e2
    cases hx:x == z with
    | true =>
     rw [hx] at e1; cases e1;have hx':x=z:=by simpa using hx
     cases hy:y == z with
     | true =>
      have hy':y=z:=by simpa using hy
      rw [hx',hy']
     | false=>rw [hy] at e2; exact absurd (hb y _ e2) (lt_irrefl _)
    | false =>
     rw [hx] at e1;cases hy:y == z with
     | true=>rw [hy] at e2; cases e2; exact absurd (hb x _ e1) (lt_irrefl _)
     | false=>rw [hy] at e2; exact hi x y c e1 e2
   ·rw [lookup_cons] at e
    cases hx:x == z with
    | true=>rw [hx] at e; cases e; exact lt_succ_self _
    | false=>rw [hx] at e; exact lt_succ_of_lt (hb x c e)
  ·exact zCD r n acc hi hb x y c e1 (by rename_i hk; rwa [if_neg hk] at e2)
theorem Z0 {M:Model} {A:Around} {E:Value→Shared→Prop} {s:Shared} {scope:Scope} {globals:Addr} {cl:List (Str × Addr)} {qual:Str} {env:Env} {Q:Env→Shared→Prop}
  (hQ:Q (newEnv scope s.heap.objs.size globals (cellsFrom (s.heap.objs.size+1) scope.names cl) qual none .none (some env) builtinsNs) { s with heap:=pushCells (s.heap.push { cls:=.type "dict",data:=.dict #[] }) scope.names }) :
  wpAny M A (newFunctionEnv scope globals cl [] qual none .none (some env)) Q E s:=by
 simp only [newFunctionEnv,Option.isSome_some,if_true];refine wpAny_bind (wpAny_alloc ?_);refine wpAny_bind (wpAny_layCells _ (fun name kind cells=>by cases hkc:kind == NameKind.cell <;> simp [hkc]) _ _ _ _ ?_);rw [show ({ s with heap:=s.heap.push { cls:=.type "dict",data:=.dict #[] } }:Shared).heap.objs.size=s.heap.objs.size+1 from size_push ..]
 rw [List.forIn_nil];exact wpAny_bind (wpAny_pure (wpAny_pure hQ))
section
variable {X:Cx} {elt target iter:Expr} {ifs:List Expr} {scope:Scope} {pos:Pos} {nl:Nat} {caps:List Nat} {N':List Str}
theorem G1 {wi:TI} {g:TG} {tt:TT} {te:TE} {use:Option (Value→Sem Unit)} {QQ:Value→Shared→Prop} {pins:List (Addr × Obj)} {s:Shared} {σ:St} {H:Hp} {Q:VK} {p0:Pos} (hx:∀ e s,¬ X.xe e s) (hc:X.calm=true) (hkind:scope.kind=.function) (hnames:∀ y∈scope.names,y.2=.local→scope.names.lookup y.1=some .local) (hcell:∀ y∈scope.names,y.2=.cell→scope.names.lookup y.1=some .cell)
  (hfree:(scope.names.all fun y=>y.2 != .free || X.env.kindOf y.1 == some .cell)=true)
  (hlen:N'.length=nl+caps.length) (hcap:∀ (i j:Nat),caps[i]?=some j→∃ x,N'[nl+i]?=some x∧X.N[j]?=some x∧scope.names.lookup x=some .free)
  (hi:PI X target iter wi) (hg:∀ cl C ex s H,PG (cxB X N' scope cl C ex s H) target g) (ht:∀ cl C ex s H,zFB (cxB X N' scope cl C ex s H) ifs tt) (he:∀ cl C ex s H,PE (cxB X N' scope cl C ex s H) elt te)
  (hs:∀ x,foldedSetIterable iter X.env x=pure x) (I:Inv X pins σ H s) (h:zEA nl caps wi g tt te σ H Q)
  (hfin:∀ (D C:Addr) (H5:Hp) (s6:Shared) (m6:Str→Option Value),Inv X pins σ H5 s6→zBL X pins H5 C→s6.heap.Ns C m6→Q (.ref D) H5→compPost (model X.prog X.w) X.A X.xe use QQ (.ref D) C (.ok .next) s6) :
  wpAny (model X.prog X.w) X.A (comprehension (.ListComp elt [⟨target,iter,ifs,0⟩] scope pos) scope X.env p0 (newList []) false (eval iter X.env) use) QQ X.xe s:=by
 have hfr:∀ y∈scope.names,y.2=.free→X.env.kindOf y.1=some .cell:=fun y hy e=>by
  have:=all_eq_true.mp hfree y hy;rw [e] at this;simpa using this
 have hcl:∀ y∈scope.names,y.2=.free→∃ c,X.env.cells.lookup y.1=some c:=fun y hy e=>I.ok.has y.1 (.inl (hfr y hy e))
 have hclos:closureFor scope X.env=pure (zBT X.env scope.names []):=by
  simp only [closureFor];rw [Y2 scope.names [] hcl];rfl
 have cl1:∀ x c,(zBT X.env scope.names []).lookup x=some c→X.env.cells.lookup x=some c:=fun x c e=>(wd scope.names [] x hcl (fun _ z=>by cases z)).1 c e
 have cl2:∀ x,(∃ y∈scope.names,y.1=x∧y.2=.free)→∃ c,(zBT X.env scope.names []).lookup x=some c:=fun x q=>(wd scope.names [] x hcl (fun _ z=>by cases z)).2 (.inr q)
 generalize zBT X.env scope.names []=cl at hclos cl1 cl2;refine wpAny_comprehension_free (use:=use) rfl hs hclos hkind hnames (thn (hi pins s σ H _ I h) fun xv s1 h1=>thn h1 fun itv s2 h2=>?_);obtain ⟨it,fp,tn,J,H2,e,I2,T,st2,f2,turn⟩:=h2;subst e;refine wpAny_newObj_type (Z0 ?_) (by show (#[]:Array Value).size≤sizeLine; simp);dsimp only;generalize hH3:s2.heap.push { cls:=.type "list",dict:=none,data:=.seq ([]:List Value).toArray }=h3;have hC:h3.objs.size=s2.heap.objs.size+1:=by rw [← hH3,size_push]
 have hD:H2 s2.heap.objs.size=none:=I2.hok.fresh (le_refl _);obtain ⟨W,⟨m0,w0⟩,step⟩:=turn s2.heap.objs.size hD
 -- the state at the block's entry
 have I3:Inv X pins σ (upd H2 s2.heap.objs.size (.lst [])) { s2 with heap:=h3 }:=by
  rw [← hH3];exact I2.laid (t':=s2.toks) (fun b o q=>get?_push_of_some _ q) (le_refl _) ⟨zero_le _,[],0,.nil,get?_push_size _ rfl⟩
 have hcfr:∀ x,scope.names.lookup x=some .free→(x,NameKind.cell) ∉ scope.names:=fun x e z=>by
  have:=hcell _ z rfl;rw [e] at this; cases this
 have szp:(h3.push { cls:=.type "dict",data:=.dict #[] }).objs.size=h3.objs.size+1:=size_push ..;have cw:∀ x c,(cellsFrom (h3.objs.size+1) scope.names cl).lookup x=some c→cl.lookup x=some c∨((x,NameKind.cell)∈scope.names∧h3.objs.size+1≤c∧(pushCells (h3.push { cls:=.type "dict",data:=.dict #[] }) scope.names).IsCell c none):=fun x c e=>by
  rw [← szp] at e ⊢;exact Wd _ _ _ x c e
 have cfr:∀ x,scope.names.lookup x=some .free→(cellsFrom (h3.objs.size+1) scope.names cl).lookup x=cl.lookup x:=fun x e=>ue _ _ _ x (hcfr x e)
 have chas:∀ x,scope.names.lookup x=some .cell→∃ c,(cellsFrom (h3.objs.size+1) scope.names cl).lookup x=some c:=fun x e=>by
  have:=cellsFrom_some scope.names (h3.objs.size+1) cl (x:=x) (.inl e);exact Option.isSome_iff_exists.mp this
 have clt:∀ x c,cl.lookup x=some c→c < h3.objs.size:=fun x c e=>by
  obtain ⟨v,q⟩:=I3.cell x c (cl1 x c e);exact q.lt
 have cinj:=zCD scope.names (h3.objs.size+1) cl (fun x y c e1 e2=>I.ok.inj x y c (cl1 x c e1) (cl1 y c e2)) fun x c e=>lt_succ_of_lt (clt x c e)
 have hns₁:(pushCells (h3.push { cls:=.type "dict",data:=.dict #[] }) scope.names).Ns h3.objs.size fun _=>none:=(Heap.Ns.new h3 (.type "dict")).keeps (pushCells_keeps _ _)
 have old:∀ b o,h3.get? b=some o→(pushCells (h3.push { cls:=.type "dict",data:=.dict #[] }) scope.names).get? b=some o:=fun b o e=>pushCells_keeps _ _ b o (get?_push_of_some _ e)
 generalize hh1:pushCells (h3.push { cls:=.type "dict",data:=.dict #[] }) scope.names=h₁ at hns₁ old cw ⊢;generalize hcs:cellsFrom (h3.objs.size+1) scope.names cl=cs at cw cfr chas cinj ⊢;have fpD:∀ b∈fp,b≠s2.heap.objs.size:=fun b hb z=>by
  obtain ⟨o,e,_⟩:=T.obj 0 s2.heap st2 b hb;subst z;exact absurd (lt_size e) (lt_irrefl _)
 have fp3:∀ b∈fp,upd H2 s2.heap.objs.size (.lst []) b=none:=fun b hb=>by rw [yH (fpD b hb)]; exact (f2 b hb).1
 have fpC:∀ b∈fp,b≠h3.objs.size:=fun b hb z=>by
  obtain ⟨o,e,_⟩:=T.obj 0 s2.heap st2 b hb;have q:b < s2.heap.objs.size:=lt_size e;rw [z,hC] at q;exact absurd q (not_lt.mpr (le_succ _))
 have hCn:upd H2 s2.heap.objs.size (.lst []) h3.objs.size=none:=I3.hok.fresh (le_refl _);have fpok:∀ b∈fp,(b∈X.ex∨X.s₀.heap.objs.size≤b)∧b≠X.env.locals∧(∀ x c,X.env.cells.lookup x=some c→c≠b)∧∀ p∈X.pn++pins,p.1≠b:=fun b hb=>by
  obtain ⟨_,q2,_,q4,q5,q6⟩:=f2 b hb;exact ⟨q4,q2,q5,q6⟩
 have fpH:∀ b∈fp,b < h3.objs.size:=fun b hb=>by
  obtain ⟨o,e,_⟩:=T.obj 0 s2.heap st2 b hb;have q:b < s2.heap.objs.size:=lt_size e;rw [hC]; exact lt_succ_of_lt q
 have fpcs:∀ b∈fp,∀ x c,cs.lookup x=some c→c≠b:=fun b hb x c e=>by
  rcases cw x c e with q | ⟨_,q,_⟩
  ·exact (fpok b hb).2.2.1 x c (cl1 x c q)
  ·intro z; subst z
   exact absurd (lt_of_lt_of_le (fpH _ hb) (Nat.le_of_succ_le q)) (lt_irrefl _)
 let Y:Cx:=cxB X N' scope cs h3.objs.size fp { s2 with heap:=h3 } (upd H2 s2.heap.objs.size (.lst []))
 have kindY:∀ x k,Y.env.kindOf x=some k→∃ k0,scope.names.lookup x=some k0∧(k=k0∨(k0=.free∧k=.cell)):=fun x k e=>Jg e
 have okY:Y.Ok:={
  mod:=I.ok.mod
  kind:=hkind
  glob:=I.ok.glob
  blt:=I.ok.blt
  above:=le_refl _
  inj:=cinj
  has:=fun x q=>by
   have:scope.names.lookup x=some .cell∨scope.names.lookup x=some .free:=by
    rcases q with q | q
    ·obtain ⟨k0,e,z⟩:=kindY x _ q
     rcases z with z | z
     ·subst z; exact .inl e
     ·rw [z.1] at e; exact .inr e
    ·obtain ⟨k0,e,z⟩:=kindY x _ q
     rcases z with z | z
     ·subst z; exact .inr e
     ·rw [z.1] at e; exact .inr e
   rcases this with q | q
   ·exact chas x q
   ·obtain ⟨c,e⟩:=cl2 x ⟨(x,.free),PySem.mem_of_lookup q,rfl,rfl⟩
    exact ⟨c,by show cs.lookup x=_; rw [cfr x q]; exact e⟩
  cab:=fun x c z e=>by
   have z:scope.names.lookup x=some .cell:=by
    have z:(scope.names.lookup x == some NameKind.cell)=true:=z;simpa using z
   have e:cs.lookup x=some c:=e;rw [← hcs] at e;exact le_trans (le_succ _) (zCC _ _ _ x c (PySem.mem_of_lookup z) e)
  hd:=I.ok.hd
  frames:=I.ok.frames
  stk:=.inl rfl
  exf:=fun b hb=>⟨fpC b hb,fpcs b hb⟩
  bs:=fun b o e=>I3.bs b o e
  bsz:=le_trans I.ok.bsz I3.sz
  noex:=fun b o e hb=>by
   obtain ⟨q,_⟩:=fpok b hb;rcases q with q | q
   ·exact I.ok.noex b o e q
   ·exact absurd (lt_of_lt_of_le (lt_size e) I.ok.bsz) (not_lt.mpr q)
  exfs:=fun b hb z=>by
   have:=I2.stkSub b z;rcases mem_cons.mp this with q | q
   ·exact (fpok b hb).2.1 q
   ·exact (f2 b hb).2.2.1 q
  funs:=I3.stack
  frf:=I3.stkFree }
 have keep1:∀ b o,h3.get? b=some o→h₁.get? b=some o:=old;have lenY:(yd nl caps σ).length=N'.length:=by unfold yd; simp [hlen]
 have IY:Inv Y [] (yd nl caps σ) (upd H2 s2.heap.objs.size (.lst [])) { s2 with heap:=h₁ }:={
  ok:=okY
  os:=rfl
  bare:=I3.bare
  base:=Un.kept keep1
  loc:=by
   refine ⟨_,hns₁,fun i x v e1 e2 e3=>?_⟩;have e1:N'[i]?=some x:=e1;have hi:nl≤i:=by
    by_cases z:nl≤i
    ·exact z
    ·unfold yd at e2
     rw [getElem?_append_left (by simp; omega),List.getElem?_replicate] at e2;split at e2 <;> cases e2
   unfold yd at e2;rw [List.getElem?_append_right (by simpa using hi),List.length_replicate,getElem?_map] at e2;cases ej:caps[i - nl]? with
   | none=>rw [ej] at e2; cases e2
   | some j =>
    rw [ej] at e2;simp only [Option.map_some,Option.some.injEq] at e2;obtain ⟨x',c1,c2,c3⟩:=hcap (i - nl) j ej;have ex:x'=x:=by
     rw [show nl+(i - nl)=i by omega,e1] at c1;exact (Option.some.inj c1).symm
    subst ex;have e4:σ[j]?=some (some v):=by
     cases z:σ[j]? with
     | none=>rw [z] at e2; cases e2
     | some o=>rw [z] at e2; simp at e2; rw [e2]
    have kx:X.env.kindOf x'=some .cell:=hfr (x',.free) (PySem.mem_of_lookup c3) rfl;obtain ⟨mm,_,lk⟩:=I3.loc;obtain ⟨u,ru,lu⟩:=lk j x' v c2 e4 (.inr (.inl kx));refine ⟨u,ru,?_⟩;rcases lu with ⟨z,_⟩ | ⟨_,c,d1,d2⟩
    ·rw [kx] at z; cases z
    ·obtain ⟨c',d3⟩:=cl2 x' ⟨(x',.free),PySem.mem_of_lookup c3,rfl,rfl⟩
     have:c'=c:=by have:=cl1 x' c' d3; rw [d1] at this; exact (Option.some.inj this).symm
     subst this;exact .inr ⟨.inl (ZV c3 I.ok.kind kx),c',by show cs.lookup _=_; rw [cfr x' c3]; exact d3,d2.keeps old⟩
  cell:=fun x c e=>by
   rcases cw x c e with e | ⟨_,_,q⟩
   ·obtain ⟨v,q⟩:=I3.cell x c (cl1 x c e)
    exact ⟨v,q.keeps old⟩
   ·exact ⟨_,q⟩
  free:=hCn
  freeC:=fun x c e=>by
   rcases cw x c e with e | ⟨_,q,_⟩
   ·exact I3.freeC x c (cl1 x c e)
   ·exact I3.hok.fresh (le_trans (le_succ _) q)
  pin:=fun p hp=>absurd (show p∈([]:List (Addr × Obj)) from hp) (by simp)
  hok:=I3.hok.kept old
  len:=lenY }
 have st1:tn 0 h₁:=T.keep 0 s2.heap h₁ st2 fun b hb o e=>old b o (by rw [← hH3]; exact get?_push_of_some _ e)
 have fpY:∀ {H':Hp},(∀ b∈fp,H' b=none)→∀ b∈fp,zBL Y [] H' b:=fun hn b hb =>
  ⟨hn b hb,fpC b hb,okY.exfs b hb,.inl hb,fpcs b hb,fun p hp=>absurd (show p∈([]:List (Addr × Obj)) from hp) (by simp)⟩
 have hA:Y.A=X.A:=rfl;have noE:∀ {E':Value→Shared→Prop} {e:Value} {s:Shared},X.xe e s→E' e s:=fun q=>absurd q (hx _ _)
 have fin:∀ s₄:Shared,s₄={ s2 with heap:=h₁ } →
   codeAny (model X.prog X.w) X.A (.compLoop (.ListComp elt [⟨target,iter,ifs,0⟩] scope pos) 0 (.ref it) (.ref s2.heap.objs.size) Y.env)
    (compPost (model X.prog X.w) X.A X.xe use QQ (.ref s2.heap.objs.size) h3.objs.size) s₄:=by
  rintro s₄ rfl
  refine J2 (fun n s'=>∃ i σ' H',Inv Y [] σ' H' s'∧tn i s'.heap∧(∀ b∈fp,H' b=none)∧W i n σ' H') ?_ m0 ⟨0,yd nl caps σ,_,IY,st1,fp3,w0⟩
  rintro n s5 ⟨i,σ5,H5,I5,st5,fr5,w5⟩
  rcases step i n σ5 H5 w5 with ⟨stop,q⟩ | ⟨go,Nx,hN,turn⟩
  ·refine wpAny_mono (T.done Y rfl rfl rfl hc i [] s5 σ5 H5 (fun _ _=>False) I5 (fpY fr5) st5 stop) (fun r s6 ⟨hr,I6⟩=>?_) (fun _ _ z=>z.elim)
   subst hr;obtain ⟨m6,n6,_⟩:=I6.loc;have u:Un (frs X.stack) fp (upd H2 s2.heap.objs.size (.lst [])) H5 h3 s6.heap:=I6.base;have I7:Inv X pins σ H5 s6:=I3.call' (s':=s6) (ch:=fp) I6.os u I6.hok I6.bare fpok;exact hfin _ _ H5 s6 m6 I7 (I3.fpOk (le_refl _) I6.free) n6 q
  ·refine wpAny_mono (T.item Y rfl rfl rfl hc i [] s5 σ5 H5 (fun _ _=>False) I5 (fpY fr5) st5 go) (fun r s6 ⟨u,hr,h6⟩=>?_) (fun _ _ z=>z.elim)
   subst hr;refine wpAny_mono h6 (fun _ s7 ⟨x,H7,I7,r7,y7,st7,fr7⟩=>?_) (fun _ _ z=>z.elim);have I7':=I7.pinned (fpY fr7) (T.obj _ _ st7);refine wpAny_mono (hg _ _ _ _ _ _ s7 σ5 H7 x u _ I7' r7 (turn x H7 y7)) (fun _ s8 ⟨σ8,H8,I8,q8⟩=>?_) (fun _ _ z=>noE z);refine wpAny_mono (ht _ _ _ _ _ _ s8 σ8 H8 _ I8 q8) (fun b s9 ⟨H9,I9,q9⟩=>?_) (fun _ _ z=>noE z);have again:∀ {σ7:St} {H':Hp} {s':Shared},Inv Y ([]++Gc fp s7.heap) σ7 H' s'→Nx σ7 H'→∃ m,m < n∧∃ i σ' H',Inv Y [] σ' H' s'∧tn i s'.heap∧(∀ b∈fp,H' b=none)∧W i m σ' H':=fun {σ7 H' s'} I' n7=>by
    obtain ⟨m',hm,w7⟩:=hN σ7 H' n7;refine ⟨m',hm,i+1,σ7,H',I'.unpinned,T.keep _ _ _ st7 fun b hb o e=>(I'.pin (b,o) (mem_append_right _ (mem_append_right _ (JL hb e)))).1,fun b hb=>?_,w7⟩;obtain ⟨o,e,d⟩:=T.obj _ _ st7 b hb;exact (I'.pin (b,o) (mem_append_right _ (mem_append_right _ (JL hb e)))).2.1
   cases b with
   | false =>
    rw [if_neg Bool.false_ne_true] at q9 ⊢;exact again I9 q9
   | true =>
    rw [if_pos rfl] at q9 ⊢;refine wpAny_mono (he _ _ _ _ _ _ s9 σ8 H9 _ I9 q9) (fun y s10 ⟨vy,H10,I10,r10,ys,hy,hz,n10⟩=>?_) (fun _ _ z=>noE z);have ap:=Go (X:=Y) _ s10 σ8 H10 (.ref s2.heap.objs.size) [vy] (.ref s2.heap.objs.size) [y] (fun v H'=>Nx σ8 H') I10 rfl (.cons r10 .nil) ⟨_,ys,vy,rfl,rfl,hy,hz,n10⟩;refine wpAny_mono ap (fun _ s11 ⟨v11,H11,I11,_,n11⟩=>?_) (fun _ _ z=>noE z);exact again I11 n11
 exact codeAny_compStart_list (fin _ rfl) (T.self X.A 0 _ _ _ st1 (fin _ rfl))
theorem pe_comp {wi:TI} {g:TG} {tt:TT} {te:TE} (hx:∀ e s,¬ X.xe e s) (hc:X.calm=true) (hkind:scope.kind=.function) (hnames:∀ y∈scope.names,y.2=.local→scope.names.lookup y.1=some .local) (hcell:∀ y∈scope.names,y.2=.cell→scope.names.lookup y.1=some .cell)
  (hfree:(scope.names.all fun y=>y.2 != .free || X.env.kindOf y.1 == some .cell)=true)
  (hlen:N'.length=nl+caps.length) (hcap:∀ (i j:Nat),caps[i]?=some j→∃ x,N'[nl+i]?=some x∧X.N[j]?=some x∧scope.names.lookup x=some .free)
  (hi:PI X target iter wi) (hg:∀ cl C ex s H,PG (cxB X N' scope cl C ex s H) target g) (ht:∀ cl C ex s H,zFB (cxB X N' scope cl C ex s H) ifs tt) (he:∀ cl C ex s H,PE (cxB X N' scope cl C ex s H) elt te)
  (hs:∀ x,foldedSetIterable iter X.env x=pure x:=by intro _; rfl):PE X (.ListComp elt [⟨target,iter,ifs,0⟩] scope pos) (zEA nl caps wi g tt te):=by
 intro pins s σ H Q I h;rw [eval_ListComp];refine G1 (use:=none) hx hc hkind hnames hcell hfree hlen hcap hi hg ht he hs I h fun D C H5 s6 m6 I7 f n6 q=>?_
 refine ⟨m6,n6,fun h' hs'=>?_⟩;obtain ⟨f1,f2,f3,f4,f5,f6⟩:=f;exact ⟨.ref D,H5,I7.turned (it:=C) (t':=s6.toks) (fun b o hb e=>hs'.extBut b o hb e) f1 (fun z=>f2 z) f4 f5 f6,rfl,q⟩
theorem ps_setC {i:Nat} {y:Str} {py spos:Pos} {wi:TI} {g:TG} {tt:TT} {te:TE} (hN:X.N.Nodup) (hi':X.N[i]?=some y) (hy:Loc X.env.scope y) (hf:X.fn y=true∨X.env.scope.names.lookup y=some .local) (hx:∀ e s,¬ X.xe e s) (hc:X.calm=true) (hkind:scope.kind=.function) (hnames:∀ y∈scope.names,y.2=.local→scope.names.lookup y.1=some .local) (hcell:∀ y∈scope.names,y.2=.cell→scope.names.lookup y.1=some .cell)
  (hfree:(scope.names.all fun y=>y.2 != .free || X.env.kindOf y.1 == some .cell)=true)
  (hlen:N'.length=nl+caps.length) (hcap:∀ (i j:Nat),caps[i]?=some j→∃ x,N'[nl+i]?=some x∧X.N[j]?=some x∧scope.names.lookup x=some .free)
  (hi:PI X target iter wi) (hg:∀ cl C ex s H,PG (cxB X N' scope cl C ex s H) target g) (ht:∀ cl C ex s H,zFB (cxB X N' scope cl C ex s H) ifs tt) (he:∀ cl C ex s H,PE (cxB X N' scope cl C ex s H) elt te)
  (hs:∀ x,foldedSetIterable iter X.env x=pure x) (hsw:swapsWith (.ListComp elt [⟨target,iter,ifs,0⟩] scope pos) (some (.Name y py)) spos.line X.env=pure true) :
  PS X (.Assign [.Name y py] (.ListComp elt [⟨target,iter,ifs,0⟩] scope pos) spos) (tAsg (zEA nl caps wi g tt te) (QZ i)):=by
 intro pins s σ H D I h;rw [exec_Assign_Name_used _ _ _ _ hsw];refine wpAny_bind (wpAny_standAt (wpAny_bind ?_));show wpAny _ X.A (do let _ ← comprehension (.ListComp elt [⟨target,iter,ifs,0⟩] scope pos) scope X.env _ (newList []) false (eval iter X.env) (some (assign (.Name y py) X.env))) _ _ s;refine wpAny_bind (wpAny_mono (G1 (use:=some (assign (.Name y py) X.env)) (QQ:=fun _ s'=>SP X pins D .next s') hx hc hkind hnames hcell hfree hlen hcap hi hg ht he hs I h fun Da C H5 s6 m6 I7 f n6 q=>?_) (fun _ s' hq=>wpAny_pure (wpAny_pure hq)) fun _ _ e=>e);obtain ⟨f1,f2,f3,f4,f5,f6⟩:=f;show wpAny _ X.A (assign (.Name y py) X.env (.ref Da)) _ _ s6;refine wpAny_assign_Name (GZ I7 hN hi' hy (v:=.ref Da) rfl (fun s7 I8 ⟨a,sb,ha⟩=>?_) hf);have hne:C≠a:=by
  rcases ha with ha | ha
  ·rw [ha]; exact f2
  ·exact fun z=>f5 y a ha z.symm
 refine ⟨m6,n6.sameBut sb hne,fun h' hs'=>?_⟩;exact ⟨_,H5,I8.turned (it:=C) (t':=s7.toks) (fun b o hb e=>hs'.extBut b o hb e) f1 (fun z=>f2 z) f4 f5 f6,q⟩
end
end L2
namespace DV
open PySem L2
section
variable {X:Cx} {K:PySem.W.Frag} {mg:Str→Option Value} {σ:St} {M:Addr→Prop} {E:zY} {H:Hp} {T0 Z T:Fz}
structure ItOk (K:PySem.W.Frag) (mg:Str→Option Value) (J:It) (ds:List D) (Iv:Hp→Prop):Prop where
 mono:∀ H H',Y1 H H'→Iv H→Iv H'
 go:∀ i Hh H,Y1 Hh H→Iv Hh→i < ds.length→J.go i H
 yld:∀ i Hh H x H',Y1 Hh H→Iv Hh→i < ds.length→J.yld i H x H'→∃ d,ds[i]?=some d∧((H'=H∧Rep K mg Hh d x)∨∃ q xs es,H q=none∧H'=upd H q (.tup xs)∧x=.ref q∧d=.tup es∧Reps K mg Hh es xs)
 stop:∀ i Hh H,Y1 Hh H→Iv Hh→ds.length≤i→J.stop i H
abbrev MI:=zY→Out (List D × zY)
def tMI (X:Cx) (m:MI):TI:=fun σ H R=>∃ M E,E.length=σ.length∧FR X.K X.mg M H (σ.zip E)∧match m E with
 | .stuck=>False
 | .ok (ds,E')=>∀ J Iv H',ItOk X.K X.mg J ds Iv→Iv (Hm (Mo M (σ.zip E')) H')→Got X.K X.mg M σ E H [] σ E' H' []→R J H'
 | .exc x E'=>∀ H',Got X.K X.mg M σ E H [] σ E' H' []→XE X σ H' x
abbrev IOk (X:Cx) (tg e:Expr) (m:MI):Prop:=PI X tg e (tMI X m)
theorem zAV {tg e:Expr} {t t':TI} (h:PI X tg e t) (i:∀ σ H R,t' σ H R→t σ H R):PI X tg e t':=fun pins s σ H R I q=>h pins s σ H R I (i σ H R q)
def iL (m:ME):MI:=fun E=>match m E with
 | .stuck=>.stuck
 | .exc x E1=>.exc x E1
 | .ok (r,E1)=>match r.d with
  | .lst ds=>.ok (ds,E1)
  | _=>.stuck
def iT (m:ME):MI:=fun E=>match m E with
 | .stuck=>.stuck
 | .exc x E1=>.exc x E1
 | .ok (r,E1)=>match r.d with
  | .tup ds=>.ok (ds,E1)
  | _=>.stuck
theorem it_list {a:Addr} {xs:List V} {ds:List D}:ItOk K mg (Itl K a) ds (fun H=>SqL K H a xs∧Reps K mg H ds xs) where
 mono:=fun H H' s h=>⟨s.seq h.1,h.2.mono s⟩
 go:=fun i Hh H s h hi=>⟨xs,xs[i]'(by rw [h.2.length]; exact hi),s.seq h.1,by simp⟩
 yld:=fun i Hh H x H' s h hi y=>by
  obtain ⟨e,y⟩:=y;obtain ⟨d,h1,h2⟩:=h.2.get (y xs (s.seq h.1));exact ⟨d,h1,.inl ⟨e,h2⟩⟩
 stop:=fun i Hh H s h hi=>⟨xs,s.seq h.1,by rw [h.2.length]; exact hi⟩
theorem it_tup {a:Addr} {xs:List V} {ds:List D}:ItOk K mg (Itt K a) ds (fun H=>SqT K H a xs∧Reps K mg H ds xs) where
 mono:=fun H H' s h=>⟨yD s h.1,h.2.mono s⟩
 go:=fun i Hh H s h hi=>⟨xs,xs[i]'(by rw [h.2.length]; exact hi),yD s h.1,by simp⟩
 yld:=fun i Hh H x H' s h hi y=>by
  obtain ⟨e,y⟩:=y;obtain ⟨d,h1,h2⟩:=h.2.get (y xs (yD s h.1));exact ⟨d,h1,.inl ⟨e,h2⟩⟩
 stop:=fun i Hh H s h hi=>⟨xs,yD s h.1,by rw [h.2.length]; exact hi⟩
theorem G2:∀ (n i:Nat) (lo:Int),i < n→(zO lo n)[i]?=some (.int (lo+i)):=fun n i lo h=>by
 have:=wc n i lo h;have e:((zO lo n).drop i)[0]?=some (.int (lo+i)):=by rw [this]; rfl
 rw [List.getElem?_drop] at e;simpa using e
theorem it_rng {lo:Int} {n:Nat}:ItOk K mg (Itr lo n) (zO lo n) (fun _=>True) where
 mono:=fun _ _ _ h=>h
 go:=fun i Hh H s h hi=>by rw [ya] at hi; exact hi
 yld:=fun i Hh H x H' s h hi y=>by
  obtain ⟨e,y⟩:=y;rw [ya] at hi;exact ⟨_,G2 n i lo hi,.inl ⟨e,by rw [y]; simp only [Rep]⟩⟩
 stop:=fun i Hh H s h hi=>by rw [ya] at hi; exact hi
theorem Ql {tg e:Expr} {m:ME} (h:EOk X e m):IOk X tg e (iL m):=zAV (zBc h) fun σ H R ⟨M,E,hl,fr,k⟩=>by
 unfold iL at k;refine yM (T0:=[]) hl fr ?_;cases ea:m E with
 | stuck=>rw [ea] at k; exact k
 | exc x E1=>rw [ea] at k; exact k
 | ok p =>
  obtain ⟨r,E1⟩:=p;rw [ea] at k;intro v H1 g;dsimp only at k;cases ed:r.d with
  | lst ds =>
   rw [ed] at k;have rl:=g.rep;rw [ed] at rl;obtain ⟨a,xs,rfl,q1,q2⟩:=zS rl;exact ⟨a,rfl,⟨xs,zL.seq q1⟩,k _ _ H1 it_list ⟨q1,q2⟩ g.dropAll⟩
  | _=>rw [ed] at k; exact k.elim
theorem zFC {tg e:Expr} {m:ME} (h:EOk X e m):IOk X tg e (iT m):=zAV (pi_tup h) fun σ H R ⟨M,E,hl,fr,k⟩=>by
 unfold iT at k;refine yM (T0:=[]) hl fr ?_;cases ea:m E with
 | stuck=>rw [ea] at k; exact k
 | exc x E1=>rw [ea] at k; exact k
 | ok p =>
  obtain ⟨r,E1⟩:=p;rw [ea] at k;intro v H1 g;dsimp only at k;cases ed:r.d with
  | tup ds =>
   rw [ed] at k;have rl:=g.rep;rw [ed] at rl;obtain ⟨a,xs,rfl,q1,q2⟩:=zb rl;exact ⟨a,rfl,⟨xs,yD zL q1⟩,k _ _ H1 it_tup ⟨q1,q2⟩ g.dropAll⟩
  | _=>rw [ed] at k; exact k.elim
def iR1 (m:MA):MI:=fun E=>match m E with
 | .stuck=>.stuck
 | .exc x E1=>.exc x E1
 | .ok ([r],E1)=>match r.d with
  | .int j=>if -(2 ^ 62)≤j∧j < 2 ^ 62 then .ok (zO 0 j.toNat,E1) else .stuck
  | _=>.stuck
 | _=>.stuck
theorem io_r1 {tg a:Expr} {m:MA} {p cpos:Pos} (hgl:Gl X "range") (hm:X.mg "range"=none) (ha:AOk X [a] m) (hst:za a=false:=by rfl):IOk X tg (.Call (.Name "range" p) [a] [] cpos) (iR1 m):=zAV (Gb hgl hm ha (star1 hst)) fun σ H R ⟨M,E,hl,fr,k⟩=>by
 unfold iR1 at k;refine Jy (T0:=[]) hl fr ?_;cases ea:m E with
 | stuck=>rw [ea] at k; exact k
 | exc x E1=>rw [ea] at k; exact k
 | ok p =>
  obtain ⟨rs,E1⟩:=p;rw [ea] at k
  match rs,k with
  | [r],k =>
   intro vs H1 hv g1;have rp:=Got.reps hv g1;dsimp only at k;cases ed:r.d with
   | int j =>
    rw [ed] at k;simp only [List.map,ed] at rp;obtain ⟨v,rfl,h1⟩:=J0 rp;dsimp only at k;by_cases hc:-(2 ^ 62)≤j∧j < 2 ^ 62
    ·rw [if_pos hc] at k
     exact ⟨j,by rw [zQ h1],hc.1,hc.2,k _ _ H1 it_rng trivial g1.dropAll⟩
    ·rw [if_neg hc] at k; exact k.elim
   | _=>rw [ed] at k; exact k.elim
  | [],k=>exact k.elim
  | _::_::_,k=>exact k.elim
def J3 (tg:MG) (tt:MT) (el:ME):List D→zY→List D→Out (List D × zY)
 | [],E,acc=>.ok (acc,E)
 | d::ds,E,acc=>match tg d E with
  | .ok E1=>match tt E1 with
   | .ok (true,E2)=>match el E2 with
    | .ok (r,E3)=>if acc.length < cap then J3 tg tt el ds E3 (acc++[r.d]) else .stuck
    | _=>.stuck
   | .ok (false,E2)=>J3 tg tt el ds E2 acc
   | _=>.stuck
  | _=>.stuck
def J4 (E:zY):List Nat→Out (List AR)
 | []=>.ok []
 | j::js=>match E[j]? with
  | some (.val d)=>match J4 E js with
   | .ok as=>.ok (.tmp d::as)
   | _=>.stuck
  | some s=>match s.list? with
   | some _=>match J4 E js with
    | .ok as=>.ok (.ln j::as)
    | _=>.stuck
   | none=>.stuck
  | none=>.stuck
def We (nl:Nat) (caps:List Nat) (mi:MI) (tg:MG) (tt:MT) (el:ME):ME:=fun E=>match mi E with
 | .stuck=>.stuck
 | .exc x E1=>.exc x E1
 | .ok (ds,E1)=>match J4 E1 caps with
  | .ok ars=>match zJ ars E1 with
   | .ok (ss,E2)=>match J3 tg tt el ds (replicate nl .emp++ss) [] with
    | .ok (res,Eb)=>match zH ars ((yF (replicate nl .emp++ss) Eb).drop nl) E1 E2 with
     | .ok E3=>.ok (.own res,E3)
     | _=>.stuck
    | _=>.stuck
   | _=>.stuck
  | _=>.stuck
def Qm:MT:=fun E=>.ok (true,E)
abbrev IfOk (X:Cx) (ifs:List Expr) (m:MT):Prop:=zFB X ifs (tMT X m)
theorem uf {ifs:List Expr} {t t':TT} (h:zFB X ifs t) (i:∀ σ H Q,t' σ H Q→t σ H Q):zFB X ifs t':=fun pins s σ H Q I q=>h pins s σ H Q I (i σ H Q q)
theorem zCE:IfOk X [] Qm:=uf pif_nil fun σ H Q ⟨M,E,hl,fr,k⟩=>k H (Got.refl (T0:=[]) hl fr)
theorem zCF {c:Expr} {m:MT} (h:TOk X c m):IfOk X [c] m:=pif_one h
theorem zCG:∀ (js:List Nat) {as:List AR} {T:Fz},E.length=σ.length→J4 E js=.ok as→FR K mg M H (T++σ.zip E) →
  ∃ vs,AV σ as vs∧vs.map some=js.map (fun j=>(σ[j]?).getD none)∧FR K mg M H (T++(yB vs as++σ.zip E))∧∀ b,b∈yX (T++(yB vs as++σ.zip E))→b∈yX (T++σ.zip E)
 | [],as,T,hl,e,f=>by
  cases e;exact ⟨[],by simp only [AV],rfl,f,fun b q=>q⟩
 | j::js,as,T,hl,e,f=>by
  simp only [J4] at e;cases ej:E[j]? with
  | none=>rw [ej] at e; cases e
  | some s =>
   rw [ej] at e;obtain ⟨o,h1,h2⟩:=wa hl ej;have lnk:∀ {ds:List D},s.list?=some ds→(match J4 E js with | .ok as=>Out.ok (AR.ln j::as) | _=>.stuck)=.ok as→∃ vs,AV σ as vs∧vs.map some=(j::js).map (fun j=>(σ[j]?).getD none)∧FR K mg M H (T++(yB vs as++σ.zip E))∧∀ b,b∈yX (T++(yB vs as++σ.zip E))→b∈yX (T++σ.zip E):=fun {ds} hs e=>by
    cases ec:J4 E js with
    | stuck=>rw [ec] at e; cases e
    | exc _ _=>rw [ec] at e; cases e
    | ok as1 =>
     rw [ec] at e; cases e;obtain ⟨a,xs,ev,_⟩:=f.own o s ds (mem_append_right _ h2) hs;subst ev;obtain ⟨vs,q1,q2,q3,q4⟩:=zCG js hl ec f;have p:(T++(((some (V.ref a),Slot.emp)::yB vs as1)++σ.zip E)).Perm ((some (V.ref a),Slot.emp)::(T++(yB vs as1++σ.zip E))):=perm_middle;have fe:FR K mg M H ((some (V.ref a),Slot.emp)::(T++(yB vs as1++σ.zip E))):=q3.mask (.extra (by
      have:∀ W:Fz,Mask W W:=by
       intro W
       induction W with
       | nil=>exact .nil _
       | cons x W ih=>exact .keep ih
      exact this _))
     refine ⟨.ref a::vs,by simp only [AV]; exact ⟨_,vs,rfl,h1,q1⟩,by simp [h1,q2],fe.perm p.symm,fun b hb=>?_⟩;have:=zF p b hb;rw [yr] at this;exact q4 b this
   cases s with
   | emp=>cases e
   | own ds=>exact lnk rfl e
   | par ds=>exact lnk rfl e
   | val d =>
    dsimp only at e;cases ec:J4 E js with
    | stuck=>rw [ec] at e; cases e
    | exc _ _=>rw [ec] at e; cases e
    | ok as1 =>
     rw [ec] at e; cases e;obtain ⟨v,ev,r⟩:=f.val o d (mem_append_right _ h2);subst ev;obtain ⟨vs,q1,q2,q3,q4⟩:=zCG js hl ec f;obtain ⟨v',ev',r'⟩:=q3.val (some v) d (mem_append_right _ (mem_append_right _ h2));cases ev';have p:(T++(((some v,Slot.val d)::yB vs as1)++σ.zip E)).Perm ((some v,Slot.val d)::(T++(yB vs as1++σ.zip E))):=perm_middle;refine ⟨v::vs,by simp only [AV]; exact ⟨v,vs,rfl,q1⟩,by simp [h1,q2],(q3.add r').perm p.symm,fun b hb=>?_⟩;have:=zF p b hb;rw [zz] at this;exact q4 b this
theorem zCH (n:Nat) (Z:Fz):yX (replicate n ((none:Option V),Slot.emp)++Z)=yX Z:=by rw [zc,ud,nil_append]
theorem FR.emps0 (f:FR K mg M H Z) (n:Nat):FR K mg M H (replicate n (none,.emp)++Z):=(f.emps n).perm perm_append_comm
end
end DV
namespace DV
open PySem L2
def tN (K:PySem.W.Frag) (mg:Str→Option Value) (m:ME):TE:=fun σ H Q=>∃ M E,E.length=σ.length∧FR K mg M H (σ.zip E)∧match m E with
 | .ok (r,E')=>∀ v H',Got K mg M σ E H [] σ E' H' [(some v,r.slot)]→Q v H'
 | _=>False
def tNT (K:PySem.W.Frag) (mg:Str→Option Value) (m:MT):TT:=fun σ H Q=>∃ M E,E.length=σ.length∧FR K mg M H (σ.zip E)∧match m E with
 | .ok (b,E')=>∀ H',Got K mg M σ E H [] σ E' H' []→Q b H'
 | _=>False
section
variable {X:Cx} {K:PySem.W.Frag} {mg:Str→Option Value} {σ:St} {M:Addr→Prop} {E:zY} {H:Hp} {T0 Z T:Fz}
theorem tN_M {m:ME} {Q:VK} (h:tN X.K X.mg m σ H Q):tM X m σ H Q:=by
 obtain ⟨M,E,hl,fr,k⟩:=h;refine ⟨M,E,hl,fr,?_⟩;cases e:m E with
 | stuck=>rw [e] at k; exact k
 | exc x E1=>rw [e] at k; exact k.elim
 | ok p=>rw [e] at k; exact k
theorem tNT_M {m:MT} {Q:Bool→Hp→Prop} (h:tNT X.K X.mg m σ H Q):tMT X m σ H Q:=by
 obtain ⟨M,E,hl,fr,k⟩:=h;refine ⟨M,E,hl,fr,?_⟩;cases e:m E with
 | stuck=>rw [e] at k; exact k
 | exc x E1=>rw [e] at k; exact k.elim
 | ok p=>rw [e] at k; exact k
theorem tN_run {m:ME} {r:R} {E':zY} {Q:VK} (hl:E.length=σ.length) (h:FR K mg M H (T0++σ.zip E)) (e:m E=.ok (r,E')) (k:∀ v H',Got K mg M σ E H T0 σ E' H' [(some v,r.slot)]→Q v H'):tN K mg m σ H Q:=by
 refine ⟨Mo M T0,E,hl,h.inner,?_⟩;rw [e];exact fun v H' g=>k v H' (g.outer h)
theorem tNT_run {m:MT} {b:Bool} {E':zY} {Q:Bool→Hp→Prop} (hl:E.length=σ.length) (h:FR K mg M H (T0++σ.zip E)) (e:m E=.ok (b,E')) (k:∀ H',Got K mg M σ E H T0 σ E' H' []→Q b H'):tNT K mg m σ H Q:=by
 refine ⟨Mo M T0,E,hl,h.inner,?_⟩;rw [e];exact fun H' g=>k H' (g.outer h)
theorem zCI {ars:List AR} {E1 E2 E3:zY} {ss outs:List Slot} {r:R} {vs:List V} {v:V} {H1 H':Hp} (e1:zJ ars E1=.ok (ss,E2)) (e3:zH ars outs E1 E2=.ok E3)
  (av:AV σ ars vs) (f1':FR K mg M H1 (σ.zip E2++(vs.map some).zip ss)) (st1:Step M H (σ.zip E) H1 (σ.zip E2++(vs.map some).zip ss)) (l2:E2.length=σ.length) (pk:PKp σ E σ E1)
  (f2:FR K mg (Mo M (σ.zip E2)) H' ((some v,r.slot)::(vs.map some).zip outs)) (s2:Step (Mo M (σ.zip E2)) H1 ((vs.map some).zip ss) H' ((some v,r.slot)::(vs.map some).zip outs)):Got K mg M σ E H [] σ E3 H' [(some v,r.slot)]:=by
 have f3:=FR.outer f1' f2 s2;have s3:=Step.outer s2;have p:(σ.zip E2++((some v,r.slot)::(vs.map some).zip outs)).Perm ([(some v,r.slot)]++((vs.map some).zip outs++σ.zip E2)):=by
  refine perm_append_comm.trans ?_;exact List.Perm.refl _
 obtain ⟨f4,o4,l4⟩:=ub ars l2 av e3 (f3.perm p);refine ⟨l4,f4,?_,pk.trans (zCB e1 e3)⟩;have st2:=st1.trans s3;exact st2.weak fun b hb=>zF p.symm b (o4 b hb)
theorem YX:∀ (n:Nat) {Z W:Fz},Mask Z W→Mask Z (W.drop n)
 | 0,_,_,h=>h
 | n+1,_,_,.nil Z=>by simp only [List.drop_nil]; exact .nil _
 | n+1,_,_,.keep h=>.skip (YX n h)
 | n+1,_,_,.skip h=>.skip (YX (n+1) h)
 | n+1,_,_,.extra h=>YX n h
theorem G3 {α β:Type}:∀ (n:Nat) (l:List α) (m:List β),(l.zip m).drop n=(l.drop n).zip (m.drop n)
 | 0,_,_=>rfl
 | n+1,[],_=>by simp
 | n+1,_::_,[]=>by simp
 | n+1,_::l,_::m=>by simp [G3 n l m]
theorem yld_got {J:It} {ds:List D} {Iv:Hp→Prop} {σ0 σ':St} {E0 E':zY} {H1 H' H'':Hp} {Da:Addr} {acc:List D} {i:Nat} {x:V} (it:ItOk K mg J ds Iv) (hlt:i < ds.length) (gb:Got K mg M σ0 E0 H1 [] σ' E' H' [(some (.ref Da),.own acc)]) (ivb:Iv (Hm (Mo M ((some (.ref Da),Slot.own acc)::σ'.zip E')) H')) (y:J.yld i H' x H'') :
  ∃ d,ds[i]?=some d∧Got K mg M σ0 E0 H1 [] σ' E' H'' [(some (.ref Da),.own acc)]∧Iv (Hm (Mo M ((some (.ref Da),Slot.own acc)::σ'.zip E')) H'')∧Rep K mg (Hm (Mo M ((some (.ref Da),Slot.own acc)::σ'.zip E')) H'') d x:=by
 obtain ⟨d,hd,h⟩:=it.yld i _ _ x _ zL ivb hlt y;rcases h with ⟨rfl,rx⟩ | ⟨q,xs,es,hq,rfl,rfl,rfl,rs⟩
 ·exact ⟨d,hd,gb,ivb,rx⟩
 ·have f:FR K mg M H' ((some (.ref Da),Slot.own acc)::σ'.zip E'):=gb.fr
  have f1:=f.newTup hq rs;have s1:Step M H' ((some (.ref Da),Slot.own acc)::σ'.zip E') (upd H' q (.tup xs)) ((some (.ref q),.val (.tup es))::((some (.ref Da),Slot.own acc)::σ'.zip E')):=Step.newVal hq;obtain ⟨v,ev,rv⟩:=f1.val _ _ mem_cons_self;cases ev;have sm:=s1.same;rw [ZT] at rv sm;have s2:Step M H' ((some (.ref Da),Slot.own acc)::σ'.zip E') (upd H' q (.tup xs)) ((some (.ref Da),Slot.own acc)::σ'.zip E'):=⟨sm,s1.keep⟩;exact ⟨_,hd,⟨gb.len,f1.tail,gb.st.trans s2,gb.pk⟩,it.mono _ _ sm ivb,rv⟩
theorem zAW {nl:Nat} {caps:List Nat} {mi:MI} {tg:MG} {tt:MT} {el:ME} {g:TG} {Q:VK} (ho:GOk X g tg) (h:tM X (We nl caps mi tg tt el) σ H Q):zEA nl caps (tMI X mi) g (tNT X.K X.mg tt) (tN X.K X.mg el) σ H Q:=by
 obtain ⟨M,E,hl,fr,k⟩:=h;unfold We at k;refine ⟨M,E,hl,fr,?_⟩;cases ei:mi E with
 | stuck=>rw [ei] at k; exact k
 | exc x E1=>rw [ei] at k; exact k
 | ok p =>
  obtain ⟨ds,E1⟩:=p;rw [ei] at k;intro J Iv H1 it iv g1 D hD;dsimp only at k;cases ec:J4 E1 caps with
  | stuck=>rw [ec] at k; exact k.elim
  | exc _ _=>rw [ec] at k; exact k.elim
  | ok ars =>
   rw [ec] at k;dsimp only at k;cases el1:zJ ars E1 with
   | stuck=>rw [el1] at k; exact k.elim
   | exc _ _=>rw [el1] at k; exact k.elim
   | ok p =>
    obtain ⟨ss,E2⟩:=p;rw [el1] at k;dsimp only at k;cases em:J3 tg tt el ds (replicate nl .emp++ss) [] with
    | stuck=>rw [em] at k; exact k.elim
    | exc _ _=>rw [em] at k; exact k.elim
    | ok p =>
     obtain ⟨res,Eb⟩:=p;rw [em] at k;dsimp only at k;cases eb:zH ars ((yF (replicate nl .emp++ss) Eb).drop nl) E1 E2 with
     | stuck=>rw [eb] at k; exact k.elim
     | exc _ _=>rw [eb] at k; exact k.elim
     | ok E3 =>
      rw [eb] at k;obtain ⟨vs,av,evs,f1,o1⟩:=zCG (T:=[]) caps g1.len ec g1.fr;obtain ⟨f2,o2,l2,l3⟩:=Wa (T:=[]) ars g1.len av el1 f1;have hv:=av.length;have f2':FR X.K X.mg M H1 (σ.zip E2++(vs.map some).zip ss):=FR.perm (T:=σ.zip E2++(vs.map some).zip ss) (Z:=(vs.map some).zip ss++σ.zip E2) f2 perm_append_comm;have osub:∀ b,b∈yX (σ.zip E2++(vs.map some).zip ss)→b∈yX (σ.zip E1):=fun b hb =>
       o1 b ((o2 b).mpr (zF (T:=σ.zip E2++(vs.map some).zip ss) (Z:=(vs.map some).zip ss++σ.zip E2) perm_append_comm b hb))
      have st1:Step M H (σ.zip E) H1 (σ.zip E2++(vs.map some).zip ss):=g1.st.weak osub;have eσ:yd nl caps σ=replicate nl none++vs.map some:=by unfold L2.yd; rw [evs]
      rw [eσ];have ez:(replicate nl (none:Option V)++vs.map some).zip (replicate nl Slot.emp++ss)=replicate nl (none,.emp)++(vs.map some).zip ss:=by
       rw [List.zip_append (by simp),Qk]
      have f4:FR X.K X.mg (Mo M (σ.zip E2)) H1 ((replicate nl (none:Option V)++vs.map some).zip (replicate nl Slot.emp++ss)):=by
       rw [ez]; exact (FR.inner f2').emps0 nl
      have oo:yX ((replicate nl (none:Option V)++vs.map some).zip (replicate nl Slot.emp++ss))=yX ((vs.map some).zip ss):=by rw [ez,zCH]
      generalize hσ0:replicate nl (none:Option V)++vs.map some=σ0 at f4 oo ⊢;generalize hE0:replicate nl Slot.emp++ss=E0 at f4 oo em eb ⊢;have hl0:E0.length=σ0.length:=by rw [← hσ0,← hE0]; simp [l2,hv]
      have f5:=f4.newOwn (ds:=[]) (xs:=[]) hD Reps.nil;have s5:=Step.newOwn (ds:=[]) (xs:=[]) f4 hD;have iv5:Iv (Hm (Mo (Mo M (σ.zip E2)) ((some (.ref D),Slot.own [])::σ0.zip E0)) (upd H1 D (.lst []))):=by
       refine it.mono _ _ s5.same (it.mono _ _ (wE fun b hb=>?_) iv);rcases hb with hb | hb
       ·rcases hb with hb | hb
        ·exact .inl hb
        ·exact .inr (osub b (by rw [zc]; exact mem_append_left _ hb))
       ·rw [oo] at hb
        exact .inr (osub b (by rw [zc]; exact mem_append_right _ hb))
      refine ⟨fun i m σ' H'=>m=ds.length - i∧i≤ds.length∧∃ E' acc,Got X.K X.mg (Mo M (σ.zip E2)) σ0 E0 H1 [] σ' E' H' [(some (.ref D),.own acc)]∧Iv (Hm (Mo (Mo M (σ.zip E2)) ((some (.ref D),Slot.own acc)::σ'.zip E')) H')∧J3 tg tt el (ds.drop i) E' acc=.ok (res,Eb),
       ⟨ds.length,by simp,zero_le _,E0,[],⟨hl0,f5,s5,PKp.refl⟩,iv5,em⟩,?_⟩
      rintro i m σ' H' ⟨rfl,hi,E',acc,gb,ivb,cm⟩
      by_cases hlt:i < ds.length
      ·refine .inr ⟨it.go i _ H' zL ivb hlt,fun σ'' H''=>(i+1≤ds.length∧∃ E' acc,Got X.K X.mg (Mo M (σ.zip E2)) σ0 E0 H1 [] σ'' E' H'' [(some (.ref D),.own acc)]∧Iv (Hm (Mo (Mo M (σ.zip E2)) ((some (.ref D),Slot.own acc)::σ''.zip E')) H'')∧J3 tg tt el (ds.drop (i+1)) E' acc=.ok (res,Eb)),
        fun σ'' H'' q=>⟨ds.length - (i+1),by omega,rfl,q⟩,fun x H'' y=>?_⟩
       obtain ⟨d,hd,gb,ivb,rx⟩:=yld_got it hlt gb ivb y;have ed:ds.drop i=d::ds.drop (i+1):=by
        obtain ⟨hi',rfl⟩:=List.getElem?_eq_some_iff.mp hd;exact List.drop_eq_getElem_cons hi'
       rw [ed] at cm;simp only [J3] at cm;cases e1:tg d E' with
       | stuck=>rw [e1] at cm; cases cm
       | exc _ _=>rw [e1] at cm; cases cm
       | ok Ea =>
        rw [e1] at cm;dsimp only at cm;refine ho _ σ' E' _ [(some (.ref D),.own acc)] x d Ea _ gb.len (gb.fr.add rx) e1 fun σ2 ga=>?_
        have g2:=gb.trans' ga;cases e2:tt Ea with
        | stuck=>rw [e2] at cm; cases cm
        | exc _ _=>rw [e2] at cm; cases cm
        | ok p =>
         obtain ⟨b,Eb2⟩:=p;rw [e2] at cm;refine tNT_run ga.len ga.fr e2 fun H3 gt=>?_
         have g3:=g2.trans' gt;have iv3:=it.mono _ _ (ga.st.same.trans gt.st.same) ivb;cases b with
         | false =>
          refine iteF ⟨hlt,Eb2,acc,g3,iv3,cm⟩
         | true =>
          refine iteT ?_;dsimp only at cm;cases e3:el Eb2 with
          | stuck=>rw [e3] at cm; cases cm
          | exc _ _=>rw [e3] at cm; cases cm
          | ok p =>
           obtain ⟨r,Ec⟩:=p;rw [e3] at cm;dsimp only at cm;by_cases hcap:acc.length < cap
           ·rw [if_pos hcap] at cm
            refine tN_run g3.len g3.fr e3 fun yv H4 ge=>?_
            have g4:=g3.trans' ge;have fz:FR X.K X.mg (Mo M (σ.zip E2)) H4 ((some yv,.val r.d)::((some (.ref D),Slot.own acc)::σ2.zip Ec)):=g4.fr.frz;obtain ⟨yv',ey,ry⟩:=fz.val _ _ mem_cons_self;cases ey;rw [ZT] at ry;have fo:=fz.tail;obtain ⟨a,ys,ea,ha,_,rys⟩:=fo.own _ _ acc mem_cons_self rfl;cases ea;refine ⟨ys,ha,by rw [rys.length]; exact lt_of_lt_of_le hcap (ZU (le_refl _)),hlt,Ec,acc++[r.d],?_⟩;obtain ⟨fm,sm⟩:=FR.mut (i:=0) (s:=.own acc) fo rfl rfl (rys.append (Reps.cons ry Reps.nil));have fm':FR X.K X.mg (Mo M (σ.zip E2)) (upd H4 D (.lst (ys++[yv]))) ((some (.ref D),Slot.own (acc++[r.d]))::σ2.zip Ec):=fm;have sm':Step (Mo M (σ.zip E2)) H4 ((some (.ref D),Slot.own acc)::σ2.zip Ec) (upd H4 D (.lst (ys++[yv]))) ((some (.ref D),Slot.own (acc++[r.d]))::σ2.zip Ec):=sm;have sz:Step (Mo M (σ.zip E2)) H3 ((some (.ref D),Slot.own acc)::σ2.zip Eb2) H4 ((some (.ref D),Slot.own acc)::σ2.zip Ec):=ge.st.weak (zD (sublist_cons_self _ _));have sz0:Step (Mo M (σ.zip E2)) H1 (σ0.zip E0) H4 ((some (.ref D),Slot.own acc)::σ2.zip Ec):=g4.st.weak (zD (sublist_cons_self _ _));exact ⟨⟨g4.len,fm',sz0.trans sm',g4.pk⟩,it.mono _ _ (sz.same.trans sm'.same) iv3,cm⟩
           ·rw [if_neg hcap] at cm; cases cm
      ·have ei2:i=ds.length:=by omega
       subst ei2;rw [List.drop_length] at cm;simp only [J3] at cm;cases cm;refine .inl ⟨it.stop _ _ H' zL ivb (le_refl _),k _ H' ?_⟩;have mk0:Mask (σ'.zip Eb) (σ0.zip (yF E0 Eb)):=Z9 E0 σ0 σ' Eb gb.len (hl0.symm) fun j ds' e=>(gb.pk j ds' e).2
       have mk:Mask (σ'.zip Eb) ((vs.map some).zip ((yF E0 Eb).drop nl)):=by
        have:=YX nl mk0;have e:(σ0.zip (yF E0 Eb)).drop nl=(vs.map some).zip ((yF E0 Eb).drop nl):=by
         rw [G3,← hσ0];congr 1;rw [List.drop_left' (by simp)]
        rw [e] at this;exact this
       refine zCI (r:=.own res) el1 eb av f2' st1 l3 g1.pk (gb.fr.mask (.keep mk)) ?_;refine (gb.st.weak fun b hb=>(Mask.keep mk).sub.subset hb).left fun b hb=>?_
       show b∈yX _
       rw [nil_append,oo] at hb;exact hb
end
section
variable {X:Cx} {elt target iter:Expr} {ifs:List Expr} {scope:Scope} {pos:Pos}
theorem ok_comp {mi:MI} {tg:MG} {tt:MT} {el:ME} {g:TG} (nl:Nat) (caps:List Nat) (N':List Str) (hx:∀ e s,¬ X.xe e s) (hc:X.calm=true) (hkind:scope.kind=.function) (hnames:∀ y∈scope.names,y.2=.local→scope.names.lookup y.1=some .local) (hcell:∀ y∈scope.names,y.2=.cell→scope.names.lookup y.1=some .cell)
  (hfree:(scope.names.all fun y=>y.2 != .free || X.env.kindOf y.1 == some .cell)=true)
  (hlen:N'.length=nl+caps.length) (hcap:∀ (i j:Nat),caps[i]?=some j→∃ x,N'[nl+i]?=some x∧X.N[j]?=some x∧scope.names.lookup x=some .free)
  (hi:IOk X target iter mi) (hg:∀ cl C ex s H,PG (cxB X N' scope cl C ex s H) target g) (ho:GOk X g tg) (ht:∀ cl C ex s H,IfOk (cxB X N' scope cl C ex s H) ifs tt) (he:∀ cl C ex s H,EOk (cxB X N' scope cl C ex s H) elt el)
  (hs:∀ x,foldedSetIterable iter X.env x=pure x:=by intro _; rfl):EOk X (.ListComp elt [⟨target,iter,ifs,0⟩] scope pos) (We nl caps mi tg tt el) :=
 yY (pe_comp (te:=tN X.K X.mg el) (tt:=tNT X.K X.mg tt) hx hc hkind hnames hcell hfree hlen hcap hi hg (fun cl C ex s H=>uf (ht cl C ex s H) fun σ H Q q=>tNT_M (X:=cxB X N' scope cl C ex s _) q) (fun cl C ex s H=>yY (he cl C ex s H) fun σ H Q q=>tN_M (X:=cxB X N' scope cl C ex s _) q) hs) fun σ H Q=>zAW ho
theorem sk_comp {mi:MI} {tg:MG} {tt:MT} {el:ME} {g:TG} {i:Nat} {y:Str} {py spos:Pos} (nl:Nat) (caps:List Nat) (N':List Str) (hN:X.N.Nodup) (hi':X.N[i]?=some y) (hy:Loc X.env.scope y) (hf:X.fn y=true∨X.env.scope.names.lookup y=some .local) (hx:∀ e s,¬ X.xe e s) (hc:X.calm=true) (hkind:scope.kind=.function) (hnames:∀ y∈scope.names,y.2=.local→scope.names.lookup y.1=some .local) (hcell:∀ y∈scope.names,y.2=.cell→scope.names.lookup y.1=some .cell)
  (hfree:(scope.names.all fun y=>y.2 != .free || X.env.kindOf y.1 == some .cell)=true)
  (hlen:N'.length=nl+caps.length) (hcap:∀ (i j:Nat),caps[i]?=some j→∃ x,N'[nl+i]?=some x∧X.N[j]?=some x∧scope.names.lookup x=some .free)
  (hi:IOk X target iter mi) (hg:∀ cl C ex s H,PG (cxB X N' scope cl C ex s H) target g) (ho:GOk X g tg) (ht:∀ cl C ex s H,IfOk (cxB X N' scope cl C ex s H) ifs tt) (he:∀ cl C ex s H,EOk (cxB X N' scope cl C ex s H) elt el)
  (hs:∀ x,foldedSetIterable iter X.env x=pure x) (hsw:swapsWith (.ListComp elt [⟨target,iter,ifs,0⟩] scope pos) (some (.Name y py)) spos.line X.env=pure true) :
  SOk X (.Assign [.Name y py] (.ListComp elt [⟨target,iter,ifs,0⟩] scope pos) spos) (sSet i (We nl caps mi tg tt el)) :=
 y8 (ps_setC (te:=tN X.K X.mg el) (tt:=tNT X.K X.mg tt) hN hi' hy hf hx hc hkind hnames hcell hfree hlen hcap hi hg (fun cl C ex s H=>uf (ht cl C ex s H) fun σ H Q q=>tNT_M (X:=cxB X N' scope cl C ex s _) q) (fun cl C ex s H=>yY (he cl C ex s H) fun σ H Q q=>tN_M (X:=cxB X N' scope cl C ex s _) q) hs hsw) fun D σ H h=>zAW ho (zB5 h)
end
end DV
namespace DV
open PySem L2
theorem mem7 {P:String→Prop} (h1:P "NoneType") (h2:P "bool") (h3:P "int") (h4:P "str") (h5:P "tuple") (h6:P "list") (h7:P "dict"):∀ t∈["NoneType","bool","int","str","tuple","list","dict"],P t:=by
 intro t ht;simp only [mem_cons,mem_nil_iff,or_false] at ht;rcases ht with rfl | rfl | rfl | rfl | rfl | rfl | rfl <;> assumption
abbrev Kit (K:PySem.W.Frag) (T:String):Prop:=∀ t∈["NoneType","bool","int","str","tuple","list","dict"],kitOne K (.type t) (.type T)=some (Gy t T)
theorem kit_int (K:PySem.W.Frag):Kit K "int":=mem7 rfl rfl rfl rfl rfl rfl rfl
theorem zEB (K:PySem.W.Frag):Kit K "bool":=mem7 rfl rfl rfl rfl rfl rfl rfl
theorem zCJ (K:PySem.W.Frag):Kit K "tuple":=mem7 rfl rfl rfl rfl rfl rfl rfl
theorem zEC (K:PySem.W.Frag):Kit K "list":=mem7 rfl rfl rfl rfl rfl rfl rfl
theorem kit_str (K:PySem.W.Frag):Kit K "str":=mem7 rfl rfl rfl rfl rfl rfl rfl
theorem zED (K:PySem.W.Frag):Kit K "dict":=mem7 rfl rfl rfl rfl rfl rfl rfl
theorem ug:bootBuiltins "isinstance"=some (.builtin "isinstance"):=by decide +kernel
theorem bt_len:bootBuiltins "len"=some (.builtin "len"):=by decide +kernel
theorem bt_max:bootBuiltins "max"=some (.builtin "max"):=by decide +kernel
theorem bt_all:bootBuiltins "all"=some (.builtin "all"):=by decide +kernel
theorem zFD:bootBuiltins "int"=some (.type "int"):=by decide +kernel
theorem bt_bool:bootBuiltins "bool"=some (.type "bool"):=by decide +kernel
theorem zAX:bootBuiltins "tuple"=some (.type "tuple"):=by decide +kernel
theorem zCK:bootBuiltins "list"=some (.type "list"):=by decide +kernel
theorem bt_str:bootBuiltins "str"=some (.type "str"):=by decide +kernel
theorem bt_dict:bootBuiltins "dict"=some (.type "dict"):=by decide +kernel
section
variable {X:Cx} {K:PySem.W.Frag} {mg:Str→Option Value} {σ:St} {H:Hp}
def eNeg (a:ME):ME:=fun E=>match a E with
 | .ok (.val (.int i),E1)=>.ok (.val (.int (-i)),E1)
 | .exc x E1=>.exc x E1
 | _=>.stuck
theorem ok_neg {a:Expr} {m:ME} {pos:Pos} (h:EOk X a m):EOk X (.UnaryOp .USub a pos) (eNeg m):=yY (pe_un un_neg h) fun σ H Q ⟨M,E,hl,fr,k⟩=>by
 unfold eNeg at k;refine yM (T0:=[]) hl fr ?_;cases ea:m E with
 | stuck=>rw [ea] at k; exact k
 | exc x E1=>rw [ea] at k; exact k
 | ok p =>
  obtain ⟨r,E1⟩:=p;rw [ea] at k;cases r with
  | own ds=>exact k.elim
  | val d =>
   cases d with
   | int i =>
    intro v H' g;exact ⟨i,zQ g.rep,k _ H' (g.flat (d:=.int (-i)) rfl)⟩
   | _=>exact k.elim
def ju (p p':Int→Int→Bool) (a b c:ME):ME:=fun E=>match a E with
 | .stuck=>.stuck
 | .exc x E1=>.exc x E1
 | .ok (.val (.int i),E1)=>match b E1 with
  | .stuck=>.stuck
  | .exc x E2=>.exc x E2
  | .ok (.val (.int j),E2)=>if p i j=true then match c E2 with
    | .stuck=>.stuck
    | .exc x E3=>.exc x E3
    | .ok (.val (.int k),E3)=>.ok (.val (.bl (p' j k)),E3)
    | _=>.stuck
   else .ok (.val (.bl false),E2)
  | _=>.stuck
 | _=>.stuck
theorem G4 {p p':Int→Int→Bool} {a b c:ME} {Q:VK} (h:tM X (ju p p' a b c) σ H Q):zBj (rI0 fun i j=>.bl (p i j)) (rI0 fun i j=>.bl (p' i j)) (tM X a) (tM X b) (tM X c) σ H Q:=by
 obtain ⟨M,E,hl,fr,k⟩:=h;unfold ju at k;refine yM (T0:=[]) hl fr ?_;cases ea:a E with
 | stuck=>rw [ea] at k; exact k
 | exc x E1=>rw [ea] at k; exact k
 | ok q =>
  obtain ⟨r,E1⟩:=q;rw [ea] at k;cases r with
  | own ds=>exact k.elim
  | val d =>
   cases d with
   | int i =>
    intro x H1 g1;have g1':=g1.dropAll;refine yM (T0:=[]) g1'.len g1'.fr ?_;dsimp only at k;cases eb:b E1 with
    | stuck=>rw [eb] at k; exact k
    | exc x E2=>rw [eb] at k; exact fun H' g=>k H' (g1'.trans' g)
    | ok q =>
     obtain ⟨r2,E2⟩:=q;rw [eb] at k;cases r2 with
     | own ds=>exact k.elim
     | val d2 =>
      cases d2 with
      | int j =>
       intro y H2 g2;have g12:=(g1'.trans' g2).dropAll;refine ⟨i,j,zQ g1.rep,zQ g2.rep,p i j,rfl,?_⟩;dsimp only at k;cases ep:p i j with
       | false =>
        rw [ep] at k;exact iteF (k _ H2 (g12.flat (d:=.bl false) rfl))
       | true =>
        rw [ep] at k;simp only [if_true] at k;refine iteT (yM (T0:=[]) g12.len g12.fr ?_);cases ec:c E2 with
        | stuck=>rw [ec] at k; exact k
        | exc x E3=>rw [ec] at k; exact fun H' g=>k H' (g12.trans' g)
        | ok q =>
         obtain ⟨r3,E3⟩:=q;rw [ec] at k;cases r3 with
         | own ds=>exact k.elim
         | val d3 =>
          cases d3 with
          | int n =>
           intro w H3 g3;exact ⟨j,n,zQ g2.rep,zQ g3.rep,k _ H3 ((g12.trans' g3).flat (d:=.bl (p' j n)) rfl)⟩
          | _=>exact k.elim
      | _=>exact k.elim
   | _=>exact k.elim
theorem zEE {op op':CmpOp} {p p':Int→Int→Bool} {a b c:Expr} {ma mb mc:ME} {pos:Pos} (ho:OpR X (compareOp op) (rI0 fun i j=>.bl (p i j))) (ho':OpR X (compareOp op') (rI0 fun i j=>.bl (p' i j))) (ha:EOk X a ma) (hb:EOk X b mb) (hc:EOk X c mc)
  (hm:lastMarks [op,op'] [b,c]=false:=by with_unfolding_all rfl):EOk X (.Compare a [op,op'] [b,c] pos) (ju p p' ma mb mc):=yY (zDd ho ho' ha hb hc hm) fun σ H Q=>G4
theorem zCL {op op':CmpOp} {p p':Int→Int→Bool} {a b c:Expr} {ma mb mc:ME} {pos:Pos} (ho:OpR X (compareOp op) (rI0 fun i j=>.bl (p i j))) (ho':OpR X (compareOp op') (rI0 fun i j=>.bl (p' i j))) (ha:EOk X a ma) (hb:EOk X b mb) (hc:EOk X c mc)
  (hm:lastMarks [op,op'] [b,c]=false:=by with_unfolding_all rfl):TOk X (.Compare a [op,op'] [b,c] pos) (tT (ju p p' ma mb mc)):=zAP (zDe ho ho' ha hb hc hm) fun σ H Q q=>G4 (zB0 q)
abbrev ltB:Int→Int→Bool:=fun i j=>decide (i < j)
abbrev leB:Int→Int→Bool:=fun i j=>decide (i≤j)
abbrev gtB:Int→Int→Bool:=fun i j=>decide (j < i)
abbrev geB:Int→Int→Bool:=fun i j=>decide (j≤i)
def zCM (X:Cx) (scope:Scope):List Nat→List Str→Prop
 | [],[]=>True
 | j::js,x::xs=>X.N[j]?=some x∧scope.names.lookup x=some .free∧zCM X scope js xs
 | _,_=>False
theorem zCN {scope:Scope} {loc:List Str}:∀ {caps:List Nat} {capn:List Str},zCM X scope caps capn→capn.length=caps.length∧∀ (i j:Nat),caps[i]?=some j→∃ x,capn[i]?=some x∧X.N[j]?=some x∧scope.names.lookup x=some .free
 | [],[],h=>⟨rfl,fun i j e=>by simp at e⟩
 | [],_::_,h=>h.elim
 | _::_,[],h=>h.elim
 | j::js,x::xs,h=>by
  obtain ⟨h1,h2,h3⟩:=h;obtain ⟨i1,i2⟩:=zCN (loc:=loc) h3;refine ⟨by simp [i1],fun i k e=>?_⟩;cases i with
  | zero=>simp at e; subst e; exact ⟨x,rfl,h1,h2⟩
  | succ i=>simp at e; obtain ⟨y,q⟩:=i2 i k e; exact ⟨y,by simpa using q⟩
theorem ok_lc {elt target iter:Expr} {ifs:List Expr} {scope:Scope} {pos:Pos} {mi:MI} {tg:MG} {tt:MT} {el:ME} {g:TG} {nl:Nat} {caps:List Nat} (loc capn:List Str) (hnl:loc.length=nl) (hx:∀ e s,¬ X.xe e s) (hc:X.calm=true) (hkind:scope.kind=.function) (hnames:∀ y∈scope.names,y.2=.local→scope.names.lookup y.1=some .local) (hcell:∀ y∈scope.names,y.2=.cell→scope.names.lookup y.1=some .cell)
  (hfree:(scope.names.all fun y=>y.2 != .free || X.env.kindOf y.1 == some .cell)=true) (hcap:zCM X scope caps capn)
  (hi:IOk X target iter mi) (hg:∀ cl C ex s H,PG (cxB X (loc++capn) scope cl C ex s H) target g) (ho:GOk X g tg) (ht:∀ cl C ex s H,IfOk (cxB X (loc++capn) scope cl C ex s H) ifs tt) (he:∀ cl C ex s H,EOk (cxB X (loc++capn) scope cl C ex s H) elt el)
  (hs:∀ x,foldedSetIterable iter X.env x=pure x:=by intro _; rfl):EOk X (.ListComp elt [⟨target,iter,ifs,0⟩] scope pos) (We nl caps mi tg tt el):=by
 obtain ⟨c1,c2⟩:=zCN (loc:=loc) hcap;refine ok_comp nl caps (loc++capn) hx hc hkind hnames hcell hfree (by simp [hnl,c1]) (fun i j e=>?_) hi hg ho ht he hs;obtain ⟨x,q1,q2,q3⟩:=c2 i j e;refine ⟨x,?_,q2,q3⟩;rw [List.getElem?_append_right (by omega),hnl,Nat.add_sub_cancel_left];exact q1
theorem sk_lc {elt target iter:Expr} {ifs:List Expr} {scope:Scope} {pos:Pos} {mi:MI} {tg:MG} {tt:MT} {el:ME} {g:TG} {nl:Nat} {caps:List Nat} {i:Nat} {y:Str} {py spos:Pos} (loc capn:List Str) (hN:X.N.Nodup) (hi':X.N[i]?=some y) (hy:Loc X.env.scope y) (hf:X.fn y=true∨X.env.scope.names.lookup y=some .local) (hnl:loc.length=nl) (hx:∀ e s,¬ X.xe e s) (hc:X.calm=true) (hkind:scope.kind=.function) (hnames:∀ y∈scope.names,y.2=.local→scope.names.lookup y.1=some .local) (hcell:∀ y∈scope.names,y.2=.cell→scope.names.lookup y.1=some .cell)
  (hfree:(scope.names.all fun y=>y.2 != .free || X.env.kindOf y.1 == some .cell)=true) (hcap:zCM X scope caps capn)
  (hi:IOk X target iter mi) (hg:∀ cl C ex s H,PG (cxB X (loc++capn) scope cl C ex s H) target g) (ho:GOk X g tg) (ht:∀ cl C ex s H,IfOk (cxB X (loc++capn) scope cl C ex s H) ifs tt) (he:∀ cl C ex s H,EOk (cxB X (loc++capn) scope cl C ex s H) elt el)
  (hs:∀ x,foldedSetIterable iter X.env x=pure x) (hsw:swapsWith (.ListComp elt [⟨target,iter,ifs,0⟩] scope pos) (some (.Name y py)) spos.line X.env=pure true) :
  SOk X (.Assign [.Name y py] (.ListComp elt [⟨target,iter,ifs,0⟩] scope pos) spos) (sSet i (We nl caps mi tg tt el)):=by
 obtain ⟨c1,c2⟩:=zCN (loc:=loc) hcap;refine sk_comp nl caps (loc++capn) hN hi' hy hf hx hc hkind hnames hcell hfree (by simp [hnl,c1]) (fun i j e=>?_) hi hg ho ht he hs hsw;obtain ⟨x,q1,q2,q3⟩:=c2 i j e;refine ⟨x,?_,q2,q3⟩;rw [List.getElem?_append_right (by omega),hnl,Nat.add_sub_cancel_left];exact q1
end
section
variable (P:Program) (w:World) (K:PySem.W.Frag) (mg:Str→Option Value) (base:Heap)
def y6 (x:Str) (st:Stmt) (ps:List Str):Prop:=∃ (a:Addr) (fd:FuncData),mg x=some (.ref a)∧Fun K x x st a fd∧WN K fd ps []
def FOk (c:Bool) (x:Str) (k:Nat) (ps:List Str) (F:MF):Prop:=∃ (a:Addr) (fd:FuncData),mg x=some (.ref a)∧keepIn K (.ref a)=true∧WN K fd ps []∧FnOkN c P w K mg base k a fd ps (spM K mg ps.length F)
end
end DV
namespace DV
open PySem L2
section
variable {X:Cx} {n:Nat}
end
end DV
namespace DV
open PySem L2
mutual
def deq:D→D→Bool
 | .tup a,d=>match d with
  | .tup b=>deqs a b
  | _=>false
 | .lst a,d=>match d with
  | .lst b=>deqs a b
  | _=>false
 | a,d=>match d with
  | .tup _=>false
  | .lst _=>false
  | b=>eqV (flV a) (flV b)
def deqs:List D→List D→Bool
 | [],[]=>true
 | a::as,b::bs=>deq a b&&deqs as bs
 | [],_::_=>false
 | _::_,[]=>false
end
def eqb:Nat→D→Bool
 | _,.non=>true
 | _,.bl _=>true
 | _,.int _=>true
 | _,.str _=>true
 | n+1,.tup ds=>ds.all (eqb n)
 | n+1,.lst ds=>ds.all (eqb n)
 | _,_=>false
theorem we:∀ (a b:List D),deqs a b=((List.range (min a.length b.length)).all (fun j=>deq (a.getD j .non) (b.getD j .non))&&a.length == b.length)
 | [],[]=>by simp [deqs]
 | [],_::_=>by simp [deqs]
 | _::_,[]=>by simp [deqs]
 | a::as,b::bs=>by
  simp only [deqs,we as bs,length_cons];have e:min (as.length+1) (bs.length+1)=min as.length bs.length+1:=by omega
  rw [e,List.range_succ_eq_map,all_cons,List.all_map];simp [Function.comp_def,Bool.and_assoc]
section
variable {X:Cx} {pins:List (Addr × Obj)} {σ:St} {H:Hp} {s:Shared}
theorem jv {d:D} (h:eqb 0 d=true):flat d=true:=by cases d <;> first | rfl | (simp [eqb] at h)
theorem zAY {v:V} (h:JW v=true):eqV v v=true:=by cases v <;> simp [JW] at h <;> simp [eqV]
theorem JM {a b:D} (ha:flat a=true) (hb:flat b=true):deq a b=eqV (flV a) (flV b):=by
 cases a <;> cases b <;> first | (simp [flat] at ha; done) | (simp [flat] at hb; done) | simp [deq]
theorem zy {n:Nat} {d:D} (h:eqb n d=true):flat d=true∨(∃ m ds,n=m+1∧d=.tup ds∧∀ e∈ds,eqb m e=true)∨(∃ m ds,n=m+1∧d=.lst ds∧∀ e∈ds,eqb m e=true):=by
 cases d with
 | tup ds =>
  cases n with
  | zero=>simp [eqb] at h
  | succ m=>exact .inr (.inl ⟨m,ds,rfl,rfl,by simpa [eqb] using h⟩)
 | lst ds =>
  cases n with
  | zero=>simp [eqb] at h
  | succ m=>exact .inr (.inr ⟨m,ds,rfl,rfl,by simpa [eqb] using h⟩)
 | fn x=>cases n <;> simp [eqb] at h
 | dic=>cases n <;> simp [eqb] at h
 | exn x=>cases n <;> simp [eqb] at h
 | _=>exact .inl rfl
theorem zAZ (I:Inv X pins σ H s):∀ (n:Nat) (d e:D) (x:V),eqb n d=true→eqb n e=true→Rep X.K X.mg H d x→Rep X.K X.mg H e x→deq d e=true:=by
 intro n
 induction n with
 | zero =>
  intro d e x hd he rd re;have fd:=jv hd;have fe:=jv he;rw [JM fd fe,← zV fd rd,← zV fe re];exact zAY (by rw [zV fd rd]; exact yL fd)
 | succ n ih =>
  intro d e x hd he rd re;have seq:∀ (ds es:List D) (xs:List V),(∀ e∈ds,eqb n e=true)→(∀ e∈es,eqb n e=true)→Reps X.K X.mg H ds xs→Reps X.K X.mg H es xs→deqs ds es=true:=by
   intro ds
   induction ds with
   | nil =>
    intro es xs _ _ r1 r2;simp only [Reps] at r1; subst r1;cases es with
    | nil=>rfl
    | cons e es=>simp only [Reps] at r2; obtain ⟨v,r,q,_⟩:=r2; cases q
   | cons d ds ihd =>
    intro es xs h1 h2 r1 r2;simp only [Reps] at r1;obtain ⟨v,r,rfl,a1,a2⟩:=r1;cases es with
    | nil=>simp only [Reps] at r2; cases r2
    | cons e es =>
     simp only [Reps] at r2;obtain ⟨v',r',q,b1,b2⟩:=r2;cases q;simp only [deqs,Bool.and_eq_true];exact ⟨ih d e v (h1 d mem_cons_self) (h2 e mem_cons_self) a1 b1,ihd es r (fun z hz=>h1 z (mem_cons_of_mem _ hz)) (fun z hz=>h2 z (mem_cons_of_mem _ hz)) a2 b2⟩
  have isRef:∀ {d:D} {a:Addr},flat d=true→Rep X.K X.mg H d (.ref a)→False:=fun {d a} fd r=>by
   have:=zV fd r;cases d <;> simp [flat] at fd <;> cases this
  have kinds:∀ {a:Addr} {xs ys:List V},SqT X.K H a xs→SqL X.K H a ys→False:=fun {a xs ys} h1 h2=>by
   obtain ⟨i1,_,⟨o,e1,c1,_⟩,_⟩:=I.tuple h1;obtain ⟨i2,_,⟨o2,n2,e2,c2,_⟩,_⟩:=I.list h2;rw [e1] at e2; cases e2;rw [c1] at c2; simp at c2
  rcases zy hd with fd | ⟨m,ds,em,rfl,hds⟩ | ⟨m,ds,em,rfl,hds⟩
  ·rcases zy he with fe | ⟨m,es,em,rfl,hes⟩ | ⟨m,es,em,rfl,hes⟩
   ·rw [JM fd fe,← zV fd rd,← zV fe re]
    exact zAY (by rw [zV fd rd]; exact yL fd)
   ·obtain ⟨a,xs,rfl,_,_⟩:=zb re
    exact (isRef fd rd).elim
   ·obtain ⟨a,xs,rfl,_,_⟩:=zS re
    exact (isRef fd rd).elim
  ·cases em
   obtain ⟨a,xs,rfl,q1,q2⟩:=zb rd;rcases zy he with fe | ⟨m,es,em,rfl,hes⟩ | ⟨m,es,em,rfl,hes⟩
   ·exact (isRef fe re).elim
   ·cases em
    obtain ⟨b,ys,e,p1,p2⟩:=zb re;cases e;have:=I.tuple_inj q1 p1; subst this;simp only [deq]; exact seq ds es xs hds hes q2 p2
   ·obtain ⟨b,ys,e,p1,p2⟩:=zS re
    cases e;exact (kinds q1 p1).elim
  ·cases em
   obtain ⟨a,xs,rfl,q1,q2⟩:=zS rd;rcases zy he with fe | ⟨m,es,em,rfl,hes⟩ | ⟨m,es,em,rfl,hes⟩
   ·exact (isRef fe re).elim
   ·obtain ⟨b,ys,e,p1,p2⟩:=zb re
    cases e;exact (kinds p1 q1).elim
   ·cases em
    obtain ⟨b,ys,e,p1,p2⟩:=zS re;cases e;have:=I.list_inj q1 p1; subst this;simp only [deq]; exact seq ds es xs hds hes q2 p2
theorem Y3 {ds:List D} {xs:List V} {us:List Value} (r:Reps X.K X.mg H ds xs) (v:z9 xs us) {j:Nat} (h:j < us.length):j < ds.length∧∃ x,Rep X.K X.mg H (ds.getD j .non) x∧yK x us[j]:=by
 have l1:=r.length;have l2:=v.length;have hd:j < ds.length:=by omega
 refine ⟨hd,?_⟩;obtain ⟨x,q1,q2⟩:=r.get' (i:=j) (d:=ds[j]) (by simp [hd]);obtain ⟨u,e1,e2⟩:=v.get q1;have:us[j]=u:=by
  have:=List.getElem?_eq_some_iff.mp e1;exact this.2
 refine ⟨x,?_,by rw [this]; exact e2⟩;rw [getD_eq_getElem?_getD,getElem?_eq_getElem hd];exact q2
theorem eqAt_ft {A:Around} {d:D} {x:V} {u:Value} {b:Addr} {its:Array Value} (hd:flat d=true) (rx:yK x u) (ex:x=flV d) (hb:s.heap.IsTuple b its) (hu:A.units < cLine):SeqAt.EqAt A s u (.ref b) false:=by
 subst ex;cases d with
 | non=>cases rx; exact SeqAt.EqAt.none_tuple hb hu
 | bl c=>cases rx; exact SeqAt.EqAt.bool_tuple c hb hu
 | int i=>obtain ⟨t,rfl⟩:=rx; exact SeqAt.EqAt.int_tuple i t hb hu
 | str z=>obtain ⟨t,rfl⟩:=rx; exact SeqAt.EqAt.str_tuple z t hb hu
 | _=>simp [flat] at hd
theorem eqAt_fl {A:Around} {d:D} {x:V} {u:Value} {b:Addr} {its:Array Value} (hd:flat d=true) (rx:yK x u) (ex:x=flV d) (hb:s.heap.IsList b its) (hu:A.units < cLine):SeqAt.EqAt A s u (.ref b) false:=by
 subst ex;cases d with
 | non=>cases rx; exact SeqAt.EqAt.none_list hb hu
 | bl c=>cases rx; exact SeqAt.EqAt.bool_list c hb hu
 | int i=>obtain ⟨t,rfl⟩:=rx; exact SeqAt.EqAt.int_list i t hb hu
 | str z=>obtain ⟨t,rfl⟩:=rx; exact SeqAt.EqAt.str_list z t hb hu
 | _=>simp [flat] at hd
theorem eqAt_tf {A:Around} {d:D} {x:V} {u:Value} {b:Addr} {its:Array Value} (hd:flat d=true) (rx:yK x u) (ex:x=flV d) (hb:s.heap.IsTuple b its) (hu:A.units < cLine):SeqAt.EqAt A s (.ref b) u false:=by
 subst ex;cases d with
 | non=>cases rx; exact SeqAt.EqAt.tuple_none hb hu
 | bl c=>cases rx; exact SeqAt.EqAt.tuple_bool c hb hu
 | int i=>obtain ⟨t,rfl⟩:=rx; exact SeqAt.EqAt.tuple_int i t hb hu
 | str z=>obtain ⟨t,rfl⟩:=rx; exact SeqAt.EqAt.tuple_str z t hb hu
 | _=>simp [flat] at hd
theorem eqAt_lf {A:Around} {d:D} {x:V} {u:Value} {b:Addr} {its:Array Value} (hd:flat d=true) (rx:yK x u) (ex:x=flV d) (hb:s.heap.IsList b its) (hu:A.units < cLine):SeqAt.EqAt A s (.ref b) u false:=by
 subst ex;cases d with
 | non=>cases rx; exact SeqAt.EqAt.list_none hb hu
 | bl c=>cases rx; exact SeqAt.EqAt.list_bool c hb hu
 | int i=>obtain ⟨t,rfl⟩:=rx; exact SeqAt.EqAt.list_int i t hb hu
 | str z=>obtain ⟨t,rfl⟩:=rx; exact SeqAt.EqAt.list_str z t hb hu
 | _=>simp [flat] at hd
theorem zCO {d:D} {ds:List D} (h:flat d=true):deq d (.tup ds)=false:=by cases d <;> simp [flat] at h <;> simp [deq]
theorem zCP {d:D} {ds:List D} (h:flat d=true):deq d (.lst ds)=false:=by cases d <;> simp [flat] at h <;> simp [deq]
theorem zCQ {d:D} {ds:List D} (h:flat d=true):deq (.tup ds) d=false:=by cases d <;> simp [flat] at h <;> simp [deq]
theorem zCR {d:D} {ds:List D} (h:flat d=true):deq (.lst ds) d=false:=by cases d <;> simp [flat] at h <;> simp [deq]
theorem eqAtD (I:Inv X pins σ H s):∀ (n:Nat) (A:Around) (d e:D) (x y:V) (u v:Value),eqb n d=true→eqb n e=true→Rep X.K X.mg H d x→Rep X.K X.mg H e y→yK x u→yK y v→A.units+n < cLine→SeqAt.EqAt A s u v (deq d e):=by
 intro n
 induction n with
 | zero =>
  intro A d e x y u v hd he rd re rx ry hu;have fd:=jv hd;have fe:=jv he;rw [JM fd fe,← zV fd rd,← zV fe re];exact zBs rx ry (by rw [zV fd rd]; exact yL fd) (by rw [zV fe re]; exact yL fe)
 | succ n ih =>
  intro A d e x y u v hd he rd re rx ry hu;have hu0:A.units < cLine:=by omega
  have item:∀ {ds es:List D} {xs ys:List V} {us vs:List Value},(∀ e∈ds,eqb n e=true)→(∀ e∈es,eqb n e=true)→Reps X.K X.mg H ds xs→Reps X.K X.mg H es ys→z9 xs us→z9 ys vs →
    ∀ j (h1:j < us.toArray.size) (h2:j < vs.toArray.size),SeqAt.EqAt A.in1 s us.toArray[j] vs.toArray[j] (deq (ds.getD j .non) (es.getD j .non)):=by
   intro ds es xs ys us vs k1 k2 r1 r2 v1 v2 j h1 h2;have h1':j < us.length:=by simpa using h1
   have h2':j < vs.length:=by simpa using h2
   obtain ⟨l1,x1,a1,b1⟩:=Y3 r1 v1 h1';obtain ⟨l2,x2,a2,b2⟩:=Y3 r2 v2 h2';rw [getElem_toArray,getElem_toArray];have m1:ds.getD j .non∈ds:=by rw [getD_eq_getElem?_getD,getElem?_eq_getElem l1]; exact getElem_mem l1
   have m2:es.getD j .non∈es:=by rw [getD_eq_getElem?_getD,getElem?_eq_getElem l2]; exact getElem_mem l2
   exact ih A.in1 _ _ x1 x2 _ _ (k1 _ m1) (k2 _ m2) a1 a2 b1 b2 (by show A.units+1+n < cLine; omega)
  rcases zy hd with fd | ⟨m,ds,em,rfl,hds⟩ | ⟨m,ds,em,rfl,hds⟩
  ·have ex:=zV fd rd
   rcases zy he with fe | ⟨m,es,em,rfl,hes⟩ | ⟨m,es,em,rfl,hes⟩
   ·rw [JM fd fe,← zV fd rd,← zV fe re]
    exact zBs rx ry (by rw [zV fd rd]; exact yL fd) (by rw [zV fe re]; exact yL fe)
   ·obtain ⟨b,ys,rfl,p1,p2⟩:=zb re
    cases ry;obtain ⟨its,_,pl,_⟩:=I.tuple p1;rw [zCO fd]; exact eqAt_ft fd rx ex pl hu0
   ·obtain ⟨b,ys,rfl,p1,p2⟩:=zS re
    cases ry;obtain ⟨its,_,pl,_⟩:=I.list p1;rw [zCP fd]; exact eqAt_fl fd rx ex pl.isList hu0
  ·cases em
   obtain ⟨a,xs,rfl,q1,q2⟩:=zb rd;cases rx;obtain ⟨us,v1,pl1,_⟩:=I.tuple q1;rcases zy he with fe | ⟨m,es,em,rfl,hes⟩ | ⟨m,es,em,rfl,hes⟩
   ·rw [zCQ fe]; exact eqAt_tf fe ry (zV fe re) pl1 hu0
   ·cases em
    obtain ⟨b,ys,rfl,p1,p2⟩:=zb re;cases ry;obtain ⟨vs,v2,pl2,_⟩:=I.tuple p1;by_cases hab:a=b
    ·subst hab
     rw [zAZ I (n+1) _ _ _ hd he rd re];exact SeqAt.EqAt.same _
    ·have q:=SeqAt.EqAt.of_refs hab (SeqAt.RcAt.tuples pl1 pl2 hu0 (item hds hes q2 p2 v1 v2))
     simp only [deq];rw [we];have l1:us.toArray.size=ds.length:=by rw [size_toArray,← v1.length,q2.length]
     have l2:vs.toArray.size=es.length:=by rw [size_toArray,← v2.length,p2.length]
     rw [l1,l2] at q;exact q
   ·obtain ⟨b,ys,rfl,p1,p2⟩:=zS re
    cases ry;obtain ⟨vs,v2,pl2,_⟩:=I.list p1;simp only [deq];exact SeqAt.EqAt.tuple_list pl1 pl2.isList hu0
  ·cases em
   obtain ⟨a,xs,rfl,q1,q2⟩:=zS rd;cases rx;obtain ⟨us,v1,pl1,_⟩:=I.list q1;rcases zy he with fe | ⟨m,es,em,rfl,hes⟩ | ⟨m,es,em,rfl,hes⟩
   ·rw [zCR fe]; exact eqAt_lf fe ry (zV fe re) pl1.isList hu0
   ·obtain ⟨b,ys,rfl,p1,p2⟩:=zb re
    cases ry;obtain ⟨vs,v2,pl2,_⟩:=I.tuple p1;simp only [deq];exact SeqAt.EqAt.list_tuple pl1.isList pl2 hu0
   ·cases em
    obtain ⟨b,ys,rfl,p1,p2⟩:=zS re;cases ry;obtain ⟨vs,v2,pl2,_⟩:=I.list p1;have l1:us.toArray.size=ds.length:=by rw [size_toArray,← v1.length,q2.length]
    have l2:vs.toArray.size=es.length:=by rw [size_toArray,← v2.length,p2.length]
    by_cases hab:a=b
    ·subst hab
     rw [zAZ I (n+1) _ _ _ hd he rd re];exact SeqAt.EqAt.same _
    ·simp only [deq]
     rw [we];by_cases hl:ds.length=es.length
     ·have q:=SeqAt.EqAt.of_refs hab (SeqAt.RcAt.lists pl1.isList pl2.isList (by rw [l1,l2,hl]) hu0 (item hds hes q2 p2 v1 v2))
      rw [l1] at q;rw [hl] at q ⊢;simpa using q
     ·have q:=SeqAt.EqAt.of_refs hab (SeqAt.RcAt.lists_lengths (A:=A) pl1.isList pl2.isList (by rw [l1,l2]; simpa using hl) hu0)
      have e:(ds.length == es.length)=false:=by simpa using hl
      rw [e,Bool.and_false];exact q
theorem rcAt_V {A:Around} {y x:V} {u v:Value} (ry:yK y u) (rx:yK x v) (fy:JW y=true) (fx:JW x=true):SeqAt.RcAt A s u v (eqV y x):=by
 cases y with
 | non =>
  cases ry;cases x with
  | non=>cases rx; exact SeqAt.RcAt.none_none
  | bl b=>cases rx; exact SeqAt.RcAt.none_bool  b
  | int b=>obtain ⟨t2,rfl⟩:=rx; exact SeqAt.RcAt.none_int  b t2
  | str b=>obtain ⟨t2,rfl⟩:=rx; exact SeqAt.RcAt.none_str  b t2
  | _=>exact absurd (show false=true from fx) Bool.false_ne_true
 | bl a =>
  cases ry;cases x with
  | non=>cases rx; exact SeqAt.RcAt.bool_none a
  | bl b=>cases rx; exact SeqAt.RcAt.bool_bool a b
  | int b=>obtain ⟨t2,rfl⟩:=rx; exact SeqAt.RcAt.bool_int a b t2
  | str b=>obtain ⟨t2,rfl⟩:=rx; exact SeqAt.RcAt.bool_str a b t2
  | _=>exact absurd (show false=true from fx) Bool.false_ne_true
 | int a =>
  obtain ⟨t,rfl⟩:=ry;cases x with
  | non=>cases rx; exact SeqAt.RcAt.int_none a t
  | bl b=>cases rx; exact SeqAt.RcAt.int_bool a t b
  | int b=>obtain ⟨t2,rfl⟩:=rx; exact SeqAt.RcAt.int_int a t b t2
  | str b=>obtain ⟨t2,rfl⟩:=rx; exact SeqAt.RcAt.int_str a t b t2
  | _=>exact absurd (show false=true from fx) Bool.false_ne_true
 | str a =>
  obtain ⟨t,rfl⟩:=ry;cases x with
  | non=>cases rx; exact SeqAt.RcAt.str_none a t
  | bl b=>cases rx; exact SeqAt.RcAt.str_bool a t b
  | int b=>obtain ⟨t2,rfl⟩:=rx; exact SeqAt.RcAt.str_int a t b t2
  | str b=>obtain ⟨t2,rfl⟩:=rx; exact SeqAt.RcAt.str_str a t b t2
  | _=>exact absurd (show false=true from fx) Bool.false_ne_true
 | _=>exact absurd (show false=true from fy) Bool.false_ne_true
theorem rcNe_V {A:Around} {y x:V} {u v:Value} (ry:yK y u) (rx:yK x v) (fy:JW y=true) (fx:JW x=true):SeqAt.RcNeAt A s u v (!eqV y x):=by
 cases y with
 | non =>
  cases ry;cases x with
  | non=>cases rx; exact SeqAt.RcNeAt.none_none
  | bl b=>cases rx; exact SeqAt.RcNeAt.none_bool  b
  | int b=>obtain ⟨t2,rfl⟩:=rx; exact SeqAt.RcNeAt.none_int  b t2
  | str b=>obtain ⟨t2,rfl⟩:=rx; exact SeqAt.RcNeAt.none_str  b t2
  | _=>exact absurd (show false=true from fx) Bool.false_ne_true
 | bl a =>
  cases ry;cases x with
  | non=>cases rx; exact SeqAt.RcNeAt.bool_none a
  | bl b=>cases rx; exact SeqAt.RcNeAt.bool_bool a b
  | int b=>obtain ⟨t2,rfl⟩:=rx; exact SeqAt.RcNeAt.bool_int a b t2
  | str b=>obtain ⟨t2,rfl⟩:=rx; exact SeqAt.RcNeAt.bool_str a b t2
  | _=>exact absurd (show false=true from fx) Bool.false_ne_true
 | int a =>
  obtain ⟨t,rfl⟩:=ry;cases x with
  | non=>cases rx; exact SeqAt.RcNeAt.int_none a t
  | bl b=>cases rx; exact SeqAt.RcNeAt.int_bool a t b
  | int b=>obtain ⟨t2,rfl⟩:=rx; exact SeqAt.RcNeAt.int_int a t b t2
  | str b=>obtain ⟨t2,rfl⟩:=rx; exact SeqAt.RcNeAt.int_str a t b t2
  | _=>exact absurd (show false=true from fx) Bool.false_ne_true
 | str a =>
  obtain ⟨t,rfl⟩:=ry;cases x with
  | non=>cases rx; exact SeqAt.RcNeAt.str_none a t
  | bl b=>cases rx; exact SeqAt.RcNeAt.str_bool a t b
  | int b=>obtain ⟨t2,rfl⟩:=rx; exact SeqAt.RcNeAt.str_int a t b t2
  | str b=>obtain ⟨t2,rfl⟩:=rx; exact SeqAt.RcNeAt.str_str a t b t2
  | _=>exact absurd (show false=true from fx) Bool.false_ne_true
 | _=>exact absurd (show false=true from fy) Bool.false_ne_true
theorem rc_ft {A:Around} {d:D} {x:V} {u:Value} {b:Addr} {its:Array Value} (hd:flat d=true) (rx:yK x u) (ex:x=flV d) (hb:s.heap.IsTuple b its) (hu:A.units < cLine):SeqAt.RcAt A s u (.ref b) false:=by
 subst ex;cases d with
 | non=>cases rx; exact SeqAt.RcAt.none_tuple hb hu
 | bl c=>cases rx; exact SeqAt.RcAt.bool_tuple c hb hu
 | int c=>obtain ⟨t,rfl⟩:=rx; exact SeqAt.RcAt.int_tuple c t hb hu
 | str c=>obtain ⟨t,rfl⟩:=rx; exact SeqAt.RcAt.str_tuple c t hb hu
 | _=>simp [flat] at hd
theorem rc_fl {A:Around} {d:D} {x:V} {u:Value} {b:Addr} {its:Array Value} (hd:flat d=true) (rx:yK x u) (ex:x=flV d) (hb:s.heap.IsList b its) (hu:A.units < cLine):SeqAt.RcAt A s u (.ref b) false:=by
 subst ex;cases d with
 | non=>cases rx; exact SeqAt.RcAt.none_list hb hu
 | bl c=>cases rx; exact SeqAt.RcAt.bool_list c hb hu
 | int c=>obtain ⟨t,rfl⟩:=rx; exact SeqAt.RcAt.int_list c t hb hu
 | str c=>obtain ⟨t,rfl⟩:=rx; exact SeqAt.RcAt.str_list c t hb hu
 | _=>simp [flat] at hd
theorem rc_tf {A:Around} {d:D} {x:V} {u:Value} {b:Addr} {its:Array Value} (hd:flat d=true) (rx:yK x u) (ex:x=flV d) (hb:s.heap.IsTuple b its) (hu:A.units < cLine):SeqAt.RcAt A s (.ref b) u false:=by
 subst ex;cases d with
 | non=>cases rx; exact SeqAt.RcAt.tuple_none hb hu
 | bl c=>cases rx; exact SeqAt.RcAt.tuple_bool c hb hu
 | int c=>obtain ⟨t,rfl⟩:=rx; exact SeqAt.RcAt.tuple_int c t hb hu
 | str c=>obtain ⟨t,rfl⟩:=rx; exact SeqAt.RcAt.tuple_str c t hb hu
 | _=>simp [flat] at hd
theorem rc_lf {A:Around} {d:D} {x:V} {u:Value} {b:Addr} {its:Array Value} (hd:flat d=true) (rx:yK x u) (ex:x=flV d) (hb:s.heap.IsList b its) (hu:A.units < cLine):SeqAt.RcAt A s (.ref b) u false:=by
 subst ex;cases d with
 | non=>cases rx; exact SeqAt.RcAt.list_none hb hu
 | bl c=>cases rx; exact SeqAt.RcAt.list_bool c hb hu
 | int c=>obtain ⟨t,rfl⟩:=rx; exact SeqAt.RcAt.list_int c t hb hu
 | str c=>obtain ⟨t,rfl⟩:=rx; exact SeqAt.RcAt.list_str c t hb hu
 | _=>simp [flat] at hd
theorem rn_ft {A:Around} {d:D} {x:V} {u:Value} {b:Addr} {its:Array Value} (hd:flat d=true) (rx:yK x u) (ex:x=flV d) (hb:s.heap.IsTuple b its) (hu:A.units < cLine):SeqAt.RcNeAt A s u (.ref b) true:=by
 subst ex;cases d with
 | non=>cases rx; exact SeqAt.RcNeAt.none_tuple hb hu
 | bl c=>cases rx; exact SeqAt.RcNeAt.bool_tuple c hb hu
 | int c=>obtain ⟨t,rfl⟩:=rx; exact SeqAt.RcNeAt.int_tuple c t hb hu
 | str c=>obtain ⟨t,rfl⟩:=rx; exact SeqAt.RcNeAt.str_tuple c t hb hu
 | _=>simp [flat] at hd
theorem rn_fl {A:Around} {d:D} {x:V} {u:Value} {b:Addr} {its:Array Value} (hd:flat d=true) (rx:yK x u) (ex:x=flV d) (hb:s.heap.IsList b its) (hu:A.units < cLine):SeqAt.RcNeAt A s u (.ref b) true:=by
 subst ex;cases d with
 | non=>cases rx; exact SeqAt.RcNeAt.none_list hb hu
 | bl c=>cases rx; exact SeqAt.RcNeAt.bool_list c hb hu
 | int c=>obtain ⟨t,rfl⟩:=rx; exact SeqAt.RcNeAt.int_list c t hb hu
 | str c=>obtain ⟨t,rfl⟩:=rx; exact SeqAt.RcNeAt.str_list c t hb hu
 | _=>simp [flat] at hd
theorem rn_tf {A:Around} {d:D} {x:V} {u:Value} {b:Addr} {its:Array Value} (hd:flat d=true) (rx:yK x u) (ex:x=flV d) (hb:s.heap.IsTuple b its) (hu:A.units < cLine):SeqAt.RcNeAt A s (.ref b) u true:=by
 subst ex;cases d with
 | non=>cases rx; exact SeqAt.RcNeAt.tuple_none hb hu
 | bl c=>cases rx; exact SeqAt.RcNeAt.tuple_bool c hb hu
 | int c=>obtain ⟨t,rfl⟩:=rx; exact SeqAt.RcNeAt.tuple_int c t hb hu
 | str c=>obtain ⟨t,rfl⟩:=rx; exact SeqAt.RcNeAt.tuple_str c t hb hu
 | _=>simp [flat] at hd
theorem rn_lf {A:Around} {d:D} {x:V} {u:Value} {b:Addr} {its:Array Value} (hd:flat d=true) (rx:yK x u) (ex:x=flV d) (hb:s.heap.IsList b its) (hu:A.units < cLine):SeqAt.RcNeAt A s (.ref b) u true:=by
 subst ex;cases d with
 | non=>cases rx; exact SeqAt.RcNeAt.list_none hb hu
 | bl c=>cases rx; exact SeqAt.RcNeAt.list_bool c hb hu
 | int c=>obtain ⟨t,rfl⟩:=rx; exact SeqAt.RcNeAt.list_int c t hb hu
 | str c=>obtain ⟨t,rfl⟩:=rx; exact SeqAt.RcNeAt.list_str c t hb hu
 | _=>simp [flat] at hd
theorem rcAtD (I:Inv X pins σ H s) (n:Nat) (A:Around) (d e:D) (x y:V) (u v:Value) (hd:eqb n d=true) (he:eqb n e=true) (rd:Rep X.K X.mg H d x) (re:Rep X.K X.mg H e y) (rx:yK x u) (ry:yK y v) (hu:A.units+n < cLine):SeqAt.RcAt A s u v (deq d e):=by
 have hu0:A.units < cLine:=by omega
 have item:∀ {m:Nat} {ds es:List D} {xs ys:List V} {us vs:List Value},n=m+1→(∀ e∈ds,eqb m e=true)→(∀ e∈es,eqb m e=true)→Reps X.K X.mg H ds xs→Reps X.K X.mg H es ys→z9 xs us→z9 ys vs →
   ∀ j (h1:j < us.toArray.size) (h2:j < vs.toArray.size),SeqAt.EqAt A.in1 s us.toArray[j] vs.toArray[j] (deq (ds.getD j .non) (es.getD j .non)):=by
  intro m ds es xs ys us vs hm k1 k2 r1 r2 v1 v2 j h1 h2;have h1':j < us.length:=by simpa using h1
  have h2':j < vs.length:=by simpa using h2
  obtain ⟨l1,x1,a1,b1⟩:=Y3 r1 v1 h1';obtain ⟨l2,x2,a2,b2⟩:=Y3 r2 v2 h2';rw [getElem_toArray,getElem_toArray];have m1:ds.getD j .non∈ds:=by rw [getD_eq_getElem?_getD,getElem?_eq_getElem l1]; exact getElem_mem l1
  have m2:es.getD j .non∈es:=by rw [getD_eq_getElem?_getD,getElem?_eq_getElem l2]; exact getElem_mem l2
  exact eqAtD I m A.in1 _ _ x1 x2 _ _ (k1 _ m1) (k2 _ m2) a1 a2 b1 b2 (by show A.units+1+m < cLine; omega)
 rcases zy hd with fd | ⟨m,ds,em,rfl,hds⟩ | ⟨m,ds,em,rfl,hds⟩
 ·have ex:=zV fd rd
  rcases zy he with fe | ⟨m,es,em,rfl,hes⟩ | ⟨m,es,em,rfl,hes⟩
  ·rw [JM fd fe,← zV fd rd,← zV fe re]
   exact rcAt_V rx ry (by rw [zV fd rd]; exact yL fd) (by rw [zV fe re]; exact yL fe)
  ·obtain ⟨b,ys,rfl,p1,p2⟩:=zb re
   cases ry;obtain ⟨its,_,pl,_⟩:=I.tuple p1;rw [zCO fd]; exact rc_ft fd rx ex pl hu0
  ·obtain ⟨b,ys,rfl,p1,p2⟩:=zS re
   cases ry;obtain ⟨its,_,pl,_⟩:=I.list p1;rw [zCP fd]; exact rc_fl fd rx ex pl.isList hu0
 ·obtain ⟨a,xs,rfl,q1,q2⟩:=zb rd
  cases rx;obtain ⟨us,v1,pl1,_⟩:=I.tuple q1;rcases zy he with fe | ⟨m',es,em',rfl,hes⟩ | ⟨m',es,em',rfl,hes⟩
  ·rw [zCQ fe]; exact rc_tf fe ry (zV fe re) pl1 hu0
  ·have:m=m':=by omega
   subst this;obtain ⟨b,ys,rfl,p1,p2⟩:=zb re;cases ry;obtain ⟨vs,v2,pl2,_⟩:=I.tuple p1;have q:=SeqAt.RcAt.tuples pl1 pl2 hu0 (item em hds hes q2 p2 v1 v2);simp only [deq];rw [we];have l1:us.toArray.size=ds.length:=by rw [size_toArray,← v1.length,q2.length]
   have l2:vs.toArray.size=es.length:=by rw [size_toArray,← v2.length,p2.length]
   rw [l1,l2] at q;exact q
  ·obtain ⟨b,ys,rfl,p1,p2⟩:=zS re
   cases ry;obtain ⟨vs,v2,pl2,_⟩:=I.list p1;simp only [deq];exact SeqAt.RcAt.tuple_list pl1 pl2.isList hu0
 ·obtain ⟨a,xs,rfl,q1,q2⟩:=zS rd
  cases rx;obtain ⟨us,v1,pl1,_⟩:=I.list q1;rcases zy he with fe | ⟨m',es,em',rfl,hes⟩ | ⟨m',es,em',rfl,hes⟩
  ·rw [zCR fe]; exact rc_lf fe ry (zV fe re) pl1.isList hu0
  ·obtain ⟨b,ys,rfl,p1,p2⟩:=zb re
   cases ry;obtain ⟨vs,v2,pl2,_⟩:=I.tuple p1;simp only [deq];exact SeqAt.RcAt.list_tuple pl1.isList pl2 hu0
  ·have:m=m':=by omega
   subst this;obtain ⟨b,ys,rfl,p1,p2⟩:=zS re;cases ry;obtain ⟨vs,v2,pl2,_⟩:=I.list p1;have l1:us.toArray.size=ds.length:=by rw [size_toArray,← v1.length,q2.length]
   have l2:vs.toArray.size=es.length:=by rw [size_toArray,← v2.length,p2.length]
   simp only [deq];rw [we];by_cases hl:ds.length=es.length
   ·have q:=SeqAt.RcAt.lists pl1.isList pl2.isList (by rw [l1,l2,hl]) hu0 (item em hds hes q2 p2 v1 v2)
    rw [l1] at q;rw [hl] at q ⊢;simpa using q
   ·have q:=SeqAt.RcAt.lists_lengths (A:=A) pl1.isList pl2.isList (by rw [l1,l2]; simpa using hl) hu0
    have e:(ds.length == es.length)=false:=by simpa using hl
    rw [e,Bool.and_false];exact q
theorem rcNeD (I:Inv X pins σ H s) (n:Nat) (A:Around) (d e:D) (x y:V) (u v:Value) (hd:eqb n d=true) (he:eqb n e=true) (rd:Rep X.K X.mg H d x) (re:Rep X.K X.mg H e y) (rx:yK x u) (ry:yK y v) (hu:A.units+n < cLine):SeqAt.RcNeAt A s u v (!deq d e):=by
 have hu0:A.units < cLine:=by omega
 have item:∀ {m:Nat} {ds es:List D} {xs ys:List V} {us vs:List Value},n=m+1→(∀ e∈ds,eqb m e=true)→(∀ e∈es,eqb m e=true)→Reps X.K X.mg H ds xs→Reps X.K X.mg H es ys→z9 xs us→z9 ys vs →
   ∀ j (h1:j < us.toArray.size) (h2:j < vs.toArray.size),SeqAt.EqAt A.in1 s us.toArray[j] vs.toArray[j] (deq (ds.getD j .non) (es.getD j .non)):=by
  intro m ds es xs ys us vs hm k1 k2 r1 r2 v1 v2 j h1 h2;have h1':j < us.length:=by simpa using h1
  have h2':j < vs.length:=by simpa using h2
  obtain ⟨l1,x1,a1,b1⟩:=Y3 r1 v1 h1';obtain ⟨l2,x2,a2,b2⟩:=Y3 r2 v2 h2';rw [getElem_toArray,getElem_toArray];have m1:ds.getD j .non∈ds:=by rw [getD_eq_getElem?_getD,getElem?_eq_getElem l1]; exact getElem_mem l1
  have m2:es.getD j .non∈es:=by rw [getD_eq_getElem?_getD,getElem?_eq_getElem l2]; exact getElem_mem l2
  exact eqAtD I m A.in1 _ _ x1 x2 _ _ (k1 _ m1) (k2 _ m2) a1 a2 b1 b2 (by show A.units+1+m < cLine; omega)
 rcases zy hd with fd | ⟨m,ds,em,rfl,hds⟩ | ⟨m,ds,em,rfl,hds⟩
 ·have ex:=zV fd rd
  rcases zy he with fe | ⟨m,es,em,rfl,hes⟩ | ⟨m,es,em,rfl,hes⟩
  ·rw [JM fd fe,← zV fd rd,← zV fe re]
   exact rcNe_V rx ry (by rw [zV fd rd]; exact yL fd) (by rw [zV fe re]; exact yL fe)
  ·obtain ⟨b,ys,rfl,p1,p2⟩:=zb re
   cases ry;obtain ⟨its,_,pl,_⟩:=I.tuple p1;rw [zCO fd]; exact rn_ft fd rx ex pl hu0
  ·obtain ⟨b,ys,rfl,p1,p2⟩:=zS re
   cases ry;obtain ⟨its,_,pl,_⟩:=I.list p1;rw [zCP fd]; exact rn_fl fd rx ex pl.isList hu0
 ·obtain ⟨a,xs,rfl,q1,q2⟩:=zb rd
  cases rx;obtain ⟨us,v1,pl1,_⟩:=I.tuple q1;rcases zy he with fe | ⟨m',es,em',rfl,hes⟩ | ⟨m',es,em',rfl,hes⟩
  ·rw [zCQ fe]; exact rn_tf fe ry (zV fe re) pl1 hu0
  ·have:m=m':=by omega
   subst this;obtain ⟨b,ys,rfl,p1,p2⟩:=zb re;cases ry;obtain ⟨vs,v2,pl2,_⟩:=I.tuple p1;have q:=SeqAt.RcNeAt.tuples pl1 pl2 hu0 (item em hds hes q2 p2 v1 v2);simp only [deq];rw [we];have l1:us.toArray.size=ds.length:=by rw [size_toArray,← v1.length,q2.length]
   have l2:vs.toArray.size=es.length:=by rw [size_toArray,← v2.length,p2.length]
   rw [l1,l2] at q;exact q
  ·obtain ⟨b,ys,rfl,p1,p2⟩:=zS re
   cases ry;obtain ⟨vs,v2,pl2,_⟩:=I.list p1;simp only [deq];exact SeqAt.RcNeAt.tuple_list pl1 pl2.isList hu0
 ·obtain ⟨a,xs,rfl,q1,q2⟩:=zS rd
  cases rx;obtain ⟨us,v1,pl1,_⟩:=I.list q1;rcases zy he with fe | ⟨m',es,em',rfl,hes⟩ | ⟨m',es,em',rfl,hes⟩
  ·rw [zCR fe]; exact rn_lf fe ry (zV fe re) pl1.isList hu0
  ·obtain ⟨b,ys,rfl,p1,p2⟩:=zb re
   cases ry;obtain ⟨vs,v2,pl2,_⟩:=I.tuple p1;simp only [deq];exact SeqAt.RcNeAt.list_tuple pl1.isList pl2 hu0
  ·have:m=m':=by omega
   subst this;obtain ⟨b,ys,rfl,p1,p2⟩:=zS re;cases ry;obtain ⟨vs,v2,pl2,_⟩:=I.list p1;have l1:us.toArray.size=ds.length:=by rw [size_toArray,← v1.length,q2.length]
   have l2:vs.toArray.size=es.length:=by rw [size_toArray,← v2.length,p2.length]
   simp only [deq];rw [we];by_cases hl:ds.length=es.length
   ·have q:=SeqAt.RcNeAt.lists pl1.isList pl2.isList (by rw [l1,l2,hl]) hu0 (item em hds hes q2 p2 v1 v2)
    rw [l1] at q;rw [hl] at q ⊢;simpa using q
   ·have q:=SeqAt.RcNeAt.lists_lengths (A:=A) pl1.isList pl2.isList (by rw [l1,l2]; simpa using hl) hu0
    have e:(ds.length == es.length)=false:=by simpa using hl
    rw [e,Bool.and_false];exact q
end
section
variable {X:Cx} {K:PySem.W.Frag} {mg:Str→Option Value}
def rEqD (K:PySem.W.Frag) (mg:Str→Option Value) (neg:Bool):R2:=fun x y H Q=>∃ d e,eqb 20 d=true∧eqb 20 e=true∧Rep K mg H d x∧Rep K mg H e y∧Q (.bl (if neg then !deq d e else deq d e)) H
theorem zFE (hu:X.A.units+20 < cLine):OpR X (compareOp .Eq) (rEqD X.K X.mg false):=by
 intro pins s σ H x y v u Q I rx ry h;obtain ⟨d,e,h1,h2,r1,r2,q⟩:=h;exact rcAtD I 20 X.A d e x y v u h1 h2 r1 r2 rx ry hu X.prog X.w _ _ ⟨.bl (deq d e),H,I,rfl,q⟩
theorem zFF (hu:X.A.units+20 < cLine):OpR X (compareOp .NotEq) (rEqD X.K X.mg true):=by
 intro pins s σ H x y v u Q I rx ry h;obtain ⟨d,e,h1,h2,r1,r2,q⟩:=h;exact rcNeD I 20 X.A d e x y v u h1 h2 r1 r2 rx ry hu X.prog X.w _ _ ⟨.bl (!deq d e),H,I,rfl,q⟩
def eqDD (neg:Bool) (d e:D):Option R:=if eqb 20 d=true∧eqb 20 e=true then some (.val (.bl (if neg then !deq d e else deq d e))) else none
theorem zFG {neg:Bool}:ROk K mg (rEqD K mg neg) (eqDD neg):=by
 intro M H Z x y d1 d2 res Q f r1 r2 e k;unfold eqDD at e;split at e
 ·rename_i hc
  cases e;exact ⟨d1,d2,hc.1,hc.2,r1.mono zL,r2.mono zL,k.flat f rfl⟩
 ·cases e
end
end DV
namespace L2
open PySem PySem.Spec PyProof.Rows
section
variable {X:Cx}
theorem WA {ns:List Int} {its:List Value} (rv:z9 (ns.map V.int) its) (i:Nat) (v:Value) (hv:its.toArray[i]?=some v):∃ t,v=.int (ns.getD i 0) t:=by
 have hv':its[i]?=some v:=by simpa using hv
 have hi:i < its.length:=(List.getElem?_eq_some_iff.mp hv').1;have hl:=rv.length;have hx:i < (ns.map V.int).length:=by rw [hl]; exact hi
 obtain ⟨u',e1,e2⟩:=rv.get (i:=i) (x:=(ns.map V.int)[i]) (by simp [hx]);rw [hv'] at e1; cases e1;rw [length_map] at hx;rw [List.getElem_map] at e2;obtain ⟨t,e⟩:=(show ∃ t,v=.int (ns[i]) t from e2);exact ⟨t,by rw [e]; simp [hx]⟩
def zEF (ns:List Int):Int:=ns.getD (argBest (fun i j=>decide (ns.getD i 0 > ns.getD j 0)) (ns.length - 1)) 0
theorem zCS (hc:X.calm=true):jm X (.builtin "max") (fun xs H Q=>∃ (p:Addr) (ns:List Int),xs=[.ref p]∧SqL X.K H p (ns.map V.int)∧0 < ns.length∧Q (.int (zEF ns)) H):=by
 intro pins s σ H xs us Q I r h;obtain ⟨p,ns,rfl,hq,hpos,q⟩:=h;obtain ⟨u,rfl,rx⟩:=vE r;cases rx;obtain ⟨its,rv,pl,hz⟩:=I.list hq;have hlen:its.length=ns.length:=by rw [← rv.length,length_map]
 have hp:p < s.heap.objs.size:=by obtain ⟨o,n,e,_⟩:=pl; exact lt_size e
 have hk:∀ b o,s.heap.get? b=some o→(s.heap.push { cls:=.type "list_iterator",data:=.fields #[.ref p,.int 0 0] }).get? b=some o:=fun b o e=>get?_push_of_some _ e
 refine call_max_walk (wpAny_pyIter_list pl.isList ?_);refine ⟨s.heap.objs.size,[s.heap.objs.size,p],[s.heap.objs.size],its.toArray.size,_,_,_,rfl,
  Walks.list (by show X.A.handled=none; exact I.ok.hd hc) _ p (ne_of_lt hp) its.toArray,⟨⟨_,get?_push_size _ rfl,rfl,rfl⟩,?_⟩,?_,?_,CmpOf.ints_gt (fun i=>ns.getD i 0) (WA rv),?_⟩
 ·obtain ⟨o,e,c⟩:=pl.isList
  exact ⟨o,hk _ _ e,c⟩
 ·intro b hb
  rw [size_push];rcases mem_cons.mp hb with rfl | hb
  ·exact lt_succ_self _
  ·have:b=p:=by simpa using hb
   subst this; exact lt_succ_of_lt hp
 ·rw [size_toArray,hlen]; exact hpos
 ·intro v h' tk hP kp
  obtain ⟨t,e⟩:=WA rv _ v hP;subst e;rw [size_toArray,hlen];exact ⟨.int (zEF ns),H,I.kept (t':=tk) fun b o eb=>kp b o (fun m=>by
   have:b=s.heap.objs.size:=by simpa using m
   subst this;exact absurd (lt_size eb) (lt_irrefl _)) (hk b o eb),⟨_,rfl⟩,q⟩
theorem Wf (ns:List Int):∀ k,k≤ns.length→preSum (fun i=>ns.getD i 0) k=(ns.take k).sum
 | 0,_=>by simp [preSum]
 | k+1,h=>by
  have hk:k < ns.length:=by omega
  rw [preSum,Wf ns k (by omega),List.take_add_one,getElem?_eq_getElem hk,List.sum_append];simp [hk]
theorem zCT (hc:X.calm=true):jm X (.builtin "sum") (fun xs H Q=>∃ (p:Addr) (ns:List Int),xs=[.ref p]∧SqL X.K H p (ns.map V.int)∧Q (.int ns.sum) H):=by
 intro pins s σ H xs us Q I r h;obtain ⟨p,ns,rfl,hq,q⟩:=h;obtain ⟨u,rfl,rx⟩:=vE r;cases rx;obtain ⟨its,rv,pl,hz⟩:=I.list hq;have hlen:its.length=ns.length:=by rw [← rv.length,length_map]
 have hp:p < s.heap.objs.size:=by obtain ⟨o,n,e,_⟩:=pl; exact lt_size e
 have hk:∀ b o,s.heap.get? b=some o→(s.heap.push { cls:=.type "list_iterator",data:=.fields #[.ref p,.int 0 0] }).get? b=some o:=fun b o e=>get?_push_of_some _ e
 refine call_sum_walkAnyS (wpAny_pyIter_list pl.isList ?_);refine ⟨s.heap.objs.size,[s.heap.objs.size,p],[s.heap.objs.size],_,its.toArray.size,_,_,fun i=>ns.getD i 0,rfl,
  (Walks.list (by show X.A.handled=none; exact I.ok.hd hc) _ p (ne_of_lt hp) its.toArray).toS,⟨⟨_,get?_push_size _ rfl,rfl,rfl⟩,?_⟩,?_,WA rv,?_⟩
 ·obtain ⟨o,e,c⟩:=pl.isList
  exact ⟨o,hk _ _ e,c⟩
 ·intro b hb
  rw [size_push];rcases mem_cons.mp hb with rfl | hb
  ·exact lt_succ_self _
  ·have:b=p:=by simpa using hb
   subst this; exact lt_succ_of_lt hp
 ·intro s' t' mv
  rw [size_toArray,hlen,Wf ns _ (le_refl _),take_length];obtain ⟨h',g',d',tk,o'⟩:=s';have e1:g'=s.gens:=mv.gens;have e2:d'=s.drawn:=mv.drawn;have e3:o'=s.os:=mv.os;subst e1 e2 e3;exact ⟨.int ns.sum,H,I.kept (t':=tk) fun b o eb=>mv.heap b o (fun m=>by
   have:b=s.heap.objs.size:=by simpa using m
   subst this;exact absurd (lt_size eb) (lt_irrefl _)) (hk b o eb),⟨_,rfl⟩,q⟩
theorem zCU (hc:X.calm=true):jm X (.builtin "sum") (fun xs H Q=>∃ (p:Addr) (ns:List Int),xs=[.ref p]∧SqT X.K H p (ns.map V.int)∧Q (.int ns.sum) H):=by
 intro pins s σ H xs us Q I r h;obtain ⟨p,ns,rfl,hq,q⟩:=h;obtain ⟨u,rfl,rx⟩:=vE r;cases rx;obtain ⟨its,rv,pl,hz⟩:=I.tuple hq;have hlen:its.length=ns.length:=by rw [← rv.length,length_map]
 have hp:p < s.heap.objs.size:=by obtain ⟨o,e,_⟩:=pl; exact lt_size e
 have hk:∀ b o,s.heap.get? b=some o→(s.heap.push { cls:=.type "tuple_iterator",data:=.fields #[.ref p,.int 0 0] }).get? b=some o:=fun b o e=>get?_push_of_some _ e
 refine call_sum_walkAnyS (wpAny_pyIter_tuple (show s.heap.IsTuple p its.toArray from pl) ?_);refine ⟨s.heap.objs.size,[s.heap.objs.size,p],[s.heap.objs.size],_,its.toArray.size,_,_,fun i=>ns.getD i 0,rfl,
  (Walks.tuple (by show X.A.handled=none; exact I.ok.hd hc) _ p (ne_of_lt hp) its.toArray).toS,⟨⟨_,get?_push_size _ rfl,rfl,rfl⟩,?_⟩,?_,WA rv,?_⟩
 ·obtain ⟨o,e,c⟩:=pl
  exact ⟨o,hk _ _ e,c⟩
 ·intro b hb
  rw [size_push];rcases mem_cons.mp hb with rfl | hb
  ·exact lt_succ_self _
  ·have:b=p:=by simpa using hb
   subst this; exact lt_succ_of_lt hp
 ·intro s' t' mv
  rw [size_toArray,hlen,Wf ns _ (le_refl _),take_length];obtain ⟨h',g',d',tk,o'⟩:=s';have e1:g'=s.gens:=mv.gens;have e2:d'=s.drawn:=mv.drawn;have e3:o'=s.os:=mv.os;subst e1 e2 e3;exact ⟨.int ns.sum,H,I.kept (t':=tk) fun b o eb=>mv.heap b o (fun m=>by
   have:b=s.heap.objs.size:=by simpa using m
   subst this;exact absurd (lt_size eb) (lt_irrefl _)) (hk b o eb),⟨_,rfl⟩,q⟩
theorem zBC (a:Int) (t:Tok) (l:Addr) (its:Array Value) (n:Nat) (dd:Option Addr) (sl:Array (Option Value)) :
  Meets (Builtin.«int.__rmul__» ⟨[.int a t,.ref l],[]⟩) (fun _ R s=>s.heap.get? l=some { cls:=.type "list",dict:=dd,data:=.seq its n,slots:=sl }∧R (.ok (.ret Value.notImplemented)) s) :=
 .of_wp fun prog w A R s h=>by
  obtain ⟨hp,g,d,tk,os⟩:=s;obtain ⟨hl,h⟩:=h
  wp_walk
  exact ⟨_,rfl,h⟩
theorem zCV (l:Addr) (its:Array Value) (n:Nat) (dd:Option Addr) (sl:Array (Option Value)) (k:Int) (u:Tok) (h0:¬(!Builtin.List.listFitsIndex k)=true) (h1:¬its.size * k.toNat > (2 ^ 63 - 1) / 8) (h2:¬Builtin.List.listTooLong (its.size * k.toNat)=true) :
  Meets (Builtin.«list.__mul__» ⟨[.ref l,.int k u],[]⟩) (fun _ R s=>s.heap.get? l=some { cls:=.type "list",dict:=dd,data:=.seq its n,slots:=sl } ∧
   R (.ok (.ret (Value.ref s.heap.objs.size))) { s with heap:=s.heap.push { cls:=Value.type "list",data:=Data.seq (foldl (fun a b=>a++b) #[] (replicate (if its.isEmpty=true then 0 else k.toNat) its)) },toks:=s.toks }) :=
 .of_wp fun prog w A R s h=>by
  obtain ⟨hp,g,d,tk,os⟩:=s;obtain ⟨hl,h⟩:=h;have fits:=AutoListH.joined_fits h2
  wp_walk
  refine wpAny_ite_false (decide_eq_false (not_lt.mpr fits)) ?_
  wp_walk
  exact ⟨_,rfl,h⟩
def rRepL (K:PySem.W.Frag):R2:=fun x y H Q=>∃ l k xs,x=.ref l∧y=.int k∧SqL K H l xs∧-(2 ^ 63)≤k∧k < 2 ^ 63∧xs.length * k.toNat≤sizeLine ∧
 ∀ p,H p=none→Q (.ref p) (upd H p (.lst (replicate k.toNat xs).flatten))
theorem op_repL:OpR X (binaryOp .Mult) (rRepL X.K):=by
 intro pins s σ H x y v u Q I rx ry h;obtain ⟨l,k,xs,rfl,rfl,hH,h1,h2,hz,q⟩:=h;cases rx;obtain ⟨t,rfl⟩:=ry;obtain ⟨its,r,pl,_⟩:=I.list hH;have hl:=r.length;obtain ⟨⟨cls,dd,data,sl⟩,n,ho,hc,hdd,hd⟩:=pl;simp only at hc hd;subst hc hd;have hlen:its.toArray.size * k.toNat≤sizeLine:=by rw [size_toArray,← hl]; exact hz
 have c1:¬ its.toArray.size * k.toNat > (2 ^ 63 - 1) / 8:=by
  have:(sizeLine:Nat)≤(2 ^ 63 - 1) / 8:=by decide
  omega
 have c2:¬ (!Builtin.List.listFitsIndex k)=true:=by rw [fitsIndex_both h1 h2]; exact Bool.false_ne_true
 have c3:¬ Builtin.List.listTooLong (its.toArray.size * k.toNat)=true:=by rw [zDl hlen]; exact Bool.false_ne_true
 have hnew:foldl (fun a b=>a++b) #[] (replicate (if its.toArray.isEmpty=true then 0 else k.toNat) its.toArray)=(replicate k.toNat its).flatten.toArray:=by
  have f0:∀ m:Nat,foldl (fun a b=>a++b) #[] (replicate m its.toArray)=(replicate m its).flatten.toArray:=fun m=>by
   have:=WQ its m [];rw [nil_append] at this;exact this
  rw [f0];cases its with
  | nil=>simp
  | cons a r'=>rw [if_neg (by simp)]
 refine wpAny_binaryOp_repeat_ref (T:="list") (U:="int") (by decide) ⟨_,ho,rfl⟩ (fun s'=>typeIs_int s' k t) noFill_list_mul F.fills_int_mul F.slot_int_rmul repeat_list F.slot_int_index.lookup
  (call_meets F.slot_int_rmul (typeIs_int s k t) F.entry_int_rmul (F.args_int_rmul_2 _ _) (zBC k t l its.toArray n dd sl) ⟨ho,rfl,⟨_,ho,rfl⟩,?_⟩)
 refine call_meets F.slot_list_mul ⟨_,ho,rfl⟩ F.entry_list_mul (F.args_list_mul_2 _ _) (zCV l its.toArray n dd sl k t c2 c1 c3) ⟨ho,?_⟩;rw [hnew];exact ⟨.ref _,_,I.lnew (t':=s.toks) (r.rep k.toNat) (by rw [Qa,mul_comm]; exact hz),rfl,q _ I.fresh⟩
def isV:V→V→Option Bool
 | .non,.non=>some true
 | .non,.bl _=>some false
 | .bl _,.non=>some false
 | .bl a,.bl b=>some (a == b)
 | .non,.int _=>some false
 | .int _,.non=>some false
 | .non,.str _=>some false
 | .str _,.non=>some false
 | .ref _,.non=>some false
 | .non,.ref _=>some false
 | .ref _,.bl _=>some false
 | .bl _,.ref _=>some false
 | .int _,.bl _=>some false
 | .bl _,.int _=>some false
 | .str _,.bl _=>some false
 | .bl _,.str _=>some false
 | _,_=>none
theorem zCW {x y:V} {u v:Value} {b:Bool} (h:isV x y=some b) (rx:yK x u) (ry:yK y v):isSame u v=pure b:=by
 cases x <;> cases y <;> simp [isV] at h <;> subst h <;> first
  | (cases rx; cases ry; rfl)
  | (rename_i a b; cases rx; cases ry; cases a <;> cases b <;> rfl)
  | (cases rx; obtain ⟨t,rfl⟩:=ry; rfl)
  | (obtain ⟨t,rfl⟩:=rx; cases ry; rfl)
theorem op_is:OpR X (compareOp .Is) (fun x y H Q=>∃ b,isV x y=some b∧Q (.bl b) H):=by
 intro pins s σ H x y v u Q I rx ry h;obtain ⟨b,hb,q⟩:=h;show wpAny _ _ (isSame v u >>= fun c=>pure (Value.bool c)) _ _ _;rw [zCW hb rx ry];exact wpAny_pure ⟨.bl b,H,I,rfl,q⟩
theorem zAa:OpR X (compareOp .IsNot) (fun x y H Q=>∃ b,isV x y=some b∧Q (.bl (!b)) H):=by
 intro pins s σ H x y v u Q I rx ry h;obtain ⟨b,hb,q⟩:=h;show wpAny _ _ (isSame v u >>= fun c=>pure (Value.bool (!c))) _ _ _;rw [zCW hb rx ry];exact wpAny_pure ⟨.bl (!b),H,I,rfl,q⟩
end
end L2
namespace L2
open PySem PySem.Spec PyProof.Rows
def evens {α:Type}:List α→List α
 | []=>[]
 | [a]=>[a]
 | a::_::r=>a::evens r
def G5 {α:Type} (k:Bool) (xs:List α):List α:=if k then evens xs else xs.reverse
theorem z9.evens:∀ {xs:List V} {us:List Value},z9 xs us→z9 (evens xs) (L2.evens us)
 | _,_,.nil=>.nil
 | _,_,.cons a .nil=>.cons a .nil
 | _,_,.cons a (.cons b r)=>.cons a (z9.evens r)
theorem z9.rev {xs:List V} {us:List Value} (r:z9 xs us):z9 xs.reverse us.reverse:=by
 induction r with
 | nil=>exact .nil
 | cons a r ih=>rw [reverse_cons,reverse_cons]; exact ih.append (.cons a .nil)
theorem z9.step (k:Bool) {xs:List V} {us:List Value} (r:z9 xs us):z9 (G5 k xs) (G5 k us):=by
 cases k
 ·simp only [G5,Bool.false_eq_true,if_false]; exact r.rev
 ·simp only [G5,if_true]; exact r.evens
section
variable {prog:Program} {w:World} {A:Around} {E:Value→Shared→Prop} {s:Shared}
end
section
variable {X:Cx} {e st:Expr} {te:TE} {pos p2:Pos}
end
end L2
namespace DV
open PySem PySem.W PyProof.Rows
variable {κ:Nat→Int}
def ev (κ:Nat→Int) {α:Type}:KasT α→α
 | .ret a=>a
 | .ask i j k=>ev κ (k (decide (κ i < κ j)))
def Kp (κ:Nat→Int) (p:Array Nat) (t:Nat):Int:=κ (p.getD t 0)
theorem getD_q (p:Array Nat) (t:Nat):p.getD t 0=(p[t]?).getD 0:=by simp
def Srt (κ:Nat→Int) (p:Array Nat) (m:Nat):Prop:=∀ i,0 < i→i < m→Kp κ p (i - 1)≤Kp κ p i
def Dsc (κ:Nat→Int) (p:Array Nat) (m:Nat):Prop:=∀ i,0 < i→i < m→Kp κ p i≤Kp κ p (i - 1)
theorem Srt.le {p:Array Nat} {m:Nat} (h:Srt κ p m):∀ (d i:Nat),i+d < m→Kp κ p i≤Kp κ p (i+d)
 | 0,i,_=>Int.le_refl _
 | d+1,i,hi=>by
  have h1:=Srt.le h d i (by omega);have h2:=h (i+(d+1)) (by omega) hi;rw [show i+(d+1) - 1=i+d by omega] at h2;omega
theorem Srt.same {p q:Array Nat} {m:Nat} (h:Srt κ p m) (e:∀ t,Kp κ q t=Kp κ p t):Srt κ q m:=fun i h0 hi=>by rw [e,e]; exact h i h0 hi
theorem Dsc.same {p q:Array Nat} {m:Nat} (h:Dsc κ p m) (e:∀ t,Kp κ q t=Kp κ p t):Dsc κ q m:=fun i h0 hi=>by rw [e,e]; exact h i h0 hi
theorem zEG (p:Array Nat) (i j:Nat):(kas_rev p i j).Perm p:=mirror_perm _ _ _ _
def Bd (n:Nat) (p:Array Nat):Prop:=0 < n∧∀ x∈p,x < n
theorem Bd.at {n:Nat} {p:Array Nat} (h:Bd n p) (t:Nat):p.getD t 0 < n:=by
 rw [getD_q];cases e:p[t]? with
 | none=>exact h.1
 | some x=>exact h.2 x (Array.mem_of_getElem? e)
theorem Bd.perm {n:Nat} {p q:Array Nat} (h:Bd n p) (e:q.Perm p):Bd n q:=⟨h.1,fun x hx=>h.2 x (e.mem_iff.mp hx)⟩
theorem Bd.rev {n:Nat} {p:Array Nat} (h:Bd n p) (i j:Nat):Bd n (kas_rev p i j):=h.perm (zEG _ _ _)
end DV
namespace L2
open PySem PySem.Spec PyProof.Rows PySem.W
section
variable {prog:Program} {w:World} {A:Around} {E:Value→Shared→Prop} {s:Shared} {κ:Nat→Int}
end
end L2
namespace DV
open PySem L2 PyProof.Rows PySem.W
def tlt:List D→List D→Option Bool
 | [],[]=>some false
 | [],_::_=>some true
 | _::_,[]=>some false
 | p::ps,q::qs=>if deq p q=true then tlt ps qs else match p,q with
  | .int i,.int j=>some (decide (i < j))
  | _,_=>none
def zCX:D→List D
 | .tup es=>es
 | _=>[]
def ltAtD (ds:List D) (i j:Nat):Option Bool:=tlt (zCX (ds.getD i .non)) (zCX (ds.getD j .non))
def rkD (ds:List D) (i:Nat):Int:=(((List.range ds.length).filter fun k=>ltAtD ds k i == some true).length:Nat)
structure SortOk (ds:List D):Prop where
 few:ds.length < 64
 tups:∀ d∈ds,∃ es,d=.tup es∧(∀ e∈es,eqb 18 e=true)∧(2≤ds.length→∃ i r,es=.int i::r)
 lt:∀ i j,i < ds.length→j < ds.length→ltAtD ds i j=some (decide (rkD ds i < rkD ds j))
 one:∀ i j,i < ds.length→j < ds.length→rkD ds i=rkD ds j→ds.getD i .non=ds.getD j .non
section
variable {X:Cx} {pins:List (Addr × Obj)} {σ:L2.St} {H:Hp} {s:Shared} {prog:Program} {w:World} {A:Around}
end
end DV
namespace L2
open PySem PySem.Spec PyProof.Rows
section
variable {prog:Program} {w:World} {A:Around} {R:Result→Shared→Prop} {I:Addr} {fp wr:List Addr} {n:Nat} {P:Nat→Value→Prop} {St:Nat→Heap→Prop}
end
section
variable {prog:Program} {w:World} {A:Around} {E:Value→Shared→Prop} {s:Shared}
end
section
variable {X:Cx} {e d:Expr} {te td:TE} {p pos kp:Pos}
end
end L2
namespace DV
open PySem L2
section
variable {X:Cx} {K:PySem.W.Frag} {mg:Str→Option Value}
theorem zCY {f:Value} {r r':List V→Hp→VK→Prop} (h:jm X f r) (h':jm X f r'):jm X f (fun xs H Q=>r xs H Q∨r' xs H Q):=by
 intro pins s σ H xs us Q I rv q;rcases q with q | q
 ·exact h pins s σ H xs us Q I rv q
 ·exact h' pins s σ H xs us Q I rv q
def eqG (d e:D):Option R:=match eqF d e with
 | some r=>some r
 | none=>eqDD false d e
def neG (d e:D):Option R:=match neF d e with
 | some r=>some r
 | none=>eqDD true d e
theorem zFH:ROk K mg (fun x y H Q=>rEq x y H Q∨rEqD K mg false x y H Q) eqG:=by
 intro M H Z x y d1 d2 res Q f r1 r2 e k;unfold eqG at e;cases h:eqF d1 d2 with
 | some r=>rw [h] at e; cases e; exact .inl (ro_eq M H Z x y d1 d2 res Q f r1 r2 h k)
 | none=>rw [h] at e; exact .inr (zFG M H Z x y d1 d2 res Q f r1 r2 e k)
theorem zFI:ROk K mg (fun x y H Q=>rNe x y H Q∨rEqD K mg true x y H Q) neG:=by
 intro M H Z x y d1 d2 res Q f r1 r2 e k;unfold neG at e;cases h:neF d1 d2 with
 | some r=>rw [h] at e; cases e; exact .inl (ro_ne M H Z x y d1 d2 res Q f r1 r2 h k)
 | none=>rw [h] at e; exact .inr (zFG M H Z x y d1 d2 res Q f r1 r2 e k)
def isD:D→D→Option Bool
 | .non,.non=>some true
 | .bl a,.bl b=>some (a == b)
 | .non,.bl _=>some false
 | .bl _,.non=>some false
 | .non,.int _=>some false
 | .int _,.non=>some false
 | .non,.str _=>some false
 | .str _,.non=>some false
 | .int _,.bl _=>some false
 | .bl _,.int _=>some false
 | .str _,.bl _=>some false
 | .bl _,.str _=>some false
 | .tup _,.non=>some false
 | .lst _,.non=>some false
 | .tup _,.bl _=>some false
 | .lst _,.bl _=>some false
 | _,_=>none
def isG (neg:Bool) (d e:D):Option R:=(isD d e).map fun b=>.val (.bl (if neg then !b else b))
theorem zFJ {H:Hp} {d e:D} {x y:V} {b:Bool} (h:isD d e=some b) (rx:Rep K mg H d x) (ry:Rep K mg H e y):isV x y=some b:=by
 cases d <;> cases e <;> simp only [isD] at h <;> first
  | (cases h; done)
  | (cases h; rw [jR rx,jR ry]; rfl)
  | (cases h; rw [jA rx,jA ry]; rfl)
  | (cases h; rw [jR rx,jA ry]; rfl)
  | (cases h; rw [jA rx,jR ry]; rfl)
  | (cases h; rw [jR rx,zQ ry]; rfl)
  | (cases h; rw [zQ rx,jR ry]; rfl)
  | (cases h; rw [jR rx,wG ry]; rfl)
  | (cases h; rw [wG rx,jR ry]; rfl)
  | (cases h; rw [zQ rx,jA ry]; rfl)
  | (cases h; rw [jA rx,zQ ry]; rfl)
  | (cases h; rw [wG rx,jA ry]; rfl)
  | (cases h; rw [jA rx,wG ry]; rfl)
  | (cases h; obtain ⟨a,xs,rfl,_⟩:=zb rx; rw [jR ry]; rfl)
  | (cases h; obtain ⟨a,xs,rfl,_⟩:=zS rx; rw [jR ry]; rfl)
  | (cases h; obtain ⟨a,xs,rfl,_⟩:=zb rx; rw [jA ry]; rfl)
  | (cases h; obtain ⟨a,xs,rfl,_⟩:=zS rx; rw [jA ry]; rfl)
theorem ro_is:ROk K mg (fun x y H Q=>∃ b,isV x y=some b∧Q (.bl b) H) (isG false):=by
 intro M H Z x y d1 d2 res Q f r1 r2 e k;unfold isG at e;cases h:isD d1 d2 with
 | none=>rw [h] at e; cases e
 | some b=>rw [h] at e; cases e; exact ⟨b,zFJ h r1 r2,k.flat f rfl⟩
theorem zAb:ROk K mg (fun x y H Q=>∃ b,isV x y=some b∧Q (.bl (!b)) H) (isG true):=by
 intro M H Z x y d1 d2 res Q f r1 r2 e k;unfold isG at e;cases h:isD d1 d2 with
 | none=>rw [h] at e; cases e
 | some b=>rw [h] at e; cases e; exact ⟨b,zFJ h r1 r2,k.flat f rfl⟩
def vD (d e:D):Option R:=match WW d e with
 | some r=>some r
 | none=>match d,e with
  | .lst a,.int k=>if -(2 ^ 63)≤k∧k < 2 ^ 63∧a.length * k.toNat≤cap then some (.own (replicate k.toNat a).flatten) else none
  | _,_=>none
theorem ro_mulG:ROk K mg (fun x y H Q=>rMulD K x y H Q∨rRepL K x y H Q) vD:=by
 intro M H Z x y d1 d2 res Q f r1 r2 e k;unfold vD at e;cases h:WW d1 d2 with
 | some r=>rw [h] at e; cases e; exact .inl (ro_mul M H Z x y d1 d2 res Q f r1 r2 h k)
 | none =>
  rw [h] at e;cases d1 with
  | lst a =>
   cases d2 with
   | int n =>
    dsimp only at e;split at e
    ·rename_i hc
     cases e;obtain ⟨p,xs,rfl,h1,h2⟩:=zS r1;rw [zQ r2];exact .inr ⟨p,n,xs,rfl,rfl,zL.seq h1,hc.1,hc.2.1,by rw [h2.length]; exact ZU hc.2.2,fun q hq=>k.own f hq (h2.flatten _)⟩
    ·cases e
   | _=>cases e
  | _=>cases e
def wx:List D→Option (List Int)
 | []=>some []
 | .int i::ds=>(wx ds).map (i::·)
 | _::_=>none
theorem JN {H:Hp}:∀ {ds:List D} {xs:List V} {ns:List Int},wx ds=some ns→Reps K mg H ds xs→xs=ns.map V.int
 | [],_,_,e,h=>by cases e; simp only [Reps] at h; subst h; rfl
 | d::ds,_,ns,e,h=>by
  simp only [Reps] at h;obtain ⟨v,r,rfl,h1,h2⟩:=h;cases d with
  | int i =>
   simp only [wx] at e;cases eb:wx ds with
   | none=>rw [eb] at e; cases e
   | some cs =>
    rw [eb] at e; cases e;rw [zQ h1,JN eb h2]; rfl
  | _=>cases e
def zDT:List D→Option R
 | [.int i,.int j]=>zDR [.int i,.int j]
 | [.lst ds]=>match wx ds with
  | some ns=>if 0 < ns.length then some (.val (.int (zEF ns))) else none
  | none=>none
 | _=>none
theorem co_maxG:COk K mg (fun xs H Q=>(∃ i j,xs=[.int i,.int j]∧Q (.int (if j > i then j else i)) H)∨∃ (p:Addr) (ns:List Int),xs=[.ref p]∧SqL K H p (ns.map V.int)∧0 < ns.length∧Q (.int (zEF ns)) H) zDT:=by
 intro M H Z xs ds res Q f r e k
 match ds,e with
 | [.int i,.int j],e=>exact .inl (co_max M H Z xs _ res Q f r e k)
 | [.lst ds],e =>
  simp only [zDT] at e;cases hi:wx ds with
  | none=>rw [hi] at e; cases e
  | some ns =>
   rw [hi] at e;dsimp only at e;split at e
   ·rename_i hp
    cases e;obtain ⟨v,rfl,h⟩:=J0 r;obtain ⟨p,ys,rfl,h1,h2⟩:=zS h;rw [JN hi h2] at h1;exact .inr ⟨p,ns,rfl,zL.seq h1,hp,k.flat f rfl⟩
   ·cases e
def zFK:List D→Option R
 | [.lst ds]=>(wx ds).map fun ns=>.val (.int ns.sum)
 | [.tup ds]=>(wx ds).map fun ns=>.val (.int ns.sum)
 | _=>none
theorem co_sumG:COk K mg (fun xs H Q=>(∃ (p:Addr) (ns:List Int),xs=[.ref p]∧SqL K H p (ns.map V.int)∧Q (.int ns.sum) H)∨∃ (p:Addr) (ns:List Int),xs=[.ref p]∧SqT K H p (ns.map V.int)∧Q (.int ns.sum) H) zFK:=by
 intro M H Z xs ds res Q f r e k
 match ds,e with
 | [.lst ds],e =>
  simp only [zFK] at e;cases hi:wx ds with
  | none=>rw [hi] at e; cases e
  | some ns =>
   rw [hi] at e;cases e;obtain ⟨v,rfl,h⟩:=J0 r;obtain ⟨p,ys,rfl,h1,h2⟩:=zS h;rw [JN hi h2] at h1;exact .inl ⟨p,ns,rfl,zL.seq h1,k.flat f rfl⟩
 | [.tup ds],e =>
  simp only [zFK] at e;cases hi:wx ds with
  | none=>rw [hi] at e; cases e
  | some ns =>
   rw [hi] at e;cases e;obtain ⟨v,rfl,h⟩:=J0 r;obtain ⟨p,ys,rfl,h1,h2⟩:=zb h;rw [JN hi h2] at h1;exact .inr ⟨p,ns,rfl,yD zL h1,k.flat f rfl⟩
def absG:List D→Option R
 | [.int i]=>some (.val (.int (if i < 0 then -i else i)))
 | _=>none
theorem co_absG:COk K mg (fun xs H Q=>∃ i,xs=[.int i]∧Q (.int (if i < 0 then -i else i)) H) absG:=by
 intro M H Z xs ds res Q f r e k
 match ds,e with
 | [.int i],e =>
  cases e;obtain ⟨v,rfl,h⟩:=J0 r;exact ⟨i,by rw [zQ h],k.flat f rfl⟩
end
end DV
namespace DV
open PySem L2
section
variable {X:Cx} {σ:St} {H:Hp}
theorem Reps.evens {K:PySem.W.Frag} {mg:Str→Option Value} {H:Hp}:∀ {ds:List D} {xs:List V},Reps K mg H ds xs→Reps K mg H (L2.evens ds) (L2.evens xs)
 | [],_,h=>by simp only [Reps] at h; subst h; simp only [L2.evens]; exact Reps.nil
 | [d],_,h=>by
  simp only [Reps] at h;obtain ⟨v,r,rfl,h1,rfl⟩:=h;simp only [L2.evens]; exact Reps.cons h1 Reps.nil
 | d::e::ds,_,h=>by
  simp only [Reps] at h;obtain ⟨v,r,rfl,h1,v',r',rfl,h2,h3⟩:=h;simp only [L2.evens]; exact Reps.cons h1 (Reps.evens h3)
theorem Reps.rev {K:PySem.W.Frag} {mg:Str→Option Value} {H:Hp}:∀ {ds:List D} {xs:List V},Reps K mg H ds xs→Reps K mg H ds.reverse xs.reverse
 | [],_,h=>by simp only [Reps] at h; subst h; exact Reps.nil
 | d::ds,_,h=>by
  simp only [Reps] at h;obtain ⟨v,r,rfl,h1,h2⟩:=h;rw [reverse_cons,reverse_cons];exact (Reps.rev h2).append (Reps.cons h1 Reps.nil)
theorem Reps.step {K:PySem.W.Frag} {mg:Str→Option Value} {H:Hp} (k:Bool) {ds:List D} {xs:List V} (h:Reps K mg H ds xs):Reps K mg H (G5 k ds) (G5 k xs):=by
 cases k
 ·simp only [G5,Bool.false_eq_true,if_false]; exact h.rev
 ·simp only [G5,if_true]; exact h.evens
def sTup (is:List Nat) (m:ME):MS:=fun E=>match m E with
 | .stuck=>.stuck
 | .exc x E1=>.exc x E1
 | .ok (r,E1)=>match gT is r.d E1 with
  | .ok E2=>.ok (.nx,E2)
  | _=>.stuck
theorem zEH {is:List Nat} {m:ME} {D:Ends} (h:tS X (sTup is m) D σ H):tAsg (tM X m) (gTup X.K is.length (J1 is)) D σ H:=by
 obtain ⟨M,E,hl,fr,k⟩:=h;unfold sTup at k;refine yM (T0:=[]) hl fr ?_;cases ea:m E with
 | stuck=>rw [ea] at k; exact k
 | exc x E1=>rw [ea] at k; exact fun H' g=>k σ H' g
 | ok p =>
  obtain ⟨r,E1⟩:=p;rw [ea] at k;intro v H1 g;dsimp only at k;cases eg:gT is r.d E1 with
  | stuck=>rw [eg] at k; exact k.elim
  | exc _ _=>rw [eg] at k; exact k.elim
  | ok E2 =>
   rw [eg] at k;have g0:=g.dropAll;exact zE9 (X:=X) is rfl M σ E1 H1 [] v r.d E2 _ g0.len (FR.add g0.frame g.rep) eg fun σ' g'=>k σ' H1 (g0.trans' g')
theorem sk_tup {is:List Nat} {es:List Expr} {e:Expr} {m:ME} {k:Nat} {p pos:Pos} (hg:PG X (.Tuple es k p) (gTup X.K is.length (J1 is))) (he:EOk X e m) (hs:swapsWithSole [.Tuple es k p] e pos.line X.env=pure false) (hw:swappedStores [.Tuple es k p] e X.env=pure none):SOk X (.Assign [.Tuple es k p] e pos) (sTup is m) :=
 y8 (zEu he hg hs hw) fun D σ H=>zEH
def sPar (i j:Nat) (m:MA):MS:=fun E=>match m E with
 | .stuck=>.stuck
 | .exc x E1=>.exc x E1
 | .ok ([r1,r2],E1)=>match gNs [i,j] [r1.d,r2.d] E1 with
  | .ok E2=>.ok (.nx,E2)
  | _=>.stuck
 | _=>.stuck
theorem zEI {i j:Nat} {m:MA} {D:Ends} (h:tS X (sPar i j m) D σ H):tPar i j (tMA X m) D σ H:=by
 obtain ⟨M,E,hl,fr,k⟩:=h;unfold sPar at k;refine Jy (T0:=[]) hl fr ?_;cases ea:m E with
 | stuck=>rw [ea] at k; exact k
 | exc x E1=>rw [ea] at k; exact fun H' g=>k σ H' g
 | ok p =>
  obtain ⟨rs,E1⟩:=p;rw [ea] at k
  match rs,k with
  | [r1,r2],k =>
   intro vs H1 hv g;dsimp only at k;cases eg:gNs [i,j] [r1.d,r2.d] E1 with
   | stuck=>rw [eg] at k; exact k.elim
   | exc _ _=>rw [eg] at k; exact k.elim
   | ok E2 =>
    rw [eg] at k
    match vs,hv with
    | [v,w],_ =>
     have rp:=Got.reps rfl g;have g0:=g.dropAll;have q:=YW (X:=X) [i,j] [r1.d,r2.d] [v,w] (a:=0) (ts:=[]) (Q:=D.nx) (Got.refl (T0:=[]) g0.len g0.fr) rp eg fun σ' g'=>k σ' H1 (g0.trans' g')
     obtain ⟨v1,rr,e1,v2,rr2,e2,e3,q⟩:=q;cases e1; cases e2;exact ⟨v,w,rfl,q⟩
  | [],k=>exact k.elim
  | [_],k=>exact k.elim
  | _::_::_::_,k=>exact k.elim
theorem sk_any {st:Stmt}:SOk X st (fun _=>.stuck):=y8 zDY fun D σ H ⟨M,E,hl,fr,k⟩=>k
end
end DV
namespace DV
open PySem L2
section
variable {X:Cx} {pins:List (Addr × Obj)} {σ:L2.St} {H:Hp} {s:Shared}
end
end DV
namespace DV
open PySem L2
section
variable {X:Cx} {σ:L2.St} {H:Hp}
end
section
variable {X:Cx} {σ:L2.St} {H:Hp}
end
end DV
namespace DV
open PySem L2
section
variable {X:Cx} {σ:L2.St} {H:Hp} {K:PySem.W.Frag} {mg:Str→Option Value} {M:Addr→Prop} {E E1:zY} {T0:Fz}
def whN (c:MT) (b:MS):Nat→MS
 | 0=>fun _=>.stuck
 | n+1=>fun E=>match c E with
  | .stuck=>.stuck
  | .exc x E1=>.exc x E1
  | .ok (false,E1)=>.ok (.nx,E1)
  | .ok (true,E1)=>match b E1 with
   | .ok (.nx,E2)=>whN c b n E2
   | .ok (.ct,E2)=>whN c b n E2
   | .ok (.bk,E2)=>.ok (.nx,E2)
   | o=>o
theorem whN_run {c:MT} {b:MS} {D:Ends} {n:Nat} (h:tS X (whN c b n) D σ H):zEv (tMT X c) (tS X b) D σ H:=by
 refine ⟨fun m σ H=>tS X (whN c b m) D σ H,⟨n,h⟩,fun m σ H h=>?_⟩;cases m with
 | zero=>obtain ⟨M,E,hl,fr,k⟩:=h; exact k.elim
 | succ m =>
  obtain ⟨M,E,hl,fr,k⟩:=h;unfold whN at k;refine WS (T0:=[]) hl fr ?_;cases ec:c E with
  | stuck=>rw [ec] at k; exact k
  | exc x E1=>rw [ec] at k; exact fun H' g=>k σ H' g
  | ok p =>
   obtain ⟨t,E1⟩:=p;rw [ec] at k;intro H1 g1;cases t with
   | false=>exact iteF (k σ H1 g1)
   | true =>
    refine iteT ⟨fun σ' H'=>tS X (whN c b m) D σ' H',fun σ' H' q=>⟨m,lt_succ_self m,q⟩,?_⟩;refine vi (T0:=[]) g1.len g1.fr ?_;dsimp only at k;cases eb:b E1 with
    | stuck=>rw [eb] at k; exact k
    | exc x E2=>rw [eb] at k; exact fun σ' H' g=>k σ' H' (g1.trans' g)
    | ok p =>
     obtain ⟨fl,E2⟩:=p;rw [eb] at k;cases fl with
     | ret r=>exact fun v σ' H' g=>k v σ' H' (g1.trans' g)
     | bk=>exact fun σ' H' g=>k σ' H' (g1.trans' g)
     | nx=>exact fun σ' H' g=>go g1 g k
     | ct=>exact fun σ' H' g=>go g1 g k
where
 go {c:MT} {b:MS} {D:Ends} {n:Nat} {M:Addr→Prop} {σ σ1 σ':L2.St} {E E1 E2:zY} {H H1 H':Hp} (g1:Got X.K X.mg M σ E H [] σ1 E1 H1 []) (g:Got X.K X.mg M σ1 E1 H1 [] σ' E2 H' [])
  (k:match whN c b n E2 with
   | .stuck=>False
   | .ok (.nx,E')=>∀ σ' H',Got X.K X.mg M σ E H [] σ' E' H' []→D.nx σ' H'
   | .ok (.bk,E')=>∀ σ' H',Got X.K X.mg M σ E H [] σ' E' H' []→D.bk σ' H'
   | .ok (.ct,E')=>∀ σ' H',Got X.K X.mg M σ E H [] σ' E' H' []→D.ct σ' H'
   | .ok (.ret r,E')=>∀ v σ' H',Got X.K X.mg M σ E H [] σ' E' H' [(some v,r.slot)]→D.rt v H'
   | .exc x E'=>∀ σ' H',Got X.K X.mg M σ E H [] σ' E' H' []→XE X σ' H' x):tS X (whN c b n) D σ' H':=by
  have gg:=g1.trans' g;refine vi (T0:=[]) gg.len gg.fr ?_;cases e:whN c b n E2 with
  | stuck=>rw [e] at k; exact k
  | exc x E3=>rw [e] at k; exact fun σ3 H3 g3=>k σ3 H3 (gg.trans' g3)
  | ok p =>
   obtain ⟨fl,E3⟩:=p;rw [e] at k;cases fl with
   | nx=>exact fun σ3 H3 g3=>k σ3 H3 (gg.trans' g3)
   | bk=>exact fun σ3 H3 g3=>k σ3 H3 (gg.trans' g3)
   | ct=>exact fun σ3 H3 g3=>k σ3 H3 (gg.trans' g3)
   | ret r=>exact fun v σ3 H3 g3=>k v σ3 H3 (gg.trans' g3)
def sWhile (c:MT) (b:MS):MS:=whN c b 1000000
theorem zEJ {c:Expr} {body:List Stmt} {mc:MT} {mb:MS} {pos:Pos} (hp:PassesOwn (model X.prog X.w) X.A X.env X.xe) (hc:TOk X c mc) (hb:zBS X body mb):SOk X (.While c body [] pos) (sWhile mc mb) :=
 y8 (zDa hp hc hb) fun D σ H h=>whN_run h
def sAug (i:Nat) (f:Int→Int→Option Int) (m:ME):MS:=fun E=>match E[i]? with
 | some (.val (.int a))=>(match m E with
  | .stuck=>.stuck
  | .exc x E1=>.exc x E1
  | .ok (r,E1)=>match r.d with
   | .int b=>(match E1[i]?,f a b with
    | some (.val (.int a')),some z=>if a'=a then .ok (.nx,E1.set i (.val (.int z))) else .stuck
    | _,_=>.stuck)
   | _=>.stuck)
 | _=>.stuck
theorem Qn {i:Nat} {f:Int→Int→Option Int} {ti:TIp} {m:ME} {D:Ends} (hi:∀ a b z H Q,f a b=some z→Q (.int z) H→ti (.int a) (.int b) H Q) (h:tS X (sAug i f m) D σ H):tAug i (tM X m) ti D σ H:=by
 obtain ⟨M,E,hl,fr,k⟩:=h;unfold sAug at k;cases e0:E[i]? with
 | none=>rw [e0] at k; exact k.elim
 | some s0 =>
  rw [e0] at k;cases s0 with
  | val d =>
   cases d with
   | int a =>
    dsimp only at k;obtain ⟨o,h1,h2⟩:=wa hl e0;obtain ⟨v,rfl,rv⟩:=fr.val o (.int a) h2;have ev:=zQ rv;subst ev;refine ⟨.int a,h1,?_⟩;refine yM (T0:=[]) hl fr ?_;cases em:m E with
    | stuck=>rw [em] at k; exact k
    | exc x E1=>rw [em] at k; exact fun H' g=>k σ H' g
    | ok p =>
     obtain ⟨r,E1⟩:=p;rw [em] at k;intro y H1 g;dsimp only at k;cases ed:r.d with
     | int b =>
      rw [ed] at k;dsimp only at k;have ry:=g.rep;rw [ed] at ry;have ey:=zQ ry;subst ey;cases e1:E1[i]? with
      | none=>rw [e1] at k; exact k.elim
      | some s1 =>
       cases ef:f a b with
       | none=>rw [e1,ef] at k; cases s1 <;> first | exact k.elim | (rename_i d; cases d <;> exact k.elim)
       | some z =>
        rw [e1,ef] at k;cases s1 with
        | val d1 =>
         cases d1 with
         | int a' =>
          dsimp only at k;by_cases ha:a'=a
          ·rw [if_pos ha] at k
           refine hi a b z _ _ ef (k _ H1 ?_);have gz:=g.dropAll.flat (d:=.int z) rfl;exact uY (r:=.val (.int z)) gz (by simp only [vB,e1]; rfl)
          ·rw [if_neg ha] at k; exact k.elim
         | _=>exact k.elim
        | _=>exact k.elim
     | _=>rw [ed] at k; exact k.elim
   | _=>exact k.elim
  | _=>exact k.elim
theorem ip_mulB:PIp X .Mult (fun x y H Q=>∃ i j,x=.int i∧y=.int j∧CMulB i j∧Q (.int (i * j)) H):=by
 intro pins s σ H x y v u Q I r1 r2 h;obtain ⟨i,j,e1,e2,hc,q⟩:=h;subst e1; subst e2;obtain ⟨t,rfl⟩:=r1;obtain ⟨t',rfl⟩:=r2;refine PyProof.Rows.imul_int ⟨.int _,H,I.tok _,⟨_,rfl⟩,q⟩ ?_;rcases hc with h | h
 ·exact h.ok
 ·exact zB3 h.1 h.2
def G6:Int→Int→Option Int:=fun a b=>if ((-(2 ^ 64) < a∧a < 2 ^ 64)∨(-(2 ^ 64) < b∧b < 2 ^ 64))∨(a.natAbs < Big∧b.natAbs < Big) then some (a * b) else none
theorem zCZ {i:Nat} {x:Str} {e:Expr} {m:ME} {pos pos':Pos} (hN:X.N.Nodup) (hi:X.N[i]?=some x) (hx:Loc X.env.scope x) (hf:X.fn x=true∨X.env.scope.names.lookup x=some .local) (he:EOk X e m):SOk X (.AugAssign (.Name x pos') .Add e pos) (sAug i (fun a b=>some (a+b)) m) :=
 y8 (zBa hN hi hx he ip_add hf) fun D σ H h=>Qn (fun a b z H Q ez q=>by cases ez; exact ⟨a,b,rfl,rfl,q⟩) h
theorem zCa {i:Nat} {x:Str} {e:Expr} {m:ME} {pos pos':Pos} (hN:X.N.Nodup) (hi:X.N[i]?=some x) (hx:Loc X.env.scope x) (hf:X.fn x=true∨X.env.scope.names.lookup x=some .local) (he:EOk X e m):SOk X (.AugAssign (.Name x pos') .Sub e pos) (sAug i (fun a b=>some (a - b)) m) :=
 y8 (zBa hN hi hx he ip_sub hf) fun D σ H h=>Qn (fun a b z H Q ez q=>by cases ez; exact ⟨a,b,rfl,rfl,q⟩) h
theorem zCb {i:Nat} {x:Str} {e:Expr} {m:ME} {pos pos':Pos} (hN:X.N.Nodup) (hi:X.N[i]?=some x) (hx:Loc X.env.scope x) (hf:X.fn x=true∨X.env.scope.names.lookup x=some .local) (he:EOk X e m):SOk X (.AugAssign (.Name x pos') .Mult e pos) (sAug i G6 m) :=
 y8 (zBa hN hi hx he ip_mulB hf) fun D σ H h=>Qn (fun a b z H Q ez q=>by
  unfold G6 at ez;split at ez
  ·rename_i hc
   cases ez;exact ⟨a,b,rfl,rfl,hc,q⟩
  ·cases ez) h
end
end DV
namespace DV
open PySem L2
mutual
def pyD:D→Option PyData
 | .non=>some .none
 | .bl b=>some (.bool b)
 | .int i=>some (.int i)
 | .str x=>some (.str x)
 | .tup ds=>(pyDs ds).map .tuple
 | .lst ds=>(pyDs ds).map .list
 | .dic=>some (.dict [])
 | _=>none
def pyDs:List D→Option (List PyData)
 | []=>some []
 | d::ds=>match pyD d,pyDs ds with
  | some x,some xs=>some (x::xs)
  | _,_=>none
end
section
variable {X:Cx} {σ:L2.St} {pins:List (Addr × Obj)} {H:Hp} {s:Shared}
def zFL (K:PySem.W.Frag):Prop:=∃ o es n,K.lookup sysModules=some o∧o.data=.dict es n
theorem sm_ne (I:Inv X pins σ H s) (S:zFL X.K) {a:Addr} {o:Obj} {vs:Array Value} {n:Nat} (e1:s.heap.get? a=some o) (e2:o.data=.seq vs n):sysModules≠a:=by
 obtain ⟨p,es,m,q1,q2⟩:=S;intro e;have:=I.kIn _ _ q1;rw [e,e1] at this;cases this;rw [q2] at e2; cases e2
mutual
theorem YY (I:Inv X pins σ H s) (S:zFL X.K):∀ {d:D} {v:V} {u:Value} {x:PyData},Rep X.K X.mg H d v→yK v u→pyD d=some x→∃ as,Reads s.heap u x as∧sysModules ∉ as
 | .non,v,u,x,r,rv,e=>by cases e; rw [jR r] at rv; cases (show u=Value.none from rv); exact ⟨_,.none,by simp⟩
 | .bl b,v,u,x,r,rv,e=>by cases e; rw [jA r] at rv; cases (show u=Value.bool b from rv); exact ⟨_,.bool b,by simp⟩
 | .int i,v,u,x,r,rv,e=>by cases e; rw [zQ r] at rv; obtain ⟨t,q⟩:=(show ∃ t,u=Value.int i t from rv); subst q; exact ⟨_,.int i t,by simp⟩
 | .str y,v,u,x,r,rv,e=>by cases e; rw [wG r] at rv; obtain ⟨t,q⟩:=(show ∃ t,u=Value.str y t from rv); subst q; exact ⟨_,.str y t,by simp⟩
 | .tup ds,v,u,x,r,rv,e=>by
  obtain ⟨a,xs,rfl,h1,h2⟩:=zb r;cases (show u=Value.ref a from rv);obtain ⟨its,r1,p,_⟩:=I.tuple h1;obtain ⟨o,e1,e2,n,e3⟩:=p;simp only [pyD] at e;cases eq:pyDs ds with
  | none=>rw [eq] at e; cases e
  | some ys =>
   rw [eq] at e; cases e;obtain ⟨as,q,z⟩:=readss_of I S h2 r1 eq;exact ⟨_,.tuple e1 e2 e3 (by simpa using q),z⟩
 | .lst ds,v,u,x,r,rv,e=>by
  obtain ⟨a,xs,rfl,h1,h2⟩:=zS r;cases (show u=Value.ref a from rv);obtain ⟨its,r1,p,_⟩:=I.list h1;obtain ⟨o,n,e1,e2,_,e3⟩:=p;simp only [pyD] at e;cases eq:pyDs ds with
  | none=>rw [eq] at e; cases e
  | some ys =>
   rw [eq] at e; cases e;obtain ⟨as,q,z⟩:=readss_of I S h2 r1 eq;exact ⟨_,.list e1 e2 e3 (by simpa using q),fun hm=>(mem_cons.mp hm).elim (sm_ne I S e1 e3) z⟩
 | .fn y,v,u,x,r,rv,e=>by cases e
 | .dic,v,u,x,r,rv,e=>by
  cases e;simp only [Rep] at r;obtain ⟨a,rfl,h1⟩:=r;cases (show u=Value.ref a from rv);obtain ⟨_,hS,vs,kv,o,es,ep,g1,g2,g3,_,g5,_⟩:(([]:List (Key × V)).length≤sizeLine)∧(a == sysModules)=false∧∃ vs,KV [] vs∧s.heap.DictOf (QY X.prog X.w) a vs:=I.hok a _ h1;cases kv;have e0:es.toList=[]:=by cases h:es.toList with | nil=>rfl | cons y ys=>rw [h] at g5; cases g5
  refine ⟨_,.dict g1 g2.1 g3 (kvs:=[]) (by rw [e0]; exact .nil) (by rw [e0]; exact .nil),fun hm=>?_⟩;rcases mem_cons.mp hm with hm | hm
  ·exact beq_eq_false_iff_ne.mp hS hm.symm
  ·cases hm
 | .exn y,v,u,x,r,rv,e=>by cases e
theorem readss_of (I:Inv X pins σ H s) (S:zFL X.K):∀ {ds:List D} {vs:List V} {us:List Value} {xs:List PyData},Reps X.K X.mg H ds vs→z9 vs us→pyDs ds=some xs→∃ as,ReadsAll s.heap us xs as∧sysModules ∉ as
 | [],vs,us,xs,r,rv,e=>by
  cases e;simp only [Reps] at r; subst r;cases rv;exact ⟨_,.nil,by simp⟩
 | d::ds,vs,us,xs,r,rv,e=>by
  simp only [Reps] at r;obtain ⟨v,vs',rfl,r1,r2⟩:=r;cases rv with
  | cons p q =>
   simp only [pyDs] at e;cases e1:pyD d with
   | none=>rw [e1] at e; cases e
   | some x =>
    cases e2:pyDs ds with
    | none=>rw [e1,e2] at e; cases e
    | some ys =>
     rw [e1,e2] at e; cases e;obtain ⟨as,a1,z1⟩:=YY I S r1 p e1;obtain ⟨bs,a2,z2⟩:=readss_of I S r2 q e2;exact ⟨_,.cons a1 a2,fun hm=>(mem_append.mp hm).elim z1 z2⟩
end
end
end DV
namespace L2
open PySem PySem.Spec PyProof.Rows
section
variable {X:Cx} {pins:List (Addr × Obj)} {σ:List (Option V)} {H:Hp} {s:Shared} {h':Heap}
theorem Inv.turnLay {t':Nat} {fp:List Addr} {q:Addr} {xs:List V} (I:Inv X pins σ H s) (hf:∀ b∈fp,zBL X pins H b) (k:∀ b o,b ∉ fp→s.heap.get? b=some o→h'.get? b=some o) (hq:s.heap.objs.size≤q) (new:ww X.prog X.w (upd H q (.tup xs)) h' q (.tup xs)):Inv X pins σ (upd H q (.tup xs)) { s with heap:=h',toks:=t' }:=by
 have hn:H q=none:=I.hok.fresh hq;have nq:∀ b u,H b=some u→b≠q:=fun b u e z=>by rw [z,hn] at e; cases e
 have nf:∀ b u,H b=some u→b ∉ fp:=fun b u e z=>by rw [(hf b z).1] at e; cases e
 refine I.step (g':=s.gens) (d':=s.drawn) (ch:=fp) (fun b hb=>?_) (fun b o _ _ hc e _=>k b o hc e) (fun b o _ _ hc e _=>⟨o.slots,k b o hc e⟩) (fun b o _ e n=>?_) (fun b o hc e=>⟨o,k b o hc e⟩)
  (fun b ys e=>?_) (fun b o u e=>?_) (fun b ps e=>⟨#[],?_⟩) (fun m hm=>?_) (fun b u e=>?_) I.bare
 ·obtain ⟨_,f1,_,f3,f4,f5⟩:=hf b hb
  exact ⟨f3,f1,f4,f5⟩
 ·have:b≠q:=fun z=>by subst z; exact absurd (lt_of_lt_of_le (lt_size e) hq) (lt_irrefl _)
  rw [yH this]; exact n
 ·rw [yH (nq b _ e)]; exact e
 ·rw [yH (nq b _ e)]; exact e
 ·rw [yH (nq b _ e),e]; simp
 ·obtain ⟨o,es,ep,ho,r⟩:=hm
  exact ⟨o,es,ep,k _ o (fun z=>(hf _ z).2.1 rfl) ho,r⟩
 ·by_cases hb:b=q
  ·subst hb; rw [jq] at e; cases e; exact new
  ·rw [yH hb] at e
   refine (I.hok b u e).stay (fun c v hc q'=>k c v ?_ q') (fun c q'=>?_) fun c ys q'=>?_
   ·rcases hc with z | z
    ·rw [z]; exact nf b u e
    ·exact nf c _ z
   ·rw [yH (nq c _ q')]; exact q'
   ·rw [yH (nq c _ q')]; exact q'
theorem Inv.turnL {t':Nat} {fp:List Addr} (I:Inv X pins σ H s) (hf:∀ b∈fp,zBL X pins H b) (k:∀ b o,b ∉ fp→s.heap.get? b=some o→h'.get? b=some o):Inv X pins σ H { s with heap:=h',toks:=t' }:=by
 have nf:∀ b u,H b=some u→b ∉ fp:=fun b u e z=>by rw [(hf b z).1] at e; cases e
 refine I.step (g':=s.gens) (d':=s.drawn) (ch:=fp) (fun b hb=>?_) (fun b o _ _ hc e _=>k b o hc e) (fun b o _ _ hc e _=>⟨o.slots,k b o hc e⟩) (fun _ _ _ _ n=>n) (fun b o hc e=>⟨o,k b o hc e⟩)
  (fun _ _ e=>e) (fun _ _ _ e=>e) (fun b ps e=>⟨#[],by rw [e]; simp⟩) (fun m hm=>?_) (fun b u e=>?_) I.bare
 ·obtain ⟨_,f1,_,f3,f4,f5⟩:=hf b hb
  exact ⟨f3,f1,f4,f5⟩
 ·obtain ⟨o,es,ep,ho,r⟩:=hm
  exact ⟨o,es,ep,k _ o (fun z=>(hf _ z).2.1 rfl) ho,r⟩
 ·refine (I.hok b u e).stay (fun c v hc q'=>k c v ?_ q') (fun _ q=>q) fun _ _ q=>q
  rcases hc with z | z
  ·rw [z]; exact nf b u e
  ·exact nf c _ z
end
end L2
namespace DV
open PySem
section
variable {prog:Program} {w:World} {A:Around} {E:Value→Shared→Prop} {s:Shared}
theorem st_iter {α:Type} {Q:α→Shared→Prop} (hh:A.handled=none) (hE:∀ h' e,(∀ b o,s.heap.get? b=some o→h'.get? b=some o)→(∃ o,h'.get? e=some o∧o.cls=.type "StopIteration")→E (.ref e) { s with heap:=h' }):wpAny (model prog w) A.in1 (Builtin.SmallTypes.stopIteration:Sem α) Q E s:=by
 unfold Builtin.SmallTypes.stopIteration;refine wpAny_bind ?_;unfold newExc newTuple;refine wpAny_bind (wpAny_newObj_type ?_ (by size_fits));refine wpAny_bind (m:=firstArgMember _ _) (wpAny_of_eq (a:=Value.none) rfl ?_);refine wpAny_newObj_type ?_ (by size_fits);unfold raiseNew;have hh':A.in1.handled=none:=hh;refine wpAny_bind (wpAny_handled ?_);rw [hh'];refine wpAny_bind (wpAny_pure (wpAny_throw ?_));exact hE _ _ (fun b o eb=>get?_push_of_some _ (get?_push_of_some _ eb)) ⟨_,get?_push_size _ rfl,rfl⟩
theorem sp_tup {it t:Addr} {i:Nat} {items:Array Value} {Q:Option Value→Shared→Prop} (hh:A.handled=none) (hit:s.heap.IsTupleIter it t i) (ht:s.heap.IsTuple t items)
  (h1:∀ x,items[i]?=some x→∀ h',h'.IsTupleIter it t (i+1)→Heap.SameBut it s.heap h'→Q (some x) { s with heap:=h' })
  (h2:items[i]?=none→∀ h' e,Heap.ExtBut it s.heap h'→(∃ o,h'.get? e=some o∧o.cls=.type "StopIteration")→E (.ref e) { s with heap:=h' }) :
  wpAny (model prog w) A (callSpecial? (.ref it) (Str.ofString "__next__")) Q E s:=by
 have ⟨o,ho,hc,hd⟩:=id hit;obtain ⟨u,hu,_,n,du⟩:=ht;refine wpAny_callSpecial?_slot hit.typeIs F.slot_tuple_iterator_next (wpAny_call_entry F.slot_tuple_iterator_next hit.typeIs F.entry_tuple_iterator_next ?_ (F.args_tuple_iterator_next_1 _));refine wpAny_bind (m:=field (.ref it) 0) (wpAny_field ho hd (x:=.ref t) rfl ?_);have nn:¬ (Value.ref t == Value.none)=true:=Bool.false_ne_true;simp only [nn,Bool.false_eq_true,if_false];refine wpAny_bind (m:=field (.ref it) 1) (wpAny_field ho hd (x:=.int i 0) rfl ?_);refine wpAny_bind (m:=seqItems? (.ref t)) (wpAny_seqItems hu du ?_);cases hx:items[i]? with
 | some x =>
  simp only [Int.toNat_natCast,hx];refine wpAny_bind (wpAny_setField ho hd (by simp) (wpAny_pure ⟨x,rfl,h1 x hx _ ?_ (Heap.SameBut.update ..)⟩));exact ⟨_,Heap.get?_update_self _ ho (Obj.isFreed_of_fields (Obj.data_mapFields hd _)),(Obj.cls_mapFields ..).trans hc,by rw [Obj.data_mapFields hd]; simp [rawInt]⟩
 | none =>
  simp only [Int.toNat_natCast,hx];refine wpAny_bind (wpAny_rule (wpAny_bind (wpAny_setField ho hd (by simp) ?_)));refine st_iter hh fun h' e k q=>h2 hx h' e (fun b o nb eb=>k b o ?_) q
  exact (Heap.SameBut.update ..).extBut b o nb eb
structure Src (prog:Program) (w:World) (A:Around) (it l:Addr) (items:Array Value) (st:Nat→Heap→Prop):Prop where
 keep:∀ {i:Nat} {h h':Heap},st i h→(∀ b,b=it∨b=l→∀ o,h.get? b=some o→h'.get? b=some o)→st i h'
 lt:∀ {i:Nat} {h:Heap},st i h→it < h.objs.size
 next:∀ {i:Nat} {s:Shared} {Q:Value→Shared→Prop} {E:Value→Shared→Prop},st i s.heap→(∀ x,items[i]?=some x→∀ h',st (i+1) h'→Heap.SameBut it s.heap h'→Q x { s with heap:=h' }) →
  (items[i]?=none→∀ h' e,Heap.ExtBut it s.heap h'→(∃ o,h'.get? e=some o∧o.cls=.type "StopIteration")→E (.ref e) { s with heap:=h' })→wpAny (model prog w) A (Builtin.SmallTypes.nextOf (.ref it)) Q E s
theorem src_tup (hh:A.handled=none) {it t:Addr} (ne:t≠it) (items:Array Value):Src prog w A it t items (fun i h=>h.IsTupleIter it t i∧h.IsTuple t items) where
 keep:=fun st k=>⟨st.1.at fun o e=>k it (.inl rfl) o e,st.2.at fun o e=>k t (.inr rfl) o e⟩
 lt:=fun st=>by obtain ⟨⟨o,e,_⟩,_⟩:=st; exact lt_size e
 next:=fun {i s Q E} st h1 h2=>by
  unfold Builtin.SmallTypes.nextOf;exact wpAny_bind (sp_tup hh st.1 st.2 (fun x hx h' a b=>wpAny_pure (h1 x hx h' ⟨a,st.2.extBut b.extBut ne⟩ b)) h2)
theorem zEK (hh:A.handled=none) {it t:Addr} (ne:t≠it) (items:Array Value):Src prog w A it t items (fun i h=>h.IsListIter it t i∧h.IsList t items) where
 keep:=fun st k=>⟨st.1.at fun o e=>k it (.inl rfl) o e,st.2.at fun o e=>k t (.inr rfl) o e⟩
 lt:=fun st=>by obtain ⟨⟨o,e,_⟩,_⟩:=st; exact lt_size e
 next:=fun {i s Q E} st h1 h2=>by
  cases hx:items[i]? with
  | some x=>exact wpAny_nextOf_list_item st.1 st.2 hx fun h' a b=>h1 x hx h' ⟨a,st.2.extBut b.extBut ne⟩ b
  | none=>exact wpAny_nextOf_list_end hh st.1 st.2 hx (h2 hx)
theorem zp_next {z TI TO i1 i2 l1 l2:Addr} {k:Nat} {xs ys:Array Value} {st1 st2:Nat→Heap→Prop} {a b:Value} {Q:Value→Shared→Prop} (S1:Src prog w A i1 l1 xs st1) (S2:Src prog w A i2 l2 ys st2) (D:ZipApart z TI TO i1 i2 l1 l2)
  (hz:IsZip s.heap z TI TO .none) (hTI:IsPair s.heap TI (.ref i1) (.ref i2)) (hTO:IsPair s.heap TO a b) (h1:st1 k s.heap) (h2:st2 k s.heap)
  (hQ:∀ x y,xs[k]?=some x→ys[k]?=some y→∀ h',IsZip h' z TI TO (rawInt s.heap.objs.size)→IsPair h' TO x y→st1 (k+1) h'→st2 (k+1) h'→IsPair h' s.heap.objs.size x y →
   (∀ c o,c≠z→c≠TO→c≠i1→c≠i2→s.heap.get? c=some o→h'.get? c=some o)→Q (.ref s.heap.objs.size) { s with heap:=h' })
  (hE:xs[k]?=none∨ys[k]?=none→∀ h' e,(∀ c o,c≠z→c≠TO→c≠i1→c≠i2→s.heap.get? c=some o→h'.get? c=some o)→(∃ o,h'.get? e=some o∧o.cls=.type "StopIteration")→E (.ref e) { s with heap:=h' }) :
  wpAny (model prog w) A (Builtin.«zip.__next__» ⟨[.ref z],[]⟩) (fun fin s'=>∃ v,fin=.done (.ret v)∧Q v s') E s:=by
 refine wpAny_bind (m:=field (.ref z) 2) (wpAny_field hz rfl (x:=.bool false) rfl ?_);refine wpAny_bind (m:=field (.ref z) 3) (wpAny_field hz rfl (x:=.ref TI) rfl ?_);refine wpAny_bind (wpAny_seqItems hTI rfl ?_);refine wpAny_bind (m:=Builtin.SmallTypes.ownedTupleIsFree (.ref z)) ?_;unfold Builtin.SmallTypes.ownedTupleIsFree;refine wpAny_bind (wpAny_field hz rfl (x:=.none) rfl (wpAny_pure ?_));simp only [if_true];refine wpAny_bind (wpAny_rule (wpAny_bind (wpAny_field hz rfl (x:=.ref TO) rfl (wpAny_bind (wpAny_setField_rec hz (by simp) fun g1 z1 b1=>?_)))));have z1:IsZip g1 z TI TO .ellipsis:=z1;refine wpAny_bind ?_;simp only [List.zipIdx_cons,List.zipIdx_nil,List.forIn_cons,List.forIn_nil];have s1:st1 k g1:=S1.keep h1 fun c hc o e=>b1.extBut c o (by rcases hc with rfl | rfl; exact D.i1z; exact D.l1z) e
 refine wpAny_bind (wpAny_bind (wpAny_onRaise (wpAny_bind (m:=Builtin.SmallTypes.nextOf (.ref i1)) (S1.next s1 (fun x hx g2 s2 b2=>wpAny_pure ?_) fun hx g2 e b2 he=>?_))))
 ·have t2:IsPair g2 TO a b:=b2.extBut _ _ D.TOi1 (b1.extBut _ _ D.TOz hTO)
  refine wpAny_bind (wpAny_seqItems t2 rfl (wpAny_bind (wpAny_updateSeq_pair t2 fun g3 t3 b3=>wpAny_bind (wpAny_letGo (wpAny_pure ?_)))));have t3:IsPair g3 TO x b:=t3;have k3:∀ c o,c≠z→c≠TO→c≠i1→s.heap.get? c=some o→g3.get? c=some o:=fun c o c1 c2 c3 e=>b3.extBut _ _ c2 (b2.extBut _ _ c3 (b1.extBut _ _ c1 e))
  have s3:st1 (k+1) g3:=S1.keep s2 fun c hc o e=>b3.extBut c o (by rcases hc with rfl | rfl; exact D.TOi1.symm; exact D.l1TO) e
  have r3:st2 k g3:=S2.keep h2 fun c hc o e=>k3 c o (by rcases hc with rfl | rfl; exact D.i2z; exact D.l2z) (by rcases hc with rfl | rfl; exact D.TOi2.symm; exact D.l2TO) (by rcases hc with rfl | rfl; exact D.i12.symm; exact D.l2i1) e
  have z3:IsZip g3 z TI TO .ellipsis:=b3.extBut _ _ D.TOz.symm (b2.extBut _ _ D.i1z.symm z1);refine wpAny_bind (wpAny_bind (wpAny_onRaise (wpAny_bind (m:=Builtin.SmallTypes.nextOf (.ref i2)) (S2.next r3 (fun y hy g4 r4 b4=>wpAny_pure ?_) fun hy g4 e b4 he=>?_))))
  ·have t4:IsPair g4 TO x b:=b4.extBut _ _ D.TOi2 t3
   refine wpAny_bind (wpAny_seqItems t4 rfl (wpAny_bind (wpAny_updateSeq_pair t4 fun g5 t5 b5=>wpAny_bind (wpAny_letGo (wpAny_pure (wpAny_pure ?_))))));have t5:IsPair g5 TO x y:=t5;have k5:∀ c o,c≠z→c≠TO→c≠i1→c≠i2→s.heap.get? c=some o→g5.get? c=some o:=fun c o c1 c2 c3 c4 e=>b5.extBut _ _ c2 (b4.extBut _ _ c4 (k3 c o c1 c2 c3 e))
   have s5:st1 (k+1) g5:=S1.keep s3 fun c hc o e=>b5.extBut c o (by rcases hc with rfl | rfl; exact D.TOi1.symm; exact D.l1TO) (b4.extBut c o (by rcases hc with rfl | rfl; exact D.i12; exact D.l1i2) e)
   have r5:st2 (k+1) g5:=S2.keep r4 fun c hc o e=>b5.extBut c o (by rcases hc with rfl | rfl; exact D.TOi2.symm; exact D.l2TO) e
   have z5:IsZip g5 z TI TO .ellipsis:=b5.extBut _ _ D.TOz.symm (b4.extBut _ _ D.i2z.symm z3);have sz:g5.objs.size=s.heap.objs.size:=by rw [b5.1,b4.1,b3.1,b2.1,b1.1]
   refine wpAny_bind (wpAny_seqItems t5 rfl (wpAny_bind (wpAny_newTuple ?_)));refine wpAny_bind (m:=Builtin.SmallTypes.ownedTupleHandOut (.ref z) (.ref g5.objs.size)) ?_;unfold Builtin.SmallTypes.ownedTupleHandOut;have z6:IsZip (g5.push { cls:=.type "tuple",data:=.seq #[x,y] }) z TI TO .ellipsis:=get?_push_of_some _ z5;refine wpAny_bind (wpAny_setField_rec z6 (by simp) fun g7 z7 b7=>?_);have z7:IsZip g7 z TI TO (rawInt g5.objs.size):=z7;refine wpAny_setField_rec z7 (by simp) fun g8 z8 b8=>?_
   have z8:IsZip g8 z TI TO (rawInt g5.objs.size):=z8;have up:∀ c o,c≠z→g5.get? c=some o→g8.get? c=some o:=fun c o c1 e=>b8.extBut _ _ c1 (b7.extBut _ _ c1 (get?_push_of_some _ e))
   have zl:z < g5.objs.size:=lt_size z5;have p8:IsPair g8 g5.objs.size x y:=b8.extBut _ _ (ne_of_gt zl) (b7.extBut _ _ (ne_of_gt zl) (get?_push_size _ rfl));rw [sz] at z8 p8;refine wpAny_pure ⟨_,rfl,?_⟩;show Q (.ref g5.objs.size) _;rw [sz];exact hQ x y hx hy g8 z8 (up _ _ D.TOz t5) (S1.keep s5 fun c hc o e=>up c o (by rcases hc with rfl | rfl; exact D.i1z; exact D.l1z) e) (S2.keep r5 fun c hc o e=>up c o (by rcases hc with rfl | rfl; exact D.i2z; exact D.l2z) e) p8 fun c o c1 c2 c3 c4 e=>up c o c1 (k5 c o c1 c2 c3 c4 e)
  ·have z4:IsZip g4 z TI TO .ellipsis:=b4 _ _ D.i2z.symm z3
   obtain ⟨oe,ho,hc⟩:=he;have ez:e≠z:=fun q=>by subst q; rw [z4] at ho; cases ho; simp at hc
   exact wpAny_setField_rec z4 (by simp) fun g5 _ b5=>hE (.inr hy) g5 e (fun c o c1 c2 c3 c4 x=>b5.extBut _ _ c1 (b4 _ _ c4 (k3 c o c1 c2 c3 x))) ⟨oe,b5.extBut _ _ ez ho,hc⟩
 ·have z2:IsZip g2 z TI TO .ellipsis:=b2 _ _ D.i1z.symm z1
  obtain ⟨oe,ho,hc⟩:=he;have ez:e≠z:=fun q=>by subst q; rw [z2] at ho; cases ho; simp at hc
  exact wpAny_setField_rec z2 (by simp) fun g3 _ b3=>hE (.inl hx) g3 e (fun c o c1 c2 c3 c4 x=>b3.extBut _ _ c1 (b2 _ _ c3 (b1.extBut _ _ c1 x))) ⟨oe,b3.extBut _ _ ez ho,hc⟩
theorem G7 {z TI TO i1 i2 l1 l2:Addr} {k:Nat} {xs ys:Array Value} {st1 st2:Nat→Heap→Prop} {a b:Value} {Q:Option Value→Shared→Prop} (S1:Src prog w A.in1 i1 l1 xs st1) (S2:Src prog w A.in1 i2 l2 ys st2) (D:ZipApart z TI TO i1 i2 l1 l2)
  (hz:IsZip s.heap z TI TO .none) (hTI:IsPair s.heap TI (.ref i1) (.ref i2)) (hTO:IsPair s.heap TO a b) (h1:st1 k s.heap) (h2:st2 k s.heap)
  (hQ:∀ x y,xs[k]?=some x→ys[k]?=some y→∀ h',IsZip h' z TI TO (rawInt s.heap.objs.size)→IsPair h' TO x y→st1 (k+1) h'→st2 (k+1) h'→IsPair h' s.heap.objs.size x y →
   (∀ c o,c≠z→c≠TO→c≠i1→c≠i2→s.heap.get? c=some o→h'.get? c=some o)→Q (some (.ref s.heap.objs.size)) { s with heap:=h' })
  (hE:xs[k]?=none∨ys[k]?=none→∀ h',(∀ c o,c≠z→c≠TO→c≠i1→c≠i2→s.heap.get? c=some o→h'.get? c=some o)→Q none { s with heap:=h' }):wpAny (model prog w) A (pyNext (.ref z)) Q E s:=by
 have hT:s.TypeIs (.ref z) "zip":=⟨_,hz,rfl⟩;unfold pyNext;refine wpAny_bind (wpAny_attempt (wpAny_callSpecial?_slot hT F.slot_zip_next (wpAny_call_entry F.slot_zip_next hT F.entry_zip_next (zp_next S1 S2 D hz hTI hTO h1 h2 (fun x y hx hy h' a1 a2 a3 a4 a5 a6=>?_) fun hend h' e hk he=>?_) (F.args_zip_next_1 _))))
 ·exact wpAny_pure (hQ x y hx hy h' a1 a2 a3 a4 a5 a6)
 ·obtain ⟨o,ho,hc⟩:=he
  exact wpAny_bind (wpAny_isInstance (T:="StopIteration") (b:=true) ⟨o,ho,hc⟩ isSubtype_stop (wpAny_pure (hE hend h' hk)))
end
end DV
namespace DV
open PySem
abbrev itO (c:String) (l:Addr):Obj:={ cls:=.type c,data:=.fields #[.ref l,.int 0 0] }
abbrev zpA (h:Heap) (c1 c2:String) (l1 l2:Addr):Heap:=(h.push (itO c1 l1)).push (itO c2 l2)
abbrev zpB (h:Heap) (c1 c2:String) (l1 l2:Addr):Heap:=(zpA h c1 c2 l1 l2).push { cls:=.type "tuple",data:=.seq #[.ref h.objs.size,.ref (h.push (itO c1 l1)).objs.size] }
abbrev zpC (h:Heap) (c1 c2:String) (l1 l2:Addr):Heap:=(zpB h c1 c2 l1 l2).push { cls:=.type "tuple",data:=.seq #[.none,.none] }
abbrev zpD (h:Heap) (c1 c2:String) (l1 l2:Addr):Heap:=(zpC h c1 c2 l1 l2).push { cls:=.type "zip",data:=.fields #[.none,.bool false,.bool false,.ref (zpA h c1 c2 l1 l2).objs.size,.ref (zpB h c1 c2 l1 l2).objs.size] }
theorem zEL (l1 l2:Addr) (xs ys:Array Value):Meets (Builtin.«zip.__new__» ⟨[.type "zip",.ref l1,.ref l2],[]⟩) (fun _ R s=>s.heap.IsTuple l1 xs∧s.heap.IsTuple l2 ys∧R (.ok (.ret (.ref (zpC s.heap "tuple_iterator" "tuple_iterator" l1 l2).objs.size))) { s with heap:=zpD s.heap "tuple_iterator" "tuple_iterator" l1 l2 }) :=
 .of_wp fun prog w A R s h=>by
  obtain ⟨hp,g,d,tk,os⟩:=s; obtain ⟨h1,h2,h⟩:=h;have hs:=sub_zip;have a1:Heap.IsTuple (Shared.heap ⟨hp,g,d,tk,os⟩) l1 xs:=h1;have a2:Heap.IsTuple (Shared.heap ⟨hp.push (itO "tuple_iterator" l1),g,d,tk,os⟩) l2 ys:=h2.at fun o e=>get?_push_of_some _ e
  wp_walk using wpAny_pyIter_tuple a1,wpAny_pyIter_tuple a2
  exact ⟨_,rfl,h⟩
theorem zEM (l1 l2:Addr) (xs ys:Array Value):Meets (Builtin.«zip.__new__» ⟨[.type "zip",.ref l1,.ref l2],[]⟩) (fun _ R s=>s.heap.IsTuple l1 xs∧s.heap.IsList l2 ys∧R (.ok (.ret (.ref (zpC s.heap "tuple_iterator" "list_iterator" l1 l2).objs.size))) { s with heap:=zpD s.heap "tuple_iterator" "list_iterator" l1 l2 }) :=
 .of_wp fun prog w A R s h=>by
  obtain ⟨hp,g,d,tk,os⟩:=s; obtain ⟨h1,h2,h⟩:=h;have hs:=sub_zip;have a1:Heap.IsTuple (Shared.heap ⟨hp,g,d,tk,os⟩) l1 xs:=h1;have a2:Heap.IsList (Shared.heap ⟨hp.push (itO "tuple_iterator" l1),g,d,tk,os⟩) l2 ys:=h2.at fun o e=>get?_push_of_some _ e
  wp_walk using wpAny_pyIter_tuple a1,wpAny_pyIter_list a2
  exact ⟨_,rfl,h⟩
theorem zEN (l1 l2:Addr) (xs ys:Array Value):Meets (Builtin.«zip.__new__» ⟨[.type "zip",.ref l1,.ref l2],[]⟩) (fun _ R s=>s.heap.IsList l1 xs∧s.heap.IsTuple l2 ys∧R (.ok (.ret (.ref (zpC s.heap "list_iterator" "tuple_iterator" l1 l2).objs.size))) { s with heap:=zpD s.heap "list_iterator" "tuple_iterator" l1 l2 }) :=
 .of_wp fun prog w A R s h=>by
  obtain ⟨hp,g,d,tk,os⟩:=s; obtain ⟨h1,h2,h⟩:=h;have hs:=sub_zip;have a1:Heap.IsList (Shared.heap ⟨hp,g,d,tk,os⟩) l1 xs:=h1;have a2:Heap.IsTuple (Shared.heap ⟨hp.push (itO "list_iterator" l1),g,d,tk,os⟩) l2 ys:=h2.at fun o e=>get?_push_of_some _ e
  wp_walk using wpAny_pyIter_list a1,wpAny_pyIter_tuple a2
  exact ⟨_,rfl,h⟩
theorem zEO (l1 l2:Addr) (xs ys:Array Value):Meets (Builtin.«zip.__new__» ⟨[.type "zip",.ref l1,.ref l2],[]⟩) (fun _ R s=>s.heap.IsList l1 xs∧s.heap.IsList l2 ys∧R (.ok (.ret (.ref (zpC s.heap "list_iterator" "list_iterator" l1 l2).objs.size))) { s with heap:=zpD s.heap "list_iterator" "list_iterator" l1 l2 }):=meets_zip_new l1 l2 xs ys
structure Zp (h h':Heap) (c1 c2:String) (l1 l2:Addr):Prop where
 z:IsZip h' (h.objs.size+4) (h.objs.size+2) (h.objs.size+3) .none
 a:IsPair h' (h.objs.size+2) (.ref h.objs.size) (.ref (h.objs.size+1))
 b:IsPair h' (h.objs.size+3) .none .none
 i1:h'.get? h.objs.size=some (itO c1 l1)
 i2:h'.get? (h.objs.size+1)=some (itO c2 l2)
 kp:∀ c o,h.get? c=some o→h'.get? c=some o
theorem zp_of (h:Heap) (c1 c2:String) (l1 l2:Addr):Zp h (zpD h c1 c2 l1 l2) c1 c2 l1 l2∧(zpC h c1 c2 l1 l2).objs.size=h.objs.size+4:=by
 have n1:(h.push (itO c1 l1)).objs.size=h.objs.size+1:=size_push ..;have n2:(zpA h c1 c2 l1 l2).objs.size=h.objs.size+2:=by rw [size_push,n1]
 have n3:(zpB h c1 c2 l1 l2).objs.size=h.objs.size+3:=by rw [size_push,n2]
 have n4:(zpC h c1 c2 l1 l2).objs.size=h.objs.size+4:=by rw [size_push,n3]
 have u:=fun (h:Heap) (o:Obj) {b:Addr} {q:Obj} (e:h.get? b=some q)=>get?_push_of_some (h:=h) o e
 have g5:(zpD h c1 c2 l1 l2).get? (zpC h c1 c2 l1 l2).objs.size=some _:=get?_push_size _ rfl;have g4:(zpD h c1 c2 l1 l2).get? (zpB h c1 c2 l1 l2).objs.size=some _:=get?_push_of_some _ (get?_push_size _ rfl);have g3:(zpD h c1 c2 l1 l2).get? (zpA h c1 c2 l1 l2).objs.size=some _:=get?_push_of_some _ (get?_push_of_some _ (get?_push_size _ rfl));have g2:(zpD h c1 c2 l1 l2).get? (h.push (itO c1 l1)).objs.size=some (itO c2 l2):=get?_push_of_some _ (get?_push_of_some _ (get?_push_of_some _ (get?_push_size _ rfl)));have g1:(zpD h c1 c2 l1 l2).get? h.objs.size=some (itO c1 l1):=get?_push_of_some _ (get?_push_of_some _ (get?_push_of_some _ (get?_push_of_some _ (get?_push_size _ rfl))));rw [n2,n3,n4] at g5;rw [n1,n2] at g3;rw [n3] at g4;rw [n1] at g2;exact ⟨⟨g5,g3,g4,g1,g2,fun c o e=>get?_push_of_some _ (get?_push_of_some _ (get?_push_of_some _ (get?_push_of_some _ (get?_push_of_some _ e))))⟩,n4⟩
section
variable {prog:Program} {w:World} {A:Around} {E:Value→Shared→Prop} {s:Shared}
def SqO (h:Heap) (t:Bool) (l:Addr) (xs:Array Value):Prop:=if t then h.IsTuple l xs else h.IsList l xs
def itC (t:Bool):String:=if t then "tuple_iterator" else "list_iterator"
theorem zp_call {t1 t2:Bool} {l1 l2:Addr} {xs ys:Array Value} {Q:Value→Shared→Prop} (h1:SqO s.heap t1 l1 xs) (h2:SqO s.heap t2 l2 ys) (h:∀ h',Zp s.heap h' (itC t1) (itC t2) l1 l2→Q (.ref (s.heap.objs.size+4)) { s with heap:=h' }):wpAny (model prog w) A (call (.type "zip") [.ref l1,.ref l2]) Q E s:=by
 obtain ⟨z,n⟩:=zp_of s.heap (itC t1) (itC t2) l1 l2;have hz:=h _ z;have fin:∀ {P:Heap→Prop},P s.heap→Meets (Builtin.«zip.__new__» ⟨[.type "zip",.ref l1,.ref l2],[]⟩) (fun _ R s=>P s.heap∧R (.ok (.ret (.ref (zpC s.heap (itC t1) (itC t2) l1 l2).objs.size))) { s with heap:=zpD s.heap (itC t1) (itC t2) l1 l2 })→wpAny (model prog w) A (call (.type "zip") [.ref l1,.ref l2]) Q E s:=fun {P} hP m=>by
  refine callType_new F.called_zip (by decide) (F.typeCall_zip_2 _ _) (F.newCall_zip_2 _ _) (fun obj=>F.args_object_init_3 obj _ _) F.entry_zip_new m ⟨hP,?_⟩;show _∧_;rw [n];exact ⟨⟨_,z.z,rfl⟩,hz⟩
 cases t1 <;> cases t2
 ·exact fin (P:=fun h=>h.IsList l1 xs∧h.IsList l2 ys) ⟨h1,h2⟩ (Meets.of_imp (zEO l1 l2 xs ys) fun A R s q=>⟨q.1.1,q.1.2,q.2⟩)
 ·exact fin (P:=fun h=>h.IsList l1 xs∧h.IsTuple l2 ys) ⟨h1,h2⟩ (Meets.of_imp (zEN l1 l2 xs ys) fun A R s q=>⟨q.1.1,q.1.2,q.2⟩)
 ·exact fin (P:=fun h=>h.IsTuple l1 xs∧h.IsList l2 ys) ⟨h1,h2⟩ (Meets.of_imp (zEM l1 l2 xs ys) fun A R s q=>⟨q.1.1,q.1.2,q.2⟩)
 ·exact fin (P:=fun h=>h.IsTuple l1 xs∧h.IsTuple l2 ys) ⟨h1,h2⟩ (Meets.of_imp (zEL l1 l2 xs ys) fun A R s q=>⟨q.1.1,q.1.2,q.2⟩)
end
end DV
namespace DV
open PySem L2 PySem.Spec PyProof.Rows
def SqH (K:PySem.W.Frag) (H:Hp) (t:Bool) (a:Addr) (xs:List V):Prop:=if t then SqT K H a xs else SqL K H a xs
section
variable {X:Cx} {pins:List (Addr × Obj)} {σ:L2.St} {H:Hp} {s:Shared} {a b:Addr} {xs ys:List V}
theorem Y4 {t:Bool} (I:Inv X pins σ H s) (h:SqH X.K H t a xs):∃ its:List Value,z9 xs its∧SqO s.heap t a its.toArray:=by
 cases t with
 | true =>
  obtain ⟨its,r,p,_⟩:=I.tuple h;exact ⟨its,r,p⟩
 | false =>
  obtain ⟨its,r,p,_⟩:=I.list h;exact ⟨its,r,p.isList⟩
theorem zCc {t:Bool} (I:Inv X pins σ H s) (h:SqH X.K H t a xs) (h':SqH X.K H t a ys):xs=ys:=by
 cases t with
 | true=>exact I.tuple_inj h h'
 | false=>exact I.list_inj h h'
theorem zAc {t:Bool} (I:Inv X pins σ H s) (h:SqH X.K H t a xs) (f:zBL X pins H b):a≠b:=by
 intro z;subst z;have key:∀ o,X.K.lookup a=some o→False:=fun o hk=>by
  have hb:=I.ok.mod.kin a o hk;have e:=I.ok.bs a o hb;rcases f.2.2.2.1 with q | q
  ·exact I.ok.noex a o hb q
  ·exact absurd (lt_of_lt_of_le (lt_size e.1) q) (lt_irrefl _)
 have key2:∀ u,Rd H a u→False:=fun u r=>by
  rcases r with r | ⟨o,r⟩ <;> rw [f.1] at r <;> cases r
 cases t with
 | true =>
  rcases h with h | ⟨o,its,n,hk,_⟩
  ·exact key2 _ h
  ·exact key o hk
 | false =>
  rcases h with h | ⟨o,its,n,hk,_⟩
  ·exact key2 _ h
  ·exact key o hk
end
def Itz (K:PySem.W.Frag) (t1 t2:Bool) (a b:Addr):It :=
 ⟨fun i H=>∃ xs ys,SqH K H t1 a xs∧SqH K H t2 b ys∧i < xs.length∧i < ys.length,
  fun i H x H'=>∃ q u v,(∀ xs,SqH K H t1 a xs→xs[i]?=some u)∧(∀ ys,SqH K H t2 b ys→ys[i]?=some v)∧H q=none∧H'=upd H q (.tup [u,v])∧x=.ref q,
  fun i H=>∃ xs ys,SqH K H t1 a xs∧SqH K H t2 b ys∧(xs.length≤i∨ys.length≤i)⟩
def ItA (t:Bool) (h:Heap) (it l:Addr) (i:Nat):Prop:=if t then h.IsTupleIter it l i else h.IsListIter it l i
theorem zAd {t:Bool} {h h':Heap} {it l:Addr} {i:Nat} (x:ItA t h it l i) (k:∀ o,h.get? it=some o→h'.get? it=some o):ItA t h' it l i:=by
 cases t with
 | true=>exact Heap.IsTupleIter.at x k
 | false=>exact Heap.IsListIter.at x k
theorem uh {t:Bool} {h:Heap} {it l:Addr} {i:Nat} (x:ItA t h it l i):∃ o,h.get? it=some o∧∀ v,o.data≠.cell v:=by
 cases t with
 | true=>obtain ⟨o,e,c,d⟩:=x; exact ⟨o,e,fun v z=>by rw [d] at z; cases z⟩
 | false=>obtain ⟨o,e,c,d⟩:=x; exact ⟨o,e,fun v z=>by rw [d] at z; cases z⟩
theorem srcA {prog:Program} {w:World} {A:Around} (hh:A.handled=none) (t:Bool) {it l:Addr} (ne:l≠it) (items:Array Value):Src prog w A it l items (fun i h=>ItA t h it l i∧SqO h t l items):=by
 cases t with
 | true=>exact src_tup hh ne items
 | false=>exact zEK hh ne items
structure Five (z TI TO i1 i2:Addr):Prop where
 a1:TI≠z
 a2:TO≠z
 a3:i1≠z
 a4:i2≠z
 a5:TI≠TO
 a6:TI≠i1
 a7:TI≠i2
 a8:TO≠i1
 a9:TO≠i2
 a10:i1≠i2
def ZSt (z TI TO i1 i2:Addr) (t1 t2:Bool) (a b:Addr) (i:Nat) (h:Heap):Prop:=IsZip h z TI TO .none∧IsPair h TI (.ref i1) (.ref i2)∧(∃ u v,IsPair h TO u v)∧ItA t1 h i1 a i∧ItA t2 h i2 b i
theorem zEP {P:Program} {w:World} {K:PySem.W.Frag} {elts:List Expr} {x1} {pos:Pos} {z TI TO i1 i2:Addr} (F:Five z TI TO i1 i2) (t1 t2:Bool) (a b:Addr):Turn P w K (.Tuple elts x1 pos) (Itz K t1 t2 a b) [z,TI,TO,i1,i2] z (ZSt z TI TO i1 i2 t1 t2 a b) where
 mem:=by simp
 obj:=fun i h st c hc=>by
  obtain ⟨hz,hI,⟨u,v,hO⟩,h1,h2⟩:=st;simp only [mem_cons,mem_nil_iff,or_false] at hc;rcases hc with rfl | rfl | rfl | rfl | rfl
  ·exact ⟨_,hz,fun v z=>by cases z⟩
  ·exact ⟨_,hI,fun v z=>by cases z⟩
  ·exact ⟨_,hO,fun v z=>by cases z⟩
  ·exact uh h1
  ·exact uh h2
 keep:=fun i h h' st k=>by
  obtain ⟨hz,hI,⟨u,v,hO⟩,h1,h2⟩:=st;exact ⟨k z (by simp) _ hz,k TI (by simp) _ hI,⟨u,v,k TO (by simp) _ hO⟩,zAd h1 fun o e=>k i1 (by simp) o e,zAd h2 fun o e=>k i2 (by simp) o e⟩
 item:=by
  intro X hP hw hK hc i pins s σ H E I hf st hg;subst hP hw hK;obtain ⟨hz,hI,⟨u0,v0,hO⟩,h1,h2⟩:=st;obtain ⟨xs,ys,q1,q2,l1,l2⟩:=hg;obtain ⟨us,r1,p1⟩:=Y4 I q1;obtain ⟨vs,r2,p2⟩:=Y4 I q2;have na:∀ c∈[z,TI,TO,i1,i2],a≠c:=fun c hc=>zAc I q1 (hf c hc)
  have nb:∀ c∈[z,TI,TO,i1,i2],b≠c:=fun c hc=>zAc I q2 (hf c hc)
  have D:ZipApart z TI TO i1 i2 a b:=⟨F.a1,F.a2,F.a3,F.a4,F.a5,F.a6,F.a7,F.a8,F.a9,F.a10,na z (by simp),na TO (by simp),na i1 (by simp),na i2 (by simp),nb z (by simp),nb TO (by simp),nb i1 (by simp),nb i2 (by simp)⟩;have hh:X.A.in1.handled=none:=I.ok.hd hc;obtain ⟨u,eu⟩:∃ u,xs[i]?=some u:=⟨_,getElem?_eq_getElem l1⟩;obtain ⟨v,ev⟩:∃ v,ys[i]?=some v:=⟨_,getElem?_eq_getElem l2⟩;obtain ⟨u',eu',ru⟩:=r1.get eu;obtain ⟨v',ev',rv⟩:=r2.get ev;refine G7 (srcA hh t1 (na i1 (by simp)) us.toArray) (srcA hh t2 (nb i2 (by simp)) vs.toArray) D hz hI hO ⟨h1,p1⟩ ⟨h2,p2⟩ (fun x y hx hy h' z1 o1 s1 s2 pq kk=>?_) (fun he=>?_)
  ·have ex:x=u':=by simp [eu'] at hx; exact hx.symm
   have ey:y=v':=by simp [ev'] at hy; exact hy.symm
   subst ex ey;refine ⟨_,rfl,wpAny_letOwnedTupleGo_zip z1 fun h2 z2 b2=>?_⟩;have lt:∀ {c o},s.heap.get? c=some o→s.heap.objs.size≠c:=fun e=>ne_of_gt (lt_size e)
   have pq2:IsPair h2 s.heap.objs.size x y:=b2.extBut _ _ (lt hz) pq;have k2:∀ c o,c ∉ [z,TI,TO,i1,i2]→s.heap.get? c=some o→h2.get? c=some o:=fun c o hc e=>b2.extBut _ _ (fun q=>hc (by simp [q])) (kk c o (fun q=>hc (by simp [q])) (fun q=>hc (by simp [q])) (fun q=>hc (by simp [q])) (fun q=>hc (by simp [q])) e)
   have new:ww X.prog X.w (upd H s.heap.objs.size (.tup [u,v])) h2 s.heap.objs.size (.tup [u,v]):=⟨by simp [sizeLine_eq],[x,y],.cons ru (.cons rv .nil),⟨_,pq2,rfl,_,rfl⟩⟩;have I2:=I.turnLay (t':=s.toks) hf k2 (le_refl _) new;have fresh:H s.heap.objs.size=none:=I.hok.fresh (le_refl _);refine ⟨.ref s.heap.objs.size,_,I2,rfl,⟨_,u,v,fun zs hz=>by rw [zCc I hz q1]; exact eu,fun zs hz=>by rw [zCc I hz q2]; exact ev,fresh,rfl,rfl⟩,⟨z2,b2.extBut _ _ F.a1 (kk TI _ F.a1 F.a5 F.a6 F.a7 hI),⟨_,_,b2.extBut _ _ F.a2 o1⟩,zAd s1.1 fun o e=>b2.extBut _ _ F.a3 e,zAd s2.1 fun o e=>b2.extBut _ _ F.a4 e⟩,fun c hc=>?_⟩;have:c≠s.heap.objs.size:=fun q=>by
    obtain ⟨o,e⟩:∃ o,s.heap.get? c=some o:=by
     simp only [mem_cons,mem_nil_iff,or_false] at hc;rcases hc with rfl | rfl | rfl | rfl | rfl
     ·exact ⟨_,hz⟩
     ·exact ⟨_,hI⟩
     ·exact ⟨_,hO⟩
     ·obtain ⟨o,e,_⟩:=uh h1; exact ⟨o,e⟩
     ·obtain ⟨o,e,_⟩:=uh h2; exact ⟨o,e⟩
    exact lt e q.symm
   rw [yH this];exact (hf c hc).1
  ·exfalso
   rcases he with he | he
   ·simp [eu'] at he
   ·simp [ev'] at he
 done:=by
  intro X hP hw hK hc i pins s σ H E I hf st hg;subst hP hw hK;obtain ⟨hz,hI,⟨u0,v0,hO⟩,h1,h2⟩:=st;obtain ⟨xs,ys,q1,q2,l12⟩:=hg;obtain ⟨us,r1,p1⟩:=Y4 I q1;obtain ⟨vs,r2,p2⟩:=Y4 I q2;have na:∀ c∈[z,TI,TO,i1,i2],a≠c:=fun c hc=>zAc I q1 (hf c hc)
  have nb:∀ c∈[z,TI,TO,i1,i2],b≠c:=fun c hc=>zAc I q2 (hf c hc)
  have D:ZipApart z TI TO i1 i2 a b:=⟨F.a1,F.a2,F.a3,F.a4,F.a5,F.a6,F.a7,F.a8,F.a9,F.a10,na z (by simp),na TO (by simp),na i1 (by simp),na i2 (by simp),nb z (by simp),nb TO (by simp),nb i1 (by simp),nb i2 (by simp)⟩;have hh:X.A.in1.handled=none:=I.ok.hd hc;have e1:=r1.length;have e2:=r2.length;refine G7 (srcA hh t1 (na i1 (by simp)) us.toArray) (srcA hh t2 (nb i2 (by simp)) vs.toArray) D hz hI hO ⟨h1,p1⟩ ⟨h2,p2⟩ (fun x y hx hy=>?_) (fun he h' kk=>⟨rfl,?_⟩)
  ·exfalso
   simp at hx hy
   have a1:=(List.getElem?_eq_some_iff.mp hx).1;have a2:=(List.getElem?_eq_some_iff.mp hy).1;omega
  ·exact I.turnL (t':=s.toks) hf fun c o hc e=>kk c o (fun q=>hc (by simp [q])) (fun q=>hc (by simp [q])) (fun q=>hc (by simp [q])) (fun q=>hc (by simp [q])) e
 self:=fun _ _ _ _ _ st h=>wpAny_pyIter_zip st.1 h
end DV
namespace DV
open PySem L2 PySem.Spec PyProof.Rows
section
variable {X:Cx} {K:PySem.W.Frag} {mg:Str→Option Value} {σ:L2.St} {H:Hp}
def iZip (K:PySem.W.Frag) (t1 t2:Bool) (ta:TA):TI:=fun σ H R=>ta σ H fun vs H1=>∃ a b xs ys,vs=[.ref a,.ref b]∧SqH K H1 t1 a xs∧SqH K H1 t2 b ys∧R (Itz K t1 t2 a b) H1
theorem bt_zip:bootBuiltins "zip"=some (.type "zip"):=by decide +kernel
theorem zCd {t:Bool} {h:Heap} {it l:Addr} (e:h.get? it=some (itO (itC t) l)):ItA t h it l 0:=by
 cases t with
 | true=>exact ⟨_,e,rfl,rfl⟩
 | false=>exact ⟨_,e,rfl,rfl⟩
theorem five (n:Addr):Five (n+4) (n+2) (n+3) n (n+1) :=
 have e:∀ i j:Nat,i≠j→n+i≠n+j:=fun i j h q=>h (Nat.add_left_cancel q)
 ⟨e 2 4 (by decide),e 3 4 (by decide),e 0 4 (by decide),e 1 4 (by decide),e 2 3 (by decide),e 2 0 (by decide),e 2 1 (by decide),e 3 0 (by decide),e 3 1 (by decide),e 0 1 (by decide)⟩
theorem pi_zip {t1 t2:Bool} {e f:Expr} {ta:TA} {elts:List Expr} {x1} {tp p pos:Pos} (hg:Gl X "zip") (hm:X.mg "zip"=none) (ha:PA X [e,f] ta) (hs:starEach [e,f] X.env=[(false,eval e X.env),(false,eval f X.env)]:=by rfl) (hs2:starEach [f] X.env=[(false,eval f X.env)]:=by rfl) :
  PI X (.Tuple elts x1 tp) (.Call (.Name "zip" p) [e,f] [] pos) (iZip X.K t1 t2 ta):=by
 intro pins s σ H R I h;refine Call_ (Ga I hg hm bt_zip (PyProof.Rows.callWith_type1 (thn (ha pos pins s σ H _ I h) fun us s1 ⟨vs,H1,I1,r1,q1⟩=>?_) (by rw [hs,hs2]) (by rw [hs2]; rfl)));obtain ⟨a,b,xs,ys,ev,qa,qb,q⟩:=q1;subst ev;cases r1 with
 | cons r rr =>
  cases rr with
  | cons r' rr =>
   cases rr;cases r;cases r';obtain ⟨u1,v1,p1⟩:=Y4 I1 qa;obtain ⟨u2,v2,p2⟩:=Y4 I1 qb;refine zp_call p1 p2 fun h' z=>?_
   refine wpAny_pyIter_zip (s:={ s1 with heap:=h' }) z.z ?_
   have n:∀ j,s1.heap.objs.size≤s1.heap.objs.size+j:=fun j=>Nat.le_add_right _ _
   have fr:∀ c,s1.heap.objs.size≤c→zBL X pins H1 c:=fun c hc=>I1.fpOk hc (I1.hok.fresh hc)
   refine ⟨_,[s1.heap.objs.size+4,s1.heap.objs.size+2,s1.heap.objs.size+3,s1.heap.objs.size,s1.heap.objs.size+1],_,_,H1,rfl,I1.kept (t':=s1.toks) z.kp,zEP (five _) t1 t2 a b,⟨z.z,z.a,⟨_,_,z.b⟩,zCd z.i1,zCd z.i2⟩,fun c hc=>?_,q⟩;simp only [mem_cons,mem_nil_iff,or_false] at hc;rcases hc with rfl | rfl | rfl | rfl | rfl
   ·exact fr _ (n 4)
   ·exact fr _ (n 2)
   ·exact fr _ (n 3)
   ·exact fr _ (n 0)
   ·exact fr _ (n 1)
def ui (d e:D):D:=.tup [d,e]
theorem jH {t:Bool} {a:Addr} {xs:List V} {H H':Hp} (e:Y1 H H') (h:SqH K H t a xs):SqH K H' t a xs:=by
 cases t with
 | true=>exact yD e h
 | false=>exact e.seq h
theorem it_zip {t1 t2:Bool} {a b:Addr} {xs ys:List V} {ds es:List D}:ItOk K mg (Itz K t1 t2 a b) (zipWith ui ds es) (fun H=>SqH K H t1 a xs∧Reps K mg H ds xs∧SqH K H t2 b ys∧Reps K mg H es ys) where
 mono:=fun H H' s h=>⟨jH s h.1,h.2.1.mono s,jH s h.2.2.1,h.2.2.2.mono s⟩
 go:=fun i Hh H s h hi=>by
  rw [List.length_zipWith] at hi;exact ⟨xs,ys,jH s h.1,jH s h.2.2.1,by rw [h.2.1.length]; omega,by rw [h.2.2.2.length]; omega⟩
 yld:=fun i Hh H x H' s h hi y=>by
  obtain ⟨q,u,v,h1,h2,hq,rfl,rfl⟩:=y;have e1:=h1 xs (jH s h.1);have e2:=h2 ys (jH s h.2.2.1);obtain ⟨d,g1,r1⟩:=h.2.1.get e1;obtain ⟨e,g2,r2⟩:=h.2.2.2.get e2;refine ⟨ui d e,by rw [List.getElem?_zipWith,g1,g2],.inr ⟨q,[u,v],[d,e],hq,rfl,rfl,rfl,Reps.cons r1 (Reps.cons r2 Reps.nil)⟩⟩
 stop:=fun i Hh H s h hi=>by
  rw [List.length_zipWith] at hi;refine ⟨xs,ys,jH s h.1,jH s h.2.2.1,?_⟩;rw [h.2.1.length,h.2.2.2.length]; omega
end
end DV
namespace DV
open PySem L2
section
variable {X:Cx}
def seqD:Bool→D→Option (List D)
 | true,.tup ds=>some ds
 | false,.lst ds=>some ds
 | _,_=>none
def iZ (t1 t2:Bool) (m:MA):MI:=fun E=>match m E with
 | .stuck=>.stuck
 | .exc x E1=>.exc x E1
 | .ok ([r,r'],E1)=>match seqD t1 r.d,seqD t2 r'.d with
  | some ds,some es=>.ok (zipWith ui ds es,E1)
  | _,_=>.stuck
 | _=>.stuck
theorem zCe {K:PySem.W.Frag} {mg:Str→Option Value} {H:Hp} {t:Bool} {d:D} {ds:List D} {v:V} (e:seqD t d=some ds) (r:Rep K mg H d v):∃ a xs,v=.ref a∧SqH K H t a xs∧Reps K mg H ds xs:=by
 cases t with
 | true =>
  cases d with
  | tup es=>cases e; exact zb r
  | _=>cases e
 | false =>
  cases d with
  | lst es=>cases e; exact zS r
  | _=>cases e
theorem io_zip {t1 t2:Bool} {a b:Expr} {m:MA} {elts:List Expr} {x1} {tp p cpos:Pos} (hgl:Gl X "zip") (hm:X.mg "zip"=none) (ha:AOk X [a,b] m) (hst:za a=false:=by rfl) (hst2:za b=false:=by rfl) :
  IOk X (.Tuple elts x1 tp) (.Call (.Name "zip" p) [a,b] [] cpos) (iZ t1 t2 m):=zAV (pi_zip hgl hm ha (star2 hst hst2) (star1 hst2)) fun σ H R ⟨M,E,hl,fr,k⟩=>by
 unfold iZ at k;refine Jy (T0:=[]) hl fr ?_;cases ea:m E with
 | stuck=>rw [ea] at k; exact k
 | exc x E1=>rw [ea] at k; exact k
 | ok p =>
  obtain ⟨rs,E1⟩:=p;rw [ea] at k
  match rs,k with
  | [r,r'],k =>
   intro vs H1 hv g1;have rp:=Got.reps hv g1;dsimp only at k;cases ed:seqD t1 r.d with
   | none=>rw [ed] at k; exact k.elim
   | some ds =>
    cases ed':seqD t2 r'.d with
    | none=>rw [ed,ed'] at k; exact k.elim
    | some es =>
     rw [ed,ed'] at k;simp only [List.map] at rp;obtain ⟨v,w,rfl,h1,h2⟩:=reps2 rp;obtain ⟨c,xs,rfl,c1,c2⟩:=zCe ed h1;obtain ⟨d,ys,rfl,d1,d2⟩:=zCe ed' h2;exact ⟨c,d,xs,ys,rfl,jH zL c1,jH zL d1,k _ _ H1 it_zip ⟨c1,c2,d1,d2⟩ g1.dropAll⟩
  | [],k=>exact k.elim
  | [_],k=>exact k.elim
  | _::_::_::_,k=>exact k.elim
end
end DV
namespace DV
open PySem L2
section
variable {X:Cx} {K:PySem.W.Frag} {mg:Str→Option Value} {σ:L2.St} {M:Addr→Prop} {E:zY} {H:Hp}
theorem zEQ {J:It} {ds:List D} {Iv:Hp→Prop} {σ0 σ':L2.St} {E0 E':zY} {H1 H' H'':Hp} {i:Nat} {x:V} (it:ItOk K mg J ds Iv) (hlt:i < ds.length) (gb:Got K mg M σ0 E0 H1 [] σ' E' H' []) (ivb:Iv (Hm (Mo M (σ'.zip E')) H')) (y:J.yld i H' x H'') :
  ∃ d,ds[i]?=some d∧Got K mg M σ0 E0 H1 [] σ' E' H'' []∧Iv (Hm (Mo M (σ'.zip E')) H'')∧Rep K mg (Hm (Mo M (σ'.zip E')) H'') d x:=by
 obtain ⟨d,hd,h⟩:=it.yld i _ _ x _ zL ivb hlt y;rcases h with ⟨rfl,rx⟩ | ⟨q,xs,es,hq,rfl,rfl,rfl,rs⟩
 ·exact ⟨d,hd,gb,ivb,rx⟩
 ·have f:FR K mg M H' (σ'.zip E'):=gb.fr
  have f1:=f.newTup hq rs;have s1:Step M H' (σ'.zip E') (upd H' q (.tup xs)) ((some (.ref q),.val (.tup es))::σ'.zip E'):=Step.newVal hq;obtain ⟨v,ev,rv⟩:=f1.val _ _ mem_cons_self;cases ev;have sm:=s1.same;rw [ZT] at rv sm;have s2:Step M H' (σ'.zip E') (upd H' q (.tup xs)) (σ'.zip E'):=⟨sm,s1.keep⟩;exact ⟨_,hd,⟨gb.len,f1.tail,gb.st.trans s2,gb.pk⟩,it.mono _ _ sm ivb,rv⟩
def sForI (mi:MI) (tg:MG) (body:MS):MS:=fun E=>match mi E with
 | .stuck=>.stuck
 | .exc x E1=>.exc x E1
 | .ok (ds,E1)=>vC tg body ds E1
theorem zER {mi:MI} {tg:MG} {g:TG} {body:MS} {D:Ends} (hg:GOk X g tg) (h:tS X (sForI mi tg body) D σ H):tFor (tMI X mi) g (tS X body) D σ H:=by
 obtain ⟨M,E,hl,fr,k⟩:=zB9 h;unfold sForI at k;refine ⟨M,E,hl,fr,?_⟩;cases ei:mi E with
 | stuck=>rw [ei] at k; exact k
 | exc x E1=>rw [ei] at k; exact fun H' g=>k σ H' g
 | ok p =>
  obtain ⟨ds,E1⟩:=p;rw [ei] at k;intro J Iv H1 it iv g1;refine ⟨fun i m σ1 H2=>m=ds.length - i∧i≤ds.length∧∃ E2,Got X.K X.mg M σ E H [] σ1 E2 H2 []∧Iv (Hm (Mo M (σ1.zip E2)) H2)∧Fin X M σ E H D (vC tg body (ds.drop i) E2),⟨ds.length,by simp,zero_le _,E1,g1,iv,k⟩,?_⟩
  rintro i m σ1 H2 ⟨rfl,hi,E2,g2,iv2,fin⟩
  by_cases hlt:i < ds.length
  ·refine .inr ⟨it.go i _ H2 zL iv2 hlt,fun σ3 H3=>i+1≤ds.length∧∃ E3,Got X.K X.mg M σ E H [] σ3 E3 H3 []∧Iv (Hm (Mo M (σ3.zip E3)) H3)∧Fin X M σ E H D (vC tg body (ds.drop (i+1)) E3),fun σ3 H3 q=>⟨ds.length - (i+1),by omega,rfl,q⟩,fun x H3 y=>?_⟩
   obtain ⟨d,hd,g3,iv3,rx⟩:=zEQ it hlt g2 iv2 y;have ed:ds.drop i=d::ds.drop (i+1):=by
    obtain ⟨hi',rfl⟩:=List.getElem?_eq_some_iff.mp hd;exact List.drop_eq_getElem_cons hi'
   rw [ed] at fin;exact ua hg g3 rx fin fun σ4 E4 H4 g4 st fin4=>⟨hlt,E4,g4,it.mono _ _ st.same iv3,fin4⟩
  ·have e:i=ds.length:=by omega
   subst e;rw [List.drop_length] at fin;exact .inl ⟨it.stop _ _ H2 zL iv2 (le_refl _),fin σ1 H2 g2⟩
theorem sk_forI {tgt iter:Expr} {body:List Stmt} {mi:MI} {g:TG} {tg:MG} {mb:MS} {pos:Pos} (hp:PassesOwn (model X.prog X.w) X.A X.env X.xe) (hc:X.calm=true) (hi:IOk X tgt iter mi) (hg:PG X tgt g) (ho:GOk X g tg) (hb:zBS X body mb)
  (hs:∀ x,foldedSetIterable iter X.env x=pure x:=by intro _; rfl):SOk X (.For tgt iter body [] pos) (sForI mi tg mb):=y8 (zBe hp hc hi hg hb hs) fun D σ H=>zER ho
end
end DV
namespace DV
open PySem L2 PySem.Spec PyProof.Rows
section
variable {prog:Program} {w:World} {A:Around} {E:Value→Shared→Prop} {s:Shared}
end
end DV
namespace DV
open PySem L2 PySem.Spec PyProof.Rows
open AutoSeq1 (wpAny_loadPart')
section
variable {prog:Program} {w:World} {A:Around} {E:Value→Shared→Prop} {s:Shared}
structure En (h h':Heap) (c:String) (l:Addr):Prop where
 e:IsEnum h' (h.objs.size+1) h.objs.size 0 .none
 i:h'.get? h.objs.size=some (itO c l)
 kp:∀ b o,h.get? b=some o→h'.get? b=some o
end
section
variable {X:Cx} {K:PySem.W.Frag} {mg:Str→Option Value} {σ:L2.St} {H:Hp}
end
end DV
namespace PySem
open Sem (wp)
open AutoSeq1 (wpAny_loadPart')
section
variable {prog:Program} {w:World} {A:Around} {E:Value→Shared→Prop} {s:Shared}
end
end PySem
namespace L2
open PySem PySem.Spec PyProof.Rows
section
variable {X:Cx}
end
end L2
namespace DV
open PySem L2
section
variable {X:Cx}
end
end DV
namespace DV
open PySem L2
section
variable {X:Cx} {K:PySem.W.Frag} {mg:Str→Option Value} {σ σ1:St} {M:Addr→Prop} {E E1:zY} {H H1:Hp}
end
end DV
namespace DV
open PySem L2
section
variable {X:Cx} {K:PySem.W.Frag} {mg:Str→Option Value} {P P':Addr→Prop} {H:Hp} {a:Addr} {xs:List V}
def eFrz (m:ME):ME:=fun E=>match m E with
 | .ok (r,E1)=>.ok (.val r.d,E1)
 | .exc x E1=>.exc x E1
 | .stuck=>.stuck
theorem ok_frz {e:Expr} {m:ME} (h:EOk X e m):EOk X e (eFrz m):=yY h fun σ H Q ⟨M,E,hl,f,k⟩=>by
 refine ⟨M,E,hl,f,?_⟩;unfold eFrz at k;cases em:m E with
 | stuck=>rw [em] at k; exact k.elim
 | exc x E1=>rw [em] at k; exact k
 | ok p =>
  obtain ⟨r,E1⟩:=p;rw [em] at k;intro v H' g;exact k v H' ⟨g.len,FR.frz g.fr,Step.frz g.st,g.pk⟩
def zES (mi:MI) (tg:MG) (body:MS):MS:=fun E=>match mi E with
 | .exc x E1=>.exc x E1
 | _=>(match sForI mi tg body E with
  | .exc _ _=>.stuck
  | o=>o)
theorem ps_forX {tg iter:Expr} {body:List Stmt} {wi:TI} {pos:Pos} (hi:PI X tg iter wi) (hs:∀ x,foldedSetIterable iter X.env x=pure x):PS X (.For tg iter body [] pos) (fun D σ H=>wi σ H fun _ _=>False):=by
 intro pins s σ H D I h;refine wpAny_For (thn (hi pins s σ H _ I h) fun v s1 h1=>thn h1 fun itv s2 h2=>?_) hs;obtain ⟨it,fp,tn,J,H2,e,I2,T,st2,f2,f⟩:=h2;exact f.elim
def tPar3 (i j l:Nat) (ta:TA):TS:=fun D σ H=>ta σ H fun vs H1=>∃ v w u,vs=[v,w,u]∧D.nx (((σ.set i (some v)).set j (some w)).set l (some u)) H1
open PySem.Spec PyProof.Rows in
theorem ps_par3 {i j l:Nat} {x y z:Str} {a b c:Expr} {ta:TA} {px py pz pt pos:Pos} {kt k2:Nat} {pt2:Pos} (hc:X.calm=true) (hN:X.N.Nodup) (hi:X.N[i]?=some x) (hj:X.N[j]?=some y) (hl:X.N[l]?=some z) (hij:i≠j) (hil:i≠l) (hjl:j≠l)
  (hx:X.env.scope.names.lookup x=some .local) (hy:X.env.scope.names.lookup y=some .local) (hz:X.env.scope.names.lookup z=some .local) (ha:PA X [a,b,c] ta)
  (hw:swappedStores [.Tuple [.Name x px,.Name y py,.Name z pz] kt pt] (.Tuple [a,b,c] k2 pt2) X.env=pure (some [x,y,z]))
  (hs:swapsWithSole [.Tuple [.Name x px,.Name y py,.Name z pz] kt pt] (.Tuple [a,b,c] k2 pt2) pos.line X.env=pure false) :
  PS X (.Assign [.Tuple [.Name x px,.Name y py,.Name z pz] kt pt] (.Tuple [a,b,c] k2 pt2) pos) (tPar3 i j l ta):=by
 intro pins s σ H D I h;rw [exec_Assign_arm];refine wpAny_bind (wpAny_standAt ?_);rw [hs];refine wpAny_bind (wpAny_pure ?_);rw [if_neg (by decide)];refine wpAny_bind (Tuple_ (thn (ha _ pins s σ H _ I h) fun us s1 ⟨vs,H1,I1,r1,q1⟩=>?_));obtain ⟨v,w,u,e1,q1⟩:=q1;subst e1;obtain ⟨u1,u2,u3,rfl,rv,rw',ru⟩:∃ u1 u2 u3,us=[u1,u2,u3]∧yK v u1∧yK w u2∧yK u u3:=by
  cases r1 with
  | cons p q =>
   cases q with
   | cons p' q' =>
    cases q' with
    | cons p'' q'' =>
     cases q'';exact ⟨_,_,_,rfl,p,p',p''⟩
 refine wpAny_newObj_type ?_ (by show 3≤sizeLine; decide);have I2:Inv X pins σ H1 { s1 with heap:=s1.heap.push { cls:=.type "tuple",data:=.seq [u1,u2,u3].toArray } }:=I1.kept (t':=s1.toks) fun b o e=>get?_push_of_some _ e
 rw [hw];refine wpAny_bind (wpAny_pure ?_);show wpAny (model X.prog X.w) X.A (do rule "assign.swapped-stores"; let items ← unpackItems (.ref s1.heap.objs.size) 3 none; assignInOrder [fun v=>bindName X.env z v,fun v=>bindName X.env y v,fun v=>bindName X.env x v] items.reverse; pure Flow.next) _ _ _;refine wpAny_bind (wpAny_rule (wpAny_bind (unpackItems_tuple (items:=#[u1,u2,u3]) (I.ok.hd hc) (IsTup.new s1.heap _) fun h' hx'=>?_)));have I3:=I2.kept (h':=h') (t':=s1.toks) fun b o e=>hx' b o (ne_of_lt (lt_size e)) e
 show wpAny _ _ (assignInOrder [fun v=>bindName X.env z v,fun v=>bindName X.env y v,fun v=>bindName X.env x v] [u3,u2,u1] >>= fun _=>pure Flow.next) _ _ _
 refine wpAny_bind (assignInOrder_cons (wpAny_bindName (jr I3 hN hl (.inl hz) ru (fun s2 I4=>?_) (.inr hz))));refine assignInOrder_cons (wpAny_bindName (jr I4 hN hj (.inl hy) rw' (fun s3 I5=>?_) (.inr hy)));refine assignInOrder_cons (wpAny_bindName (jr I5 hN hi (.inl hx) rv (fun s4 I6=>assignInOrder_nil (wpAny_pure ?_)) (.inr hx)));have e:((σ.set l (some u)).set j (some w)).set i (some v)=((σ.set i (some v)).set j (some w)).set l (some u):=by
  rw [set_comm _ _ (Ne.symm hij),set_comm (l:=σ) _ _ (Ne.symm hil),set_comm _ _ (Ne.symm hjl)]
 rw [e] at I6;exact ⟨_,H1,I6,q1⟩
def sPar3 (i j l:Nat) (m:MA):MS:=fun E=>match m E with
 | .stuck=>.stuck
 | .exc x E1=>.exc x E1
 | .ok ([r1,r2,r3],E1)=>match gNs [i,j,l] [r1.d,r2.d,r3.d] E1 with
  | .ok E2=>.ok (.nx,E2)
  | _=>.stuck
 | _=>.stuck
theorem zCf {σ:St} {H:Hp} {i j l:Nat} {m:MA} {D:Ends} (h:tS X (sPar3 i j l m) D σ H):tPar3 i j l (tMA X m) D σ H:=by
 obtain ⟨M,E,hl,fr,k⟩:=h;unfold sPar3 at k;refine Jy (T0:=[]) hl fr ?_;cases ea:m E with
 | stuck=>rw [ea] at k; exact k
 | exc x E1=>rw [ea] at k; exact fun H' g=>k σ H' g
 | ok p =>
  obtain ⟨rs,E1⟩:=p;rw [ea] at k
  match rs,k with
  | [r1,r2,r3],k =>
   intro vs H1 hv g;dsimp only at k;cases eg:gNs [i,j,l] [r1.d,r2.d,r3.d] E1 with
   | stuck=>rw [eg] at k; exact k.elim
   | exc _ _=>rw [eg] at k; exact k.elim
   | ok E2 =>
    rw [eg] at k
    match vs,hv with
    | [v,w,u],_ =>
     have rp:=Got.reps rfl g;have g0:=g.dropAll;have q:=YW (X:=X) [i,j,l] [r1.d,r2.d,r3.d] [v,w,u] (a:=0) (ts:=[]) (Q:=D.nx) (Got.refl (T0:=[]) g0.len g0.fr) rp eg fun σ' g'=>k σ' H1 (g0.trans' g')
     obtain ⟨v1,rr,e1,v2,rr2,e2,v3,rr3,e3,e4,q⟩:=q;cases e1; cases e2; cases e3;exact ⟨v,w,u,rfl,q⟩
  | [],k=>exact k.elim
  | [_],k=>exact k.elim
  | [_,_],k=>exact k.elim
  | _::_::_::_::_,k=>exact k.elim
end
end DV
namespace DV
open PySem L2
def tupI:D→Option (List Int)
 | .tup ds=>wx ds
 | _=>none
def G8:List D→Option (List (List Int))
 | []=>some []
 | d::ds=>match tupI d,G8 ds with
  | some a,some as=>some (a::as)
  | _,_=>none
def pyI (a:List Int):PyData:=.tuple (a.map PyData.int)
theorem G9:∀ {ds:List D} {a:List Int},wx ds=some a→pyDs ds=some (a.map PyData.int)
 | [],a,e=>by cases e; rfl
 | d::ds,a,e=>by
  cases d with
  | int i =>
   simp only [wx] at e;cases h:wx ds with
   | none=>rw [h] at e; cases e
   | some b=>rw [h] at e; cases e; simp only [pyDs,pyD,G9 h]; rfl
  | _=>cases e
theorem uj {d:D} {a:List Int} (e:tupI d=some a):pyD d=some (pyI a):=by
 cases d with
 | tup ds=>simp only [pyD,G9 (show wx ds=some a from e)]; rfl
 | _=>cases e
theorem Y5:∀ {ds:List D} {as:List (List Int)},G8 ds=some as→pyDs ds=some (as.map pyI)
 | [],as,e=>by cases e; rfl
 | d::ds,as,e=>by
  simp only [G8] at e;cases h:tupI d with
  | none=>rw [h] at e; cases e
  | some a =>
   cases h2:G8 ds with
   | none=>rw [h,h2] at e; cases e
   | some bs=>rw [h,h2] at e; cases e; simp only [pyDs,uj h,Y5 h2]; rfl
theorem WB:∀ a:List Int,PyData.canLayAll0 (a.map PyData.int)=true
 | []=>rfl
 | i::a=>by simp only [map_cons,PyData.canLayAll0,PyData.canLay0,WB a]; rfl
theorem uk:∀ as:List (List Int),PyData.canLayAll0 (as.map pyI)=true
 | []=>rfl
 | a::as=>by simp only [map_cons,PyData.canLayAll0,uk as,pyI,PyData.canLay0,WB a]; rfl
theorem zAe:∀ a:List Int,PyData.depthAll (a.map PyData.int)≤1
 | []=>by simp [PyData.depthAll]
 | i::a=>by have:=zAe a; simp only [map_cons,PyData.depthAll,PyData.depth]; omega
theorem zCg (a:List Int):(pyI a).depth≤2:=by
 have:=zAe a;simp only [pyI,PyData.depth]; omega
theorem zAf:∀ a b:List Int,PyData.eqvAll (a.map PyData.int) (b.map PyData.int)=decide (a=b)
 | [],[]=>rfl
 | [],_::_=>rfl
 | _::_,[]=>rfl
 | i::a,j::b=>by
  simp only [map_cons,PyData.eqvAll,PyData.eqv,zAf a b,List.cons.injEq,Bool.decide_and];rfl
theorem eqv_pyI (a b:List Int):PyData.eqv (pyI a) (pyI b)=decide (a=b):=by
 simp only [pyI,PyData.eqv,zAf]
theorem Qo (a:List Int):∀ as:List (List Int),(as.map pyI).any (fun y=>PyData.eqv y (pyI a))=as.contains a
 | []=>rfl
 | b::as=>by
  rw [map_cons,any_cons,Qo a as,eqv_pyI,List.contains_cons];congr 1;by_cases h:b=a
  ·subst h; simp
  ·have:¬ a=b:=fun e=>h e.symm
   simp [h,this]
def inT (neg:Bool) (d:D):D→Option R
 | .lst ds=>match tupI d,G8 ds with
  | some a,some as=>some (.val (.bl (if neg then !as.contains a else as.contains a)))
  | _,_=>none
 | _=>none
def inG (neg:Bool) (d e:D):Option R:=match inF neg d e with
 | some r=>some r
 | none=>inT neg d e
def rInT (K:PySem.W.Frag) (mg:Str→Option Value) (neg:Bool):R2:=fun x y H Q=>∃ d ds a as,Rep K mg H d x∧Rep K mg H (.lst ds) y∧tupI d=some a∧G8 ds=some as∧Q (.bl (if neg then !as.contains a else as.contains a)) H
section
variable {X:Cx} {σ:L2.St} {pins:List (Addr × Obj)} {H:Hp} {s:Shared} {K:PySem.W.Frag} {mg:Str→Option Value}
theorem zFM (S:zFL X.K) (hu:X.A.units+20 < cLine):OpR X (compareOp .In) (rInT X.K X.mg false):=by
 intro pins s σ H x y v u Q I rx ry h;obtain ⟨d,ds,a,as,r1,r2,e1,e2,q⟩:=h;obtain ⟨bs,rd,_⟩:=YY I S r1 rx (uj e1);obtain ⟨cs,rl,_⟩:=YY I S r2 ry (x:=.list (as.map pyI)) (by simp only [pyD,Y5 e2]; rfl);refine SeqAt.in_list_reads rl rd (uk as) (by simp only [pyI,PyData.canLay0,WB]) (by have:=zCg a; have:=Nat.min_le_right (PyData.depthAll (as.map pyI)) (pyI a).depth; omega) ⟨.bl _,H,I,rfl,?_⟩;rw [Qo]; exact q
theorem zCh (S:zFL X.K) (hu:X.A.units+20 < cLine):OpR X (compareOp .NotIn) (rInT X.K X.mg true):=by
 intro pins s σ H x y v u Q I rx ry h;obtain ⟨d,ds,a,as,r1,r2,e1,e2,q⟩:=h;obtain ⟨bs,rd,_⟩:=YY I S r1 rx (uj e1);obtain ⟨cs,rl,_⟩:=YY I S r2 ry (x:=.list (as.map pyI)) (by simp only [pyD,Y5 e2]; rfl);refine SeqAt.notIn_list_reads rl rd (uk as) (by simp only [pyI,PyData.canLay0,WB]) (by have:=zCg a; have:=Nat.min_le_right (PyData.depthAll (as.map pyI)) (pyI a).depth; omega) ⟨.bl _,H,I,rfl,?_⟩;rw [Qo]; exact q
theorem zAg {neg:Bool}:ROk K mg (fun x y H Q=>rIn K neg x y H Q∨rInT K mg neg x y H Q) (inG neg):=by
 intro M H Z x y d1 d2 res Q f r1 r2 e k;unfold inG at e;cases h:inF neg d1 d2 with
 | some r=>rw [h] at e; cases e; exact .inl (ro_in M H Z x y d1 d2 res Q f r1 r2 h k)
 | none =>
  rw [h] at e;cases d2 with
  | lst ds =>
   replace e:(match tupI d1,G8 ds with
    | some a,some as=>some (R.val (.bl (if neg then !as.contains a else as.contains a)))
    | _,_=>none)=some res:=e
   cases ha:tupI d1 with
   | none=>rw [ha] at e; cases e
   | some a =>
    cases hs:G8 ds with
    | none=>rw [ha,hs] at e; cases e
    | some as =>
     rw [ha,hs] at e;cases e;exact .inr ⟨d1,ds,a,as,r1.mono zL,r2.mono zL,ha,hs,k.flat f rfl⟩
  | _=>cases e
theorem MtM.or {id:String} {r r':V→List V→Hp→VK→Prop} (h:MtM X id r) (h':MtM X id r'):MtM X id (fun x vs H Q=>r x vs H Q∨r' x vs H Q):=by
 intro pins s σ H x vs v us Q I rx rv q;rcases q with q | q
 ·exact h pins s σ H x vs v us Q I rx rv q
 ·exact h' pins s σ H x vs v us Q I rx rv q
end
end DV
namespace DV
open PySem L2 PyProof.Rows PySem.Calls
section
variable {prog:Program} {w:World} {A:Around} {R:Result→Shared→Prop} {I:Addr} {fp wr:List Addr} {n:Nat} {P:Nat→Value→Prop} {St:Nat→Heap→Prop} {J:Heap→Prop}
end
section
variable {prog:Program} {w:World} {A:Around} {E:Value→Shared→Prop} {s:Shared}
end
section
variable {X:Cx} {σ:L2.St} {pins:List (Addr × Obj)} {H:Hp} {s:Shared} {K:PySem.W.Frag} {mg:Str→Option Value}
end
end DV
namespace DV
open PySem L2
section
variable {X:Cx} {σ:L2.St} {pins:List (Addr × Obj)} {H:Hp} {s:Shared}
end
end DV
namespace DV
open PySem L2
section
variable {X:Cx}
def iA (m:ME):MI:=fun E=>match m E with
 | .stuck=>.stuck
 | .exc x E1=>.exc x E1
 | .ok (r,E1)=>match r.d with
  | .lst ds=>.ok (ds,E1)
  | .tup ds=>.ok (ds,E1)
  | _=>.stuck
theorem io_any {tg e:Expr} {m:ME} (h:EOk X e m):IOk X tg e (iA m):=fun pins s σ H R I ⟨M,E,hl,fr,k⟩=>by
 unfold iA at k;cases ea:m E with
 | stuck=>rw [ea] at k; exact k.elim
 | exc x E1=>exact Ql h pins s σ H R I ⟨M,E,hl,fr,by unfold iL; rw [ea] at k ⊢; exact k⟩
 | ok p =>
  obtain ⟨r,E1⟩:=p;rw [ea] at k;dsimp only at k;cases ed:r.d with
  | lst ds=>exact Ql h pins s σ H R I ⟨M,E,hl,fr,by unfold iL; rw [ea]; dsimp only; rw [ed] at k ⊢; exact k⟩
  | tup ds=>exact zFC h pins s σ H R I ⟨M,E,hl,fr,by unfold iT; rw [ea]; dsimp only; rw [ed] at k ⊢; exact k⟩
  | _=>rw [ed] at k; exact k.elim
end
end DV
namespace DV
end DV
namespace DV
end DV
namespace DV
open PySem L2
inductive Op2 where
 | add | sub | mul | fdiv | mod | pow
def Op2.op:Op2→Operator
 | .add=>.Add | .sub=>.Sub | .mul=>.Mult | .fdiv=>.FloorDiv | .mod=>.Mod | .pow=>.Pow
def Op2.f:Op2→D→D→Option R
 | .add=>QS | .sub=>zE4 | .mul=>vD | .fdiv=>Gw | .mod=>zE5 | .pow=>powD
inductive Cp where
 | lt | le | gt | ge | eq | ne | inn | nin | is | isn
def Cp.op:Cp→CmpOp
 | .lt=>.Lt | .le=>.LtE | .gt=>.Gt | .ge=>.GtE | .eq=>.Eq | .ne=>.NotEq | .inn=>.In | .nin=>.NotIn | .is=>.Is | .isn=>.IsNot
def Cp.f:Cp→D→D→Option R
 | .lt=>ltD | .le=>leD | .gt=>gtD | .ge=>geD | .eq=>eqG | .ne=>neG | .inn=>inG false | .nin=>inG true | .is=>isG false | .isn=>isG true
def Cp.isI:Cp→Bool
 | .lt | .le | .gt | .ge=>true
 | _=>false
def Cp.b:Cp→Int→Int→Bool
 | .lt=>ltB | .le=>leB | .gt=>gtB | _=>geB
inductive Bi where
 | len | max | all | int | tuple | list | sum | abs
def Bi.nm:Bi→Str
 | .len=>"len" | .max=>"max" | .all=>"all" | .int=>"int" | .tuple=>"tuple" | .list=>"list" | .sum=>"sum" | .abs=>"abs"
def Bi.f:Bi→List D→Option R
 | .len=>lenD | .max=>zDT | .all=>allD | .int=>intF | .tuple=>zE6 | .list=>listD | .sum=>zFK | .abs=>absG
inductive Ty where
 | int | bool | tuple | list | str | dict
def Ty.s:Ty→String
 | .int=>"int" | .bool=>"bool" | .tuple=>"tuple" | .list=>"list" | .str=>"str" | .dict=>"dict"
def Ty.nm:Ty→Str
 | .int=>"int" | .bool=>"bool" | .tuple=>"tuple" | .list=>"list" | .str=>"str" | .dict=>"dict"
inductive Tg where
 | n (i:Nat)
 | t (is:List Nat)
def Tg.m:Tg→MG
 | .n i=>gN i
 | .t is=>gT is
mutual
inductive Ex where
 | c (d:D) | gl (d:D) | var (i:Nat)
 | bin (o:Op2) (a b:Ex) | cmp (o:Cp) (a b:Ex) | chain (o o':Cp) (a b c:Ex)
 | neg (a:Ex) | not (a:Ex) | and (a b:Ex)
 | tup (as:Ax) | lst (as:Ax)
 | ix (a b:Ex) | ixO (i:Nat) (b:Ex) | lenO (i:Nat) | sl (a:Ex) (l h:Ox)
 | comp (nl:Nat) (loc capn:List Str) (caps:List Nat) (it:Ix) (tg:Tg) (tt:Tx) (el:Ex)
 | is (T:Ty) (a:Ex) | cB (b:Bi) (as:Ax) | call (k:Nat) (as:Gx)
 | frz (a:Ex)
inductive Tx where
 | tOr (a b:Tx) | tNot (a:Tx) | tE (a:Ex) | tTr
inductive Ax where
 | nil | cons (a:Ex) (as:Ax)
inductive Gx where
 | nil | ev (a:Ex) (as:Gx) | lend (i:Nat) (as:Gx)
inductive Ox where
 | oN | oS (a:Ex)
inductive Ix where
 | iL (a:Ex) | iT (a:Ex) | iA (a:Ex) | iR1 (as:Ax) | iZ (t1 t2:Bool) (as:Ax)
end
mutual
inductive Sx where
 | sIf (t:Tx) (a b:Bx) | sSet (i:Nat) (a:Ex) | sRet (a:Ex) | sDrop (a:Ex) | sIx (i:Nat) (b a:Ex) | sApp (i:Nat) (a:Ex)
 | sForL (a:Ex) (tg:Tg) (b:Bx) | sForR1 (as:Ax) (tg:Tg) (b:Bx) | sForI (it:Ix) (tg:Tg) (b:Bx)
 | sAny | sTup (is:List Nat) (a:Ex) | sPar (i j:Nat) (as:Ax) | sPar3 (i j l:Nat) (as:Ax)
 | sWhile (t:Tx) (b:Bx) | sAug (i:Nat) (o:Op2) (a:Ex)
inductive Bx where
 | bNil | bOne (s:Sx) | bSeq (s:Sx) (b:Bx)
end
structure FI where
 x:Str
 n:Nat
 lv:Nat
 wild:Bool
 F:MF
def fiF (fs:List FI) (k:Nat):MF:=match fs[k]? with
 | some i=>i.F
 | none=>fun _=>.stuck
def fiX (fs:List FI) (k:Nat):Str:=match fs[k]? with
 | some i=>i.x
 | none=>""
def Op2.aug:Op2→Int→Int→Option Int
 | .add=>fun a b=>some (a+b)
 | .sub=>fun a b=>some (a - b)
 | .mul=>G6
 | _=>fun _ _=>none
def Op2.isAug:Op2→Bool
 | .add | .sub | .mul=>true
 | _=>false
def zAh (m:ME):ME:=fun E=>match m E with
 | .exc _ _=>.stuck
 | o=>o
def QA (m:MS):MS:=fun E=>match m E with
 | .exc _ _=>.stuck
 | o=>o
theorem Qp {m:ME} {E:zY} {p:R × zY} (h:m E=.ok p):zAh m E=.ok p:=by simp only [zAh,h]
theorem Qq {m:MS} {E:zY} {p:Fl × zY} (h:m E=.ok p):QA m E=.ok p:=by simp only [QA,h]
theorem no_E {X:Cx} {e:Expr} {m:ME} (h:EOk X.nox e m):EOk X e (zAh m):=yY h.nox fun σ H Q ⟨M,E,hl,fr,k⟩=>by
 unfold zAh at k;refine ⟨M,E,hl,fr,?_⟩;cases e:m E with
 | stuck=>rw [e] at k; exact k
 | exc x E1=>rw [e] at k; exact k.elim
 | ok p=>rw [e] at k; exact k
theorem no_S {X:Cx} {st:Stmt} {m:MS} (h:SOk X.nox st m):SOk X st (QA m):=fun pins s σ H D I ⟨M,E,hl,fr,k⟩=>by
 refine wpAny_mono (h pins s σ H D (I.wish _) ⟨M,E,hl,fr,?_⟩) (fun _ _ q=>q.unwish) fun _ _ z=>False.elim z
 unfold QA at k;cases e:m E with
 | stuck=>rw [e] at k; exact k
 | exc x E1=>rw [e] at k; exact k.elim
 | ok p =>
  rw [e] at k;obtain ⟨fl,E1⟩:=p;cases fl <;> exact k
theorem sk_forN {X:Cx} {st:Stmt} {mi:MI} {tg:MG} {body:MS} (h1:PS X st (fun D σ H=>tMI X mi σ H fun _ _=>False)) (h2:SOk X st (QA (sForI mi tg body))):SOk X st (zES mi tg body):=fun pins s σ H D I ⟨M,E,hl,fr,k⟩=>by
 unfold zES at k;cases e:mi E with
 | exc x E1=>rw [e] at k; exact h1 pins s σ H D I ⟨M,E,hl,fr,by rw [e]; exact fun H' g=>k σ H' g⟩
 | stuck=>rw [e] at k; exact h2 pins s σ H D I ⟨M,E,hl,fr,k⟩
 | ok p=>rw [e] at k; exact h2 pins s σ H D I ⟨M,E,hl,fr,k⟩
theorem no_set {i:Nat} {m:ME}:QA (sSet i m)=sSet i (zAh m):=by
 funext E
 simp only [QA,sSet,zAh];cases m E with
 | stuck=>rfl
 | exc x E1=>rfl
 | ok p =>
  obtain ⟨r,E1⟩:=p;dsimp only;cases vB i r E1 <;> rfl
mutual
def dE (fs:List FI):Ex→ME
 | .c d=>eC d
 | .gl d=>eC d
 | .var i=>zBM i
 | .bin o a b=>vA o.f (dE fs a) (dE fs b)
 | .cmp o a b=>vA o.f (dE fs a) (dE fs b)
 | .chain o o' a b c=>ju o.b o'.b (dE fs a) (dE fs b) (dE fs c)
 | .neg a=>eNeg (dE fs a)
 | .not a=>zBO (dE fs a)
 | .and a b=>zBP (dE fs a) (dE fs b)
 | .tup as=>zDP (dA fs as)
 | .lst as=>zDQ (dA fs as)
 | .ix a b=>vA ixD (dE fs a) (dE fs b)
 | .ixO i b=>eIxO i (dE fs b)
 | .lenO i=>zB7 i
 | .sl a l h=>eSl slD (dE fs a) (dO fs l) (dO fs h)
 | .comp nl _ _ caps it tg tt el=>zAh (We nl caps (dI fs it) tg.m (dT fs tt) (dE fs el))
 | .is T a=>eIs T.s (dE fs a)
 | .cB b as=>eCB b.f (dA fs as)
 | .call k as=>jf (fiF fs k) (dG fs as)
 | .frz a=>eFrz (dE fs a)
def dT (fs:List FI):Tx→MT
 | .tOr a b=>zBN (dT fs a) (dT fs b)
 | .tNot a=>Zy (dT fs a)
 | .tE a=>tT (dE fs a)
 | .tTr=>Qm
def dA (fs:List FI):Ax→MA
 | .nil=>zDO
 | .cons a as=>Zz (dE fs a) (dA fs as)
def dG (fs:List FI):Gx→List Arg
 | .ev a as=>.ev (dE fs a)::dG fs as
 | .lend i as=>.lend i::dG fs as
 | .nil=>[]
def dO (fs:List FI):Ox→MO
 | .oN=>oNone
 | .oS a=>zDz (dE fs a)
def dI (fs:List FI):Ix→MI
 | .iL a=>iL (dE fs a)
 | .iT a=>iT (dE fs a)
 | .iA a=>iA (dE fs a)
 | .iR1 as=>iR1 (dA fs as)
 | .iZ t1 t2 as=>iZ t1 t2 (dA fs as)
end
mutual
def dS (fs:List FI):Sx→MS
 | .sIf t a b=>sIf (dT fs t) (dB fs a) (dB fs b)
 | .sSet i a=>sSet i (dE fs a)
 | .sRet a=>sRet (dE fs a)
 | .sDrop a=>sDrop (dE fs a)
 | .sIx i b a=>WZ i (dE fs b) (dE fs a)
 | .sApp i a=>sApp i (dE fs a)
 | .sTup is a=>sTup is (dE fs a)
 | .sPar i j as=>sPar i j (dA fs as)
 | .sPar3 i j l as=>sPar3 i j l (dA fs as)
 | .sForL a tg b=>QA (sForL (dE fs a) tg.m (dB fs b))
 | .sForI it tg b=>zES (dI fs it) tg.m (dB fs b)
 | .sForR1 a tg b=>QA (sForR1 (dA fs a) tg.m (dB fs b))
 | .sAny=>fun _=>.stuck
 | .sWhile t b=>QA (DV.sWhile (dT fs t) (dB fs b))
 | .sAug i o a=>DV.sAug i o.aug (dE fs a)
def dB (fs:List FI):Bx→MS
 | .bNil=>zDS
 | .bOne s=>dS fs s
 | .bSeq s b=>zBB (dS fs s) (dB fs b)
end
structure Sg where
 N:List Str
 sc:Scope
 top:Bool
 cs:List (Str × D)
 fs:List FI
 bs:List Str
 lv:Nat
 calm:Bool
 cl:List Str
 rs:List Str
 oc:List Str
def kIs (sg:Sg) (x:Str) (k:NameKind):Bool:=sg.sc.names.lookup x == some k
def vis (sg:Sg) (i:Nat) (x:Str):Bool:=sg.N[i]? == some x&&(kIs sg x .local || (kIs sg x .cell || kIs sg x .free))&&(!(x == ("__debug__":Str))&&!(x == ("__classdict__":Str)))
def glb (sg:Sg) (x:Str):Bool:=kIs sg x .globalImplicit&&!(x == ("__debug__":Str))
def zFN (sg:Sg) (i:Nat) (x:Str):Bool:=sg.N[i]? == some x&&(kIs sg x .local || (kIs sg x .cell&&(sg.top || sg.oc.contains x)))
def cIs:D→Const→Bool
 | .non,.none=>true
 | .bl b,.bool c=>b == c
 | .int i,.int j=>i == j
 | .str x,.str y=>x == y
 | _,_=>false
def feq:D→D→Bool
 | .non,.non=>true
 | .bl b,.bl c=>b == c
 | .int i,.int j=>i == j
 | .str x,.str y=>x == y
 | _,_=>false
def geq:D→D→Bool
 | .tup [.int a,.int b],.tup [.int c,.int d]=>a == c&&b == d
 | d,e=>feq d e
def gIs (sg:Sg) (x:Str) (d:D):Bool:=match sg.cs.lookup x with
 | some d'=>geq d d'
 | none=>false
def fIs (sg:Sg) (k:Nat) (x:Str):Bool:=match sg.fs[k]? with
 | some i=>i.x == x
 | none=>false
def fArg (sg:Sg) (n:Nat) (k:Nat):Bool:=match sg.fs[k]? with
 | some i=>i.n == n&&decide (i.lv≤sg.lv)&&(sg.calm || i.wild)
 | none=>false
def bIn (sg:Sg) (x:Str):Bool:=sg.bs.contains x
def gLen:Gx→Nat
 | .ev _ as=>gLen as+1
 | .lend _ as=>gLen as+1
 | .nil=>0
def QT:Tg→Sg→Expr→Bool
 | .n i,sg,e=>match e with
  | .Name x _=>zFN sg i x
  | _=>false
 | .t is,sg,e=>match e with
  | .Tuple es _ _=>all2 sg is es
  | _=>false
where all2 (sg:Sg):List Nat→List Expr→Bool
 | [],[]=>true
 | i::is,e::es=>(match e with | .Name x _=>zFN sg i x | _=>false)&&all2 sg is es
 | _,_=>false
def relab (scope:Scope) (sc:Scope):Scope:={ scope with names:=scope.names.map fun (n,k)=>if (k == NameKind.free&&sc.kind == .function&&sc.names.lookup n == some .cell) then (n,NameKind.cell) else (n,k) }
def capB (sg:Sg) (scope:Scope):List Nat→List Str→Bool
 | [],[]=>true
 | j::js,x::xs=>sg.N[j]? == some x&&scope.names.lookup x == some .free&&capB sg scope js xs
 | _,_=>false
def QU (sg:Sg) (N:List Str) (scope:Scope):Sg:={ sg with N:=N,sc:=relab scope sg.sc,top:=false,oc:=(scope.names.filter fun y=>y.2 == .cell).map Prod.fst }
def zCi (sg:Sg) (nl:Nat) (loc capn:List Str) (caps:List Nat) (scope:Scope):Bool :=
 loc.length == nl&&scope.kind == .function&&decide (loc++capn).Nodup&&scope.names.all (fun y=>y.2 != .local || scope.names.lookup y.1 == some .local)&&scope.names.all (fun y=>y.2 != .cell || scope.names.lookup y.1 == some .cell)
  && scope.names.all (fun y=>y.2 != .free || sg.sc.names.lookup y.1 == some .cell)&&capB sg scope caps capn
def isCmp:Ex→Bool
 | .cmp _ _ _=>true
 | .chain _ _ _ _ _=>true
 | _=>false
def swOk (sg:Sg) (es:List Expr) (v:Expr):Bool:=match v with
 | .Tuple vs _ _=>es.any (fun e=>match e with | .Name x _=>!(kIs sg x .local) | _=>true) || vs.all (foldedForSure 8)
 | _=>true
def swB (sg:Sg) (x:Str) (px:Pos) (scope:Scope) (vp:Pos):Bool:=kIs sg x .local&&px.line == vp.line&&!(scope.names.any fun y=>y.1 == x&&(y.2 == .local || y.2 == .cell))
def setOk (sg:Sg) (x:Str) (px:Pos) (a:Ex) (v:Expr):Bool:=match v with
 | .ListComp _ _ scope vp=>sg.sc.kind == .function&&(!swB sg x px scope vp || (match a with | .comp _ _ _ _ _ _ _ _=>true | _=>false))
 | v=>wb v
def zCj (sg:Sg) (i j:Nat) (x y:Str) (px py:Pos) (a b:Expr):Bool :=
 sg.sc.kind == .function&&sg.N[i]? == some x&&sg.N[j]? == some y&&i != j&&kIs sg x .local&&kIs sg y .local&&py.line == px.line&&!(x == y)&&!za a&&!za b&&!([a,b].all (foldedForSure 8))&&!([a,b].all (constantsAlone 8))
def zCk (sg:Sg) (i j l:Nat) (x y z:Str) (px py pz:Pos) (a b c:Expr):Bool :=
 sg.sc.kind == .function&&sg.N[i]? == some x&&sg.N[j]? == some y&&sg.N[l]? == some z&&i != j&&i != l&&j != l&&kIs sg x .local&&kIs sg y .local&&kIs sg z .local&&py.line == px.line&&pz.line == px.line&&!(x == y)&&!(x == z)&&!(y == z)&&!za a&&!za b&&!za c&&!([a,b,c].all (foldedForSure 8))&&!([a,b,c].all (constantsAlone 8))
def isTr:Tx→Bool
 | .tTr=>true
 | _=>false
def chkZ:Ix→Expr→Bool
 | .iZ _ _ _,e=>match e with
  | .Tuple _ _ _=>true
  | _=>false
 | _,_=>true
mutual
def yc:Ex→Sg→Expr→Bool
 | .c d,_,e=>match e with
  | .Constant k _ _=>cIs d k
  | _=>false
 | .gl d,sg,e=>match e with
  | .Name x _=>glb sg x&&gIs sg x d
  | _=>false
 | .var i,sg,e=>match e with
  | .Name x _=>vis sg i x
  | _=>false
 | .bin o a b,sg,e=>match e with
  | .BinOp x op y _=>op == o.op&&(yc a sg x&&yc b sg y)
  | _=>false
 | .cmp o a b,sg,e=>match e with
  | .Compare x [op] [y] _=>op == o.op&&y9 y&&(yc a sg x&&yc b sg y)
  | _=>false
 | .chain o o' a b c,sg,e=>match e with
  | .Compare x [op,op'] [y,z] _=>op == o.op&&op' == o'.op&&o.isI&&o'.isI&&y9 z&&(yc a sg x&&(yc b sg y&&yc c sg z))
  | _=>false
 | .neg a,sg,e=>match e with
  | .UnaryOp .USub x _=>yc a sg x
  | _=>false
 | .not a,sg,e=>match e with
  | .UnaryOp .Not x _=>yc a sg x
  | _=>false
 | .and a b,sg,e=>match e with
  | .BoolOp .And (x::y::r) p=>yc a sg x&&(match r with | []=>yc b sg y | z::r'=>yc b sg (.BoolOp .And (y::z::r') p))
  | _=>false
 | .tup as,sg,e=>match e with
  | .Tuple es _ _=>chkA as sg es
  | _=>false
 | .lst as,sg,e=>match e with
  | .List es _=>chkA as sg es
  | _=>false
 | .ix a b,sg,e=>match e with
  | .Subscript x y _=>Gr y&&(yc a sg x&&yc b sg y)
  | _=>false
 | .ixO i b,sg,e=>match e with
  | .Subscript (.Name x _) y _=>vis sg i x&&Gr y&&yc b sg y
  | _=>false
 | .lenO i,sg,e=>match e with
  | .Call (.Name f _) [.Name x _] [] _=>f == "len"&&glb sg "len"&&bIn sg "len"&&vis sg i x
  | _=>false
 | .sl a l h,sg,e=>match e with
  | .Subscript x (.Slice lo hi none _) _=>yc a sg x&&(chkO l sg lo&&chkO h sg hi)
  | _=>false
 | .comp nl loc capn caps it tg tt el,sg,e=>match e with
  | .ListComp elt [⟨target,iter,ifs,0⟩] scope _=>sg.calm&&(zCi sg nl loc capn caps scope&&y9 iter&&((chkZ it target&&chkI it sg iter)&&(QT tg (QU sg (loc++capn) scope) target&&((match ifs with | []=>isTr tt | c::cs=>cs.isEmpty&&chkT tt (QU sg (loc++capn) scope) c)&&yc el (QU sg (loc++capn) scope) elt))))
  | _=>false
 | .is T a,sg,e=>match e with
  | .Call (.Name f _) [x,.Name y _] [] _=>f == "isinstance"&&y == T.nm&&glb sg "isinstance"&&bIn sg "isinstance"&&glb sg T.nm&&bIn sg T.nm&&!za x&&yc a sg x
  | _=>false
 | .cB b as,sg,e=>match e with
  | .Call (.Name f _) (x::es) [] _=>sg.calm&&(f == b.nm&&glb sg b.nm&&bIn sg b.nm&&jN (x::es)&&chkA as sg (x::es))
  | _=>false
 | .call k as,sg,e=>match e with
  | .Call (.Name f _) (x::es) [] _=>glb sg f&&fIs sg k f&&fArg sg (gLen as) k&&jN (x::es)&&chkG as sg (x::es)
  | _=>false
 | .frz a,sg,e=>yc a sg e
def chkT:Tx→Sg→Expr→Bool
 | .tOr a b,sg,e=>match e with
  | .BoolOp .Or (x::y::r) p=>chkT a sg x&&(match r with | []=>chkT b sg y | z::r'=>chkT b sg (.BoolOp .Or (y::z::r') p))
  | _=>false
 | .tNot a,sg,e=>match e with
  | .UnaryOp .Not x _=>chkT a sg x
  | _=>false
 | .tE a,sg,e=>(zE1 e || isCmp a)&&yc a sg e
 | .tTr,_,_=>false
def chkA:Ax→Sg→List Expr→Bool
 | .nil,_,es=>es.isEmpty
 | .cons a as,sg,es=>match es with
  | x::r=>!za x&&(yc a sg x&&chkA as sg r)
  | []=>false
def chkG:Gx→Sg→List Expr→Bool
 | .nil,_,es=>es.isEmpty
 | .ev a as,sg,es=>match es with
  | x::r=>!za x&&(yc a sg x&&chkG as sg r)
  | []=>false
 | .lend i as,sg,es=>match es with
  | .Name x _::r=>vis sg i x&&chkG as sg r
  | _=>false
def chkO:Ox→Sg→Option Expr→Bool
 | .oN,_,o=>o.isNone
 | .oS a,sg,o=>match o with
  | some e=>yc a sg e
  | none=>false
def chkI:Ix→Sg→Expr→Bool
 | .iL a,sg,e=>yc a sg e
 | .iT a,sg,e=>yc a sg e
 | .iA a,sg,e=>yc a sg e
 | .iR1 as,sg,e=>match e with
  | .Call (.Name f _) [x] [] _=>f == "range"&&glb sg "range"&&bIn sg "range"&&!za x&&chkA as sg [x]
  | _=>false
 | .iZ t1 t2 as,sg,e=>match e with
  | .Call (.Name f _) [x,y] [] _=>f == "zip"&&glb sg "zip"&&bIn sg "zip"&&!za x&&!za y&&chkA as sg [x,y]
  | _=>false
end
mutual
def chkS:Sx→Sg→Stmt→Bool
 | .sIf t a b,sg,e=>match e with
  | .If c x y _=>chkT t sg c&&(chkB a sg x&&chkB b sg y)
  | _=>false
 | .sSet i a,sg,e=>match e with
  | .Assign [.Name x px] v _=>zFN sg i x&&setOk sg x px a v&&yc a sg v
  | _=>false
 | .sAny,_,_=>true
 | .sWhile t b,sg,e=>match e with
  | .While c body [] _=>chkT t sg c&&chkB b sg body
  | _=>false
 | .sAug i o a,sg,e=>match e with
  | .AugAssign (.Name x _) op v _=>zFN sg i x&&op == o.op&&o.isAug&&yc a sg v
  | _=>false
 | .sTup is a,sg,e=>match e with
  | .Assign [.Tuple es k p] v _=>sg.calm&&(QT.all2 sg is es&&wb v&&swOk sg es v&&yc a sg v)
  | _=>false
 | .sPar3 i j l as,sg,e=>match e with
  | .Assign [.Tuple [.Name x px,.Name y py,.Name z pz] _ _] (.Tuple [a,b,c] _ _) _=>sg.calm&&(zCk sg i j l x y z px py pz a b c&&chkA as sg [a,b,c])
  | _=>false
 | .sPar i j as,sg,e=>match e with
  | .Assign [.Tuple [.Name x px,.Name y py] _ _] (.Tuple [a,b] _ _) _=>sg.calm&&(zCj sg i j x y px py a b&&chkA as sg [a,b])
  | _=>false
 | .sRet a,sg,e=>match e with
  | .Return (some v) _=>yc a sg v
  | _=>false
 | .sDrop a,sg,e=>match e with
  | .Expr v _=>wb v&&yc a sg v
  | _=>false
 | .sIx i b a,sg,e=>match e with
  | .Assign [.Subscript (.Name x _) y _] v _=>vis sg i x&&Gr y&&wb v&&(yc b sg y&&yc a sg v)
  | _=>false
 | .sApp i a,sg,e=>match e with
  | .Expr (.Call (.Attribute (.Name x _) m ap) [v] [] cp) _=>m == "append"&&ap.endLine == cp.line&&vis sg i x&&!za v&&yc a sg v
  | _=>false
 | .sForL a tg b,sg,e=>match e with
  | .For t it body [] _=>sg.calm&&(y9 it&&QT tg sg t&&(yc a sg it&&chkB b sg body))
  | _=>false
 | .sForI ix tg b,sg,e=>match e with
  | .For t it body [] _=>sg.calm&&(y9 it&&QT tg sg t&&((chkZ ix t&&chkI ix sg it)&&chkB b sg body))
  | _=>false
 | .sForR1 as tg b,sg,e=>match e with
  | .For t (.Call (.Name f _) [x] [] _) body [] _=>sg.calm&&(f == "range"&&glb sg "range"&&bIn sg "range"&&!za x&&QT tg sg t&&(chkA as sg [x]&&chkB b sg body))
  | _=>false
def chkB:Bx→Sg→List Stmt→Bool
 | .bNil,_,l=>l.isEmpty
 | .bOne a,sg,l=>match l with
  | [s]=>chkS a sg s
  | _=>false
 | .bSeq a b,sg,l=>match l with
  | s::r=>chkS a sg s&&chkB b sg r
  | _=>false
end
structure SgOk (X:Cx) (sg:Sg):Prop where
 N:X.N=sg.N
 sc:X.env.scope=sg.sc
 fn:sg.top=true→∀ x,X.fn x=true
 oc:∀ x∈sg.oc,X.env.scope.names.lookup x=some .cell→X.fn x=true
 calm:sg.calm=true→X.calm=true
 hd:sg.calm=true→X.A.handled=none
 stk:sg.top=true→X.stack=X.env::X.outer∧X.env.frame=some X.env.locals
 nd:X.N.Nodup
 cs:∀ x d,sg.cs.lookup x=some d→∃ u v,X.mg x=some u∧yK v u∧∀ H,Rep X.K X.mg H d v
 fs:∀ i∈sg.fs,∃ f fd ps,X.mg i.x=some (.ref f)∧keepIn X.K (.ref f)=true∧WN X.K fd ps []∧ps.length=i.n∧FnOkN (!i.wild) X.prog X.w X.K X.mg X.base i.lv f fd ps (spM X.K X.mg i.n i.F)
 bs:∀ x∈sg.bs,X.mg x=none
 room:RoomN sg.lv X.A
 cl:sg.cl≠[]→∃ T,X.mg "ThrowError"=some (.ref T)∧TCls X.K T∧∀ c∈sg.cl,∃ C,X.mg c=some (.ref C)∧XCls X.K c C T∧C≠T
 rs:∀ c∈sg.rs,∃ C,X.mg c=some (.ref C)∧excIn X.K C VB "ValueError.__new__"=true
 sm:zFL X.K
section
variable {X:Cx} {sg:Sg}
theorem jB (G:SgOk X sg) {x:Str} {k:NameKind} (h:kIs sg x k=true):X.env.scope.names.lookup x=some k:=by
 rw [G.sc]; simpa [kIs] using h
theorem Jh (G:SgOk X sg) {x:Str} (h:glb sg x=true):Gl X x∧(x == ("__debug__":Str))=false:=by
 simp only [glb,Bool.and_eq_true,Bool.not_eq_true'] at h;exact ⟨jB G h.1,h.2⟩
theorem vk (G:SgOk X sg) {x:Str} {i:Nat} {pos:Pos} (h:vis sg i x=true):PE X (.Name x pos) (zA3 i):=by
 simp only [vis,Bool.and_eq_true,Bool.or_eq_true,Bool.not_eq_true'] at h;refine pe_var (by rw [G.N]; simpa using h.1.1) ?_ h.2.1 h.2.2;rcases h.1.2 with q | q | q
 ·exact .inl (jB G q)
 ·exact .inr (.inl (jB G q))
 ·exact .inr (.inr (jB G q))
theorem um (G:SgOk X sg) {x:Str} {i:Nat} (h:zFN sg i x=true):X.N[i]?=some x∧Loc X.env.scope x∧(X.fn x=true∨X.env.scope.names.lookup x=some .local):=by
 simp only [zFN,Bool.and_eq_true,Bool.or_eq_true] at h;refine ⟨by rw [G.N]; simpa using h.1,?_⟩;rcases h.2 with q | q
 ·exact ⟨.inl (jB G q),.inr (jB G q)⟩
 ·refine ⟨.inr (jB G q.1),.inl ?_⟩
  rcases q.2 with q2 | q2
  ·exact G.fn q2 x
  ·exact G.oc x (by simpa using q2) (jB G q.1)
theorem Wg (G:SgOk X sg) {x:Str} (h:bIn sg x=true):X.mg x=none:=G.bs x (by simpa [bIn] using h)
theorem feq_of {d d':D} (h:feq d d'=true):d=d':=by
 cases d <;> cases d' <;> simp [feq] at h <;> first | rfl | (subst h; rfl)
theorem geq_of {d d':D} (h:geq d d'=true):d=d':=by
 unfold geq at h;split at h
 ·obtain ⟨h1,h2⟩:=Bool.and_eq_true_iff.mp h
  have:=beq_iff_eq.mp h1;have:=beq_iff_eq.mp h2
  subst_vars; rfl
 ·exact feq_of h
theorem ok_glR {x:Str} {d:D} {u:Value} {v:V} {pos:Pos} (hg:Gl X x) (hm:X.mg x=some u) (r:yK v u) (hr:∀ H,Rep X.K X.mg H d v) (hd:(x == ("__debug__":Str))=false):EOk X (.Name x pos) (eC d) :=
 yY (pe_glob hg hm r hd) fun σ H Q ⟨M,E,hl,fr,k⟩=>k _ H ((Got.refl (T0:=[]) hl fr).more (T:=[(some v,.val d)]) (FR.add fr (hr _)) Step.refl.add)
theorem fIs_of {k:Nat} {x:Str} (h:fIs sg k x=true):∃ i,sg.fs[k]?=some i∧i.x=x:=by
 unfold fIs at h;split at h
 ·rename_i i e; exact ⟨i,e,by simpa using h⟩
 ·cases h
theorem fArg_of {k n:Nat} (h:fArg sg n k=true):∃ i,sg.fs[k]?=some i∧i.n=n∧i.lv≤sg.lv∧(sg.calm || i.wild)=true:=by
 unfold fArg at h;split at h
 ·rename_i i e
  simp only [Bool.and_eq_true,decide_eq_true_eq,beq_iff_eq] at h;exact ⟨i,e,h.1.1,h.1.2,by simpa using h.2⟩
 ·cases h
theorem hd_of (G:SgOk X sg) {b:Bool} (h:(sg.calm || b)=true):(!b)=true→X.A.handled=none:=fun hb=>G.hd (by
 cases b with
 | true=>cases hb
 | false=>simpa using h)
theorem fiF_of {fs:List FI} {k:Nat} {i:FI} (h:fs[k]?=some i):fiF fs k=i.F∧fiX fs k=i.x:=by
 unfold fiF fiX; rw [h]; exact ⟨rfl,rfl⟩
theorem vm {b:Expr} (h:Gr b=true):uQ b:=by
 intro o i;cases b <;> first | rfl | (cases h)
theorem ZW (es:List Expr) (is:List Nat) (G:SgOk X sg) (h:QT.all2 sg is es=true):PGs X es (J1 is)∧(assignEach es X.env).length=is.length∧(assignEach es X.env).findIdx? (·.1)=none:=by
 induction es generalizing is with
 | nil =>
  cases is with
  | nil=>exact ⟨pgs_nil,rfl,rfl⟩
  | cons i is=>cases h
 | cons e es ih =>
  cases is with
  | nil=>cases h
  | cons i is =>
   simp only [QT.all2,Bool.and_eq_true] at h;obtain ⟨h1,h2⟩:=h;cases e with
   | Name x pos =>
    obtain ⟨q1,q2,q3⟩:=um G h1;obtain ⟨i1,i2,i3⟩:=ih is h2;refine ⟨zDZ (zBZ G.nd q1 q2 q3) i1 rfl,?_,?_⟩
    ·show (assignEach es X.env).length+1=_
     rw [i2]; rfl
    ·show List.findIdx? _ ((false,_)::assignEach es X.env)=none
     simp only [List.findIdx?_cons,i3]; rfl
   | _=>cases h1
def gOf (K:PySem.W.Frag):Tg→TG
 | .n i=>QZ i
 | .t is=>gTup K is.length (J1 is)
theorem uO (tg:Tg):GOk X (gOf X.K tg) tg.m:=by
 cases tg with
 | n i=>exact go_name i
 | t is=>exact zE9 is rfl
theorem zCl {tg:Tg} {t:Expr} (hcm:sg.calm=true) (G:SgOk X sg) (h:QT tg sg t=true):PG X t (gOf X.K tg):=by
 cases tg with
 | n i =>
  simp only [QT] at h;cases t with
  | Name x pos =>
   obtain ⟨q1,q2,q3⟩:=um G h;exact zBZ G.nd q1 q2 q3
  | _=>cases h
 | t is =>
  simp only [QT] at h;cases t with
  | Tuple es k pos =>
   obtain ⟨q1,q2,q3⟩:=ZW es is G h;exact zEt (G.calm hcm) q1 q2 q3
  | _=>cases h
theorem zAi (G:SgOk X sg) {N:List Str} {scope:Scope} (hn:N.Nodup) (hcell:∀ y∈scope.names,y.2=.cell→scope.names.lookup y.1=some .cell) {cl C ex s H}:SgOk (cxB X N scope cl C ex s H) (QU sg N scope) where
 N:=rfl
 sc:=by
  show relabel scope X.env=relab scope sg.sc
  rw [← G.sc]; rfl
 fn:=fun h=>by cases h
 oc:=fun x h _=>by
  obtain ⟨y,hy,rfl⟩:=mem_map.mp (show x∈(scope.names.filter fun y=>y.2 == .cell).map Prod.fst from h);obtain ⟨q1,q2⟩:=mem_filter.mp hy;show (scope.names.lookup y.1 == some NameKind.cell)=true;rw [hcell y q1 (by simpa using q2)]; rfl
 calm:=G.calm
 hd:=G.hd
 stk:=fun h=>by cases h
 nd:=hn
 cs:=G.cs
 fs:=G.fs
 bs:=G.bs
 room:=G.room
 cl:=G.cl
 rs:=G.rs
 sm:=G.sm
theorem yu (G:SgOk X sg):SgOk X.nox sg:=⟨G.N,G.sc,G.fn,G.oc,G.calm,G.hd,G.stk,G.nd,G.cs,G.fs,G.bs,G.room,G.cl,G.rs,G.sm⟩
end
section
open Bool
theorem kit_of (K:PySem.W.Frag) (T:Ty):Kit K T.s:=by
 cases T
 ·exact kit_int K
 ·exact zEB K
 ·exact zCJ K
 ·exact zEC K
 ·exact kit_str K
 ·exact zED K
theorem bt_of (T:Ty):bootBuiltins T.nm=some (.type T.s):=by
 cases T
 ·exact zFD
 ·exact bt_bool
 ·exact zAX
 ·exact zCK
 ·exact bt_str
 ·exact bt_dict
theorem nm_of (T:Ty):T.nm≠"__name__":=by cases T <;> decide +kernel
theorem bin_of {X:Cx} {o:Op2} {a b:Expr} {ma mb:ME} {pos:Pos} (ha:EOk X a ma) (hb:EOk X b mb):EOk X (.BinOp a o.op b pos) (vA o.f ma mb):=by
 cases o
 ·exact zBA op_addD ro_add ha hb
 ·exact zBA op_sub ro_sub ha hb
 ·exact zBA (op_mulD.or op_repL) ro_mulG ha hb
 ·exact zBA zDx ro_fdiv ha hb
 ·exact zBA op_mod ro_mod ha hb
 ·exact zBA op_pow ro_pow ha hb
theorem ZX {X:Cx} {sg:Sg} (G:SgOk X sg):X.A.units+20 < cLine:=by have:=G.room.un; omega
theorem bt_sum:bootBuiltins "sum"=some (.builtin "sum"):=by decide +kernel
theorem bt_abs:bootBuiltins "abs"=some (.builtin "abs"):=by decide +kernel
theorem zo {op:CmpOp} {b:Expr} (h:y9 b=true):behindInMarks op b=false:=by
 cases b <;> first | rfl | (cases h)
theorem cmp_of {X:Cx} {sg:Sg} (G:SgOk X sg) {o:Cp} {a b:Expr} {ma mb:ME} {pos:Pos} (hn:y9 b=true) (ha:EOk X a ma) (hb:EOk X b mb):EOk X (.Compare a [o.op] [b] pos) (vA o.f ma mb):=by
 cases o
 ·exact Jf op_lt ro_lt (zo hn) ha hb
 ·exact Jf op_le ro_le (zo hn) ha hb
 ·exact Jf op_gt ro_gt (zo hn) ha hb
 ·exact Jf op_ge ro_ge (zo hn) ha hb
 ·exact Jf (op_eq.or (zFE (ZX G))) zFH (zo hn) ha hb
 ·exact Jf (op_ne.or (zFF (ZX G))) zFI (zo hn) ha hb
 ·exact Jf (Gm.or (zFM G.sm (ZX G))) (zAg (neg:=false)) (zo hn) ha hb
 ·exact Jf (ZR.or (zCh G.sm (ZX G))) (zAg (neg:=true)) (zo hn) ha hb
 ·exact Jf op_is ro_is (zo hn) ha hb
 ·exact Jf zAa zAb (zo hn) ha hb
theorem cmpT_of {X:Cx} {sg:Sg} (G:SgOk X sg) {o:Cp} {a b:Expr} {ma mb:ME} {pos:Pos} (hn:y9 b=true) (ha:EOk X a ma) (hb:EOk X b mb):TOk X (.Compare a [o.op] [b] pos) (tT (vA o.f ma mb)):=by
 cases o
 ·exact wF op_lt ro_lt (zo hn) ha hb
 ·exact wF op_le ro_le (zo hn) ha hb
 ·exact wF op_gt ro_gt (zo hn) ha hb
 ·exact wF op_ge ro_ge (zo hn) ha hb
 ·exact wF (op_eq.or (zFE (ZX G))) zFH (zo hn) ha hb
 ·exact wF (op_ne.or (zFF (ZX G))) zFI (zo hn) ha hb
 ·exact wF (Gm.or (zFM G.sm (ZX G))) (zAg (neg:=false)) (zo hn) ha hb
 ·exact wF (ZR.or (zCh G.sm (ZX G))) (zAg (neg:=true)) (zo hn) ha hb
 ·exact wF op_is ro_is (zo hn) ha hb
 ·exact wF zAa zAb (zo hn) ha hb
theorem zCm {o o':CmpOp} {b c:Expr} (h:y9 c=true):lastMarks [o,o'] [b,c]=false:=zo h
theorem zAj {X:Cx} {o:Cp} (h:o.isI=true):OpR X (compareOp o.op) (rI0 fun i j=>.bl (o.b i j)):=by
 cases o <;> first | exact op_lt | exact op_le | exact op_gt | exact op_ge | (cases h)
theorem bi_of {X:Cx} {sg:Sg} (hcm:sg.calm=true) (G:SgOk X sg) (b:Bi) {x:Expr} {es:List Expr} {m:MA} {p pos:Pos} (hg:Gl X b.nm) (hm:X.mg b.nm=none) (hs:jN (x::es)=true) (ha:AOk X (x::es) m):EOk X (.Call (.Name b.nm p) (x::es) [] pos) (eCB b.f m):=by
 have h1:za x=false:=by simp only [jN,Bool.and_eq_true,Bool.not_eq_true'] at hs; exact hs.1
 have h2:jN es=true:=by simp only [jN,Bool.and_eq_true,Bool.not_eq_true'] at hs; exact hs.2
 cases b with
 | len=>exact YV ZS co_len hg hm bt_len ha (by decide +kernel) (by decide +kernel) h1 h2
 | max=>exact YV (zCY (zBk (G.calm hcm)) (zCS (G.calm hcm))) co_maxG hg hm bt_max ha (by decide +kernel) (by decide +kernel) h1 h2
 | all=>exact YV (zDt (G.calm hcm)) co_all hg hm bt_all ha (by decide +kernel) (by decide +kernel) h1 h2
 | int=>exact WU zBl co_int hg hm zFD ha (by decide +kernel) (by decide +kernel) h1 h2
 | tuple=>exact WU uS zDy hg hm zAX ha (by decide +kernel) (by decide +kernel) h1 h2
 | list=>exact WU Gn co_list hg hm zCK ha (by decide +kernel) (by decide +kernel) h1 h2
 | sum=>exact YV (zCY (zCT (G.calm hcm)) (zCU (G.calm hcm))) co_sumG hg hm bt_sum ha (by decide +kernel) (by decide +kernel) h1 h2
 | abs=>exact YV zDf co_absG hg hm bt_abs ha (by decide +kernel) (by decide +kernel) h1 h2
theorem zCn (fs:List FI):∀ as:Gx,(dG fs as).length=gLen as
 | .nil=>rfl
 | .ev a as=>congrArg (·+1) (zCn fs as)
 | .lend i as=>congrArg (·+1) (zCn fs as)
theorem call_ok {X:Cx} {sg:Sg} (G:SgOk X sg) {k:Nat} {as:Gx} {f:Str} {x:Expr} {es:List Expr} {p pos:Pos} (h1:glb sg f=true) (h2:fIs sg k f=true) (h3:fArg sg (gLen as) k=true) (h4:jN (x::es)=true) (ha:zFA X (x::es) (dG sg.fs as)):EOk X (.Call (.Name f p) (x::es) [] pos) (jf (fiF sg.fs k) (dG sg.fs as)):=by
 obtain ⟨g1,g2⟩:=Jh G h1;obtain ⟨i,e1,e2⟩:=fIs_of h2;obtain ⟨i',e1',e3,e4,e5⟩:=fArg_of h3;rw [e1] at e1'; cases e1';obtain ⟨a,fd,ps,m1,m2,m3,m4,m5⟩:=G.fs i (mem_of_getElem? e1);rw [(fiF_of e1).1];subst e2;simp only [jN,Bool.and_eq_true,Bool.not_eq_true'] at h4;rw [← m4] at m5;exact ok_call m5 (hd_of G e5) (G.room.mono e4) g1 m1 m2 m3 ha (by rw [zCn,m4,e3]) g2 h4.1 h4.2
theorem zCo {X:Cx} {sg:Sg} (G:SgOk X sg) {scope:Scope}:∀ {caps:List Nat} {capn:List Str},capB sg scope caps capn=true→zCM X scope caps capn
 | [],[],_=>trivial
 | [],_::_,h=>by cases h
 | _::_,[],h=>by cases h
 | j::js,x::xs,h=>by
  simp only [capB,Bool.and_eq_true] at h;exact ⟨by rw [G.N]; simpa using h.1.1,by simpa using h.1.2,zCo G h.2⟩
end
section
theorem set_of {x:Str} {p p1:Pos} {b:Expr} {env:Env} (h:Gr b=true):∀ v,assign (.Subscript (.Name x p) b p1) env v=(do
   let ov ← holding [v] (eval (.Name x p) env)
   let iv ← holding [v,ov] (eval b env)
   standAt p1
   holding [v,ov,iv] (setItem ov iv v)
   release [v,ov,iv] []):=by
 intro v;cases b <;> first | rfl | (cases h)
theorem uo {t e:Expr} {l:Nat} {env:Env} (h:wb e=true):swapsWithSole [t] e l env=pure false:=by
 show swapsWith e (some t) l env=pure false
 exact uW h
theorem Qr {X:Cx} {sg:Sg} (G:SgOk X sg) (h:(sg.sc.kind == ScopeKind.function)=true):X.env.blockKind=.function:=by
 have:X.env.scope.kind=.function:=by rw [G.sc]; exact beq_iff_eq.mp h
 unfold Env.blockKind;rw [this]; rfl
theorem zFO {X:Cx} {sg:Sg} (G:SgOk X sg) (hk:(sg.sc.kind == ScopeKind.function)=true) {el:Expr} {gs:List Comprehension} {scope:Scope} {vp px:Pos} {x:Str} {l:Nat}:swapsWith (.ListComp el gs scope vp) (some (.Name x px)) l X.env=pure (swB sg x px scope vp):=by
 show (pure (X.env.blockKind == .function&&X.env.kindOf x == some .local&&px.line == vp.line&&!(scope.names.any fun (n,k)=>n == x&&(k == .local || k == .cell))):Sem Bool)=_
 rw [Qr G hk];unfold swB kIs Env.kindOf;rw [G.sc];simp
theorem zFP {α β:Type} (f:α→Option β):∀ l:List α,(l.filterMap f).length≤l.length
 | []=>le_refl _
 | a::l=>by
  have:=zFP f l;rw [filterMap_cons];split
  ·simp only [length_cons]; omega
  ·simp only [length_cons]; omega
theorem fm_lt {α β:Type} (f:α→Option β):∀ l:List α,(∃ a∈l,f a=none)→(l.filterMap f).length < l.length
 | [],h=>by obtain ⟨a,h,_⟩:=h; cases h
 | b::l,h=>by
  obtain ⟨a,hm,hf⟩:=h;rw [filterMap_cons];rcases mem_cons.mp hm with rfl | hm
  ·rw [hf]
   have:=zFP f l;simp only [length_cons]; omega
  ·have:=fm_lt f l ⟨a,hm,hf⟩
   split
   ·simp only [length_cons]; omega
   ·simp only [length_cons]; omega
theorem sw_ok {X:Cx} {sg:Sg} (G:SgOk X sg) {es:List Expr} {k:Nat} {p:Pos} {v:Expr} (h:swOk sg es v=true):swappedStores [.Tuple es k p] v X.env=pure none:=by
 cases v with
 | Tuple vs k2 p2 =>
  unfold swappedStores;dsimp only;split
  ·rfl
  split
  ·rfl
  split
  ·rfl
  rename_i hn;split
  ·rfl
  rename_i hf
  exfalso
  rcases Bool.or_eq_true _ _ |>.mp h with h | h
  ·obtain ⟨e,he,hk⟩:=List.any_eq_true.mp h
   refine hn (Bool.or_eq_true _ _ |>.mpr (.inl ?_));refine bne_iff_ne.mpr (ne_of_lt (fm_lt _ es ⟨e,he,?_⟩));cases e with
   | Name x q =>
    have:X.env.kindOf x≠some .local:=fun z=>by
     have z':sg.sc.names.lookup x=some .local:=by rw [← G.sc]; exact z
     simp [kIs,z'] at hk
    have e1:(X.env.kindOf x == some NameKind.local)=false:=by simpa using this
    simp [e1]
   | _=>rfl
  ·exact hf h
 | _=>rfl
theorem sw_par0 {env:Env} {x y:Str} {px py p p2:Pos} {a b:Expr} {kt k2:Nat} (hk:env.blockKind=.function) (hx:env.kindOf x=some .local) (hy:env.kindOf y=some .local) (hl:py.line=px.line) (hxy:(x == y)=false) (ha:za a=false) (hb:za b=false) (hf:[a,b].all (foldedForSure 8)=false) (hc:[a,b].all (constantsAlone 8)=false) :
  swappedStores [.Tuple [.Name x px,.Name y py] kt p] (.Tuple [a,b] k2 p2) env=pure (some [x,y]):=by
 have sa:∀ e:Expr,(match e with | .Starred _ _=>true | _=>false)=za e:=fun e=>by cases e <;> rfl
 have e1:([Expr.Name x px,Expr.Name y py].filterMap fun
  | .Name id pos=>if env.kindOf id == some .local&&pos.line == px.line then some id else none
  | _=>none)=[x,y]:=by simp [hx,hy,hl]
 have e2:[x,y].eraseDups.length=2:=by
  have:y≠x:=fun z=>by subst z; simp at hxy
  have h2:(y == x)=false:=by simpa using this
  simp [List.eraseDups,List.eraseDupsBy,List.eraseDupsBy.loop,h2]
 have e3:([a,b].any fun | .Starred ..=>true | _=>false)=false:=by
  simp only [any_cons,List.any_nil,Bool.or_false];rw [sa,sa,ha,hb]; rfl
 show (if !(2 == 2 || 2 == 3) || 2 != 2 || env.blockKind != .function then pure none else if ([a,b].any fun | .Starred ..=>true | _=>false) then pure none else
  (let names:=([Expr.Name x px,Expr.Name y py].filterMap fun
  | .Name id pos=>if env.kindOf id == some .local&&pos.line == px.line then some id else none
  | _=>none)
  if names.length != 2 || names.eraseDups.length != names.length then pure none else if [a,b].all (foldedForSure 8) then pure none else if [a,b].all (constantsAlone 8) then (do unsupported "assign.tuple-of-constant-expressions:order-of-the-stores"; pure (some names)) else pure (some names)):Sem (Option (List Str)))=_
 rw [hk,e3,e1,hf,hc];simp [e2]
theorem sw_par {X:Cx} {sg:Sg} (G:SgOk X sg) {i j:Nat} {x y:Str} {px py p p2:Pos} {a b:Expr} {kt k2:Nat} (h:zCj sg i j x y px py a b=true):swappedStores [.Tuple [.Name x px,.Name y py] kt p] (.Tuple [a,b] k2 p2) X.env=pure (some [x,y]):=by
 unfold zCj at h;simp only [Bool.and_eq_true,Bool.not_eq_true',beq_iff_eq,bne_iff_ne] at h;obtain ⟨⟨⟨⟨⟨⟨⟨⟨⟨⟨⟨kk,_⟩,_⟩,_⟩,l1⟩,l2⟩,ln⟩,xy⟩,sa⟩,sb⟩,f1⟩,f2⟩:=h;exact sw_par0 (Qr G (by rw [kk]; rfl)) (jB G l1) (jB G l2) ln xy sa sb f1 f2
theorem zET {env:Env} {x y z:Str} {px py pz p p2:Pos} {a b c:Expr} {kt k2:Nat} (hk:env.blockKind=.function) (hx:env.kindOf x=some .local) (hy:env.kindOf y=some .local) (hz:env.kindOf z=some .local) (hl:py.line=px.line) (hl2:pz.line=px.line) (hxy:(x == y)=false) (hxz:(x == z)=false) (hyz:(y == z)=false) (ha:za a=false) (hb:za b=false) (hc':za c=false) (hf:[a,b,c].all (foldedForSure 8)=false) (hc:[a,b,c].all (constantsAlone 8)=false) :
  swappedStores [.Tuple [.Name x px,.Name y py,.Name z pz] kt p] (.Tuple [a,b,c] k2 p2) env=pure (some [x,y,z]):=by
 have sa:∀ e:Expr,(match e with | .Starred _ _=>true | _=>false)=za e:=fun e=>by cases e <;> rfl
 have e1:([Expr.Name x px,Expr.Name y py,Expr.Name z pz].filterMap fun
  | .Name id pos=>if env.kindOf id == some .local&&pos.line == px.line then some id else none
  | _=>none)=[x,y,z]:=by simp [hx,hy,hz,hl,hl2]
 have sy:∀ {u v:Str},(u == v)=false→(v == u)=false:=fun {u v} h=>by
  have:v≠u:=fun z=>by subst z; simp at h
  simpa using this
 have e2:[x,y,z].eraseDups.length=3:=by
  simp [List.eraseDups,List.eraseDupsBy,List.eraseDupsBy.loop,sy hxy,sy hxz,sy hyz]
 have e3:([a,b,c].any fun | .Starred ..=>true | _=>false)=false:=by
  simp only [any_cons,List.any_nil,Bool.or_false];rw [sa,sa,sa,ha,hb,hc']; rfl
 show (if !(3 == 2 || 3 == 3) || 3 != 3 || env.blockKind != .function then pure none else if ([a,b,c].any fun | .Starred ..=>true | _=>false) then pure none else
  (let names:=([Expr.Name x px,Expr.Name y py,Expr.Name z pz].filterMap fun
  | .Name id pos=>if env.kindOf id == some .local&&pos.line == px.line then some id else none
  | _=>none)
  if names.length != 3 || names.eraseDups.length != names.length then pure none else if [a,b,c].all (foldedForSure 8) then pure none else if [a,b,c].all (constantsAlone 8) then (do unsupported "assign.tuple-of-constant-expressions:order-of-the-stores"; pure (some names)) else pure (some names)):Sem (Option (List Str)))=_
 rw [hk,e3,e1,hf,hc];simp [e2]
theorem w_of_t {X:Cx} {op:BoolOp} {vs:List Expr} {p:Pos} {m:MT} (h:TOk X (.BoolOp op vs p) m):WOk X (.BoolOp op vs p) m:=fun wh=>h
theorem few_of {e:Expr} {env:Env} {cpos:Pos} (h:za e=false):((backTo cpos (starEach (e::[]) env)).all (fun x=>!x.1)&&(backToKw cpos (keywordEach [] env)).all (fun x=>x.1.isSome)
   && decide ((e::([]:List Expr)).length+([]:List Keyword).length+(if ([]:List Keyword).isEmpty then 0 else 1) < 30))=true:=by
 rw [zp h]; rfl
theorem zW {a b:Bool} (h:(a&&b)=true):a=true∧b=true:=by simpa using h
theorem nst {a:Bool} (h:(!a)=true):a=false:=by simpa using h
mutual
theorem sE:∀ (t:Ex) {X:Cx} {sg:Sg} {e:Expr},SgOk X sg→yc t sg e=true→EOk X e (dE sg.fs t)
 | .c d,X,sg,e,G,h=>by
  cases e with
  | Constant k w1 w2 =>
   replace h:(cIs d k)=true:=h;unfold cIs at h;split at h
   ·exact ok_non
   ·have:=(beq_iff_eq.mp h); subst this; exact ok_bl
   ·have:=(beq_iff_eq.mp h); subst this; exact ok_int
   ·have:=(beq_iff_eq.mp h); subst this; exact ok_str
   ·cases h
  | _=>exact nf h
 | .gl d,X,sg,e,G,h=>by
  cases e with
  | Name x w1 =>
   replace h:(glb sg x&&gIs sg x d)=true:=h;obtain ⟨h1,h2⟩:=zW h;obtain ⟨g1,g2⟩:=Jh G h1;unfold gIs at h2;split at h2
   ·rename_i d' e
    have:=geq_of h2; subst this;obtain ⟨u,v,q1,q2,q3⟩:=G.cs x d e;exact ok_glR g1 q1 q2 q3 g2
   ·cases h2
  | _=>exact nf h
 | .var i,X,sg,e,G,h=>by
  cases e with
  | Name x w1 =>
   replace h:(vis sg i x)=true:=h;exact ok_var i (vk G h)
  | _=>exact nf h
 | .bin o a b,X,sg,e,G,h=>by
  cases e with
  | BinOp x op y w1 =>
   replace h:(op == o.op&&(yc a sg x&&yc b sg y))=true:=h;obtain ⟨h1,h2⟩:=zW h;obtain ⟨h2,h3⟩:=zW h2;have:=beq_iff_eq.mp h1; subst this;exact bin_of (sE a G h2) (sE b G h3)
  | _=>exact nf h
 | .cmp o a b,X,sg,e,G,h=>by
  cases e with
  | Compare x v1 v2 w1 =>
   cases v1 with
   | cons op v3 =>
    cases v3 with
    | nil =>
     cases v2 with
     | cons y v4 =>
      cases v4 with
      | nil =>
       replace h:(op == o.op&&y9 y&&(yc a sg x&&yc b sg y))=true:=h;obtain ⟨h1,h2⟩:=zW h;obtain ⟨h1,h0⟩:=zW h1;obtain ⟨h2,h3⟩:=zW h2;have:=beq_iff_eq.mp h1; subst this;exact cmp_of G h0 (sE a G h2) (sE b G h3)
      | _=>exact nf h
     | _=>exact nf h
    | _=>exact nf h
   | _=>exact nf h
  | _=>exact nf h
 | .chain o o' a b c,X,sg,e,G,h=>by
  cases e with
  | Compare x v5 v6 w1 =>
   cases v5 with
   | cons op v7 =>
    cases v7 with
    | cons op' v8 =>
     cases v8 with
     | nil =>
      cases v6 with
      | cons y v9 =>
       cases v9 with
       | cons z v10 =>
        cases v10 with
        | nil =>
         replace h:(op == o.op&&op' == o'.op&&o.isI&&o'.isI&&y9 z&&(yc a sg x&&(yc b sg y&&yc c sg z)))=true:=h;obtain ⟨h1,h2⟩:=zW h;obtain ⟨h1,k5⟩:=zW h1;obtain ⟨h1,k4⟩:=zW h1;obtain ⟨h1,k3⟩:=zW h1;obtain ⟨k1,k2⟩:=zW h1;obtain ⟨h2,h3⟩:=zW h2;obtain ⟨h3,h4⟩:=zW h3;have:=beq_iff_eq.mp k1; subst this;have:=beq_iff_eq.mp k2; subst this;exact zEE (zAj k3) (zAj k4) (sE a G h2) (sE b G h3) (sE c G h4) (zCm k5)
        | _=>exact nf h
       | _=>exact nf h
      | _=>exact nf h
     | _=>exact nf h
    | _=>exact nf h
   | _=>exact nf h
  | _=>exact nf h
 | .neg a,X,sg,e,G,h=>by
  cases e with
  | UnaryOp v11 x w1 =>
   cases v11 with
   | USub =>
    replace h:(yc a sg x)=true:=h;exact ok_neg (sE a G h)
   | _=>exact nf h
  | _=>exact nf h
 | .not a,X,sg,e,G,h=>by
  cases e with
  | UnaryOp v12 x w1 =>
   cases v12 with
   | Not =>
    replace h:(yc a sg x)=true:=h;exact ok_not (sE a G h)
   | _=>exact nf h
  | _=>exact nf h
 | .and a b,X,sg,e,G,h=>by
  cases e with
  | BoolOp v13 v14 p =>
   cases v13 with
   | And =>
    cases v14 with
    | cons x v15 =>
     cases v15 with
     | cons y r =>
      replace h:(yc a sg x&&_)=true:=h;obtain ⟨h1,h2⟩:=zW h;cases r with
      | nil=>exact zE3 (sE a G h1) (ok_one (sE b G h2))
      | cons z r'=>exact zE3 (sE a G h1) (sE b G h2)
     | _=>exact nf h
    | _=>exact nf h
   | _=>exact nf h
  | _=>exact nf h
 | .tup as,X,sg,e,G,h=>by
  cases e with
  | Tuple es w1 w2 =>
   replace h:(chkA as sg es)=true:=h;exact ok_tup (sA as G h)
  | _=>exact nf h
 | .lst as,X,sg,e,G,h=>by
  cases e with
  | List es w1 =>
   replace h:(chkA as sg es)=true:=h;exact ok_lst (sA as G h)
  | _=>exact nf h
 | .ix a b,X,sg,e,G,h=>by
  cases e with
  | Subscript x y w1 =>
   replace h:(Gr y&&(yc a sg x&&yc b sg y))=true:=h;obtain ⟨h1,h2⟩:=zW h;obtain ⟨h2,h3⟩:=zW h2;exact ok_ix ix_both ro_ix (vm h1) (sE a G h2) (sE b G h3)
  | _=>exact nf h
 | .ixO i b,X,sg,e,G,h=>by
  cases e with
  | Subscript v21 y w2 =>
   cases v21 with
   | Name x w1 =>
    replace h:(vis sg i x&&Gr y&&yc b sg y)=true:=h;obtain ⟨h1,h2⟩:=zW h;obtain ⟨h1,h3⟩:=zW h1;exact ok_ixO i (vk G h1) (sE b G h2) (vm h3)
   | _=>exact nf h
  | _=>exact nf h
 | .lenO i,X,sg,e,G,h=>by
  cases e with
  | Call v22 v23 v24 w3 =>
   cases v22 with
   | Name f w1 =>
    cases v23 with
    | cons v25 v26 =>
     cases v25 with
     | Name x w2 =>
      cases v26 with
      | nil =>
       cases v24 with
       | nil =>
        replace h:(f == "len"&&glb sg "len"&&bIn sg "len"&&vis sg i x)=true:=h;obtain ⟨h1,h2⟩:=zW h;obtain ⟨h1,h3⟩:=zW h1;obtain ⟨h1,h4⟩:=zW h1;have:=beq_iff_eq.mp h1; subst this;exact ok_lenO i (vk G h2) (Jh G h4).1 (Wg G h3)
       | _=>exact nf h
      | _=>exact nf h
     | _=>exact nf h
    | _=>exact nf h
   | _=>exact nf h
  | _=>exact nf h
 | .sl a l hh,X,sg,e,G,h=>by
  cases e with
  | Subscript x v27 w2 =>
   cases v27 with
   | Slice lo hi v28 w1 =>
    cases v28 with
    | none =>
     replace h:(yc a sg x&&(chkO l sg lo&&chkO hh sg hi))=true:=h;obtain ⟨h1,h2⟩:=zW h;obtain ⟨h2,h3⟩:=zW h2;exact ok_sl (sE a G h1) (sO l G h2) (sO hh G h3)
    | _=>exact nf h
   | _=>exact nf h
  | _=>exact nf h
 | .comp nl loc capn caps it tg tt el,X,sg,e,G,h=>by
  cases e with
  | ListComp elt v29 scope w1 =>
   cases v29 with
   | cons v30 v31 =>
    cases v30 with
    | mk target iter ifs v32 =>
     cases v32 with
     | ofNat v33 =>
      cases v33 with
      | zero =>
       cases v31 with
       | nil =>
        replace h:(sg.calm&&(zCi sg nl loc capn caps scope&&y9 iter&&((chkZ it target&&chkI it sg iter)&&(QT tg (QU sg (loc++capn) scope) target&&(_&&yc el (QU sg (loc++capn) scope) elt)))))=true:=h;obtain ⟨hcm,h⟩:=zW h;obtain ⟨h1,h2⟩:=zW h;obtain ⟨h1,k9⟩:=zW h1;unfold zCi at h1;obtain ⟨h1,k7⟩:=zW h1;obtain ⟨h1,k6⟩:=zW h1;obtain ⟨h1,k5⟩:=zW h1;obtain ⟨h1,k4⟩:=zW h1;obtain ⟨h1,k3⟩:=zW h1;obtain ⟨k1,k2⟩:=zW h1;obtain ⟨q1,q2⟩:=zW h2;obtain ⟨q0,q1⟩:=zW q1;obtain ⟨q2,q3⟩:=zW q2;obtain ⟨q3,q4⟩:=zW q3;have nd:(loc++capn).Nodup:=of_decide_eq_true k3;have kc:∀ y∈scope.names,y.2=.cell→scope.names.lookup y.1=some .cell:=fun y hy hc=>by
         have:=all_eq_true.mp k5 y hy;rw [hc] at this;simpa using this
        have I:∀ cl C ex s H,SgOk (cxB X.nox (loc++capn) scope cl C ex s H) (QU sg (loc++capn) scope):=fun _ _ _ _ _=>zAi (yu G) nd kc
        refine no_E (ok_lc (X:=X.nox) loc capn (beq_iff_eq.mp k1) (fun e s z=>z) (G.calm hcm) (beq_iff_eq.mp k2) (fun y hy hl=>?_) (fun y hy hc=>?_) (by rw [show X.env.kindOf=fun n=>X.env.scope.names.lookup n from rfl,G.sc]; exact k6) (zCo (yu G) k7) (sI it (yu G) q1 q0) (g:=gOf X.K tg) (fun cl C ex s H=>zCl (sg:=QU sg (loc++capn) scope) hcm (I cl C ex s H) q2) (uO tg) (fun cl C ex s H=>?_) (fun cl C ex s H=>sE (sg:=QU sg (loc++capn) scope) el (I cl C ex s H) q4) (wP k9))
        ·have:=all_eq_true.mp k4 y hy
         rw [hl] at this;simpa using this
        ·exact kc y hy hc
        ·cases ifs with
         | nil =>
          cases tt <;> first | (cases q3; done) | skip;exact zCE
         | cons c cs =>
          obtain ⟨q3,q5⟩:=zW q3;have:=isEmpty_iff.mp q3; subst this;exact zCF (sT (sg:=QU sg (loc++capn) scope) tt (I cl C ex s H) q5)
       | _=>exact nf h
      | _=>exact nf h
     | _=>exact nf h
   | _=>exact nf h
  | _=>exact nf h
 | .is T a,X,sg,e,G,h=>by
  cases e with
  | Call v34 v35 v36 w3 =>
   cases v34 with
   | Name f w1 =>
    cases v35 with
    | cons x v37 =>
     cases v37 with
     | cons v38 v39 =>
      cases v38 with
      | Name y w2 =>
       cases v39 with
       | nil =>
        cases v36 with
        | nil =>
         replace h:(f == "isinstance"&&y == T.nm&&glb sg "isinstance"&&bIn sg "isinstance"&&glb sg T.nm&&bIn sg T.nm&&!za x&&yc a sg x)=true:=h;obtain ⟨h1,h2⟩:=zW h;obtain ⟨h1,k7⟩:=zW h1;obtain ⟨h1,k6⟩:=zW h1;obtain ⟨h1,k5⟩:=zW h1;obtain ⟨h1,k4⟩:=zW h1;obtain ⟨h1,k3⟩:=zW h1;obtain ⟨k1,k2⟩:=zW h1;have:=beq_iff_eq.mp k1; subst this;have:=beq_iff_eq.mp k2; subst this;exact ok_is (kit_of _ T) (Jh G k3).1 (Wg G k4) (Jh G k5).1 (Wg G k6) (bt_of T) (sE a G h2) ug (nm_of T) (Jh G k5).2 (nst k7)
        | _=>exact nf h
       | _=>exact nf h
      | _=>exact nf h
     | _=>exact nf h
    | _=>exact nf h
   | _=>exact nf h
  | _=>exact nf h
 | .cB b as,X,sg,e,G,h=>by
  cases e with
  | Call v40 v41 v42 w2 =>
   cases v40 with
   | Name f w1 =>
    cases v41 with
    | cons x es =>
     cases v42 with
     | nil =>
      replace h:(sg.calm&&(f == b.nm&&glb sg b.nm&&bIn sg b.nm&&jN (x::es)&&chkA as sg (x::es)))=true:=h;obtain ⟨hcm,h⟩:=zW h;obtain ⟨h1,h2⟩:=zW h;obtain ⟨h1,k4⟩:=zW h1;obtain ⟨h1,k3⟩:=zW h1;obtain ⟨k1,k2⟩:=zW h1;have:=beq_iff_eq.mp k1; subst this;exact bi_of hcm G b (Jh G k2).1 (Wg G k3) k4 (sA as G h2)
     | _=>exact nf h
    | _=>exact nf h
   | _=>exact nf h
  | _=>exact nf h
 | .call k as,X,sg,e,G,h=>by
  cases e with
  | Call v43 v44 v45 w2 =>
   cases v43 with
   | Name f w1 =>
    cases v44 with
    | cons x es =>
     cases v45 with
     | nil =>
      replace h:(glb sg f&&fIs sg k f&&fArg sg (gLen as) k&&jN (x::es)&&chkG as sg (x::es))=true:=h;obtain ⟨h1,h2⟩:=zW h;obtain ⟨h1,k4⟩:=zW h1;obtain ⟨h1,k3⟩:=zW h1;obtain ⟨k1,k2⟩:=zW h1;exact call_ok G k1 k2 k3 k4 (sG as G h2)
     | _=>exact nf h
    | _=>exact nf h
   | _=>exact nf h
  | _=>exact nf h
 | .frz a,X,sg,e,G,h=>ok_frz (sE a G h)
theorem sT:∀ (t:Tx) {X:Cx} {sg:Sg} {e:Expr},SgOk X sg→chkT t sg e=true→TOk X e (dT sg.fs t)
 | .tOr a b,X,sg,e,G,h=>by
  cases e with
  | BoolOp v62 v63 p =>
   cases v62 with
   | Or =>
    cases v63 with
    | cons x v64 =>
     cases v64 with
     | cons y r =>
      replace h:(chkT a sg x&&_)=true:=h;obtain ⟨h1,h2⟩:=zW h;cases r with
      | nil=>exact tk_w (wk_or (sT a G h1) (wk_or1 (sT b G h2)))
      | cons z r'=>exact tk_w (wk_or (sT a G h1) (w_of_t (sT b G h2)))
     | _=>exact nf h
    | _=>exact nf h
   | _=>exact nf h
  | _=>exact nf h
 | .tNot a,X,sg,e,G,h=>by
  cases e with
  | UnaryOp v65 x w1 =>
   cases v65 with
   | Not =>
    replace h:(chkT a sg x)=true:=h;exact tk_not (sT a G h)
   | _=>exact nf h
  | _=>exact nf h
 | .tE a,X,sg,e,G,h=>by
  obtain ⟨h1,h2⟩:=zW h;rcases Bool.or_eq_true _ _ |>.mp h1 with h1 | h1
  ·exact ok_test (sE a G h2) (test_of h1)
  ·cases a with
   | cmp o a b =>
    cases e with
    | Compare x v66 v67 w1 =>
     cases v66 with
     | cons op v68 =>
      cases v68 with
      | nil =>
       cases v67 with
       | cons y v69 =>
        cases v69 with
        | nil =>
         replace h2:(op == o.op&&y9 y&&(yc a sg x&&yc b sg y))=true:=h2;obtain ⟨h1,k1⟩:=zW h2;obtain ⟨h1,h0⟩:=zW h1;obtain ⟨k2,k3⟩:=zW k1;have:=beq_iff_eq.mp h1; subst this;exact cmpT_of G h0 (sE a G k2) (sE b G k3)
        | _=>exact absurd h2 Bool.false_ne_true
       | _=>exact absurd h2 Bool.false_ne_true
      | _=>exact absurd h2 Bool.false_ne_true
     | _=>exact absurd h2 Bool.false_ne_true
    | _=>exact absurd h2 Bool.false_ne_true
   | chain o o' a b c =>
    cases e with
    | Compare x v70 v71 w1 =>
     cases v70 with
     | cons op v72 =>
      cases v72 with
      | cons op' v73 =>
       cases v73 with
       | nil =>
        cases v71 with
        | cons y v74 =>
         cases v74 with
         | cons z v75 =>
          cases v75 with
          | nil =>
           replace h2:(op == o.op&&op' == o'.op&&o.isI&&o'.isI&&y9 z&&(yc a sg x&&(yc b sg y&&yc c sg z)))=true:=h2;obtain ⟨h1,j2⟩:=zW h2;obtain ⟨h1,k5⟩:=zW h1;obtain ⟨h1,k4⟩:=zW h1;obtain ⟨h1,k3⟩:=zW h1;obtain ⟨k1,k2⟩:=zW h1;obtain ⟨j2,j3⟩:=zW j2;obtain ⟨j3,j4⟩:=zW j3;have:=beq_iff_eq.mp k1; subst this;have:=beq_iff_eq.mp k2; subst this;exact zCL (zAj k3) (zAj k4) (sE a G j2) (sE b G j3) (sE c G j4) (zCm k5)
          | _=>exact absurd h2 Bool.false_ne_true
         | _=>exact absurd h2 Bool.false_ne_true
        | _=>exact absurd h2 Bool.false_ne_true
       | _=>exact absurd h2 Bool.false_ne_true
      | _=>exact absurd h2 Bool.false_ne_true
     | _=>exact absurd h2 Bool.false_ne_true
    | _=>exact absurd h2 Bool.false_ne_true
   | _=>cases h1
 | .tTr,X,sg,e,G,h=>absurd h Bool.false_ne_true
theorem sA:∀ (t:Ax) {X:Cx} {sg:Sg} {e:List Expr},SgOk X sg→chkA t sg e=true→AOk X e (dA sg.fs t)
 | .nil,X,sg,e,G,h=>by
  have:=isEmpty_iff.mp h; subst this;exact ak_nil
 | .cons a as,X,sg,e,G,h=>by
  cases e with
  | cons x r =>
   replace h:(!za x&&(yc a sg x&&chkA as sg r))=true:=h;obtain ⟨h1,h2⟩:=zW h;obtain ⟨h2,h3⟩:=zW h2;exact ak_cons (sE a G h2) (sA as G h3) (nst h1)
  | _=>exact nf h
theorem sG:∀ (t:Gx) {X:Cx} {sg:Sg} {e:List Expr},SgOk X sg→chkG t sg e=true→zFA X e (dG sg.fs t)
 | .nil,X,sg,e,G,h=>by
  have:=isEmpty_iff.mp h; subst this;exact ga_nil
 | .ev a as,X,sg,e,G,h=>by
  cases e with
  | cons x r =>
   replace h:(!za x&&(yc a sg x&&chkG as sg r))=true:=h;obtain ⟨h1,h2⟩:=zW h;obtain ⟨h2,h3⟩:=zW h2;exact ga_ev (sE a G h2) (sG as G h3) (nst h1)
  | _=>exact nf h
 | .lend i as,X,sg,e,G,h=>by
  cases e with
  | cons v76 r =>
   cases v76 with
   | Name x w1 =>
    replace h:(vis sg i x&&chkG as sg r)=true:=h;obtain ⟨h1,h2⟩:=zW h;exact ga_lend (vk G h1) (sG as G h2)
   | _=>exact nf h
  | _=>exact nf h
theorem sO:∀ (t:Ox) {X:Cx} {sg:Sg} {e:Option Expr},SgOk X sg→chkO t sg e=true→OOk X e (dO sg.fs t)
 | .oN,X,sg,e,G,h=>by
  cases e with
  | none=>exact oo_none
  | some e=>cases h
 | .oS a,X,sg,e,G,h=>by
  cases e with
  | none=>cases h
  | some e=>exact oo_some (sE a G h)
theorem sI:∀ (t:Ix) {X:Cx} {sg:Sg} {tg e:Expr},SgOk X sg→chkI t sg e=true→chkZ t tg=true→IOk X tg e (dI sg.fs t)
 | .iL a,X,sg,tg,e,G,h,hz=>by
  exact Ql (sE a G h)
 | .iT a,X,sg,tg,e,G,h,hz=>by
  exact zFC (sE a G h)
 | .iA a,X,sg,tg,e,G,h,hz=>by
  exact io_any (sE a G h)
 | .iR1 as,X,sg,tg,e,G,h,hz=>by
  cases e with
  | Call v77 v78 v79 w2 =>
   cases v77 with
   | Name f w1 =>
    cases v78 with
    | cons x v80 =>
     cases v80 with
     | nil =>
      cases v79 with
      | nil =>
       replace h:(f == "range"&&glb sg "range"&&bIn sg "range"&&!za x&&chkA as sg [x])=true:=h;obtain ⟨h1,h2⟩:=zW h;obtain ⟨h1,k4⟩:=zW h1;obtain ⟨h1,k3⟩:=zW h1;obtain ⟨k1,k2⟩:=zW h1;have:=beq_iff_eq.mp k1; subst this;exact io_r1 (Jh G k2).1 (Wg G k3) (sA as G h2) (nst k4)
      | _=>exact nf h
     | _=>exact nf h
    | _=>exact nf h
   | _=>exact nf h
  | _=>exact nf h
 | .iZ t1 t2 as,X,sg,tg,e,G,h,hz=>by
  cases e with
  | Call v81 v82 v83 w2 =>
   cases v81 with
   | Name f w1 =>
    cases v82 with
    | cons x v84 =>
     cases v84 with
     | cons y v85 =>
      cases v85 with
      | nil =>
       cases v83 with
       | nil =>
        replace h:(f == "zip"&&glb sg "zip"&&bIn sg "zip"&&!za x&&!za y&&chkA as sg [x,y])=true:=h;obtain ⟨h1,h2⟩:=zW h;obtain ⟨h1,k5⟩:=zW h1;obtain ⟨h1,k4⟩:=zW h1;obtain ⟨h1,k3⟩:=zW h1;obtain ⟨k1,k2⟩:=zW h1;have:=beq_iff_eq.mp k1; subst this;cases tg with
        | Tuple tE tX tP=>exact io_zip (Jh G k2).1 (Wg G k3) (sA as G h2) (nst k4) (nst k5)
        | _=>exact absurd hz Bool.false_ne_true
       | _=>exact nf h
      | _=>exact nf h
     | _=>exact nf h
    | _=>exact nf h
   | _=>exact nf h
  | _=>exact nf h
end
theorem zEU {X:Cx} {sg:Sg} (G:SgOk X sg) {i:Nat} {x:Str} {px spos:Pos} {nl:Nat} {loc capn:List Str} {caps:List Nat} {it:Ix} {tg:Tg} {tt:Tx} {el:Ex} {v:Expr} (hi:X.N[i]?=some x) (hx:Loc X.env.scope x) (hf:X.fn x=true∨X.env.scope.names.lookup x=some .local)
  (hsw:swapsWith v (some (.Name x px)) spos.line X.env=pure true) (h:yc (.comp nl loc capn caps it tg tt el) sg v=true):SOk X (.Assign [.Name x px] v spos) (sSet i (dE sg.fs (.comp nl loc capn caps it tg tt el))):=by
 cases v with
 | ListComp elt v86 scope w1 =>
  cases v86 with
  | cons v87 v88 =>
   cases v87 with
   | mk target iter ifs v89 =>
    cases v89 with
    | ofNat v90 =>
     cases v90 with
     | zero =>
      cases v88 with
      | nil =>
       replace h:(sg.calm&&(zCi sg nl loc capn caps scope&&y9 iter&&((chkZ it target&&chkI it sg iter)&&(QT tg (QU sg (loc++capn) scope) target&&(_&&yc el (QU sg (loc++capn) scope) elt)))))=true:=h;obtain ⟨hcm,h⟩:=zW h;obtain ⟨h1,h2⟩:=zW h;obtain ⟨h1,k9⟩:=zW h1;unfold zCi at h1;obtain ⟨h1,k7⟩:=zW h1;obtain ⟨h1,k6⟩:=zW h1;obtain ⟨h1,k5⟩:=zW h1;obtain ⟨h1,k4⟩:=zW h1;obtain ⟨h1,k3⟩:=zW h1;obtain ⟨k1,k2⟩:=zW h1;obtain ⟨q1,q2⟩:=zW h2;obtain ⟨q0,q1⟩:=zW q1;obtain ⟨q2,q3⟩:=zW q2;obtain ⟨q3,q4⟩:=zW q3;have nd:(loc++capn).Nodup:=of_decide_eq_true k3;have kc:∀ y∈scope.names,y.2=.cell→scope.names.lookup y.1=some .cell:=fun y hy hc=>by
        have:=all_eq_true.mp k5 y hy;rw [hc] at this;simpa using this
       have I:∀ cl C ex s H,SgOk (cxB X.nox (loc++capn) scope cl C ex s H) (QU sg (loc++capn) scope):=fun _ _ _ _ _=>zAi (yu G) nd kc
       refine no_set ▸ no_S (sk_lc (X:=X.nox) loc capn G.nd hi hx hf (beq_iff_eq.mp k1) (fun e s z=>z) (G.calm hcm) (beq_iff_eq.mp k2) (fun y hy hl=>?_) (fun y hy hc=>?_) (by rw [show X.env.kindOf=fun n=>X.env.scope.names.lookup n from rfl,G.sc]; exact k6) (zCo (yu G) k7) (sI it (yu G) q1 q0) (g:=gOf X.K tg) (fun cl C ex s H=>zCl (sg:=QU sg (loc++capn) scope) hcm (I cl C ex s H) q2) (uO tg) (fun cl C ex s H=>?_) (fun cl C ex s H=>sE (sg:=QU sg (loc++capn) scope) el (I cl C ex s H) q4) (wP k9) hsw)
       ·have:=all_eq_true.mp k4 y hy
        rw [hl] at this;simpa using this
       ·exact kc y hy hc
       ·cases ifs with
        | nil =>
         cases tt <;> first | (cases q3; done) | skip;exact zCE
        | cons c cs =>
         obtain ⟨q3,q5⟩:=zW q3;have:=isEmpty_iff.mp q3; subst this;exact zCF (sT (sg:=QU sg (loc++capn) scope) tt (I cl C ex s H) q5)
      | _=>exact nf h
     | _=>exact nf h
    | _=>exact nf h
  | _=>exact nf h
 | _=>exact nf h
mutual
theorem sS:∀ (t:Sx) {X:Cx} {sg:Sg} {e:Stmt},SgOk X sg→chkS t sg e=true→SOk X e (dS sg.fs t)
 | .sIf t a b,X,sg,e,G,h=>by
  cases e with
  | If c x y w1 =>
   replace h:(chkT t sg c&&(chkB a sg x&&chkB b sg y))=true:=h;obtain ⟨h1,h2⟩:=zW h;obtain ⟨h2,h3⟩:=zW h2;exact sk_if (sT t G h1) (sB a G h2) (sB b G h3)
  | _=>exact nf h
 | .sSet i a,X,sg,e,G,h=>by
  cases e with
  | Assign v91 v w1 =>
   cases v91 with
   | cons v92 v93 =>
    cases v92 with
    | Name x px =>
     cases v93 with
     | nil =>
      replace h:(zFN sg i x&&setOk sg x px a v&&yc a sg v)=true:=h;obtain ⟨h1,h2⟩:=zW h;obtain ⟨h1,h3⟩:=zW h1;obtain ⟨q1,q2,q3⟩:=um G h1;unfold setOk at h3;split at h3
      ·obtain ⟨k1,k2⟩:=zW h3
       rename_i el gs scope vp;cases hb:swB sg _ _ scope vp with
       | false=>exact zE8 G.nd q1 q2 (sE a G h2) (by rw [zFO G k1,hb]) q3
       | true =>
        rw [hb] at k2;cases a with
        | comp nl loc capn caps it tg tt el'=>exact zEU G q1 q2 q3 (by rw [zFO G k1,hb]) h2
        | _=>cases k2
      ·exact zE8 G.nd q1 q2 (sE a G h2) (uW h3) q3
     | _=>exact nf h
    | _=>exact nf h
   | _=>exact nf h
  | _=>exact nf h
 | .sAny,X,sg,e,G,h=>by
  exact sk_any
 | .sTup is a,X,sg,e,G,h=>by
  cases e with
  | Assign v94 v w1 =>
   cases v94 with
   | cons v95 v96 =>
    cases v95 with
    | Tuple es k p =>
     cases v96 with
     | nil =>
      replace h:(sg.calm&&(QT.all2 sg is es&&wb v&&swOk sg es v&&yc a sg v))=true:=h;obtain ⟨hcm,h⟩:=zW h;obtain ⟨h1,h2⟩:=zW h;obtain ⟨h1,k3⟩:=zW h1;obtain ⟨k1,k2⟩:=zW h1;obtain ⟨q1,q2,q3⟩:=ZW _ is G k1;exact sk_tup (zEt (G.calm hcm) q1 q2 q3) (sE a G h2) (uo k2) (sw_ok G k3)
     | _=>exact nf h
    | _=>exact nf h
   | _=>exact nf h
  | _=>exact nf h
 | .sPar3 i j l as,X,sg,e,G,h=>by
  cases e with
  | Assign v1 v2 w5 =>
   cases v1 with
   | cons v3 v4 =>
    cases v3 with
    | Tuple v5 w1 w2 =>
     cases v5 with
     | cons v6 v7 =>
      cases v6 with
      | Name x px =>
       cases v7 with
       | cons v8 v9 =>
        cases v8 with
        | Name y py =>
         cases v9 with
         | cons v10 v11 =>
          cases v10 with
          | Name z pz =>
           cases v11 with
           | nil =>
            cases v4 with
            | nil =>
             cases v2 with
             | Tuple v12 w3 w4 =>
              cases v12 with
              | cons a v13 =>
               cases v13 with
               | cons b v14 =>
                cases v14 with
                | cons c v15 =>
                 cases v15 with
                 | nil =>
                  replace h:(sg.calm&&(zCk sg i j l x y z px py pz a b c&&chkA as sg [a,b,c]))=true:=h;obtain ⟨hcm,h⟩:=zW h;obtain ⟨h1,h2⟩:=zW h;unfold zCk at h1;simp only [Bool.and_eq_true,Bool.not_eq_true',beq_iff_eq,bne_iff_ne] at h1;obtain ⟨⟨⟨⟨⟨⟨⟨⟨⟨⟨⟨⟨⟨⟨⟨⟨⟨⟨⟨kk,n1⟩,n2⟩,n3⟩,n4⟩,n5⟩,n6⟩,l1⟩,l2⟩,l3⟩,p1⟩,p2⟩,x1⟩,x2⟩,x3⟩,s1⟩,s2⟩,s3⟩,f1⟩,f2⟩:=h1;exact y8 (ps_par3 (G.calm hcm) G.nd (by rw [G.N]; exact n1) (by rw [G.N]; exact n2) (by rw [G.N]; exact n3) n4 n5 n6 (jB G l1) (jB G l2) (jB G l3) (sA as G h2) (zET (Qr G (by rw [kk]; rfl)) (jB G l1) (jB G l2) (jB G l3) p1 p2 x1 x2 x3 s1 s2 s3 f1 f2) (uo rfl)) fun D σ H=>zCf
                 | _=>exact nf h
                | _=>exact nf h
               | _=>exact nf h
              | _=>exact nf h
             | _=>exact nf h
            | _=>exact nf h
           | _=>exact nf h
          | _=>exact nf h
         | _=>exact nf h
        | _=>exact nf h
       | _=>exact nf h
      | _=>exact nf h
     | _=>exact nf h
    | _=>exact nf h
   | _=>exact nf h
  | _=>exact nf h
 | .sPar i j as,X,sg,e,G,h=>by
  cases e with
  | Assign v97 v98 w5 =>
   cases v97 with
   | cons v99 v100 =>
    cases v99 with
    | Tuple v101 w1 w2 =>
     cases v101 with
     | cons v102 v103 =>
      cases v102 with
      | Name x px =>
       cases v103 with
       | cons v104 v105 =>
        cases v104 with
        | Name y py =>
         cases v105 with
         | nil =>
          cases v100 with
          | nil =>
           cases v98 with
           | Tuple v106 w3 w4 =>
            cases v106 with
            | cons a v107 =>
             cases v107 with
             | cons b v108 =>
              cases v108 with
              | nil =>
               replace h:(sg.calm&&(zCj sg i j x y px py a b&&chkA as sg [a,b]))=true:=h;obtain ⟨hcm,h⟩:=zW h;obtain ⟨h1,h2⟩:=zW h;have h1':=h1;unfold zCj at h1;simp only [Bool.and_eq_true,Bool.not_eq_true',beq_iff_eq,bne_iff_ne] at h1;obtain ⟨⟨⟨⟨⟨⟨⟨⟨⟨⟨⟨_,n1⟩,n2⟩,n3⟩,l1⟩,l2⟩,_⟩,_⟩,_⟩,_⟩,_⟩,_⟩:=h1;exact y8 (ps_par (G.calm hcm) G.nd (by rw [G.N]; exact n1) (by rw [G.N]; exact n2) n3 (jB G l1) (jB G l2) (sA as G h2) (sw_par G h1') (uo rfl)) fun D σ H=>zEI
              | _=>exact nf h
             | _=>exact nf h
            | _=>exact nf h
           | _=>exact nf h
          | _=>exact nf h
         | _=>exact nf h
        | _=>exact nf h
       | _=>exact nf h
      | _=>exact nf h
     | _=>exact nf h
    | _=>exact nf h
   | _=>exact nf h
  | _=>exact nf h
 | .sRet a,X,sg,e,G,h=>by
  cases e with
  | Return v109 w1 =>
   cases v109 with
   | some v =>
    replace h:(yc a sg v)=true:=h;exact sk_ret (sE a G h)
   | _=>exact nf h
  | _=>exact nf h
 | .sDrop a,X,sg,e,G,h=>by
  cases e with
  | Expr v w1 =>
   replace h:(wb v&&yc a sg v)=true:=h;obtain ⟨h1,h2⟩:=zW h;exact sk_drop (sE a G h2) (uW h1)
  | _=>exact nf h
 | .sIx i b a,X,sg,e,G,h=>by
  cases e with
  | Assign v110 v w3 =>
   cases v110 with
   | cons v111 v112 =>
    cases v111 with
    | Subscript v113 y w2 =>
     cases v113 with
     | Name x w1 =>
      cases v112 with
      | nil =>
       replace h:(vis sg i x&&Gr y&&wb v&&(yc b sg y&&yc a sg v))=true:=h;obtain ⟨h1,h2⟩:=zW h;obtain ⟨h1,h0⟩:=zW h1;obtain ⟨h1,h4⟩:=zW h1;obtain ⟨h2,h3⟩:=zW h2;exact zD3 i (vk G h1) (sE b G h2) (sE a G h3) (set_of h4) (uo h0)
      | _=>exact nf h
     | _=>exact nf h
    | _=>exact nf h
   | _=>exact nf h
  | _=>exact nf h
 | .sApp i a,X,sg,e,G,h=>by
  cases e with
  | Expr v114 w2 =>
   cases v114 with
   | Call v115 v116 v117 cp =>
    cases v115 with
    | Attribute v118 m ap =>
     cases v118 with
     | Name x w1 =>
      cases v116 with
      | cons v v119 =>
       cases v119 with
       | nil =>
        cases v117 with
        | nil =>
         replace h:(m == "append"&&ap.endLine == cp.line&&vis sg i x&&!za v&&yc a sg v)=true:=h;obtain ⟨h1,h2⟩:=zW h;obtain ⟨h1,k4⟩:=zW h1;obtain ⟨h1,k3⟩:=zW h1;obtain ⟨k1,k2⟩:=zW h1;have:=beq_iff_eq.mp k1; subst this;exact sk_app i (vk G k3) (sE a G h2) rfl (few_of (nst k4)) k2 (zp (nst k4)) rfl rfl
        | _=>exact nf h
       | _=>exact nf h
      | _=>exact nf h
     | _=>exact nf h
    | _=>exact nf h
   | _=>exact nf h
  | _=>exact nf h
 | .sForL a tg b,X,sg,e,G,h=>by
  cases e with
  | For t it body v120 w1 =>
   cases v120 with
   | nil =>
    replace h:(sg.calm&&(y9 it&&QT tg sg t&&(yc a sg it&&chkB b sg body)))=true:=h;obtain ⟨hcm,h⟩:=zW h;obtain ⟨h1,h2⟩:=zW h;obtain ⟨h1,h0⟩:=zW h1;obtain ⟨h2,h3⟩:=zW h2;exact no_S (sk_forL (X:=X.nox) PassesOwn.never (G.calm hcm) (sE a (yu G) h2) (zCl hcm (yu G) h0) (uO tg) (sB b (yu G) h3) (wP h1))
   | _=>exact nf h
  | _=>exact nf h
 | .sForI ix tg b,X,sg,e,G,h=>by
  cases e with
  | For t it body v120 w1 =>
   cases v120 with
   | nil =>
    replace h:(sg.calm&&(y9 it&&QT tg sg t&&((chkZ ix t&&chkI ix sg it)&&chkB b sg body)))=true:=h;obtain ⟨hcm,h⟩:=zW h;obtain ⟨h1,h2⟩:=zW h;obtain ⟨h1,h0⟩:=zW h1;obtain ⟨h2,h3⟩:=zW h2;obtain ⟨h4,h2⟩:=zW h2;exact sk_forN (ps_forX (sI ix G h2 h4) (wP h1)) (no_S (sk_forI (X:=X.nox) PassesOwn.never (G.calm hcm) (sI ix (yu G) h2 h4) (zCl hcm (yu G) h0) (uO tg) (sB b (yu G) h3) (wP h1)))
   | _=>exact nf h
  | _=>exact nf h
 | .sForR1 as tg b,X,sg,e,G,h=>by
  cases e with
  | For t v122 body v123 w3 =>
   cases v122 with
   | Call v124 v125 v126 w2 =>
    cases v124 with
    | Name f w1 =>
     cases v125 with
     | cons x v127 =>
      cases v127 with
      | nil =>
       cases v126 with
       | nil =>
        cases v123 with
        | nil =>
         replace h:(sg.calm&&(f == "range"&&glb sg "range"&&bIn sg "range"&&!za x&&QT tg sg t&&(chkA as sg [x]&&chkB b sg body)))=true:=h;obtain ⟨hcm,h⟩:=zW h;obtain ⟨h1,h2⟩:=zW h;obtain ⟨h1,k5⟩:=zW h1;obtain ⟨h1,k4⟩:=zW h1;obtain ⟨h1,k3⟩:=zW h1;obtain ⟨k1,k2⟩:=zW h1;obtain ⟨h2,h3⟩:=zW h2;have:=beq_iff_eq.mp k1; subst this;exact no_S (zD5 (X:=X.nox) PassesOwn.never (G.calm hcm) (Jh (yu G) k2).1 (Wg (yu G) k3) (sA as (yu G) h2) (zCl hcm (yu G) k5) (uO tg) (sB b (yu G) h3) (nst k4) (wP rfl))
        | _=>exact nf h
       | _=>exact nf h
      | _=>exact nf h
     | _=>exact nf h
    | _=>exact nf h
   | _=>exact nf h
  | _=>exact nf h
 | .sWhile t b,X,sg,e,G,h=>by
  cases e with
  | While c body v200 w1 =>
   cases v200 with
   | nil =>
    replace h:(chkT t sg c&&chkB b sg body)=true:=h;obtain ⟨h1,h2⟩:=zW h;exact no_S (zEJ (X:=X.nox) PassesOwn.never (sT t (yu G) h1) (sB b (yu G) h2))
   | _=>exact nf h
  | _=>exact nf h
 | .sAug i o a,X,sg,e,G,h=>by
  cases e with
  | AugAssign v200 op v w1 =>
   cases v200 with
   | Name x w2 =>
    replace h:(zFN sg i x&&op == o.op&&o.isAug&&yc a sg v)=true:=h;obtain ⟨h,h2⟩:=zW h;obtain ⟨h,k2⟩:=zW h;obtain ⟨h1,k1⟩:=zW h;obtain ⟨q1,q2,q3⟩:=um G h1;have:=beq_iff_eq.mp k1; subst this;cases o with
    | add=>exact zCZ G.nd q1 q2 q3 (sE a G h2)
    | sub=>exact zCa G.nd q1 q2 q3 (sE a G h2)
    | mul=>exact zCb G.nd q1 q2 q3 (sE a G h2)
    | _=>cases k2
   | _=>exact nf h
  | _=>exact nf h
theorem sB:∀ (t:Bx) {X:Cx} {sg:Sg} {e:List Stmt},SgOk X sg→chkB t sg e=true→zBS X e (dB sg.fs t)
 | .bNil,X,sg,e,G,h=>by
  have:=isEmpty_iff.mp h; subst this;exact sk_nil
 | .bOne a,X,sg,e,G,h=>by
  cases e with
  | cons s v135 =>
   cases v135 with
   | nil =>
    replace h:(chkS a sg s)=true:=h;exact sk_one (sS a G h)
   | _=>exact nf h
  | _=>exact nf h
 | .bSeq a b,X,sg,e,G,h=>by
  cases e with
  | cons s r =>
   replace h:(chkS a sg s&&chkB b sg r)=true:=h;obtain ⟨h1,h2⟩:=zW h;exact sk_cons (sS a G h1) (sB b G h2)
  | _=>exact nf h
end
end
def ClOk (K:PySem.W.Frag) (mg:Str→Option Value) (cl rs:List Str):Prop :=
 (cl≠[]→∃ T,mg "ThrowError"=some (.ref T)∧TCls K T∧∀ c∈cl,∃ C,mg c=some (.ref C)∧XCls K c C T∧C≠T)∧(∀ c∈rs,∃ C,mg c=some (.ref C)∧excIn K C VB "ValueError.__new__"=true)∧zFL K
theorem def_ok {P:Program} {w:World} {K:PySem.W.Frag} {mg:Str→Option Value} {base:Heap} {x:Str} {st:Stmt} {ps N:List Str} {n lv:Nat} {cs:List (Str × D)} {fs:List FI} {bs:List Str} {c:Bool} {cl rs:List Str} (t:Bx) (T:y6 K mg x st ps) (S:FnScope N ps (zd st)) (hn:N.length=n)
  (hcs:∀ x d,cs.lookup x=some d→∃ u v,mg x=some u∧yK v u∧∀ H,Rep K mg H d v)
  (hfs:∀ i∈fs,∃ f fd ps,mg i.x=some (.ref f)∧keepIn K (.ref f)=true∧WN K fd ps []∧ps.length=i.n∧FnOkN (!i.wild) P w K mg base i.lv f fd ps (spM K mg i.n i.F))
  (hbs:∀ x∈bs,mg x=none) (hcl:ClOk K mg cl rs) (h:chkB t ⟨N,zd st,true,cs,fs,bs,lv,c,cl,rs,[]⟩ (jC st)=true):FOk P w K mg base c x (lv+1) ps (fnM n (dB fs t)):=by
 obtain ⟨a,fd,hm,F,bnd⟩:=T;subst hn;refine ⟨a,fd,hm,F.kp,bnd,fn_ok F S fun cdv A outer s H E hd hr=>?_⟩;exact sB (sg:=⟨N,zd st,true,cs,fs,bs,lv,c,cl,rs,[]⟩) t ⟨rfl,rfl,fun _ _=>rfl,(fun x h=>by cases h),id,hd,fun _=>⟨rfl,rfl⟩,S.nd,hcs,hfs,hbs,hr,hcl.1,hcl.2.1,hcl.2.2⟩ h
end DV
namespace DV
open PySem L2
def zCp (K:PySem.W.Frag) (mg:Str→Option Value) (cs:List (Str × D)):Prop:=∀ x d,cs.lookup x=some d→∃ u v,mg x=some u∧yK v u∧∀ H,Rep K mg H d v
def BsOk (mg:Str→Option Value) (bs:List Str):Prop:=∀ x∈bs,mg x=none
def FsOk (P:Program) (w:World) (K:PySem.W.Frag) (mg:Str→Option Value) (base:Heap) (fs:List FI):Prop :=
 ∀ i∈fs,∃ f fd ps,mg i.x=some (.ref f)∧keepIn K (.ref f)=true∧WN K fd ps []∧ps.length=i.n∧FnOkN (!i.wild) P w K mg base i.lv f fd ps (spM K mg i.n i.F)
section
variable {P:Program} {w:World} {K:PySem.W.Frag} {mg:Str→Option Value} {base:Heap}
theorem cs_nil:zCp K mg []:=fun x d h=>by cases h
theorem zFQ {x:Str} {d:D} {cs:List (Str × D)} (h:∃ u v,mg x=some u∧yK v u∧∀ H,Rep K mg H d v) (t:zCp K mg cs):zCp K mg ((x,d)::cs):=fun y d' e=>by
 rw [lookup_cons] at e;cases hy:y == x with
 | true =>
  rw [hy] at e;cases e;have:y=x:=by simpa using hy
  subst this;exact h
 | false=>rw [hy] at e; exact t y d' e
theorem J5 {x:Str} {i:Int} {cs:List (Str × D)} (h:∃ t,mg x=some (.int i t)) (t:zCp K mg cs):zCp K mg ((x,.int i)::cs):=by
 obtain ⟨k,h⟩:=h;exact zFQ ⟨_,.int i,h,⟨_,rfl⟩,fun H=>by simp only [Rep]⟩ t
theorem zFR {x:Str} {d:D} {cs:List (Str × D)} (h:∃ a,mg x=some (.ref a)∧∀ H,Rep K mg H d (.ref a)) (t:zCp K mg cs):zCp K mg ((x,d)::cs):=by
 obtain ⟨a,h,r⟩:=h;exact zFQ ⟨_,.ref a,h,rfl,r⟩ t
theorem bs_nil:BsOk mg []:=fun x h=>by cases h
theorem jS {x:Str} {bs:List Str} (h:mg x=none) (t:BsOk mg bs):BsOk mg (x::bs):=fun y e=>by
 rcases mem_cons.mp e with e | e
 ·subst e; exact h
 ·exact t y e
theorem zN:FsOk P w K mg base []:=fun x h=>by cases h
theorem zB {x:Str} {n lv:Nat} {F:MF} {fs:List FI} {ps:List Str} {wl:Bool} (h:FOk P w K mg base (!wl) x lv ps F) (hl:ps.length=n) (t:FsOk P w K mg base fs):FsOk P w K mg base (⟨x,n,lv,wl,F⟩::fs):=fun i e=>by
 rcases mem_cons.mp e with e | e
 ·subst e
  subst hl;obtain ⟨a,fd,h1,h2,h3,h4⟩:=h;exact ⟨a,fd,ps,h1,h2,h3,rfl,h4⟩
 ·exact t i e
theorem def_at {x:Str} {st:Stmt} {ps N:List Str} {n lv:Nat} {cs:List (Str × D)} {fs:List FI} {bs:List Str} {cl rs:List Str} (t:Bx) {a:Addr} {fd:FuncData} (F:Fun K x x st a fd) (S:FnScope N ps (zd st)) (hn:N.length=n)
  (hcs:zCp K mg cs) (hfs:FsOk P w K mg base fs) (hbs:BsOk mg bs) (hcl:ClOk K mg cl rs) (h:chkB t ⟨N,zd st,true,cs,fs,bs,lv,true,cl,rs,[]⟩ (jC st)=true):FnOk P w K mg base (CXx P w) (lv+1) a fd ps (spM K mg ps.length (fnM n (dB fs t))):=by
 subst hn;refine (fn_ok (c:=true) F S fun cdv A outer s H E hd hr=>?_).fn;exact sB (sg:=⟨N,zd st,true,cs,fs,bs,lv,true,cl,rs,[]⟩) t ⟨rfl,rfl,fun _ _=>rfl,(fun x h=>by cases h),id,hd,fun _=>⟨rfl,rfl⟩,S.nd,hcs,hfs,hbs,hr,hcl.1,hcl.2.1,hcl.2.2⟩ h
def scP (N P:List Str) (sc:Scope):Prop:=sc.kind=.function∧sc.isCoroutine=false∧sc.isGenerator=false∧N.Nodup∧N.take P.length=P∧(∀ x∈P,sc.names.lookup x=some .local∨sc.names.lookup x=some .cell)∧∀ y∈sc.names,y.2≠.free
instance scD (N P:List Str) (sc:Scope):Decidable (scP N P sc):=by unfold scP; infer_instance
theorem sc_of {N P:List Str} {sc:Scope} (h:scP N P sc):FnScope N P sc:=⟨h.1,h.2.1,h.2.2.1,h.2.2.2.1,h.2.2.2.2.1,h.2.2.2.2.2.1,h.2.2.2.2.2.2⟩
theorem zE {x:Str} {st:Stmt} {ps:List Str} {lv:Nat} {cs:List (Str × D)} {fs:List FI} {bs:List Str} {c:Bool} {cl rs:List Str} (t:Bx) (N:List Str) (T:y6 K mg x st ps)
  (hcs:zCp K mg cs) (hfs:FsOk P w K mg base fs) (hbs:BsOk mg bs) (hcl:ClOk K mg cl rs) (h:(decide (scP N ps (zd st))&&chkB t ⟨N,zd st,true,cs,fs,bs,lv,c,cl,rs,[]⟩ (jC st))=true):FOk P w K mg base c x (lv+1) ps (fnM N.length (dB fs t)) :=
 def_ok t T (sc_of (of_decide_eq_true (Bool.and_eq_true_iff.mp h).1)) rfl hcs hfs hbs hcl (Bool.and_eq_true_iff.mp h).2
theorem def_atB {x:Str} {st:Stmt} {ps:List Str} {lv:Nat} {cs:List (Str × D)} {fs:List FI} {bs:List Str} {cl rs:List Str} (t:Bx) (N:List Str) {a:Addr} {fd:FuncData} (F:Fun K x x st a fd)
  (hcs:zCp K mg cs) (hfs:FsOk P w K mg base fs) (hbs:BsOk mg bs) (hcl:ClOk K mg cl rs) (h:(decide (scP N ps (zd st))&&chkB t ⟨N,zd st,true,cs,fs,bs,lv,true,cl,rs,[]⟩ (jC st))=true):FnOk P w K mg base (CXx P w) (lv+1) a fd ps (spM K mg ps.length (fnM N.length (dB fs t))) :=
 def_at t F (sc_of (of_decide_eq_true (Bool.and_eq_true_iff.mp h).1)) rfl hcs hfs hbs hcl (Bool.and_eq_true_iff.mp h).2
theorem zCq {c:Str} {C T:Addr} (h:xIn K c C T=true):XCls K c C T∧C≠T:=by
 unfold xIn at h;simp only [Bool.and_eq_true,beq_iff_eq,Bool.not_eq_true'] at h;obtain ⟨⟨⟨⟨⟨⟨⟨h1,h2⟩,h3⟩,h4⟩,h5⟩,h6⟩,h7⟩,h8⟩:=h;refine ⟨⟨?_,h2,h3,h4,h5,h6,h7⟩,by simpa using h8⟩;cases e:clsIn K C with
 | none=>rw [e] at h1; cases h1
 | some cd =>
  rw [e] at h1;simp only [Bool.and_eq_true,beq_iff_eq] at h1;exact ⟨cd,rfl,h1.1,h1.2⟩
theorem tcls_of {T:Addr} (h:tIn K T=true):TCls K T:=by
 unfold tIn at h;simp only [Bool.and_eq_true,beq_iff_eq] at h;obtain ⟨h1,h2⟩:=h;refine ⟨?_,h2⟩;cases e:clsIn K T with
 | none=>rw [e] at h1; cases h1
 | some cd=>rw [e] at h1; exact ⟨cd,rfl,by simpa using h1⟩
def spLaw (K:PySem.W.Frag):Sp:=fun vs H Q _=>∃ (a:Addr) (ns:List Int),vs=[.ref a]∧SqL K H a (ns.map V.int)∧ns.length≤63∧∀ H',Q (.bl true) H'
theorem QC {H:Hp}:∀ ns:List Int,Reps K mg H (ns.map D.int) (ns.map V.int)
 | []=>Reps.nil
 | n::ns=>Reps.cons (by simp only [Rep]) (QC ns)
theorem law_imp {F:MF} (hm:∀ ns:List Int,ns.length≤63→∃ outs,F [.val (.lst (ns.map D.int))]=.ok (.val (.bl true),outs)) (vs:List V) (H:Hp) (Q:VK) (E:XK) (h:spLaw K vs H Q E):spM K mg 1 F vs H Q E:=by
 obtain ⟨a,ns,rfl,hS,hl,k⟩:=h;obtain ⟨outs,hF⟩:=hm ns hl;have em:∀ b,¬ Mo (fun _=>False) [(some (V.ref a),Slot.val (.lst (ns.map D.int)))] b:=by
  intro b q;rcases q with q | q
  ·exact q
  ·rw [zz] at q; cases q
 have sm:Y1 H (Hm (Mo (fun _=>False) [(some (V.ref a),Slot.val (.lst (ns.map D.int)))]) H):=fun b o q=>yI.mpr ⟨em b,q⟩
 refine ⟨rfl,fun _=>False,[.val (.lst (ns.map D.int))],rfl,⟨?_,?_,?_,?_⟩,?_⟩
 ·intro o d q
  have q':=mem_singleton.mp q
  cases q';refine ⟨_,rfl,?_⟩;simp only [Rep];exact ⟨a,_,rfl,sm.seq hS,QC ns⟩
 ·intro o s ds q e
  have q':=mem_singleton.mp q
  cases q';cases e
 ·show (yX [(some (V.ref a),Slot.val (.lst (ns.map D.int)))]).Nodup
  rw [zz]; exact List.nodup_nil
 ·intro b q; cases q
 ·rw [hF]
  intro v H' _ fr _;obtain ⟨v',e,r⟩:=fr.val (some v) (.bl true) mem_cons_self;cases e;simp only [Rep] at r;subst r;exact k H'
end
theorem w8 {E:zY}:yF [] E=[]:=rfl
theorem J6 {ds:List D} {ss:List Slot} {s:Slot} {E:zY}:yF (.par ds::ss) (s::E)=s::yF ss E:=rfl
theorem w9 {d:D} {ss:List Slot} {s:Slot} {E:zY}:yF (.val d::ss) (s::E)=.emp::yF ss E:=rfl
theorem J7 {d:List D} {ss:List Slot} {s:Slot} {E:zY}:yF (.own d::ss) (s::E)=.emp::yF ss E:=rfl
theorem J8 {ss:List Slot} {s:Slot} {E:zY}:yF (.emp::ss) (s::E)=.emp::yF ss E:=rfl
theorem Wh {tg:MG} {tt:MT} {el:ME} (I:Nat→zY→List D→Prop):∀ (ds:List D) (k:Nat) (E:zY) (acc:List D),I k E acc→acc.length+ds.length≤cap →
  (∀ i d,ds[i]?=some d→∀ E acc,I (k+i) E acc→acc.length < cap→∃ E1 E2 r E3,tg d E=.ok E1∧tt E1=.ok (true,E2)∧el E2=.ok (r,E3)∧I (k+i+1) E3 (acc++[r.d])) →
  ∃ res E',J3 tg tt el ds E acc=.ok (res,E')∧I (k+ds.length) E' res
 | [],k,E,acc,h,hc,step=>⟨acc,E,rfl,h⟩
 | d::ds,k,E,acc,h,hc,step=>by
  simp only [length_cons] at hc;obtain ⟨E1,E2,r,E3,h1,h2,h3,h4⟩:=step 0 d rfl E acc h (by omega);obtain ⟨res,E',q1,q2⟩:=Wh I ds (k+1) E3 (acc++[r.d]) h4 (by simp; omega) fun i d' e E acc h hl=>by
   have:=step (i+1) d' (by simpa using e) E acc (by rw [show k+(i+1)=k+1+i by omega]; exact h) hl;rw [show k+(i+1)=k+1+i by omega] at this;exact this
  refine ⟨res,E',?_,?_⟩
  ·simp only [J3,h1,h2,h3]
   rw [if_pos (by omega)];exact q1
  ·rw [length_cons,show k+(ds.length+1)=k+1+ds.length by omega]; exact q2
theorem jI {tg:MG} {body:MS} (I:Nat→zY→Prop):∀ (ds:List D) (k:Nat) (E:zY),I k E →
  (∀ i d,ds[i]?=some d→∀ E,I (k+i) E→∃ E1 E2,tg d E=.ok E1∧body E1=.ok (.nx,E2)∧I (k+i+1) E2) →
  ∃ E',vC tg body ds E=.ok (.nx,E')∧I (k+ds.length) E'
 | [],k,E,h,step=>⟨E,rfl,h⟩
 | d::ds,k,E,h,step=>by
  obtain ⟨E1,E2,h1,h2,h4⟩:=step 0 d rfl E h;obtain ⟨E',q1,q2⟩:=jI I ds (k+1) E2 h4 fun i d' e E h=>by
   have:=step (i+1) d' (by simpa using e) E (by rw [show k+(i+1)=k+1+i by omega]; exact h);rw [show k+(i+1)=k+1+i by omega] at this;exact this
  refine ⟨E',?_,?_⟩
  ·simp only [vC,h1,h2]
   exact q1
  ·rw [length_cons,show k+(ds.length+1)=k+1+ds.length by omega]; exact q2
theorem JO:∀ (n:Nat) (lo:Int) (i:Nat) (d:D),(zO lo n)[i]?=some d→i < n∧d=.int (lo+i)
 | 0,_,_,_,h=>by simp [zO] at h
 | n+1,lo,0,d,h=>by
  simp [zO] at h;exact ⟨by omega,by rw [← h]; simp⟩
 | n+1,lo,i+1,d,h=>by
  simp only [zO,List.getElem?_cons_succ] at h;obtain ⟨h1,h2⟩:=JO n (lo+1) i d h;refine ⟨by omega,?_⟩;rw [h2];congr 1
  push_cast
  omega
theorem jw:∀ (n:Nat) (lo:Int),(zO lo n).length=n
 | 0,_=>rfl
 | n+1,lo=>by simp [zO,jw n]
def wH:Slot→Bool
 | .par _=>false
 | _=>true
theorem zAk:∀ (vs:List D) (E:zY),zJ (vs.map AR.tmp) E=.ok (vs.map Slot.val,E)
 | [],_=>rfl
 | d::vs,E=>by simp only [map_cons,zJ,zAk vs E]
theorem zAl:∀ (vs:List D) (outs:List Slot) (E0 E:zY),outs.length=vs.length→zH (vs.map AR.tmp) outs E0 E=.ok E
 | [],[],_,_,_=>rfl
 | [],_::_,_,_,h=>by cases h
 | _::_,[],_,_,h=>by cases h
 | d::vs,s::outs,E0,E,h=>by simp only [map_cons,zH]; exact zAl vs outs E0 E (by simpa using h)
end DV
namespace DV
open PySem L2
theorem QD {vs:List D} {tg:MG} {tt:MT} {el:ME} {nl:Nat} (pat:D→List DV.Slot) (f:D→Bool) (g:D→D):∀ (ds:List D),
  (∀ d∈ds,∀ S:List DV.Slot,S.length=nl→(∀ s∈S,wH s=true)→tg d (S++vs.map Slot.val)=.ok (pat d++vs.map Slot.val)) →
  (∀ d∈ds,(pat d).length=nl∧∀ s∈pat d,wH s=true) →
  (∀ d∈ds,tt (pat d++vs.map Slot.val)=.ok (f d,pat d++vs.map Slot.val)) →
  (∀ d∈ds,f d=true→∃ r,el (pat d++vs.map Slot.val)=.ok (r,pat d++vs.map Slot.val)∧r.d=g d) →
  ∀ (S:List DV.Slot) (acc:List D),S.length=nl→(∀ s∈S,wH s=true)→acc.length+ds.length≤cap→∃ S',S'.length=nl∧J3 tg tt el ds (S++vs.map Slot.val) acc=.ok (acc++(ds.filter f).map g,S'++vs.map Slot.val)
 | [],_,_,_,_,S,acc,hS,_,_=>⟨S,hS,by simp [J3]⟩
 | d::ds,h1,h2,h3,h4,S,acc,hS,hn,hc=>by
  have m:=mem_cons_self (a:=d) (l:=ds);have r1:=h1 d m S hS hn;have r3:=h3 d m;have r2:=h2 d m;simp only [length_cons] at hc;have go:=QD pat f g ds (fun z hz=>h1 z (mem_cons_of_mem _ hz)) (fun z hz=>h2 z (mem_cons_of_mem _ hz)) (fun z hz=>h3 z (mem_cons_of_mem _ hz)) (fun z hz=>h4 z (mem_cons_of_mem _ hz)) (pat d);cases hf:f d with
  | false =>
   rw [hf] at r3;obtain ⟨S',l',e'⟩:=go acc r2.1 r2.2 (by omega);refine ⟨S',l',?_⟩;simp only [J3,r1,r3,e',List.filter_cons,hf];simp
  | true =>
   rw [hf] at r3;obtain ⟨r,r4,r5⟩:=h4 d m hf;obtain ⟨S',l',e'⟩:=go (acc++[r.d]) r2.1 r2.2 (by simp; omega);refine ⟨S',l',?_⟩;simp only [J3,r1,r3,r4];rw [if_pos (by omega),e',r5];simp [List.filter_cons,hf]
theorem zEV {vs:List D} {tg:MG} {tt:MT} {el:ME} {nl:Nat} {caps:List Nat} (pat:D→List DV.Slot) (f:D→Bool) (g:D→D) (ds:List D)
  (h1:∀ d∈ds,∀ S:List DV.Slot,S.length=nl→(∀ s∈S,wH s=true)→tg d (S++vs.map Slot.val)=.ok (pat d++vs.map Slot.val))
  (h2:∀ d∈ds,(pat d).length=nl∧∀ s∈pat d,wH s=true)
  (h3:∀ d∈ds,tt (pat d++vs.map Slot.val)=.ok (f d,pat d++vs.map Slot.val))
  (h4:∀ d∈ds,f d=true→∃ r,el (pat d++vs.map Slot.val)=.ok (r,pat d++vs.map Slot.val)∧r.d=g d) (hc:ds.length≤cap)
  {mi:MI} {E E1:zY} (hi:mi E=.ok (ds,E1)) (hcap:J4 E1 caps=.ok (vs.map AR.tmp)):We nl caps mi tg tt el E=.ok (.own ((ds.filter f).map g),E1):=by
 obtain ⟨S',l',e'⟩:=QD (vs:=vs) (tg:=tg) (tt:=tt) (el:=el) (nl:=nl) pat f g ds h1 h2 h3 h4 (replicate nl .emp) [] (by simp) (fun s hs=>by rw [(List.mem_replicate.mp hs).2]; rfl) (by simpa using hc);simp only [We,hi,hcap,zAk,e'];rw [zAl vs _ _ _ (by rw [length_drop,z0]; simp)];simp
theorem gT_ok2 {a b:D} {S:List DV.Slot} {R:List DV.Slot} (hS:S.length=2) (hn:∀ s∈S,wH s=true):gT [0,1] (.tup [a,b]) (S++R)=.ok ([.val a,.val b]++R):=by
 match S,hS,hn with
 | [x,y],_,hn =>
  have hx:=hn x (by simp);have hy:=hn y (by simp);cases x <;> first | (cases hx; done) | (cases y <;> first | (cases hy; done) | rfl)
theorem gN_ok1 {a:D} {S:List DV.Slot} {R:List DV.Slot} (hS:S.length=1) (hn:∀ s∈S,wH s=true):gN 0 a (S++R)=.ok ([.val a]++R):=by
 match S,hS,hn with
 | [x],_,hn =>
  have hx:=hn x (by simp);cases x <;> first | (cases hx; done) | rfl
end DV
namespace DV
open PySem L2
theorem Wj {h:Heap}:∀ as:List Addr,(YE h as).In h
 | [],a,o,e=>by cases e
 | b::as,a,o,e=>by
  unfold YE at e;cases hb:h.get? b with
  | none =>
   rw [hb] at e;exact Wj as a o e
  | some o' =>
   rw [hb] at e;replace e:(match a == b with | true=>some o' | false=>List.lookup a (YE h as))=some o:=e
   cases hab:a == b with
   | true =>
    rw [hab] at e;cases e;have:=eq_of_beq hab;subst this;exact hb
   | false =>
    rw [hab] at e;exact Wj as a o e
def zAm (as:List Addr) (α:Type) (L:PySem.W.Frag→α) (v:α):PySem.W.Hook :=
 ⟨α,fun s=>L (YE s.heap as),fun _=>v,fun _ h=>∃ K:PySem.W.Frag,K.In h∧L K=v,fun _ s e=>⟨_,Wj as,e⟩,fun _ _ _ ⟨K,x,e⟩ k=>⟨K,x.keeps k,e⟩⟩
theorem zEW {K:PySem.W.Frag} {n:Str} {st:Stmt} (e:zh K n=zi n st):∃ (f:Addr) (oc:Value) (od:Option Addr) (kV dc pm:Value) (an:Option Addr) (cd ct:Value) (sl:Array (Option Value)),
  nsIn K mainGlobals n=some (some (.ref f))∧K.lookup f=some ⟨oc,od,.func (fnOf n n (Jw st) (jC st) (zd st) .none kV dc pm an cd ct),sl⟩∧codeIn K cd n=true∧keepIn K (.ref f)=true:=by
 unfold zh at e;split at e
 ·rename_i a ha
  split at e
  ·rename_i oc od fd sl hl
   have e:=Option.some.inj e;unfold fvOf at e;injection e with e1 e
   injection e with e2 e
   injection e with e3 e
   injection e with e4 e
   injection e with e5 e
   injection e with e6 e
   injection e with e7 e
   injection e with e8 e
   injection e with e9 e10
   obtain ⟨k,p⟩:=zW e1;cases fd;simp only at e2 e3 e4 e5 e6 e7 e8 e9 e10;subst e2 e3 e4 e5 e6 e7 e8 e9 e10;exact ⟨_,_,_,_,_,_,_,_,_,_,ha,hl,k,p⟩
  ·cases e
 ·cases e
def nth {α:Type}:List α→Nat→Option α
 | [],_=>none
 | a::_,0=>some a
 | _::l,n+1=>nth l n
theorem ix {α:Type} {l l':List α} (n:Nat) (h:l=l'):nth l n=nth l' n:=congrArg (fun l=>nth l n) h
section
variable {K:PySem.W.Frag} {h:Heap} {mg:Str→Option Value}
theorem zj {n:Str} {st:Stmt} {ps:List Str} (X:K.In h) (G:h.Ns mainGlobals mg) (e:some (zh K n)=some (zi n st))
  (b:∀ (kV doc pm:Value) (an:Option Addr) (cdv ct:Value) (us:List Value),us.length=ps.length→bindArgs (fnOf n n (Jw st) (jC st) (zd st) .none kV doc pm an cdv ct) ⟨us,[]⟩=pure (ps.zip us):=by intro _ _ _ _ _ _ us hl; first | exact (match us,hl with | [_],_=>rfl) | exact (match us,hl with | [_,_],_=>rfl) | exact (match us,hl with | [_,_,_],_=>rfl) | exact (match us,hl with | [_,_,_,_],_=>rfl) | exact (match us,hl with | [_,_,_,_,_],_=>rfl) | exact (match us,hl with | [_,_,_,_,_,_],_=>rfl) | exact (match us,hl with | [_,_,_,_,_,_,_],_=>rfl) | exact (match us,hl with | [],_=>rfl)):y6 K mg n st ps:=by
 obtain ⟨f,oc,od,kV,dc,pm,an,cd,ct,sl,a,l,k,p⟩:=zEW (Option.some.inj e);exact ⟨_,_,mg_of X G a,zEy (st:=st) l k p,(zEy (st:=st) l k p).binds b⟩
theorem Qs {n:Str} {i:Int} (X:K.In h) (G:h.Ns mainGlobals mg) (e:some (YF K n)=some (some i)):∃ t,mg n=some (.int i t):=by
 have e:=Option.some.inj e;unfold YF at e;split at e
 ·rename_i j t hj
  cases e;exact ⟨_,mg_of X G hj⟩
 ·cases e
theorem tt_at {n:Str} {i j:Int} (X:K.In h) (G:h.Ns mainGlobals mg) (e:some (zAK K n i j)=some true):∃ a,mg n=some (.ref a)∧∀ H,Rep K mg H (.tup [.int i,.int j]) (.ref a):=by
 have e:=Option.some.inj e;unfold zAK at e;split at e
 ·rename_i a ha
  split at e
  ·rename_i t od its k sl hl
   obtain ⟨e1,e2⟩:=zW e;have:=beq_iff_eq.mp e1; subst this;split at e2
   ·rename_i x t1 y t2 hi
    obtain ⟨e3,e4⟩:=zW e2;have:=beq_iff_eq.mp e3;have:=beq_iff_eq.mp e4
    subst_vars
    refine ⟨a,mg_of X G ha,fun H=>?_⟩;simp only [Rep,Reps];refine ⟨a,[.int x,.int y],rfl,.inr ⟨_,its,k,hl,rfl,rfl,?_,?_⟩,.int x,_,rfl,rfl,.int y,_,rfl,rfl,rfl⟩
    ·have:its.size=2:=by rw [← Array.length_toList,hi]; rfl
     rw [this]; decide
    ·rw [hi]; exact .cons ⟨_,rfl⟩ (.cons ⟨_,rfl⟩ .nil)
   ·cases e2
  ·cases e
 ·cases e
theorem Z3 {n:Str} (X:K.In h) (G:h.Ns mainGlobals mg) (e:some (jn K n)=some true):mg n=none:=by
 have e:=Option.some.inj e;unfold jn at e;split at e
 ·rename_i hj
  exact PySem.W.mg_none_of X G hj
 ·cases e
theorem Qt {n:Str} {a:Addr} (X:K.In h) (G:h.Ns mainGlobals mg) (e:JY K n=some a):mg n=some (.ref a):=by
 unfold JY at e;split at e
 ·rename_i b hb
  cases e;exact mg_of X G hb
 ·cases e
theorem sm_at (e:zBV K=true):zFL K:=by
 unfold zBV at e;cases h:K.lookup sysModules with
 | none=>rw [h] at e; cases e
 | some o =>
  rw [h] at e;dsimp only at e;cases hd:o.data with
  | dict es n=>exact ⟨o,es,n,h,hd⟩
  | _=>rw [hd] at e; cases e
theorem cl_at {cl rs:List Str} (X:K.In h) (G:h.Ns mainGlobals mg) (e:zEs K cl rs=true):ClOk K mg cl rs:=by
 obtain ⟨e,e3⟩:=zW e;obtain ⟨e1,e2⟩:=zW e;refine ⟨fun hc=>?_,fun c hc=>?_,sm_at e3⟩
 ·cases cl with
  | nil=>exact absurd rfl hc
  | cons c0 cs =>
   replace e1:(match JY K "ThrowError" with
    | some T=>tIn K T&&(c0::cs).all fun c=>(match JY K c with | some C=>xIn K c C T | none=>false)
    | none=>false)=true:=e1
   cases hT:JY K "ThrowError" with
   | none=>rw [hT] at e1; cases e1
   | some T =>
    rw [hT] at e1;obtain ⟨t1,t2⟩:=zW e1;refine ⟨T,Qt X G hT,tcls_of t1,fun c hc=>?_⟩;have q:=all_eq_true.mp t2 c hc;cases hC:JY K c with
    | none=>rw [hC] at q; cases q
    | some C =>
     rw [hC] at q;exact ⟨C,Qt X G hC,(zCq q).1,(zCq q).2⟩
 ·have q:=all_eq_true.mp e2 c hc
  cases hC:JY K c with
  | none=>rw [hC] at q; cases q
  | some C =>
   rw [hC] at q;exact ⟨C,Qt X G hC,q⟩
end
theorem walkE {l:PySem.W.OpenLaw} {q:Program} {loose:List Str} {XP:(Str→Option Value)→Heap→Prop} {d:DefRec} {as:List Addr} {α:Type} {L:PySem.W.Frag→α} {v:α} {x:Str} {F:MF} (hm:∀ ns:List Int,ns.length≤63→∃ outs,F [.val (.lst (ns.map D.int))]=.ok (.val (.bl true),outs))
  (hn:l.most=some 63) (hdf:d.params.defaults=[])
  (Gk:∀ (w:World) (K:PySem.W.Frag) (mg:Str→Option Value) (fa:Addr) (h:Heap),K.In h→L K=v→h.Ns mainGlobals mg→mg d.name=some (.ref fa) →
   ∃ fd:FuncData,(∀ (s:Shared) (u:Value),BindsTo s fd ⟨[u],[]⟩ [(x,u)])∧∀ base:Heap,FnOk l.prog w K mg base (CXx l.prog w) 40 fa fd [x] (spM K mg 1 F)) :
  PySem.W.WalkO q loose XP (zAm as α L v).says l.row.toRowW d [] (fun f vs=>PySem.call f vs):=by
 refine Att.attach_call hn hdf fun w s₀ s₁ mg mb fa o pm cd doc a vs ns G Y ho hd hcd hmg hobj hints hlen hg=>?_
 obtain ⟨K,KX,e⟩:=Y;obtain ⟨fd,hb,hF⟩:=Gk w K mg fa _ KX e G.T.g hmg;exact zDm (sp:=spLaw K) (k:=40) KX G.T.g G.T.b G.T.builtins G.T.nolimit hg hobj hints (le_trans hlen (by decide)) ⟨rfl,rfl,by decide,by decide⟩ (fun base _ _=>(hF base).imp (law_imp hm)) hb (fun H hO hS=>⟨a,ns,rfl,hS,hlen,fun _=>rfl⟩) fun H e s' ⟨_,_,_,_,_,_,_,_,_,_,z⟩=>z
end DV
namespace My
open PySem L2 DV
def cs_:List (Str × D):=[("ALL",.tup [.int 1,.int 1]),("LEAST_SIGNS",.int 2),("LEAST_WEIGHT",.int 1),("MOST_AWAITED",.int 8),("MOST_BOUNDED",.int 40),("MOST_COUNTED",.int 40),("MOST_SIGNS",.int 3),("MOST_WEIGHT",.int 9),("NOTHING",.tup [.int 0,.int 1])]
def bs_:List Str:=["abs","all","bool","int","isinstance","len","list","max","range","sum","tuple","zip"]
def vn:Bx :=
  (.bOne (.sRet (.and (.is .int (.var 0)) (.not (.is .bool (.var 0))))))
def Qu:List FI:=[]
def jb:MF:=fnM 1 (dB Qu vn)
def ye:Bx :=
  (.bOne (.sRet (.and (.call 0 (.ev (.var 0) .nil)) (.chain .le .le (.var 1) (.var 0) (.var 2)))))
def yw:List FI:=[⟨"is_whole",1,1,false,jb⟩]
def yA:MF:=fnM 3 (dB yw ye)
abbrev jT:Bx :=
  (.bOne (.sPar 0 1 (.cons (.var 1) (.cons (.bin .mod (.var 0) (.var 1)) .nil))))
def jx:Bx :=
  (.bSeq (.sPar 0 1 (.cons (.cB .abs (.cons (.var 0) .nil)) (.cons (.cB .abs (.cons (.var 1) .nil)) .nil)))
  (.bSeq (.sWhile (.tE (.cmp .ne (.var 1) (.c (.int 0))))
  jT)
  (.bOne (.sRet (.var 0)))))
def yC:List FI:=[]
def zf:MF:=fnM 2 (dB yC jx)
abbrev Wk:Bx :=
  (.bOne (.sAug 2 .mul (.var 0)))
def YZ:Bx :=
  (.bSeq (.sSet 2 (.c (.int 1)))
  (.bSeq (.sForR1 (.cons (.var 1) .nil) (.n 3)
  Wk)
  (.bOne (.sRet (.var 2)))))
def Ji:List FI:=[]
def jW:MF:=fnM 4 (dB Ji YZ)
def ZY:Bx :=
  (.bSeq (.sIf (.tOr (.tNot (.tE (.is .tuple (.var 0)))) (.tE (.cmp .ne (.cB .len (.cons (.var 0) .nil)) (.c (.int 2))))) (.bOne (.sRet (.c (.bl false)))) .bNil)
  (.bSeq (.sTup [1,2] (.var 0))
  (.bSeq (.sIf (.tOr (.tNot (.tE (.call 1 (.ev (.var 1) .nil)))) (.tNot (.tE (.call 1 (.ev (.var 2) .nil))))) (.bOne (.sRet (.c (.bl false)))) .bNil)
  (.bOne (.sRet (.and (.cmp .gt (.var 2) (.c (.int 0))) (.cmp .eq (.call 0 (.ev (.var 1) (.ev (.var 2) .nil))) (.c (.int 1)))))))))
def uq:List FI:=[⟨"greatest_divisor",2,1,false,zf⟩,⟨"is_whole",1,1,false,jb⟩]
def yl:MF:=fnM 3 (dB uq ZY)
def vo:Bx :=
  (.bSeq (.sIf (.tE (.cmp .eq (.var 1) (.c (.int 0)))) (.bOne .sAny) .bNil)
  (.bSeq (.sSet 2 (.call 0 (.ev (.var 0) (.ev (.var 1) .nil))))
  (.bSeq (.sIf (.tE (.cmp .lt (.var 1) (.c (.int 0)))) (.bOne (.sSet 2 (.neg (.var 2)))) .bNil)
  (.bOne (.sRet (.tup (.cons (.bin .fdiv (.var 0) (.var 2)) (.cons (.bin .fdiv (.var 1) (.var 2)) .nil))))))))
def Qv:List FI:=[⟨"greatest_divisor",2,1,false,zf⟩]
def zU:MF:=fnM 3 (dB Qv vo)
def ZZ:Bx :=
  (.bOne (.sRet (.call 0 (.ev (.bin .add (.bin .mul (.ix (.var 0) (.c (.int 0))) (.ix (.var 1) (.c (.int 1)))) (.bin .mul (.ix (.var 1) (.c (.int 0))) (.ix (.var 0) (.c (.int 1))))) (.ev (.bin .mul (.ix (.var 0) (.c (.int 1))) (.ix (.var 1) (.c (.int 1)))) .nil)))))
def ur:List FI:=[⟨"share_of",2,2,false,zU⟩]
def yb:MF:=fnM 2 (dB ur ZZ)
def Za:Bx :=
  (.bOne (.sRet (.call 0 (.ev (.bin .sub (.bin .mul (.ix (.var 0) (.c (.int 0))) (.ix (.var 1) (.c (.int 1)))) (.bin .mul (.ix (.var 1) (.c (.int 0))) (.ix (.var 0) (.c (.int 1))))) (.ev (.bin .mul (.ix (.var 0) (.c (.int 1))) (.ix (.var 1) (.c (.int 1)))) .nil)))))
def ut:List FI:=[⟨"share_of",2,2,false,zU⟩]
def jy:MF:=fnM 2 (dB ut Za)
def Yb:Bx :=
  (.bOne (.sRet (.call 0 (.ev (.bin .mul (.ix (.var 0) (.c (.int 0))) (.ix (.var 1) (.c (.int 0)))) (.ev (.bin .mul (.ix (.var 0) (.c (.int 1))) (.ix (.var 1) (.c (.int 1)))) .nil)))))
def vH:List FI:=[⟨"share_of",2,2,false,zU⟩]
def zg:MF:=fnM 2 (dB vH Yb)
def vq:Bx :=
  (.bOne (.sRet (.call 0 (.ev (.bin .mul (.ix (.var 0) (.c (.int 0))) (.ix (.var 1) (.c (.int 1)))) (.ev (.bin .mul (.ix (.var 0) (.c (.int 1))) (.ix (.var 1) (.c (.int 0)))) .nil)))))
def Qw:List FI:=[⟨"share_of",2,2,false,zU⟩]
def jc:MF:=fnM 2 (dB Qw vq)
abbrev jg:Bx :=
  (.bOne (.sSet 2 (.call 0 (.ev (.var 2) (.ev (.var 0) .nil)))))
def Yc:Bx :=
  (.bSeq (.sSet 2 (.gl (.tup [.int 1,.int 1])))
  (.bSeq (.sForR1 (.cons (.var 1) .nil) (.n 3)
  jg)
  (.bOne (.sRet (.var 2)))))
def wI:List FI:=[⟨"share_times",2,3,false,zg⟩]
def yP:MF:=fnM 4 (dB wI Yc)
abbrev Yd:Bx :=
  (.bOne (.sSet 1 (.call 0 (.ev (.var 1) (.ev (.var 2) .nil)))))
def Wl:Bx :=
  (.bSeq (.sSet 1 (.gl (.tup [.int 0,.int 1])))
  (.bSeq (.sForL (.var 0) (.n 2)
  Yd)
  (.bOne (.sRet (.var 1)))))
def Zb:List FI:=[⟨"share_plus",2,3,false,yb⟩]
def wf:MF:=fnM 3 (dB Zb Wl)
def Ye:Bx :=
  (.bOne (.sRet (.cmp .lt (.bin .mul (.ix (.var 0) (.c (.int 0))) (.ix (.var 1) (.c (.int 1)))) (.bin .mul (.ix (.var 1) (.c (.int 0))) (.ix (.var 0) (.c (.int 1)))))))
def vI:List FI:=[]
def zT:MF:=fnM 2 (dB vI Ye)
abbrev JA:Bx :=
  (.bOne (.sIf (.tE (.call 0 (.ev (.var 2) (.ev (.var 1) .nil)))) (.bOne (.sSet 1 (.var 2))) .bNil))
def Yg:Bx :=
  (.bSeq (.sSet 1 (.ix (.var 0) (.c (.int 0))))
  (.bSeq (.sForI (.iA (.var 0)) (.n 2)
  JA)
  (.bOne (.sRet (.var 1)))))
def Jj:List FI:=[⟨"share_below",2,1,false,zT⟩]
def yQ:MF:=fnM 3 (dB Jj Yg)
abbrev jz:Bx :=
  (.bOne (.sIf (.tE (.call 0 (.ev (.var 1) (.ev (.var 2) .nil)))) (.bOne (.sSet 1 (.var 2))) .bNil))
def wv:Bx :=
  (.bSeq (.sSet 1 (.ix (.var 0) (.c (.int 0))))
  (.bSeq (.sForI (.iA (.var 0)) (.n 2)
  jz)
  (.bOne (.sRet (.var 1)))))
def wQ:List FI:=[⟨"share_below",2,1,false,zT⟩]
def zr:MF:=fnM 3 (dB wQ wv)
def vt:Bx :=
  (.bSeq (.sIf (.tOr (.tNot (.tE (.is .tuple (.var 0)))) (.tNot (.tE (.chain .le .le (.gl (.int 2)) (.cB .len (.cons (.var 0) .nil)) (.gl (.int 3)))))) (.bOne (.sRet (.c (.bl false)))) .bNil)
  (.bOne (.sRet (.cB .all (.cons (.comp 1 ["weight"] [] [] (.iT (.var 0)) (.n 0) .tTr (.call 0 (.ev (.var 0) (.ev (.gl (.int 1)) (.ev (.gl (.int 9)) .nil))))) .nil)))))
def J9:List FI:=[⟨"is_whole_within",3,2,false,yA⟩]
def Y6:MF:=fnM 1 (dB J9 vt)
def vw:Bx :=
  (.bOne (.sIf (.tNot (.tE (.call 0 (.ev (.var 0) .nil)))) (.bOne .sAny) .bNil))
def Qx:List FI:=[⟨"die_good",1,3,false,Y6⟩]
def jd:MF:=fnM 1 (dB Qx vw)
def Yh:Bx :=
  (.bOne (.sIf (.tNot (.tE (.call 0 (.ev (.var 0) (.ev (.var 1) (.ev (.var 2) .nil)))))) (.bOne .sAny) .bNil))
def vJ:List FI:=[⟨"is_whole_within",3,2,false,yA⟩]
def zZ:MF:=fnM 3 (dB vJ Yh)
def Wm:Bx :=
  (.bOne (.sDrop (.call 0 (.ev (.var 0) (.ev (.c (.int 0)) (.ev (.bin .sub (.var 1) (.c (.int 1))) .nil))))))
def QE:List FI:=[⟨"need_number",3,3,false,zZ⟩]
def jD:MF:=fnM 2 (dB QE Wm)
abbrev Jk:Bx :=
  (.bOne (.sSet 4 (.bin .add (.lst (.cons (.bin .mul (.var 1) (.cB .sum (.cons (.var 4) .nil))) .nil)) (.comp 1 ["end"] ["weight"] [0] (.iL (.sl (.var 4) .oN (.oS (.neg (.c (.int 1)))))) (.n 0) .tTr (.bin .mul (.var 1) (.var 0))))))
def Zc:Bx :=
  (.bSeq (.sSet 4 (.bin .add (.lst (.cons (.c (.int 1)) .nil)) (.bin .mul (.lst (.cons (.c (.int 0)) .nil)) (.var 3))))
  (.bSeq (.sForR1 (.cons (.var 2) .nil) (.n 5)
  Jk)
  (.bOne (.sRet (.cB .sum (.cons (.var 4) .nil))))))
def wg:List FI:=[]
def j0:MF:=fnM 6 (dB wg Zc)
def Yi:Bx :=
  (.bSeq (.sDrop (.call 2 (.ev (.var 0) .nil)))
  (.bSeq (.sDrop (.call 1 (.ev (.var 1) (.ev (.cB .len (.cons (.var 0) .nil)) .nil))))
  (.bOne (.sDrop (.call 0 (.ev (.var 2) (.ev (.c (.int 0)) (.ev (.gl (.int 40)) .nil))))))))
def vK:List FI:=[⟨"need_number",3,3,false,zZ⟩,⟨"need_sign",2,4,false,jD⟩,⟨"need_die",1,4,false,jd⟩]
def jX:MF:=fnM 3 (dB vK Yi)
def JB:Bx :=
  (.bOne (.sRet (.bin .sub (.cB .sum (.cons (.var 0) .nil)) (.ix (.var 0) (.var 1)))))
def Z4:List FI:=[]
def yx:MF:=fnM 2 (dB Z4 JB)
def Jl:Bx :=
  (.bOne (.sRet (.call 0 (.ev (.var 2) (.ev (.call 1 (.ev (.cB .sum (.cons (.var 0) .nil)) (.ev (.var 1) .nil))) .nil)))))
def Wn:List FI:=[⟨"share_of",2,2,false,zU⟩,⟨"whole_power",2,1,false,jW⟩]
def jJ:MF:=fnM 3 (dB Wn Jl)
def Zd:Bx :=
  (.bSeq (.sDrop (.call 4 (.ev (.var 0) (.ev (.var 1) (.ev (.var 2) .nil)))))
  (.bSeq (.sDrop (.call 3 (.ev (.var 3) (.ev (.c (.int 0)) (.ev (.gl (.int 40)) .nil)))))
  (.bOne (.sRet (.call 0 (.ev (.var 0) (.ev (.var 2) (.ev (.call 1 (.ev (.ix (.var 0) (.var 1)) (.ev (.call 2 (.ev (.var 0) (.ev (.var 1) .nil))) (.ev (.var 2) (.ev (.var 3) .nil))))) .nil))))))))
def uv:List FI:=[⟨"share_in_all",3,3,false,jJ⟩,⟨"weigh_upto",4,1,false,j0⟩,⟨"others_weight",2,1,false,yx⟩,⟨"need_number",3,3,false,zZ⟩,⟨"need_thrown",3,5,false,jX⟩]
def j1:MF:=fnM 4 (dB uv Zd)
def Jm:Bx :=
  (.bSeq (.sDrop (.call 2 (.ev (.var 0) .nil)))
  (.bSeq (.sDrop (.call 1 (.ev (.var 1) (.ev (.cB .len (.cons (.var 0) .nil)) .nil))))
  (.bOne (.sDrop (.call 0 (.ev (.var 2) (.ev (.c (.int 1)) (.ev (.gl (.int 8)) .nil))))))))
def Wo:List FI:=[⟨"need_number",3,3,false,zZ⟩,⟨"need_sign",2,4,false,jD⟩,⟨"need_die",1,4,false,jd⟩]
def ze:MF:=fnM 3 (dB Wo Jm)
def Ze:Bx :=
  (.bSeq (.sDrop (.call 3 (.ev (.var 0) (.ev (.var 1) (.ev (.var 2) .nil)))))
  (.bSeq (.sSet 3 (.frz (.comp 1 ["i"] ["die","sign"] [0,1] (.iR1 (.cons (.bin .add (.var 2) (.c (.int 1))) .nil)) (.n 0) .tTr (.call 1 (.ev (.call 2 (.ev (.cB .sum (.cons (.var 1) .nil)) (.ev (.ix (.var 1) (.var 2)) .nil))) (.ev (.var 0) .nil))))))
  (.bOne (.sRet (.comp 1 ["j"] ["powers"] [3] (.iR1 (.cons (.var 2) .nil)) (.n 0) .tTr (.call 0 (.ev (.sl (.var 1) (.oS (.bin .add (.var 0) (.c (.int 1)))) .oN) .nil)))))))
def Yj:List FI:=[⟨"share_sum",1,4,false,wf⟩,⟨"share_power",2,4,false,yP⟩,⟨"share_of",2,2,false,zU⟩,⟨"need_awaited",3,5,false,ze⟩]
def yN:MF:=fnM 4 (dB Yj Ze)
def Zf:Bx :=
  (.bOne (.sRet (.ix (.call 0 (.ev (.var 0) (.ev (.var 1) (.ev (.var 2) .nil)))) (.c (.int 0)))))
def uw:List FI:=[⟨"waits_list",3,6,false,yN⟩]
def j5:MF:=fnM 3 (dB uw Zf)
def QF:Bx :=
  (.bSeq (.sSet 3 (.call 3 (.ev (.ix (.var 0) (.var 1)) (.ev (.cB .sum (.cons (.var 0) .nil)) .nil))))
  (.bSeq (.sSet 4 (.call 1 (.ev (.call 2 (.ev (.gl (.tup [.int 1,.int 1])) (.ev (.var 3) .nil))) (.ev (.ix (.var 2) (.c (.int 0))) .nil))))
  (.bSeq (.sSet 5 (.bin .add (.cB .list (.cons (.sl (.var 2) (.oS (.c (.int 1))) .oN) .nil)) (.lst (.cons (.gl (.tup [.int 0,.int 1])) .nil))))
  (.bOne (.sRet (.comp 1 ["share"] ["own","rest"] [3,4] (.iL (.var 5)) (.n 0) .tTr (.call 0 (.ev (.call 1 (.ev (.var 1) (.ev (.var 0) .nil))) (.ev (.var 2) .nil)))))))))
def zBD:List FI:=[⟨"share_plus",2,3,false,yb⟩,⟨"share_times",2,3,false,zg⟩,⟨"share_less",2,3,false,jy⟩,⟨"share_of",2,2,false,zU⟩]
def Yk:MF:=fnM 6 (dB zBD QF)
def Jn:Bx :=
  (.bSeq (.sIf (.tOr (.tNot (.tE (.is .tuple (.var 0)))) (.tE (.cmp .ne (.cB .len (.cons (.var 0) .nil)) (.var 1)))) (.bOne (.sRet (.c (.bl false)))) .bNil)
  (.bOne (.sRet (.cB .all (.cons (.comp 1 ["share"] [] [] (.iT (.var 0)) (.n 0) .tTr (.and (.call 0 (.ev (.var 0) .nil)) (.cmp .gt (.ix (.var 0) (.c (.int 0))) (.c (.int 0))))) .nil)))))
def Wp:List FI:=[⟨"share_good",1,2,false,yl⟩]
def yT:MF:=fnM 2 (dB Wp Jn)
def QG:Bx :=
  (.bSeq (.sDrop (.call 2 (.ev (.var 0) (.ev (.var 1) (.ev (.var 2) .nil)))))
  (.bSeq (.sIf (.tNot (.tE (.call 1 (.ev (.var 3) (.ev (.var 2) .nil))))) (.bOne .sAny) .bNil)
  (.bOne (.sRet (.cB .tuple (.cons (.call 0 (.ev (.var 0) (.ev (.var 1) (.ev (.var 3) .nil)))) .nil))))))
def zBE:List FI:=[⟨"step_on",3,4,false,Yk⟩,⟨"weights_good",2,3,false,yT⟩,⟨"need_awaited",3,5,false,ze⟩]
def jO:MF:=fnM 4 (dB zBE QG)
def Zg:Bx :=
  (.bSeq (.sSet 4 (.call 3 (.ev (.var 0) (.ev (.var 1) (.ev (.var 2) (.ev (.var 3) .nil))))))
  (.bSeq (.sSet 5 (.comp 2 ["one","weight"] [] [] (.iZ true true (.cons (.var 4) (.cons (.var 3) .nil))) (.t [0,1]) .tTr (.call 2 (.ev (.var 0) (.ev (.var 1) .nil)))))
  (.bOne (.sRet (.tup (.cons (.call 1 (.ev (.var 5) .nil)) (.cons (.call 0 (.ev (.var 5) .nil)) .nil)))))))
def ux:List FI:=[⟨"share_greatest",1,2,false,zr⟩,⟨"share_least",1,2,false,yQ⟩,⟨"share_by",2,3,false,jc⟩,⟨"stepped",4,6,false,jO⟩]
def zM:MF:=fnM 6 (dB ux Zg)
def Zh:Bx :=
  (.bSeq (.sIf (.tOr (.tNot (.tE (.is .tuple (.var 0)))) (.tE (.cmp .ne (.cB .len (.cons (.var 0) .nil)) (.c (.int 2))))) (.bOne (.sRet (.c (.bl false)))) .bNil)
  (.bSeq (.sTup [2,3] (.var 0))
  (.bOne (.sRet (.and (.call 1 (.ev (.var 2) (.ev (.var 1) .nil))) (.and (.call 0 (.ev (.var 3) .nil)) (.cmp .ge (.ix (.var 3) (.c (.int 0))) (.c (.int 0)))))))))
def uy:List FI:=[⟨"share_good",1,2,false,yl⟩,⟨"weights_good",2,3,false,yT⟩]
def ym:MF:=fnM 4 (dB uy Zh)
def Zi:Bx :=
  (.bSeq (.sDrop (.call 3 (.ev (.var 0) (.ev (.var 1) (.ev (.var 2) .nil)))))
  (.bSeq (.sIf (.tNot (.tE (.call 2 (.ev (.var 3) (.ev (.var 2) .nil))))) (.bOne (.sRet (.c (.bl false)))) .bNil)
  (.bSeq (.sTup [4,5] (.var 3))
  (.bSeq (.sTup [6,7] (.call 1 (.ev (.var 0) (.ev (.var 1) (.ev (.var 2) (.ev (.var 4) .nil))))))
  (.bOne (.sRet (.not (.call 0 (.ev (.var 5) (.ev (.var 7) .nil))))))))))
def uz:List FI:=[⟨"share_below",2,1,false,zT⟩,⟨"factors_of",4,7,false,zM⟩,⟨"bound_good",2,4,false,ym⟩,⟨"need_awaited",3,5,false,ze⟩]
def yn:MF:=fnM 8 (dB uz Zi)
def Zj:Bx :=
  (.bSeq (.sDrop (.call 3 (.ev (.var 0) (.ev (.var 1) (.ev (.var 2) .nil)))))
  (.bSeq (.sIf (.tNot (.tE (.call 2 (.ev (.var 3) (.ev (.var 2) .nil))))) (.bOne (.sRet (.c (.bl false)))) .bNil)
  (.bSeq (.sTup [4,5] (.var 3))
  (.bSeq (.sTup [6,7] (.call 1 (.ev (.var 0) (.ev (.var 1) (.ev (.var 2) (.ev (.var 4) .nil))))))
  (.bOne (.sRet (.not (.call 0 (.ev (.var 6) (.ev (.var 5) .nil))))))))))
def u8:List FI:=[⟨"share_below",2,1,false,zT⟩,⟨"factors_of",4,7,false,zM⟩,⟨"bound_good",2,4,false,ym⟩,⟨"need_awaited",3,5,false,ze⟩]
def yo:MF:=fnM 8 (dB u8 Zj)
def Zk:Bx :=
  (.bOne (.sIf (.tNot (.tE (.call 0 (.ev (.var 0) (.ev (.var 1) (.ev (.var 2) (.ev (.var 3) .nil))))))) (.bOne .sAny) .bNil))
def u9:List FI:=[⟨"above_good",4,8,false,yn⟩]
def yp:MF:=fnM 4 (dB u9 Zk)
def vx:Bx :=
  (.bSeq (.sTup [3,4] (.var 0))
  (.bOne (.sRet (.call 0 (.ev (.call 2 (.ev (.var 4) (.ev (.var 1) .nil))) (.ev (.call 1 (.ev (.ix (.var 3) (.c (.int 0))) (.ev (.var 2) .nil))) .nil))))))
def Qy:List FI:=[⟨"share_times",2,3,false,zg⟩,⟨"share_by",2,3,false,jc⟩,⟨"share_power",2,4,false,yP⟩]
def je:MF:=fnM 5 (dB Qy vx)
def vz:Bx :=
  (.bSeq (.sDrop (.call 3 (.ev (.var 0) (.ev (.var 1) (.ev (.var 2) (.ev (.var 3) .nil))))))
  (.bSeq (.sDrop (.call 2 (.ev (.var 4) (.ev (.c (.int 0)) (.ev (.gl (.int 40)) .nil)))))
  (.bOne (.sRet (.call 0 (.ev (.var 3) (.ev (.var 4) (.ev (.call 1 (.ev (.ix (.var 3) (.c (.int 0))) .nil)) .nil))))))))
def Qz:List FI:=[⟨"bound_at",3,5,false,je⟩,⟨"share_least",1,2,false,yQ⟩,⟨"need_number",3,3,false,zZ⟩,⟨"need_above",4,9,false,yp⟩]
def JP:MF:=fnM 5 (dB Qz vz)
def uA:Bx :=
  (.bSeq (.sIf (.tNot (.tE (.call 3 (.ev (.var 0) (.ev (.var 1) (.ev (.var 2) (.ev (.var 3) .nil))))))) (.bOne .sAny) .bNil)
  (.bSeq (.sDrop (.call 2 (.ev (.var 4) (.ev (.c (.int 0)) (.ev (.gl (.int 40)) .nil)))))
  (.bOne (.sRet (.call 0 (.ev (.var 3) (.ev (.var 4) (.ev (.call 1 (.ev (.ix (.var 3) (.c (.int 0))) .nil)) .nil))))))))
def Q0:List FI:=[⟨"bound_at",3,5,false,je⟩,⟨"share_greatest",1,2,false,zr⟩,⟨"need_number",3,3,false,zZ⟩,⟨"below_good",4,8,false,yo⟩]
def JQ:MF:=fnM 5 (dB Q0 uA)
def Jo:Bx :=
  (.bOne (.sRet (.cB .tuple (.cons (.call 0 (.ev (.var 0) (.ev (.var 1) (.ev (.var 2) .nil)))) .nil))))
def Wq:List FI:=[⟨"waits_list",3,6,false,yN⟩]
def yU:MF:=fnM 3 (dB Wq Jo)
def Yl:Bx :=
  (.bSeq (.sSet 3 (.call 1 (.ev (.var 0) (.ev (.var 1) (.ev (.var 2) .nil)))))
  (.bSeq (.sTup [4,5] (.call 0 (.ev (.var 0) (.ev (.var 1) (.ev (.var 2) (.ev (.var 3) .nil))))))
  (.bOne (.sRet (.tup (.cons (.var 3) (.cons (.var 5) .nil)))))))
def vL:List FI:=[⟨"factors_of",4,7,false,zM⟩,⟨"mean_weights",3,7,false,yU⟩]
def jY:MF:=fnM 6 (dB vL Yl)
def Ym:Bx :=
  (.bSeq (.sSet 3 (.call 1 (.ev (.var 0) (.ev (.var 1) (.ev (.var 2) .nil)))))
  (.bSeq (.sTup [4,5] (.call 0 (.ev (.var 0) (.ev (.var 1) (.ev (.var 2) (.ev (.var 3) .nil))))))
  (.bOne (.sRet (.tup (.cons (.var 3) (.cons (.var 4) .nil)))))))
def vM:List FI:=[⟨"factors_of",4,7,false,zM⟩,⟨"mean_weights",3,7,false,yU⟩]
def jZ:MF:=fnM 6 (dB vM Ym)
def zAn:Bx :=
  (.bSeq (.sDrop (.call 2 (.ev (.var 0) (.ev (.var 1) (.ev (.var 2) (.ev (.var 3) .nil))))))
  (.bSeq (.sSet 4 (.call 1 (.ev (.var 0) (.ev (.var 1) (.ev (.var 2) (.ev (.ix (.var 3) (.c (.int 0))) .nil))))))
  (.bSeq (.sTup [5,6] (.call 0 (.ev (.var 0) (.ev (.var 1) (.ev (.var 2) (.ev (.var 4) .nil))))))
  (.bOne (.sRet (.tup (.cons (.var 4) (.cons (.var 6) .nil))))))))
def zCr:List FI:=[⟨"factors_of",4,7,false,zM⟩,⟨"stepped",4,6,false,jO⟩,⟨"need_above",4,9,false,yp⟩]
def WC:MF:=fnM 7 (dB zCr zAn)
def wJ:Bx :=
  (.bSeq (.sIf (.tE (.cmp .lt (.var 1) (.cB .len (.cons (.var 0) .nil)))) (.bOne (.sRet (.ix (.var 0) (.var 1)))) .bNil)
  (.bOne (.sRet (.c (.int 0)))))
def JC:List FI:=[]
def yh:MF:=fnM 2 (dB JC wJ)
def YA:Bx :=
  (.bSeq (.sSet 0 (.bin .mod (.bin .add (.var 0) (.c (.int 7919))) (.c (.int 2147483647))))
  (.bOne (.sRet (.bin .mod (.bin .add (.bin .add (.bin .mul (.var 0) (.var 0)) (.bin .mul (.c (.int 48271)) (.var 0))) (.c (.int 12345))) (.c (.int 2147483629))))))
def Zl:List FI:=[]
def wj:MF:=fnM 1 (dB Zl YA)
def wk:Bx :=
  (.bSeq (.sSet 1 (.cB .max (.cons (.var 0) (.cons (.bin .sub (.c (.int 0)) (.var 0)) .nil))))
  (.bOne (.sRet (.lst (.cons (.var 1) (.cons (.cB .int (.cons (.cmp .ge (.var 1) (.bin .pow (.c (.int 10)) (.c (.int 18)))) .nil)) (.cons (.bin .mod (.var 1) (.c (.int 1000003))) .nil)))))))
def Jp:List FI:=[]
def yy:MF:=fnM 2 (dB Jp wk)
def wm:Bx :=
  (.bSeq (.sIf (.tE (.cmp .eq (.ixO 0 (.c (.int 1))) (.c (.int 1)))) (.bSeq (.sSet 2 (.bin .mod (.ixO 0 (.c (.int 0))) (.var 1)))
  (.bSeq (.sIx 0 (.c (.int 0)) (.bin .fdiv (.ixO 0 (.c (.int 0))) (.var 1)))
  (.bOne (.sRet (.var 2))))) .bNil)
  (.bSeq (.sIx 0 (.c (.int 2)) (.call 0 (.ev (.bin .add (.call 0 (.ev (.ixO 0 (.c (.int 2))) .nil)) (.c (.int 7))) .nil)))
  (.bOne (.sRet (.bin .mod (.bin .fdiv (.ixO 0 (.c (.int 2))) (.c (.int 64))) (.var 1))))))
def JD:List FI:=[⟨"_law_next",1,1,false,wj⟩]
def zK:MF:=fnM 3 (dB JD wm)
abbrev QH:Bx :=
  (.bOne (.sPar 0 1 (.cons (.var 1) (.cons (.bin .mod (.var 0) (.var 1)) .nil))))
def uB:Bx :=
  (.bSeq (.sSet 0 (.cB .abs (.cons (.var 0) .nil)))
  (.bSeq (.sSet 1 (.cB .abs (.cons (.var 1) .nil)))
  (.bSeq (.sWhile (.tE (.cmp .ne (.var 1) (.c (.int 0))))
  QH)
  (.bOne (.sRet (.var 0))))))
def YB:List FI:=[]
def JR:MF:=fnM 2 (dB YB uB)
def Zm:Bx :=
  (.bSeq (.sSet 2 (.call 0 (.ev (.var 0) (.ev (.var 1) .nil))))
  (.bSeq (.sIf (.tE (.cmp .lt (.var 1) (.c (.int 0)))) (.bOne (.sSet 2 (.neg (.var 2)))) .bNil)
  (.bOne (.sRet (.tup (.cons (.bin .fdiv (.var 0) (.var 2)) (.cons (.bin .fdiv (.var 1) (.var 2)) .nil)))))))
def GA:List FI:=[⟨"_law_gcd",2,1,false,JR⟩]
def j6:MF:=fnM 3 (dB GA Zm)
def Yn:Bx :=
  (.bSeq (.sSet 1 (.ix (.lst (.cons (.c (.int 1)) (.cons (.c (.int 2)) (.cons (.c (.int 9)) (.cons (.c (.int 9)) .nil))))) (.call 0 (.lend 0 (.ev (.c (.int 4)) .nil)))))
  (.bSeq (.sSet 2 (.comp 1 ["_law_turn"] ["_law_pen","_law_most"] [0,1] (.iR1 (.cons (.bin .add (.c (.int 2)) (.call 0 (.lend 0 (.ev (.c (.int 2)) .nil)))) .nil)) (.n 0) .tTr (.bin .add (.c (.int 1)) (.call 0 (.lend 1 (.ev (.var 2) .nil))))))
  (.bSeq (.sIf (.tE (.cmp .eq (.call 0 (.lend 0 (.ev (.c (.int 6)) .nil))) (.c (.int 0)))) (.bOne (.sIx 2 (.call 0 (.lend 0 (.ev (.lenO 2) .nil))) (.c (.int 9)))) .bNil)
  (.bOne (.sRet (.cB .tuple (.cons (.var 2) .nil)))))))
def yV:List FI:=[⟨"_law_draw",2,2,false,zK⟩]
def ja:MF:=fnM 3 (dB yV Yn)
def Jq:Bx :=
  (.bOne (.sRet (.cmp .le (.bin .mul (.ix (.var 0) (.c (.int 0))) (.ix (.var 1) (.c (.int 1)))) (.bin .mul (.ix (.var 1) (.c (.int 0))) (.ix (.var 0) (.c (.int 1)))))))
def Wr:List FI:=[]
def zP:MF:=fnM 2 (dB Wr Jq)
abbrev jh:Bx :=
  (.bSeq (.sSet 5 (.bin .add (.c (.int 1)) (.call 1 (.lend 0 (.ev (.ix (.lst (.cons (.c (.int 9)) (.cons (.c (.int 3)) (.cons (.c (.int 99)) .nil)))) (.call 1 (.lend 0 (.ev (.c (.int 3)) .nil)))) .nil)))))
  (.bOne (.sApp 3 (.ix (.lst (.cons (.call 0 (.ev (.var 5) (.ev (.bin .add (.c (.int 1)) (.call 1 (.lend 0 (.ev (.c (.int 9)) .nil)))) .nil))) (.cons (.tup (.cons (.c (.int 1)) (.cons (.c (.int 1)) .nil))) (.cons (.tup (.cons (.bin .sub (.bin .mul (.c (.int 2)) (.var 1)) (.var 4)) (.cons (.c (.int 1)) .nil))) (.cons (.tup (.cons (.var 5) (.cons (.c (.int 1)) .nil))) .nil))))) (.var 2)))))
def wR:Bx :=
  (.bSeq (.sSet 2 (.call 1 (.lend 0 (.ev (.c (.int 4)) .nil))))
  (.bSeq (.sSet 3 (.lst .nil))
  (.bSeq (.sForR1 (.cons (.var 1) .nil) (.n 4)
  jh)
  (.bOne (.sRet (.cB .tuple (.cons (.var 3) .nil)))))))
def j7:List FI:=[⟨"_law_share",2,2,false,j6⟩,⟨"_law_draw",2,2,false,zK⟩]
def yf:MF:=fnM 6 (dB j7 wR)
def Zn:Bx :=
  (.bSeq (.sSet 6 (.call 5 (.ev (.var 0) (.ev (.var 1) (.ev (.var 3) (.ev (.bin .sub (.var 2) (.c (.int 1))) .nil))))))
  (.bSeq (.sIf (.tOr (.tE (.cmp .isn (.call 4 (.ev (.var 0) (.ev (.var 1) (.ev (.var 2) (.ev (.var 4) .nil))))) (.c (.bl true)))) (.tE (.cmp .isn (.call 3 (.ev (.var 0) (.ev (.var 1) (.ev (.var 2) (.ev (.var 5) .nil))))) (.c (.bl true))))) (.bOne (.sRet (.c (.bl false)))) .bNil)
  (.bSeq (.sIf (.tNot (.tE (.call 0 (.ev (.var 6) (.ev (.call 2 (.ev (.var 0) (.ev (.var 1) (.ev (.var 2) (.ev (.var 4) (.ev (.var 3) .nil)))))) .nil))))) (.bOne (.sRet (.c (.bl false)))) .bNil)
  (.bOne (.sRet (.call 0 (.ev (.call 1 (.ev (.var 0) (.ev (.var 1) (.ev (.var 2) (.ev (.var 5) (.ev (.var 3) .nil)))))) (.ev (.var 6) .nil))))))))
def GB:List FI:=[⟨"_law_no_more",2,1,false,zP⟩,⟨"below_at",5,9,false,JQ⟩,⟨"above_at",5,10,false,JP⟩,⟨"below_good",4,8,false,yo⟩,⟨"above_good",4,8,false,yn⟩,⟨"share_upto",4,6,false,j1⟩]
def yq:MF:=fnM 7 (dB GB Zn)
abbrev jU:Bx :=
  (.bSeq (.sSet 3 (.call 2 (.ev (.var 0) (.ev (.var 1) (.ev (.var 2) (.ev (.var 3) .nil))))))
  (.bSeq (.sTup [7,8] (.call 1 (.ev (.var 0) (.ev (.var 1) (.ev (.var 2) (.ev (.var 3) .nil))))))
  (.bSeq (.sIf (.tOr (.tNot (.tE (.call 0 (.ev (.var 4) (.ev (.var 7) .nil))))) (.tOr (.tNot (.tE (.call 0 (.ev (.var 8) (.ev (.var 5) .nil))))) (.tNot (.tE (.call 0 (.ev (.var 7) (.ev (.var 8) .nil))))))) (.bOne (.sRet (.c (.bl false)))) .bNil)
  (.bOne (.sPar 4 5 (.cons (.var 7) (.cons (.var 8) .nil)))))))
def j8:Bx :=
  (.bSeq (.sTup [4,5] (.call 1 (.ev (.var 0) (.ev (.var 1) (.ev (.var 2) (.ev (.var 3) .nil))))))
  (.bSeq (.sForR1 (.cons (.c (.int 2)) .nil) (.n 6)
  jU)
  (.bOne (.sRet (.c (.bl true))))))
def ji:List FI:=[⟨"_law_no_more",2,1,false,zP⟩,⟨"factors_of",4,7,false,zM⟩,⟨"stepped",4,6,false,jO⟩]
def yZ:MF:=fnM 9 (dB ji j8)
abbrev Jr:Bx :=
  (.bSeq (.sSet 10 (.call 5 (.ev (.var 0) (.ev (.var 1) (.ev (.var 2) (.ev (.var 7) .nil))))))
  (.bSeq (.sIf (.tOr (.tNot (.tE (.call 0 (.ev (.ix (.var 10) (.c (.int 1))) (.ev (.ix (.var 7) (.c (.int 1))) .nil))))) (.tNot (.tE (.call 4 (.ev (.var 0) (.ev (.var 1) (.ev (.var 2) (.ev (.var 3) (.ev (.var 10) (.ev (.var 8) .nil)))))))))) (.bOne (.sRet (.c (.bl false)))) .bNil)
  (.bOne (.sSet 7 (.var 10)))))
def Zo:Bx :=
  (.bSeq (.sTup [5,6] (.call 1 (.ev (.var 0) (.ev (.var 1) (.ev (.var 2) (.ev (.var 4) .nil))))))
  (.bSeq (.sIf (.tNot (.tE (.call 4 (.ev (.var 0) (.ev (.var 1) (.ev (.var 2) (.ev (.var 3) (.ev (.tup (.cons (.var 4) (.cons (.var 6) .nil))) (.ev (.tup (.cons (.var 4) (.cons (.var 5) .nil))) .nil))))))))) (.bOne (.sRet (.c (.bl false)))) .bNil)
  (.bSeq (.sPar 7 8 (.cons (.call 7 (.ev (.var 0) (.ev (.var 1) (.ev (.var 2) .nil)))) (.cons (.call 6 (.ev (.var 0) (.ev (.var 1) (.ev (.var 2) .nil)))) .nil)))
  (.bSeq (.sIf (.tNot (.tE (.call 4 (.ev (.var 0) (.ev (.var 1) (.ev (.var 2) (.ev (.var 3) (.ev (.var 7) (.ev (.var 8) .nil))))))))) (.bOne (.sRet (.c (.bl false)))) .bNil)
  (.bSeq (.sForR1 (.cons (.c (.int 2)) .nil) (.n 9)
  Jr)
  (.bSeq (.sSet 11 (.call 3 (.ev (.var 0) (.ev (.var 1) (.ev (.var 2) .nil)))))
  (.bSeq (.sSet 6 (.ix (.call 1 (.ev (.var 0) (.ev (.var 1) (.ev (.var 2) (.ev (.cB .tuple (.cons (.call 2 (.ev (.var 0) (.ev (.var 1) (.ev (.var 2) .nil)))) .nil)) .nil))))) (.c (.int 1))))
  (.bOne (.sRet (.call 0 (.ev (.var 6) (.ev (.tup (.cons (.bin .sub (.ix (.var 11) (.c (.int 0))) (.ix (.var 11) (.c (.int 1)))) (.cons (.ix (.var 11) (.c (.int 0))) .nil))) .nil))))))))))))
def Yo:List FI:=[⟨"_law_no_more",2,1,false,zP⟩,⟨"factors_of",4,7,false,zM⟩,⟨"waits_list",3,6,false,yN⟩,⟨"mean_first",3,7,false,j5⟩,⟨"_law_holds",6,11,false,yq⟩,⟨"closer",4,10,false,WC⟩,⟨"below_paper",3,8,false,jZ⟩,⟨"above_paper",3,8,false,jY⟩]
def j9:MF:=fnM 12 (dB Yo Zo)
abbrev GC:Bx :=
  (.bSeq (.sSet 2 (.call 5 (.ev (.var 1) .nil)))
  (.bSeq (.sSet 3 (.call 4 (.lend 2 .nil)))
  (.bSeq (.sPar3 4 5 6 (.cons (.call 3 (.lend 2 (.ev (.cB .len (.cons (.var 3) .nil)) .nil))) (.cons (.bin .add (.c (.int 1)) (.call 3 (.lend 2 (.ev (.ix (.lst (.cons (.c (.int 8)) (.cons (.c (.int 3)) .nil))) (.call 3 (.lend 2 (.ev (.c (.int 2)) .nil)))) .nil)))) (.cons (.call 3 (.lend 2 (.ev (.c (.int 41)) .nil))) .nil))))
  (.bSeq (.sSet 7 (.call 2 (.lend 2 (.ev (.var 5) .nil))))
  (.bOne (.sIf (.tOr (.tNot (.tE (.call 1 (.ev (.var 3) (.ev (.var 4) (.ev (.var 5) (.ev (.var 6) (.ev (.var 7) .nil)))))))) (.tNot (.tE (.call 0 (.ev (.var 3) (.ev (.var 4) (.ev (.var 5) (.ev (.var 7) .nil)))))))) (.bOne (.sRet (.c (.bl false)))) .bNil))))))
def t_law:Bx :=
  (.bSeq (.sForL (.bin .add (.lst (.cons (.call 6 (.ev (.var 0) (.ev (.c (.int 0)) .nil))) .nil)) (.sl (.var 0) (.oS (.c (.int 1))) (.oS (.c (.int 6))))) (.n 1)
  GC)
  (.bOne (.sRet (.c (.bl true)))))
def QI:List FI:=[⟨"_law_steps_right",4,8,false,yZ⟩,⟨"_law_right",5,12,false,j9⟩,⟨"_law_weights_of",2,3,false,yf⟩,⟨"_law_draw",2,2,false,zK⟩,⟨"_law_die_of",1,3,false,ja⟩,⟨"_law_pen_of",1,1,false,yy⟩,⟨"_law_cell_at",2,1,false,yh⟩]
def m_law:MF:=fnM 8 (dB QI t_law)
structure Txt (K:PySem.W.Frag) (mg:Str→Option Value):Prop where
 n_abs:mg "abs"=none
 n_all:mg "all"=none
 n_bool:mg "bool"=none
 n_int:mg "int"=none
 n_isinstance:mg "isinstance"=none
 n_len:mg "len"=none
 n_list:mg "list"=none
 n_max:mg "max"=none
 n_range:mg "range"=none
 n_sum:mg "sum"=none
 n_tuple:mg "tuple"=none
 n_zip:mg "zip"=none
 c_ALL:∃ a,mg "ALL"=some (.ref a)∧∀ H,Rep K mg H (.tup [.int 1,.int 1]) (.ref a)
 c_LEAST_SIGNS:∃ t,mg "LEAST_SIGNS"=some (.int 2 t)
 c_LEAST_WEIGHT:∃ t,mg "LEAST_WEIGHT"=some (.int 1 t)
 c_MOST_AWAITED:∃ t,mg "MOST_AWAITED"=some (.int 8 t)
 c_MOST_BOUNDED:∃ t,mg "MOST_BOUNDED"=some (.int 40 t)
 c_MOST_COUNTED:∃ t,mg "MOST_COUNTED"=some (.int 40 t)
 c_MOST_SIGNS:∃ t,mg "MOST_SIGNS"=some (.int 3 t)
 c_MOST_WEIGHT:∃ t,mg "MOST_WEIGHT"=some (.int 9 t)
 c_NOTHING:∃ a,mg "NOTHING"=some (.ref a)∧∀ H,Rep K mg H (.tup [.int 0,.int 1]) (.ref a)
 f_is_whole:y6 K mg "is_whole" vU ["thing"]
 f_is_whole_within:y6 K mg "is_whole_within" wM ["thing","low","high"]
 f_greatest_divisor:y6 K mg "greatest_divisor" jo ["one","other"]
 f_whole_power:y6 K mg "whole_power" YG ["base","exponent"]
 f_share_good:y6 K mg "share_good" ZC ["thing"]
 f_share_of:y6 K mg "share_of" vV ["top","bottom"]
 f_share_plus:y6 K mg "share_plus" ZD ["one","other"]
 f_share_less:y6 K mg "share_less" ZE ["one","other"]
 f_share_times:y6 K mg "share_times" YH ["one","other"]
 f_share_by:y6 K mg "share_by" vW ["one","other"]
 f_share_power:y6 K mg "share_power" YI ["share","exponent"]
 f_share_sum:y6 K mg "share_sum" WJ ["shares"]
 f_share_below:y6 K mg "share_below" YJ ["one","other"]
 f_share_least:y6 K mg "share_least" YK ["shares"]
 f_share_greatest:y6 K mg "share_greatest" wu ["shares"]
 f_die_good:y6 K mg "die_good" vX ["thing"]
 f_need_die:y6 K mg "need_die" vY ["thing"]
 f_need_number:y6 K mg "need_number" YL ["thing","low","high"]
 f_need_sign:y6 K mg "need_sign" WK ["thing","signs"]
 f_weigh_upto:y6 K mg "weigh_upto" ZF ["weight","others","n","k"]
 f_need_thrown:y6 K mg "need_thrown" YM ["die","sign","n"]
 f_others_weight:y6 K mg "others_weight" wy ["die","sign"]
 f_share_in_all:y6 K mg "share_in_all" JZ ["die","n","weight"]
 f_share_upto:y6 K mg "share_upto" ZG ["die","sign","n","k"]
 f_need_awaited:y6 K mg "need_awaited" Ja ["die","sign","k"]
 f_waits_list:y6 K mg "waits_list" ZH ["die","sign","k"]
 f_mean_first:y6 K mg "mean_first" ZI ["die","sign","k"]
 f_step_on:y6 K mg "step_on" GX ["die","sign","shares"]
 f_weights_good:y6 K mg "weights_good" Jb ["thing","k"]
 f_stepped:y6 K mg "stepped" GY ["die","sign","k","weights"]
 f_factors_of:y6 K mg "factors_of" ZJ ["die","sign","k","weights"]
 f_bound_good:y6 K mg "bound_good" ZK ["thing","k"]
 f_above_good:y6 K mg "above_good" ZL ["die","sign","k","thing"]
 f_below_good:y6 K mg "below_good" ZM ["die","sign","k","thing"]
 f_need_above:y6 K mg "need_above" ZN ["die","sign","k","bound"]
 f_bound_at:y6 K mg "bound_at" vZ ["bound","n","measure"]
 f_above_at:y6 K mg "above_at" va ["die","sign","k","bound","n"]
 f_below_at:y6 K mg "below_at" vb ["die","sign","k","bound","n"]
 f_mean_weights:y6 K mg "mean_weights" Jc ["die","sign","k"]
 f_above_paper:y6 K mg "above_paper" YN ["die","sign","k"]
 f_below_paper:y6 K mg "below_paper" YO ["die","sign","k"]
 f_closer:y6 K mg "closer" zAL ["die","sign","k","bound"]
 f__law_cell_at:y6 K mg "_law_cell_at" Jd ["_law_script","_law_k"]
 f__law_next:y6 K mg "_law_next" WL ["_law_seed"]
 f__law_pen_of:y6 K mg "_law_pen_of" YQ ["_law_cell"]
 f__law_draw:y6 K mg "_law_draw" WM ["_law_pen","_law_many"]
 f__law_gcd:y6 K mg "_law_gcd" vc ["_law_one","_law_other"]
 f__law_share:y6 K mg "_law_share" ZO ["_law_top","_law_bottom"]
 f__law_die_of:y6 K mg "_law_die_of" YR ["_law_pen"]
 f__law_no_more:y6 K mg "_law_no_more" Je ["_law_one","_law_other"]
 f__law_weights_of:y6 K mg "_law_weights_of" wN ["_law_pen","_law_k"]
 f__law_holds:y6 K mg "_law_holds" ZP ["_law_die","_law_sign","_law_k","_law_n","_law_above","_law_below"]
 f__law_steps_right:y6 K mg "_law_steps_right" jp ["_law_die","_law_sign","_law_k","_law_weights"]
 f__law_right:y6 K mg "_law_right" ZQ ["_law_die","_law_sign","_law_k","_law_n","_law_weights"]
 f_law:y6 K mg "law" s_law ["_law_script"]
 cl:ClOk K mg cl_ rs_
section
variable {P:Program} {w:World} {K:PySem.W.Frag} {mg:Str→Option Value} {base:Heap}
theorem zk (T:Txt K mg):zCp K mg cs_:=(zFR T.c_ALL (J5 T.c_LEAST_SIGNS (J5 T.c_LEAST_WEIGHT (J5 T.c_MOST_AWAITED (J5 T.c_MOST_BOUNDED (J5 T.c_MOST_COUNTED (J5 T.c_MOST_SIGNS (J5 T.c_MOST_WEIGHT (zFR T.c_NOTHING cs_nil)))))))))
theorem zm (T:Txt K mg):BsOk mg bs_:=(jS T.n_abs (jS T.n_all (jS T.n_bool (jS T.n_int (jS T.n_isinstance (jS T.n_len (jS T.n_list (jS T.n_max (jS T.n_range (jS T.n_sum (jS T.n_tuple (jS T.n_zip bs_nil))))))))))))
theorem Ws (T:Txt K mg):FOk P w K mg base true "is_whole" 1 ["thing"] jb:=zE vn ["thing"] T.f_is_whole (zk T) zN (zm T) T.cl (by decide +kernel)
theorem wA (T:Txt K mg):FOk P w K mg base true "is_whole_within" 2 ["thing","low","high"] yA:=zE ye ["thing","low","high"] T.f_is_whole_within (zk T) (zB (Ws T) rfl zN) (zm T) T.cl (by decide +kernel)
theorem jj (T:Txt K mg):FOk P w K mg base true "greatest_divisor" 1 ["one","other"] zf:=zE jx ["one","other"] T.f_greatest_divisor (zk T) zN (zm T) T.cl (by decide +kernel)
theorem vN (T:Txt K mg):FOk P w K mg base true "whole_power" 1 ["base","exponent"] jW:=zE YZ ["base","exponent","power","step"] T.f_whole_power (zk T) zN (zm T) T.cl (by decide +kernel)
theorem Yp (T:Txt K mg):FOk P w K mg base true "share_good" 2 ["thing"] yl:=zE ZY ["thing","top","bottom"] T.f_share_good (zk T) (zB (jj T) rfl (zB (Ws T) rfl zN)) (zm T) T.cl (by decide +kernel)
theorem yi (T:Txt K mg):FOk P w K mg base true "share_of" 2 ["top","bottom"] zU:=zE vo ["top","bottom","divisor"] T.f_share_of (zk T) (zB (jj T) rfl zN) (zm T) T.cl (by decide +kernel)
theorem Yq (T:Txt K mg):FOk P w K mg base true "share_plus" 3 ["one","other"] yb:=zE ZZ ["one","other"] T.f_share_plus (zk T) (zB (yi T) rfl zN) (zm T) T.cl (by decide +kernel)
theorem GD (T:Txt K mg):FOk P w K mg base true "share_less" 3 ["one","other"] jy:=zE Za ["one","other"] T.f_share_less (zk T) (zB (yi T) rfl zN) (zm T) T.cl (by decide +kernel)
theorem wK (T:Txt K mg):FOk P w K mg base true "share_times" 3 ["one","other"] zg:=zE Yb ["one","other"] T.f_share_times (zk T) (zB (yi T) rfl zN) (zm T) T.cl (by decide +kernel)
theorem Wu (T:Txt K mg):FOk P w K mg base true "share_by" 3 ["one","other"] jc:=zE vq ["one","other"] T.f_share_by (zk T) (zB (yi T) rfl zN) (zm T) T.cl (by decide +kernel)
theorem Js (T:Txt K mg):FOk P w K mg base true "share_power" 4 ["share","exponent"] yP:=zE Yc ["share","exponent","power","step"] T.f_share_power (zk T) (zB (wK T) rfl zN) (zm T) T.cl (by decide +kernel)
theorem QJ (T:Txt K mg):FOk P w K mg base true "share_sum" 4 ["shares"] wf:=zE Wl ["shares","total","share"] T.f_share_sum (zk T) (zB (Yq T) rfl zN) (zm T) T.cl (by decide +kernel)
theorem jK (T:Txt K mg):FOk P w K mg base true "share_below" 1 ["one","other"] zT:=zE Ye ["one","other"] T.f_share_below (zk T) zN (zm T) T.cl (by decide +kernel)
theorem Jt (T:Txt K mg):FOk P w K mg base true "share_least" 2 ["shares"] yQ:=zE Yg ["shares","least","share"] T.f_share_least (zk T) (zB (jK T) rfl zN) (zm T) T.cl (by decide +kernel)
theorem wT (T:Txt K mg):FOk P w K mg base true "share_greatest" 2 ["shares"] zr:=zE wv ["shares","greatest","share"] T.f_share_greatest (zk T) (zB (jK T) rfl zN) (zm T) T.cl (by decide +kernel)
theorem Q1 (T:Txt K mg):FOk P w K mg base true "die_good" 3 ["thing"] Y6:=zE vt ["thing"] T.f_die_good (zk T) (zB (wA T) rfl zN) (zm T) T.cl (by decide +kernel)
theorem Wv (T:Txt K mg):FOk P w K mg base true "need_die" 4 ["thing"] jd:=zE vw ["thing"] T.f_need_die (zk T) (zB (Q1 T) rfl zN) (zm T) T.cl (by decide +kernel)
theorem yW (T:Txt K mg):FOk P w K mg base true "need_number" 3 ["thing","low","high"] zZ:=zE Yh ["thing","low","high"] T.f_need_number (zk T) (zB (wA T) rfl zN) (zm T) T.cl (by decide +kernel)
theorem Zq (T:Txt K mg):FOk P w K mg base true "need_sign" 4 ["thing","signs"] jD:=zE Wm ["thing","signs"] T.f_need_sign (zk T) (zB (yW T) rfl zN) (zm T) T.cl (by decide +kernel)
theorem GE (T:Txt K mg):FOk P w K mg base true "weigh_upto" 1 ["weight","others","n","k"] j0:=zE Zc ["weight","others","n","k","ends","throw"] T.f_weigh_upto (zk T) zN (zm T) T.cl (by decide +kernel)
theorem vO (T:Txt K mg):FOk P w K mg base true "need_thrown" 5 ["die","sign","n"] jX:=zE Yi ["die","sign","n"] T.f_need_thrown (zk T) (zB (yW T) rfl (zB (Zq T) rfl (zB (Wv T) rfl zN))) (zm T) T.cl (by decide +kernel)
theorem Z5 (T:Txt K mg):FOk P w K mg base true "others_weight" 1 ["die","sign"] yx:=zE JB ["die","sign"] T.f_others_weight (zk T) zN (zm T) T.cl (by decide +kernel)
theorem Ww (T:Txt K mg):FOk P w K mg base true "share_in_all" 3 ["die","n","weight"] jJ:=zE Jl ["die","n","weight"] T.f_share_in_all (zk T) (zB (yi T) rfl (zB (vN T) rfl zN)) (zm T) T.cl (by decide +kernel)
theorem GF (T:Txt K mg):FOk P w K mg base true "share_upto" 6 ["die","sign","n","k"] j1:=zE Zd ["die","sign","n","k"] T.f_share_upto (zk T) (zB (Ww T) rfl (zB (GE T) rfl (zB (Z5 T) rfl (zB (yW T) rfl (zB (vO T) rfl zN))))) (zm T) T.cl (by decide +kernel)
theorem yz (T:Txt K mg):FOk P w K mg base true "need_awaited" 5 ["die","sign","k"] ze:=zE Jm ["die","sign","k"] T.f_need_awaited (zk T) (zB (yW T) rfl (zB (Zq T) rfl (zB (Wv T) rfl zN))) (zm T) T.cl (by decide +kernel)
theorem wn (T:Txt K mg):FOk P w K mg base true "waits_list" 6 ["die","sign","k"] yN:=zE Ze ["die","sign","k","powers"] T.f_waits_list (zk T) (zB (QJ T) rfl (zB (Js T) rfl (zB (yi T) rfl (zB (yz T) rfl zN)))) (zm T) T.cl (by decide +kernel)
theorem GG (T:Txt K mg):FOk P w K mg base true "mean_first" 7 ["die","sign","k"] j5:=zE Zf ["die","sign","k"] T.f_mean_first (zk T) (zB (wn T) rfl zN) (zm T) T.cl (by decide +kernel)
theorem zBF (T:Txt K mg):FOk P w K mg base true "step_on" 4 ["die","sign","shares"] Yk:=zE QF ["die","sign","shares","own","rest","behind"] T.f_step_on (zk T) (zB (Yq T) rfl (zB (wK T) rfl (zB (GD T) rfl (zB (yi T) rfl zN)))) (zm T) T.cl (by decide +kernel)
theorem JE (T:Txt K mg):FOk P w K mg base true "weights_good" 3 ["thing","k"] yT:=zE Jn ["thing","k"] T.f_weights_good (zk T) (zB (Yp T) rfl zN) (zm T) T.cl (by decide +kernel)
theorem Y7 (T:Txt K mg):FOk P w K mg base true "stepped" 6 ["die","sign","k","weights"] jO:=zE QG ["die","sign","k","weights"] T.f_stepped (zk T) (zB (zBF T) rfl (zB (JE T) rfl (zB (yz T) rfl zN))) (zm T) T.cl (by decide +kernel)
theorem yR (T:Txt K mg):FOk P w K mg base true "factors_of" 7 ["die","sign","k","weights"] zM:=zE Zg ["die","sign","k","weights","after","factors"] T.f_factors_of (zk T) (zB (wT T) rfl (zB (Jt T) rfl (zB (Wu T) rfl (zB (Y7 T) rfl zN)))) (zm T) T.cl (by decide +kernel)
theorem Yr (T:Txt K mg):FOk P w K mg base true "bound_good" 4 ["thing","k"] ym:=zE Zh ["thing","k","weights","factor"] T.f_bound_good (zk T) (zB (Yp T) rfl (zB (JE T) rfl zN)) (zm T) T.cl (by decide +kernel)
theorem Ys (T:Txt K mg):FOk P w K mg base true "above_good" 8 ["die","sign","k","thing"] yn:=zE Zi ["die","sign","k","thing","weights","factor","low","high"] T.f_above_good (zk T) (zB (jK T) rfl (zB (yR T) rfl (zB (Yr T) rfl (zB (yz T) rfl zN)))) (zm T) T.cl (by decide +kernel)
theorem Yt (T:Txt K mg):FOk P w K mg base true "below_good" 8 ["die","sign","k","thing"] yo:=zE Zj ["die","sign","k","thing","weights","factor","low","high"] T.f_below_good (zk T) (zB (jK T) rfl (zB (yR T) rfl (zB (Yr T) rfl (zB (yz T) rfl zN)))) (zm T) T.cl (by decide +kernel)
theorem Yu (T:Txt K mg):FOk P w K mg base true "need_above" 9 ["die","sign","k","bound"] yp:=zE Zk ["die","sign","k","bound"] T.f_need_above (zk T) (zB (Ys T) rfl zN) (zm T) T.cl (by decide +kernel)
theorem Wx (T:Txt K mg):FOk P w K mg base true "bound_at" 5 ["bound","n","measure"] je:=zE vx ["bound","n","measure","weights","factor"] T.f_bound_at (zk T) (zB (wK T) rfl (zB (Wu T) rfl (zB (Js T) rfl zN))) (zm T) T.cl (by decide +kernel)
theorem Q2 (T:Txt K mg):FOk P w K mg base true "above_at" 10 ["die","sign","k","bound","n"] JP:=zE vz ["die","sign","k","bound","n"] T.f_above_at (zk T) (zB (Wx T) rfl (zB (Jt T) rfl (zB (yW T) rfl (zB (Yu T) rfl zN)))) (zm T) T.cl (by decide +kernel)
theorem Q3 (T:Txt K mg):FOk P w K mg base true "below_at" 9 ["die","sign","k","bound","n"] JQ:=zE uA ["die","sign","k","bound","n"] T.f_below_at (zk T) (zB (Wx T) rfl (zB (wT T) rfl (zB (yW T) rfl (zB (Yt T) rfl zN)))) (zm T) T.cl (by decide +kernel)
theorem JF (T:Txt K mg):FOk P w K mg base true "mean_weights" 7 ["die","sign","k"] yU:=zE Jo ["die","sign","k"] T.f_mean_weights (zk T) (zB (wn T) rfl zN) (zm T) T.cl (by decide +kernel)
theorem vP (T:Txt K mg):FOk P w K mg base true "above_paper" 8 ["die","sign","k"] jY:=zE Yl ["die","sign","k","weights","low","high"] T.f_above_paper (zk T) (zB (yR T) rfl (zB (JF T) rfl zN)) (zm T) T.cl (by decide +kernel)
theorem vQ (T:Txt K mg):FOk P w K mg base true "below_paper" 8 ["die","sign","k"] jZ:=zE Ym ["die","sign","k","weights","low","high"] T.f_below_paper (zk T) (zB (yR T) rfl (zB (JF T) rfl zN)) (zm T) T.cl (by decide +kernel)
theorem zCs (T:Txt K mg):FOk P w K mg base true "closer" 10 ["die","sign","k","bound"] WC:=zE zAn ["die","sign","k","bound","weights","low","high"] T.f_closer (zk T) (zB (yR T) rfl (zB (Y7 T) rfl (zB (Yu T) rfl zN))) (zm T) T.cl (by decide +kernel)
theorem Wy (T:Txt K mg):FOk P w K mg base true "_law_cell_at" 1 ["_law_script","_law_k"] yh:=zE wJ ["_law_script","_law_k"] T.f__law_cell_at (zk T) zN (zm T) T.cl (by decide +kernel)
theorem QK (T:Txt K mg):FOk P w K mg base true "_law_next" 1 ["_law_seed"] wj:=zE YA ["_law_seed"] T.f__law_next (zk T) zN (zm T) T.cl (by decide +kernel)
theorem vR (T:Txt K mg):FOk P w K mg base true "_law_pen_of" 1 ["_law_cell"] yy:=zE wk ["_law_cell","_law_left"] T.f__law_pen_of (zk T) zN (zm T) T.cl (by decide +kernel)
theorem JG (T:Txt K mg):FOk P w K mg base true "_law_draw" 2 ["_law_pen","_law_many"] zK:=zE wm ["_law_pen","_law_many","_law_found"] T.f__law_draw (zk T) (zB (QK T) rfl zN) (zm T) T.cl (by decide +kernel)
theorem Q4 (T:Txt K mg):FOk P w K mg base true "_law_gcd" 1 ["_law_one","_law_other"] JR:=zE uB ["_law_one","_law_other"] T.f__law_gcd (zk T) zN (zm T) T.cl (by decide +kernel)
theorem GH (T:Txt K mg):FOk P w K mg base true "_law_share" 2 ["_law_top","_law_bottom"] j6:=zE Zm ["_law_top","_law_bottom","_law_divided"] T.f__law_share (zk T) (zB (Q4 T) rfl zN) (zm T) T.cl (by decide +kernel)
theorem vS (T:Txt K mg):FOk P w K mg base true "_law_die_of" 3 ["_law_pen"] ja:=zE Yn ["_law_pen","_law_most","_law_found"] T.f__law_die_of (zk T) (zB (JG T) rfl zN) (zm T) T.cl (by decide +kernel)
theorem jk (T:Txt K mg):FOk P w K mg base true "_law_no_more" 1 ["_law_one","_law_other"] zP:=zE Jq ["_law_one","_law_other"] T.f__law_no_more (zk T) zN (zm T) T.cl (by decide +kernel)
theorem Yv (T:Txt K mg):FOk P w K mg base true "_law_weights_of" 3 ["_law_pen","_law_k"] yf:=zE wR ["_law_pen","_law_k","_law_way","_law_found","_law_at","_law_top"] T.f__law_weights_of (zk T) (zB (GH T) rfl (zB (JG T) rfl zN)) (zm T) T.cl (by decide +kernel)
theorem GI (T:Txt K mg):FOk P w K mg base true "_law_holds" 11 ["_law_die","_law_sign","_law_k","_law_n","_law_above","_law_below"] yq:=zE Zn ["_law_die","_law_sign","_law_k","_law_n","_law_above","_law_below","_law_due"] T.f__law_holds (zk T) (zB (jk T) rfl (zB (Q3 T) rfl (zB (Q2 T) rfl (zB (Yt T) rfl (zB (Ys T) rfl (zB (GF T) rfl zN)))))) (zm T) T.cl (by decide +kernel)
theorem YC (T:Txt K mg):FOk P w K mg base true "_law_steps_right" 8 ["_law_die","_law_sign","_law_k","_law_weights"] yZ:=zE j8 ["_law_die","_law_sign","_law_k","_law_weights","_law_low","_law_high","_law_turn","_law_one","_law_other"] T.f__law_steps_right (zk T) (zB (jk T) rfl (zB (yR T) rfl (zB (Y7 T) rfl zN))) (zm T) T.cl (by decide +kernel)
theorem GJ (T:Txt K mg):FOk P w K mg base true "_law_right" 12 ["_law_die","_law_sign","_law_k","_law_n","_law_weights"] j9:=zE Zo ["_law_die","_law_sign","_law_k","_law_n","_law_weights","_law_low","_law_high","_law_above","_law_below","_law_turn","_law_nearer","_law_mean"] T.f__law_right (zk T) (zB (jk T) rfl (zB (yR T) rfl (zB (wn T) rfl (zB (GG T) rfl (zB (GI T) rfl (zB (zCs T) rfl (zB (vQ T) rfl (zB (vP T) rfl zN)))))))) (zm T) T.cl (by decide +kernel)
end
theorem law_fd {P:Program} {w:World} {K:PySem.W.Frag} {mg:Str→Option Value} {fa:Addr} (hfa:mg "law"=some (.ref fa)) (T:Txt K mg):∃ fd:FuncData,(∀ (s:Shared) (u:Value),BindsTo s fd ⟨[u],[]⟩ [("_law_script",u)])∧∀ base:Heap,FnOk P w K mg base (CXx P w) 40 fa fd ["_law_script"] (spM K mg 1 m_law):=by
 obtain ⟨a,fd,hm,F,bnd⟩:=T.f_law;have e:=hfa.symm.trans hm;cases e;refine ⟨fd,?_,fun base=>(def_atB (P:=P) (w:=w) (base:=base) (fs:=QI) (lv:=12) t_law ["_law_script","_law_cell","_law_pen","_law_die","_law_sign","_law_k","_law_n","_law_weights"] F (zk T) (zB (YC T) rfl (zB (GJ T) rfl (zB (Yv T) rfl (zB (JG T) rfl (zB (vS T) rfl (zB (vR T) rfl (zB (Wy T) rfl zN))))))) (zm T) T.cl (by decide +kernel)).mono (by decide)⟩;obtain ⟨oc,od,kV,doc,pm,an,cdv,ct,osl,rfl,lk,hcd⟩:=F.ex;exact fun s u=>.of_eq rfl
end My
namespace DV
open PySem L2
section
variable {fs:List FI} {E E1 E2 E3:zY}
theorem x_c {d:D}:dE fs (.c d) E=.ok (.val d,E):=by simp only [dE,eC]
theorem QL {d:D}:dE fs (.gl d) E=.ok (.val d,E):=by simp only [dE,eC]
theorem zA {i:Nat} {d:D} (h:E[i]?=some (.val d)):dE fs (.var i) E=.ok (.val d,E):=by simp only [dE,zBM,h]
theorem uC {i:Nat} {ds:List D} (h:E[i]?=some (.own ds)) (h':E.set i (.val (.lst ds))=E1):dE fs (.var i) E=.ok (.val (.lst ds),E1):=by simp only [dE,zBM,h,h']
theorem zt {o:Op2} {a b:_} {r1 r2 r:R} (h1:dE fs a E=.ok (r1,E1)) (h2:dE fs b E1=.ok (r2,E2)) (h3:o.f r1.d r2.d=some r):dE fs (.bin o a b) E=.ok (r,E2):=by simp only [dE,vA,h1,h2,h3]
theorem wL {o:Cp} {a b:_} {r1 r2 r:R} (h1:dE fs a E=.ok (r1,E1)) (h2:dE fs b E1=.ok (r2,E2)) (h3:o.f r1.d r2.d=some r):dE fs (.cmp o a b) E=.ok (r,E2):=by simp only [dE,vA,h1,h2,h3]
theorem yj {a b:_} {r1 r2 r:R} (h1:dE fs a E=.ok (r1,E1)) (h2:dE fs b E1=.ok (r2,E2)) (h3:ixD r1.d r2.d=some r):dE fs (.ix a b) E=.ok (r,E2):=by simp only [dE,vA,h1,h2,h3]
theorem Y0 {b:Bi} {as:_} {rs:List R} {r:R} (h1:dA fs as E=.ok (rs,E1)) (h2:b.f (rs.map R.d)=some r):dE fs (.cB b as) E=.ok (r,E1):=by simp only [dE,eCB,h1,h2]
theorem Y8 {as:_} {rs:List R} {ds:List D} (h1:dA fs as E=.ok (rs,E1)) (h2:rs.map R.d=ds) (h3:ds.length≤cap):dE fs (.tup as) E=.ok (.val (.tup ds),E1):=by
 subst h2;simp only [dE,zDP,eCB,h1];rw [if_pos h3]
theorem Wz {as:_} {rs:List R} {ds:List D} (h1:dA fs as E=.ok (rs,E1)) (h2:rs.map R.d=ds) (h3:ds.length≤cap):dE fs (.lst as) E=.ok (.own ds,E1):=by
 subst h2;simp only [dE,zDQ,eCB,h1];rw [if_pos h3]
theorem x_sl {a l u:_} {r r':R} {lo hi:Option Int} {E3:zY} (h1:dE fs a E=.ok (r,E1)) (h2:dO fs l E1=.ok (lo,E2)) (h3:dO fs u E2=.ok (hi,E3)) (h4:slD r.d lo hi=some r'):dE fs (.sl a l u) E=.ok (r',E3):=by simp only [dE,eSl,h1,h2,h3,h4]
theorem jE {k:Nat} {a:_} {F:MF} {r r':R} {o:Slot} (h0:fiF fs k=F) (h1:dE fs a E=.ok (r,E1)) (h2:F [.val r.d]=.ok (r',[o])):dE fs (.call k (.ev a .nil)) E=.ok (r',E1):=by
 subst h0;simp only [dE,dG,jf,zq,h1,zJ,h2,zH]
theorem zI {k:Nat} {a b:_} {F:MF} {r r2 r':R} {o o2:Slot} (h0:fiF fs k=F) (h1:dE fs a E=.ok (r,E1)) (h1':dE fs b E1=.ok (r2,E2)) (h2:F [.val r.d,.val r2.d]=.ok (r',[o,o2])):dE fs (.call k (.ev a (.ev b .nil))) E=.ok (r',E2):=by
 subst h0;simp only [dE,dG,jf,zq,h1,h1',zJ,h2,zH]
theorem zCt {o o':Cp} {a b c:_} {i j k:Int} {E3:zY} {v:Bool} (h1:dE fs a E=.ok (.val (.int i),E1)) (h2:dE fs b E1=.ok (.val (.int j),E2)) (h3:o.b i j=true) (h4:dE fs c E2=.ok (.val (.int k),E3)) (h5:o'.b j k=v):dE fs (.chain o o' a b c) E=.ok (.val (.bl v),E3):=by
 subst h5;simp only [dE,ju,h1,h2,h4];rw [if_pos h3]
theorem zEX {o o':Cp} {a b c:_} {i j:Int} (h1:dE fs a E=.ok (.val (.int i),E1)) (h2:dE fs b E1=.ok (.val (.int j),E2)) (h3:o.b i j=false):dE fs (.chain o o' a b c) E=.ok (.val (.bl false),E2):=by
 simp only [dE,ju,h1,h2];rw [if_neg (by rw [h3]; decide)]
theorem WE {k i:Nat} {a:_} {F:MF} {r r':R} {p p':List D} {o:Slot} (h0:fiF fs k=F) (hE:E[i]?=some (.own p)) (h1:dE fs a E=.ok (r,E)) (h2:F [.par p,.val r.d]=.ok (r',[.par p',o])) (h3:E.set i (.own p')=E1):dE fs (.call k (.lend i (.ev a .nil))) E=.ok (r',E1):=by
 subst h0 h3;have hi:i < E.length:=(List.getElem?_eq_some_iff.mp hE).1;have hs:(E.set i .emp)[i]?=some .emp:=by simp [hi]
 simp only [dE,dG,jf,zq,hE,JX,Bool.false_eq_true,if_false,h1,zJ,Slot.list?,h2,zH,hs,Slot.put,set_set]
theorem zu {k:Nat} {a b c:_} {F:MF} {r r2 r3 r':R} {o o2 o3:Slot} (h0:fiF fs k=F) (h1:dE fs a E=.ok (r,E1)) (h1':dE fs b E1=.ok (r2,E2)) (h1'':dE fs c E2=.ok (r3,E3)) (h2:F [.val r.d,.val r2.d,.val r3.d]=.ok (r',[o,o2,o3])):dE fs (.call k (.ev a (.ev b (.ev c .nil)))) E=.ok (r',E3):=by
 subst h0;simp only [dE,dG,jf,zq,h1,h1',h1'',zJ,h2,zH]
theorem zw {n:Nat} {body:MS} {ss o:List Slot} {r:R} (h:body (ss++replicate (n - ss.length) .emp)=.ok (.ret r,E1)) (ho:yF ss E1=o):fnM n body ss=.ok (r,o):=by
 subst ho;simp only [fnM,h]
theorem f_nx {n:Nat} {body:MS} {ss o:List Slot} (h:body (ss++replicate (n - ss.length) .emp)=.ok (.nx,E1)) (ho:yF ss E1=o):fnM n body ss=.ok (.val .non,o):=by
 subst ho;simp only [fnM,h]
theorem zX:dA fs .nil E=.ok ([],E):=by simp only [dA,zDO]
theorem zC {a as:_} {r:R} {rs:List R} (h1:dE fs a E=.ok (r,E1)) (h2:dA fs as E1=.ok (rs,E2)):dA fs (.cons a as) E=.ok (r::rs,E2):=by simp only [dA,Zz,h1,h2]
theorem o_N:dO fs .oN E=.ok (none,E):=by simp only [dO,oNone]
theorem o_S {a:_} {i:Int} (h:dE fs a E=.ok (.val (.int i),E1)):dO fs (.oS a) E=.ok (some i,E1):=by simp only [dO,zDz,h]
theorem t_E {a:_} {b:Bool} (h:dE fs a E=.ok (.val (.bl b),E1)):dT fs (.tE a) E=.ok (b,E1):=by simp only [dT,tT,h]
theorem zBU {a b:_} {c:Bool} (h1:dT fs a E=.ok (false,E1)) (h2:dT fs b E1=.ok (c,E2)):dT fs (.tOr a b) E=.ok (c,E2):=by simp only [dT,zBN,h1,h2]
theorem jP {a:_} {b c:Bool} (h1:dT fs a E=.ok (b,E1)) (h2:(!b)=c):dT fs (.tNot a) E=.ok (c,E1):=by subst h2; simp only [dT,Zy,h1]
theorem yJ {i:Nat} {a:_} {r:R} (h1:dE fs a E=.ok (r,E1)) (h2:vB i r E1=.ok E2):dS fs (.sSet i a) E=.ok (.nx,E2):=by simp only [dS,sSet,h1,h2]
theorem jF {t a b:_} {o:Out (Fl × zY)} (h1:dT fs t E=.ok (false,E1)) (h2:dB fs b E1=o):dS fs (.sIf t a b) E=o:=by subst h2; simp only [dS,sIf,h1]
theorem zCu {t a b:_} {o:Out (Fl × zY)} (h1:dT fs t E=.ok (true,E1)) (h2:dB fs a E1=o):dS fs (.sIf t a b) E=o:=by subst h2; simp only [dS,sIf,h1]
theorem zx {a:_} {r:R} (h1:dE fs a E=.ok (r,E1)):dS fs (.sRet a) E=.ok (.ret r,E1):=by simp only [dS,sRet,h1]
theorem jQ {a:_} {r:R} (h1:dE fs a E=.ok (r,E1)):dS fs (.sDrop a) E=.ok (.nx,E1):=by simp only [dS,sDrop,h1]
theorem Y9 {is:List Nat} {a:_} {r:R} (h1:dE fs a E=.ok (r,E1)) (h2:gT is r.d E1=.ok E2):dS fs (.sTup is a) E=.ok (.nx,E2):=by simp only [dS,sTup,h1,h2]
theorem Q5 {i j:Nat} {as:_} {r1 r2:R} (h1:dA fs as E=.ok ([r1,r2],E1)) (h2:gNs [i,j] [r1.d,r2.d] E1=.ok E2):dS fs (.sPar i j as) E=.ok (.nx,E2):=by simp only [dS,sPar,h1,h2]
theorem zFS {a b:_} {tg:Tg} {r:R} {ds:List D} {p:Fl × zY} (h1:dE fs a E=.ok (r,E1)) (h2:r.d=.lst ds) (h3:vC tg.m (dB fs b) ds E1=.ok p):dS fs (.sForL a tg b) E=.ok p:=by simp only [dS]; exact Qq (by simp only [sForL,h1,h2,h3])
theorem YD {a b:_} {tg:Tg} {r:R} {j:Int} {p:Fl × zY} (h1:dA fs a E=.ok ([r],E1)) (h2:r.d=.int j) (hj:-1000000≤j∧j≤1000000) (h3:vC tg.m (dB fs b) (zO 0 j.toNat) E1=.ok p):dS fs (.sForR1 a tg b) E=.ok p:=by
 simp only [dS];refine Qq ?_;simp only [sForR1,h1,h2];rw [if_pos ⟨by omega,by omega⟩,h3]
theorem i_L {a:_} {r:R} {ds:List D} (h1:dE fs a E=.ok (r,E1)) (h2:r.d=.lst ds):dI fs (.iL a) E=.ok (ds,E1):=by simp only [dI,iL,h1,h2]
theorem i_T {a:_} {r:R} {ds:List D} (h1:dE fs a E=.ok (r,E1)) (h2:r.d=.tup ds):dI fs (.iT a) E=.ok (ds,E1):=by simp only [dI,iT,h1,h2]
theorem i_R1 {a:_} {r:R} {j:Int} (h1:dA fs a E=.ok ([r],E1)) (h2:r.d=.int j) (hj:-1000000≤j∧j≤1000000):dI fs (.iR1 a) E=.ok (zO 0 j.toNat,E1):=by
 simp only [dI,iR1,h1,h2];rw [if_pos ⟨by omega,by omega⟩]
theorem jG:dB fs .bNil E=.ok (.nx,E):=by simp only [dB,zDS]
theorem zR {s:_} {o:Out (Fl × zY)} (h:dS fs s E=o):dB fs (.bOne s) E=o:=by simp only [dB,h]
theorem zG {s b:_} {o:Out (Fl × zY)} (h:dS fs s E=.ok (.nx,E1)) (h2:dB fs b E1=o):dB fs (.bSeq s b) E=o:=by simp only [dB,zBB,h,h2]
theorem b_ret {s b:_} {r:R} (h:dS fs s E=.ok (.ret r,E1)):dB fs (.bSeq s b) E=.ok (.ret r,E1):=by simp only [dB,zBB,h]
theorem W0 {d:D}:[d].length≤cap:=by simp only [List.length_singleton,cap]; omega
theorem nil_cap:([]:List D).length≤cap:=by simp only [length_nil,cap]; omega
theorem y3 {d e:D}:[d,e].length≤cap:=by simp only [length_cons,length_nil,cap]; omega
theorem zFT {nl:Nat} {xs ys:List Str} {caps:List Nat} {it tt el:_} {tg:Tg} {ds rs:List D} {vs:List D} (pat:D→List DV.Slot) (f:D→Bool) (g:D→D) (hi:dI fs it E=.ok (ds,E1)) (hcap:J4 E1 caps=.ok (vs.map AR.tmp))
  (h1:∀ d∈ds,∀ S:List DV.Slot,S.length=nl→(∀ s∈S,wH s=true)→tg.m d (S++vs.map Slot.val)=.ok (pat d++vs.map Slot.val))
  (h2:∀ d∈ds,(pat d).length=nl∧∀ s∈pat d,wH s=true)
  (h3:∀ d∈ds,dT fs tt (pat d++vs.map Slot.val)=.ok (f d,pat d++vs.map Slot.val))
  (h4:∀ d∈ds,f d=true→∃ r,dE fs el (pat d++vs.map Slot.val)=.ok (r,pat d++vs.map Slot.val)∧r.d=g d) (hc:ds.length≤cap) (hr:(ds.filter f).map g=rs):dE fs (.comp nl xs ys caps it tg tt el) E=.ok (.own rs,E1):=by
 subst hr;simp only [dE];exact Qp <| zEV pat f g ds h1 h2 h3 h4 hc hi hcap
theorem W1 {xs ys:List Str} {caps:List Nat} {it el:_} {ds rs:List D} {vs:List D} (g:D→D) (hi:dI fs it E=.ok (ds,E1)) (hcap:J4 E1 caps=.ok (vs.map AR.tmp))
  (h4:∀ d∈ds,∃ r,dE fs el (.val d::vs.map Slot.val)=.ok (r,.val d::vs.map Slot.val)∧r.d=g d) (hc:ds.length≤cap) (hr:ds.map g=rs):dE fs (.comp 1 xs ys caps it (.n 0) .tTr el) E=.ok (.own rs,E1):=by
 refine zFT (fun d=>[.val d]) (fun _=>true) g hi hcap (fun d hd S hS hn=>gN_ok1 hS hn) (fun d hd=>⟨rfl,fun s hs=>?_⟩) (fun d hd=>?_) (fun d hd _=>h4 d hd) hc ?_
 ·rw [mem_singleton] at hs; subst hs; rfl
 ·simp only [dT,Qm]
 ·rw [List.filter_eq_self.mpr (fun _ _=>rfl),hr]
end
end DV
namespace SM
open PySem L2 DV
def Zr (w o k:Nat):Nat→List Nat
 | 0=>1::replicate k 0
 | n+1=>(o * (Zr w o k n).sum)::((Zr w o k n).dropLast.map (w * ·))
def U (w o k n:Nat):Nat:=(Zr w o k n).sum
theorem wC (w o k:Nat):∀ n,(Zr w o k n).length=k+1
 | 0=>by simp [Zr]
 | n+1=>by simp [Zr,wC w o k n]
def F (w o k m:Nat):Nat→Nat
 | 0=>0
 | r+1=>F w o k m r+w ^ r * o * U w o k (m - 1 - r)
theorem zCv (w:Nat):∀ l:List Nat,(l.map (w * ·)).sum=w * l.sum
 | []=>by simp
 | a::l=>by simp [zCv w l,mul_add]
theorem zAo:∀ l:List Nat,l.dropLast.sum≤l.sum
 | []=>by simp
 | [a]=>by simp
 | a::b::l=>by
  have:=zAo (b::l);simp only [List.dropLast_cons₂,sum_cons] at this ⊢;omega
theorem U_succ (w o k n:Nat):U w o k (n+1)≤(w+o) * U w o k n:=by
 unfold U;simp only [Zr,sum_cons,zCv];have:=zAo (Zr w o k n);have h:=mul_le_mul_left w this;rw [add_mul];omega
theorem U_le (w o k:Nat):∀ n,U w o k n≤(w+o) ^ n
 | 0=>by simp [U,Zr]
 | n+1=>by
  have h1:=U_succ w o k n;have h2:=mul_le_mul_left (w+o) (U_le w o k n);rw [pow_succ,mul_comm ((w+o) ^ n)];omega
def dot:List Nat→(Nat→Nat)→Nat
 | [],_=>0
 | e::es,g=>e * g 0+dot es fun j=>g (j+1)
theorem zCw (w:Nat):∀ (l:List Nat) (g:Nat→Nat),dot (l.map (w * ·)) g=w * dot l g
 | [],g=>by simp [dot]
 | a::l,g=>by simp [dot,zCw w l,mul_add,mul_assoc]
theorem zCx:∀ l:List Nat,dot l (fun _=>1)=l.sum
 | []=>rfl
 | a::l=>by simp [dot,zCx l]
theorem zAp (w c:Nat) (g:Nat→Nat):∀ (l:List Nat) (d k:Nat),l.length+d=k+1→dot l (fun h=>c+if d+h+1≤k then w * g (h+1) else 0)=c * l.sum+w * dot l.dropLast (fun j=>g (j+1))
 | [],d,k,_=>by simp [dot]
 | [a],d,k,h=>by
  have:¬ d+0+1≤k:=by simp at h; omega
  simp [dot,this,mul_comm]
 | a::b::l,d,k,h=>by
  have hd:d+0+1≤k:=by simp at h; omega
  have e:(fun j=>c+if d+(j+1)+1≤k then w * g (j+1+1) else 0)=(fun j=>c+if d+1+j+1≤k then w * (fun i=>g (i+1)) (j+1) else 0):=by
   funext j
   rw [show d+(j+1)+1=d+1+j+1 by omega]
  have ih:=zAp w c (fun i=>g (i+1)) (b::l) (d+1) k (by simp at h ⊢; omega);rw [dot,e,ih,if_pos hd];have s1:(a::b::l).sum=a+(b::l).sum:=by simp
  have s2:(a::b::l).dropLast=a::(b::l).dropLast:=rfl;rw [s1,s2,dot,mul_add a,mul_add c,mul_add w,mul_comm a c,Nat.mul_left_comm a w];omega
theorem zEY (w o k n:Nat) (g:Nat→Nat):dot (Zr w o k n) (fun h=>o * g 0+if h+1≤k then w * g (h+1) else 0)=dot (Zr w o k (n+1)) g:=by
 have h:=zAp w (o * g 0) g (Zr w o k n) 0 k (by rw [wC]);simp only [zero_add] at h;rw [h];simp only [Zr,dot,zCw];rw [mul_assoc,mul_assoc,mul_comm (g 0)]
def wt (die:List Nat) (row:List Nat):Nat:=row.foldl (fun a x=>a * die.getD x 0) 1
def stp (s:Nat) (p:Nat × Nat) (x:Nat):Nat × Nat:=(max p.1 (if x=s then p.2+1 else 0),if x=s then p.2+1 else 0)
def stt (s:Nat) (row:List Nat):Nat × Nat:=row.foldl (stp s) (0,0)
def Die (die:List Nat):Prop:=(die.length=2∨die.length=3)∧∀ x∈die,1≤x∧x≤9
theorem inner {die:List Nat} (hd:Die die) {s:Nat} (hs:s < die.length) (k:Nat) (g:Nat→Nat) (r:List Nat) :
  ((List.range die.length).map fun x=>if (stt s (r++[x])).1≤k then wt die (r++[x]) * g (stt s (r++[x])).2 else 0).sum=if (stt s r).1≤k then wt die r * ((die.sum - die.getD s 0) * g 0+if (stt s r).2+1≤k then die.getD s 0 * g ((stt s r).2+1) else 0) else 0:=by
 have e1:∀ x,stt s (r++[x])=stp s (stt s r) x:=fun x=>by simp [stt]
 have e2:∀ x,wt die (r++[x])=wt die r * die.getD x 0:=fun x=>by simp [wt]
 simp only [e1,e2];generalize stt s r=p;generalize wt die r=t;obtain ⟨m,h⟩:=p;have hm:∀ a:Nat,max m (a+1)≤k↔m≤k∧a+1≤k:=fun a=>by omega
 match die,hd with
 | [a,b],hd =>
  simp only [length_cons,length_nil] at hs;have:s=0∨s=1:=by omega
  rcases this with rfl | rfl <;> by_cases c1:m≤k <;> by_cases c2:h+1≤k <;> simp [List.range_succ,stp,hm,c1,c2,mul_add,mul_assoc] <;> omega
 | [a,b,c],hd =>
  simp only [length_cons,length_nil] at hs;have:s=0∨s=1∨s=2:=by omega
  have x1:a+(b+c) - b=a+c:=by omega
  have x2:a+(b+c) - c=a+b:=by omega
  rcases this with rfl | rfl | rfl <;> by_cases c1:m≤k <;> by_cases c2:h+1≤k <;> simp [List.range_succ,stp,hm,c1,c2,mul_add,add_mul,mul_assoc,x1,x2] <;> omega
 | [],hd=>simp [Die] at hd
 | [_],hd=>simp [Die] at hd
 | _::_::_::_::_,hd=>simp [Die] at hd
end SM
namespace SM
open PySem L2 DV
theorem red (t u B b:Nat) (hB:0 < B) (hb:0 < b) (h:t * b=u * B):t / t.gcd B=u / u.gcd b∧B / t.gcd B=b / u.gcd b:=by
 have g0:0 < t.gcd B:=gcd_pos_of_pos_right _ hB;have h0:0 < u.gcd b:=gcd_pos_of_pos_right _ hb;have c1:=Nat.coprime_div_gcd_div_gcd (m:=t) (n:=B) g0;have c2:=Nat.coprime_div_gcd_div_gcd (m:=u) (n:=b) h0;have t1:t=t.gcd B * (t / t.gcd B):=(Nat.mul_div_cancel' (gcd_dvd_left t B)).symm;have B1:B=t.gcd B * (B / t.gcd B):=(Nat.mul_div_cancel' (gcd_dvd_right t B)).symm;have u1:u=u.gcd b * (u / u.gcd b):=(Nat.mul_div_cancel' (gcd_dvd_left u b)).symm;have b1:b=u.gcd b * (b / u.gcd b):=(Nat.mul_div_cancel' (gcd_dvd_right u b)).symm;generalize t.gcd B=g at *;generalize u.gcd b=k at *;generalize t / g=x at *;generalize B / g=y at *;generalize u / k=z at *;generalize b / k=v at *;have e:x * v=z * y:=by
  have:(g * k) * (x * v)=(g * k) * (z * y):=by
   calc (g * k) * (x * v)=(g * x) * (k * v):=by grind
    _=t * b:=by rw [← t1,← b1]
    _=u * B:=h
    _=(k * z) * (g * y):=by rw [← u1,← B1]
    _=(g * k) * (z * y):=by grind
  exact Nat.eq_of_mul_eq_mul_left (mul_pos g0 h0) this
 have d1:y ∣ v:=c1.symm.dvd_of_dvd_mul_left ⟨z,by rw [e,mul_comm]⟩;have d2:v ∣ y:=c2.symm.dvd_of_dvd_mul_left ⟨x,by rw [← e,mul_comm]⟩;have yv:y=v:=Nat.dvd_antisymm d1 d2;refine ⟨?_,yv⟩;subst yv;have y0:0 < y:=by
  rcases Nat.eq_zero_or_pos y with h' | h'
  ·rw [h',Nat.mul_zero] at B1; omega
  ·exact h'
 exact Nat.eq_of_mul_eq_mul_right y0 e
def JS (t:Int) (b:Nat):Int:=t / (t.natAbs.gcd b:Nat)
def wX (t:Int) (b:Nat):Nat:=b / t.natAbs.gcd b
def nrm (t:Int) (b:Nat):D:=.tup [.int (JS t b),.int (wX t b:Nat)]
theorem GK (n b:Nat):JS (n:Int) b=((n / n.gcd b:Nat):Int):=by
 simp [JS]
theorem zCy {T W:Int} {B b:Nat} (hB:0 < B) (hb:0 < b) (h:T * b=W * B):nrm T B=nrm W b:=by
 have hn:T.natAbs * b=W.natAbs * B:=by
  have:=congrArg Int.natAbs h;simpa [Int.natAbs_mul] using this
 obtain ⟨r1,r2⟩:=red T.natAbs W.natAbs B b hB hb hn;have e2:wX T B=wX W b:=r2;have e1:JS T B=JS W b:=by
  by_cases c:0≤T
  ·have cw:0≤W:=by
    have h1:0≤T * b:=Int.mul_nonneg c (by omega);rw [h] at h1;exact Int.nonneg_of_mul_nonneg_left h1 (by omega)
   obtain ⟨n,rfl⟩:=Int.eq_ofNat_of_zero_le c;obtain ⟨m,rfl⟩:=Int.eq_ofNat_of_zero_le cw;rw [GK,GK];simp only [Int.natAbs_natCast] at r1;rw [r1]
  ·have cw:¬ 0≤W:=fun q=>by
    have h1:0≤W * B:=Int.mul_nonneg q (by omega);rw [← h] at h1;exact c (Int.nonneg_of_mul_nonneg_left h1 (by omega))
   obtain ⟨n,hn'⟩:=Int.eq_ofNat_of_zero_le (a:=-T) (by omega);obtain ⟨m,hm'⟩:=Int.eq_ofNat_of_zero_le (a:=-W) (by omega);have f1:T=-(n:Int):=by omega
   have f2:W=-(m:Int):=by omega
   subst f1;subst f2;simp only [Int.natAbs_neg,Int.natAbs_natCast] at r1;have f:∀ n b:Nat,JS (-(n:Int)) b=-((n / n.gcd b:Nat):Int):=fun n b=>by
    unfold JS;rw [Int.natAbs_neg,Int.natAbs_natCast,Int.neg_ediv_of_dvd (by exact_mod_cast gcd_dvd_left n b)];simp
   rw [f,f,r1]
 unfold nrm;rw [e1,e2]
theorem WF {c:MT} {bd:MS} (mk:Nat→Nat→zY) (hc:∀ a b,c (mk a b)=.ok (decide (b≠0),mk a b)) (hb:∀ a b,b≠0→bd (mk a b)=.ok (.nx,mk b (a % b))) :
  ∀ (k n a b:Nat),b < 2 ^ k→2 * k+1≤n→whN c bd n (mk a b)=.ok (.nx,mk (a.gcd b) 0)
 | 0,n,a,b,h,hn=>by
  have:b=0:=by omega
  subst this;obtain ⟨m,rfl⟩:∃ m,n=m+1:=⟨n - 1,by omega⟩;simp only [whN,hc,ne_eq,not_true_eq_false,decide_false,Nat.gcd_zero_right]
 | k+1,n,a,b,h,hn=>by
  obtain ⟨m,rfl⟩:∃ m,n=m+2:=⟨n - 2,by omega⟩;by_cases b0:b=0
  ·subst b0
   simp only [whN,hc,ne_eq,not_true_eq_false,decide_false,Nat.gcd_zero_right]
  ·by_cases r0:a % b=0
   ·simp only [whN,hc,hb a b b0,ne_eq,b0,not_false_eq_true,decide_true,r0,not_true_eq_false,decide_false]
    rw [gcd_comm,gcd_rec,r0,Nat.gcd_zero_left]
   ·have lt:a % b < b:=Nat.mod_lt _ (by omega)
    have lt2:b % (a % b) < a % b:=Nat.mod_lt _ (by omega);have half:b % (a % b) < 2 ^ k:=by
     have:2 * (b % (a % b)) < b:=by
      by_cases q:2 * (a % b)≤b
      ·omega
      ·have:b % (a % b)=b - a % b:=by
        rw [Nat.mod_eq_sub_mod (by omega),Nat.mod_eq_of_lt (by omega)]
       omega
     rw [pow_succ] at h;omega
    have ih:=WF mk hc hb k m (a % b) (b % (a % b)) half (by omega);simp only [whN,hc,hb a b b0,hb b (a % b) r0,ne_eq,b0,r0,not_false_eq_true,decide_true];rw [ih];rw [gcd_comm a b,gcd_rec b a,gcd_comm (a % b) b,gcd_comm (a % b),← gcd_rec,gcd_comm b]
end SM
namespace SM
open PySem L2 DV
def tot (es:List (List Nat)):Nat:=(es.map List.sum).sum
def al (ws:List Nat) (k:Nat):Nat→List (List Nat)
 | 0=>ws.map fun w=>w::replicate (k - 1) 0
 | n+1=>zipWith (fun w e=>(w * (tot (al ws k n) - e.sum))::e.dropLast.map (w * ·)) ws (al ws k n)
def A (ws:List Nat) (n k:Nat):Nat:=if n=0 then 1 else if k=0 then 0 else tot (al ws k (n - 1))
theorem zCz (t:Int) (b:Nat):JS t b * b=t * (wX t b:Nat):=by
 unfold JS wX;have h1:((t.natAbs.gcd b:Nat):Int) ∣ t:=by
  have:=gcd_dvd_left t.natAbs b;exact Int.ofNat_dvd_left.mpr this
 have h2:t.natAbs.gcd b ∣ b:=gcd_dvd_right _ _;obtain ⟨x,hx⟩:=h1;obtain ⟨y,hy⟩:=h2;generalize hg:t.natAbs.gcd b=g at *;by_cases c:g=0
 ·subst c
  simp at hx hy
  subst hx; subst hy; simp
 ·have e1:t / (g:Int)=x:=by rw [hx]; exact Int.mul_ediv_cancel_left _ (by omega)
  have e2:b / g=y:=by rw [hy]; exact Nat.mul_div_cancel_left _ (by omega)
  rw [e1,e2,hx,hy,Int.natCast_mul]
  grind
theorem JH (t:Int) {b:Nat} (h:0 < b):0 < wX t b:=by
 unfold wX;exact div_pos (le_of_dvd h (gcd_dvd_right _ _)) (gcd_pos_of_pos_right _ h)
theorem add_nrm {t1 t2 T:Int} {b1 b2 B:Nat} (h1:0 < b1) (h2:0 < b2) (hB:0 < B) (h:(t1 * b2+t2 * b1) * B=T * (b1 * b2:Nat)) :
  nrm (JS t1 b1 * (wX t2 b2:Nat)+JS t2 b2 * (wX t1 b1:Nat)) (wX t1 b1 * wX t2 b2)=nrm T B:=by
 have c1:=zCz t1 b1;have c2:=zCz t2 b2;have p1:=JH t1 h1;have p2:=JH t2 h2;generalize JS t1 b1=x1 at *;generalize wX t1 b1=y1 at *;generalize JS t2 b2=x2 at *;generalize wX t2 b2=y2 at *;refine zCy (mul_pos p1 p2) hB ?_;rw [Int.natCast_mul] at h ⊢;have hb:((b1:Int) * b2)≠0:=by
  have:0 < (b1:Int) * b2:=Int.mul_pos (by omega) (by omega);omega
 apply Int.eq_of_mul_eq_mul_right hb;have e1:(x1 * (y2:Int)+x2 * y1) * B * (b1 * b2)=((x1 * b1) * b2 * y2+(x2 * b2) * b1 * y1) * B:=by grind
 have e2:T * ((y1:Int) * y2) * (b1 * b2)=T * (b1 * b2) * (y1 * y2):=by grind
 rw [e1,e2,c1,c2,← h]
 grind
end SM
namespace DV
open PySem L2
def rpB:Nat→Nat
 | 0=>40
 | n+1=>21 * (rpB n+2)+10
structure Rp (n:Nat) (x:PyData):Prop where
 sh:x.showable=true
 dp:x.depth≤n+2
 ln:x.shown.length≤rpB n
end DV
namespace DV
open PySem L2
section
variable {fs:List FI} {E E1 E2 E3 E4 E5:zY}
theorem yG {k:Nat} {a b c d:_} {F:MF} {r r2 r3 r4 r':R} {o o2 o3 o4:DV.Slot} (h0:fiF fs k=F) (h1:dE fs a E=.ok (r,E1)) (h1':dE fs b E1=.ok (r2,E2)) (h1'':dE fs c E2=.ok (r3,E3)) (h4:dE fs d E3=.ok (r4,E4)) (h2:F [.val r.d,.val r2.d,.val r3.d,.val r4.d]=.ok (r',[o,o2,o3,o4])):dE fs (.call k (.ev a (.ev b (.ev c (.ev d .nil))))) E=.ok (r',E4):=by
 subst h0;simp only [dE,dG,jf,zq,h1,h1',h1'',h4,zJ,h2,zH]
theorem jL {k i:Nat} {a:_} {F:MF} {r r':R} {p p':List D} {o:DV.Slot} (h0:fiF fs k=F) (hE:E[i]?=some (.par p)) (h1:dE fs a E=.ok (r,E)) (h2:F [.par p,.val r.d]=.ok (r',[.par p',o])) (h3:E.set i (.par p')=E1):dE fs (.call k (.lend i (.ev a .nil))) E=.ok (r',E1):=by
 subst h0 h3;have hi:i < E.length:=(List.getElem?_eq_some_iff.mp hE).1;have hs:(E.set i .emp)[i]?=some .emp:=by simp [hi]
 simp only [dE,dG,jf,zq,hE,JX,Bool.false_eq_true,if_false,h1,zJ,Slot.list?,h2,zH,hs,Slot.put,set_set]
theorem x_neg {a:_} {i:Int} (h:dE fs a E=.ok (.val (.int i),E1)):dE fs (.neg a) E=.ok (.val (.int (-i)),E1):=by simp only [dE,eNeg,h]
theorem x_not {a:_} {b:Bool} (h:dE fs a E=.ok (.val (.bl b),E1)):dE fs (.not a) E=.ok (.val (.bl (!b)),E1):=by simp only [dE,zBO,h]
theorem zAq {a b:_} {o:Out (R × zY)} (h:dE fs a E=.ok (.val (.bl true),E1)) (h1:dE fs b E1=o):dE fs (.and a b) E=o:=by subst h1; simp only [dE,zBP,h]
theorem x_is {T:Ty} {a:_} {r:R} {t:String} {v:Bool} (h:dE fs a E=.ok (r,E1)) (ht:tyD r.d=some t) (hv:Gy t T.s=v):dE fs (.is T a) E=.ok (.val (.bl v),E1):=by subst hv; simp only [dE,eIs,h,ht]
theorem i_Z {t1 t2:Bool} {as:_} {r1 r2:R} {ds es:List D} (h1:dA fs as E=.ok ([r1,r2],E1)) (h2:seqD t1 r1.d=some ds) (h3:seqD t2 r2.d=some es):dI fs (.iZ t1 t2 as) E=.ok (zipWith ui ds es,E1):=by
 simp only [dI,iZ,h1,h2,h3]
theorem s_app {i:Nat} {a:_} {r:R} {ds ds0:List D} (h0:E[i]?=some (.own ds0)) (h1:dE fs a E=.ok (r,E1)) (h2:E1[i]?=some (.own ds)) (hl:ds.length < cap) (h3:E1.set i (.own (ds++[r.d]))=E2):dS fs (.sApp i a) E=.ok (.nx,E2):=by
 subst h3;simp only [dS,sApp,h0,Slot.list?,h1,h2,Slot.put];rw [if_pos hl]
end
theorem put_ok {i:Nat} {E:zY} {s:DV.Slot} (r:R) (h:E[i]?=some s) (hs:wH s=true):vB i r E=.ok (E.set i r.slot):=by
 simp only [vB,h];cases s <;> first | rfl | (cases hs)
theorem uD {i:Nat} {E E1:zY} {s:DV.Slot} {r:R} (h:E[i]?=some s) (hs:wH s=true) (e:E.set i r.slot=E1):vB i r E=.ok E1:=by
 rw [put_ok r h hs,e]
theorem ne_int (x y:Int):neG (.int x) (.int y)=some (.val (.bl (!decide (x=y)))):=by simp [neG,neF]
theorem eq_int (x y:Int):eqG (.int x) (.int y)=some (.val (.bl (decide (x=y)))):=by simp [eqG,eqF]
theorem eq_str (t:Str):eqG (.str t) (.str t)=some (.val (.bl true)):=by simp [eqG,eqF]
theorem ne_str (t:Str):neG (.str t) (.str t)=some (.val (.bl false)):=by simp [neG,neF]
theorem GL (a b:List D) (h:a.length+b.length≤100000):QS (.lst a) (.lst b)=some (.own (a++b)):=by
 simp only [QS]; rw [if_pos (by simp only [cap]; omega)]
theorem rep_one (x:D) (k:Nat):(replicate k [x]).flatten=replicate k x:=by
 induction k with
 | zero=>rfl
 | succ k ih=>rw [replicate_succ,flatten_cons,ih,replicate_succ]; rfl
theorem zEZ (d:D) (n:Nat) (h:n≤1000):vD (.lst [d]) (.int n)=some (.own (replicate n d)):=by
 simp only [vD,WW];rw [if_pos ⟨by omega,by omega,by simp only [List.length_singleton,Int.toNat_natCast,cap]; omega⟩,Int.toNat_natCast,rep_one]
theorem zC0 {x y:D} {r:R} (e:WW x y=some r):vD x y=some r:=by simp only [vD,e]
theorem Zs {ds:List D} {k:Nat} {d:D} (h:ds[k]?=some d):atI ds (k:Int)=some d:=by
 obtain ⟨hk,e⟩:=List.getElem?_eq_some_iff.mp h;have:(k:Int) < ds.length:=by omega
 simp [atI,ixN,this,h]
theorem Q6 (ds:List D) (i:Int):ixD (.lst ds) (.int i)=(atI ds i).map .val:=rfl
theorem W2 (ds:List D) (i:Int):ixD (.tup ds) (.int i)=(atI ds i).map .val:=rfl
theorem QM (f:D→Bool):∀ ds:List D,w6 (ds.map fun d=>D.bl (f d))=some (ds.map f)
 | []=>rfl
 | d::ds=>by simp only [map_cons,w6,QM f ds]; rfl
theorem all_map (f:D→Bool) (ds:List D):(ds.map f).all id=ds.all f:=by simp [List.all_map]
theorem zFU {f:D→Bool} {ds:List D} {b:Bool} (h:ds.all f=b):allD [.lst (ds.map fun d=>D.bl (f d))]=some (.val (.bl b)):=by
 subst h;simp [allD,QM,all_map]
theorem zAr (ds:List D) (k:Nat) (h:k≤ds.length):zAT ds (some (k:Int)) none=ds.drop k:=by
 unfold zAT;rw [HT.sIx_nat];simp only [HT.sIx];rw [show min k ds.length=k by omega,List.take_of_length_le (by simp)]
def N (l:List Nat):List D:=l.map fun n:Nat=>D.int (n:Int)
theorem W3 (l:List Nat):(N l).length=l.length:=by simp [N]
theorem zC1 {l:List Nat} {d:D} (h:d∈N l):∃ n∈l,d=.int (n:Nat):=by
 obtain ⟨n,hn,rfl⟩:=mem_map.mp h;exact ⟨n,hn,rfl⟩
theorem N_get {l:List Nat} {k n:Nat} (h:l[k]?=some n):(N l)[k]?=some (.int (n:Nat)):=by simp [N,h]
theorem ints_N (n:Nat):zO 0 n=N (List.range n):=by
 have key:∀ n k:Nat,zO (k:Int) n=N (List.range' k n):=by
  intro n
  induction n with
  | zero=>intro k; rfl
  | succ n ih =>
   intro k;have:=ih (k+1);rw [List.range'_succ];show D.int (k:Int)::zO ((k:Int)+1) n=D.int (k:Int)::N (List.range' (k+1) n);rw [← this]; simp
 rw [List.range_eq_range'];exact key n 0
end DV
namespace DV
open PySem L2
section
variable {fs:List FI} {E E1 E2 E3:zY}
theorem x_vA {i:Nat} {s:DV.Slot} {ds:List D} (hs:s=.own ds∨s=.val (.lst ds)) (h:E[i]?=some s) (h':E.set i (.val (.lst ds))=E1):dE fs (.var i) E=.ok (.val (.lst ds),E1):=by
 rcases hs with rfl | rfl
 ·exact uC h h'
 ·rw [zA h]
  have:E.set i (.val (.lst ds))=E:=by
   obtain ⟨hi,e⟩:=List.getElem?_eq_some_iff.mp h;rw [← e,List.set_getElem_self]
  rw [← h',this]
theorem zEa {k i:Nat} {a:_} {F:MF} {r r':R} {s0:DV.Slot} {p p':List D} {o:DV.Slot} (h0:fiF fs k=F) (hs:E[i]?=some s0) (hs':JX (some s0)=false) (h1:dE fs a E=.ok (r,E1)) (hE:E1[i]?=some (.own p)) (h2:F [.par p,.val r.d]=.ok (r',[.par p',o])) (h3:E1.set i (.own p')=E2):dE fs (.call k (.lend i (.ev a .nil))) E=.ok (r',E2):=by
 subst h0 h3;have hi:i < E1.length:=(List.getElem?_eq_some_iff.mp hE).1;have hs1:(E1.set i .emp)[i]?=some .emp:=by simp [hi]
 simp only [dE,dG,jf,zq,hs,hs',Bool.false_eq_true,if_false,h1,zJ,hE,Slot.list?,h2,zH,hs1,Slot.put,set_set]
theorem zFV {it b:_} {tg:Tg} {ds:List D} {p:Fl × zY} (h1:dI fs it E=.ok (ds,E1)) (h3:vC tg.m (dB fs b) ds E1=.ok p):dS fs (.sForI it tg b) E=.ok p:=by
 simp only [dS,zES,h1,sForI,h3]
end
end DV
namespace DV
open PySem L2
section
variable {fs:List FI} {E E1 E2 E3 E4 E5 E6:zY}
theorem Q7 {k:Nat} {a b c d e:_} {F:MF} {r r2 r3 r4 r5 r':R} {o o2 o3 o4 o5:DV.Slot} (h0:fiF fs k=F) (h1:dE fs a E=.ok (r,E1)) (h1':dE fs b E1=.ok (r2,E2)) (h1'':dE fs c E2=.ok (r3,E3)) (h4:dE fs d E3=.ok (r4,E4)) (h5:dE fs e E4=.ok (r5,E5)) (h2:F [.val r.d,.val r2.d,.val r3.d,.val r4.d,.val r5.d]=.ok (r',[o,o2,o3,o4,o5])):dE fs (.call k (.ev a (.ev b (.ev c (.ev d (.ev e .nil)))))) E=.ok (r',E5):=by
 subst h0;simp only [dE,dG,jf,zq,h1,h1',h1'',h4,h5,zJ,h2,zH]
theorem s_par3 {i j l:Nat} {as:_} {r1 r2 r3:R} (h1:dA fs as E=.ok ([r1,r2,r3],E1)) (h2:gNs [i,j,l] [r1.d,r2.d,r3.d] E1=.ok E2):dS fs (.sPar3 i j l as) E=.ok (.nx,E2):=by simp only [dS,sPar3,h1,h2]
end
end DV
namespace DV
open PySem L2
section
variable {fs:List FI} {E E1 E2 E3 E4 E5 E6:zY}
theorem x_compI {xs ys:List Str} {caps:List Nat} {it el:_} {ds rs:List D} {ars:List AR} {ss:List DV.Slot} (hi:dI fs it E=.ok (ds,E1)) (hcap:J4 E1 caps=.ok ars) (hl:zJ ars E1=.ok (ss,E2))
  (h4:∀ (i:Nat) (d:D),ds[i]?=some d→∃ r,dE fs el (.val d::ss)=.ok (r,.val d::ss)∧rs[i]?=some r.d) (hn:rs.length=ds.length) (hc:ds.length≤cap) (hb:∀ x:DV.Slot,zH ars ((yF (.emp::ss) (x::ss)).drop 1) E1 E2=.ok E1):dE fs (.comp 1 xs ys caps it (.n 0) .tTr el) E=.ok (.own rs,E1):=by
 obtain ⟨res,E',e1,e2,x,e3,_⟩:=Wh (tg:=gN 0) (tt:=Qm) (el:=dE fs el) (fun k E acc=>acc=rs.take k∧∃ x,E=x::ss∧wH x=true) ds 0 (.emp::ss) [] ⟨rfl,.emp,rfl,rfl⟩ (by simpa using hc) (fun i d q E acc ⟨ha,x,hE,hx⟩ _=>by
  rw [zero_add] at ha ⊢;obtain ⟨r,e,er⟩:=h4 i d q;refine ⟨.val d::ss,.val d::ss,r,.val d::ss,?_,rfl,e,?_,.val d,rfl,rfl⟩
  ·subst hE; cases x <;> first | rfl | (cases hx)
  ·rw [ha,List.take_add_one,er]; rfl)
 rw [zero_add,← hn,take_length] at e2;subst e2 e3;simp only [dE];refine Qp ?_;have e1':J3 (gN 0) Qm (dE fs el) ds (replicate 1 .emp++ss) []=.ok (res,x::ss):=e1;have hb':zH ars ((yF (replicate 1 .emp++ss) (x::ss)).drop 1) E1 E2=.ok E1:=hb x;simp only [We,hi,hcap,hl,Tg.m,dT,e1',hb']
theorem Yw {tg:MG} {body:MS} {d:D} {ds:List D} {o:Out (Fl × zY)} (h1:tg d E=.ok E1) (h2:body E1=.ok (.nx,E2)) (h3:vC tg body ds E2=o):vC tg body (d::ds) E=o:=by
 subst h3; simp only [vC,h1,h2]
theorem zAs {tg:MG} {body:MS}:vC tg body [] E=.ok (.nx,E):=rfl
end
end DV
namespace My
open PySem L2 DV SM
def isFn:D→Bool
 | .fn _=>true
 | .exn _=>true
 | _=>false
def isW:D→Bool
 | .int _=>true
 | _=>false
def QV (lo hi:Int):D→Bool
 | .int i=>decide (lo≤i)&&decide (i≤hi)
 | _=>false
def okD:D→Prop
 | .tup ds=>ds.length≤cap∧∀ d∈ds,isFn d=false
 | .fn _=>False
 | .exn _=>False
 | _=>True
def zDU:D→Bool
 | .tup ds=>decide (2≤ds.length)&&decide (ds.length≤3)&&ds.all (QV 1 9)
 | _=>false
theorem ZA (d:D) (h:isFn d=false):jb [.val d]=.ok (.val (.bl (isW d)),[.emp]):=by
 cases d <;> first | rfl | (cases h)
theorem wU (d:D) (lo hi:Int) (h:isFn d=false):yA [.val d,.val (.int lo),.val (.int hi)]=.ok (.val (.bl (QV lo hi d)),[.emp,.emp,.emp]):=by
 have e:=ZA d h;cases d with
 | int i =>
  simp [yA,ye,yw,fnM,dB,dS,dE,dG,dT,dA,dI,dO,sRet,sIf,zBB,zDS,sSet,vB,R.slot,zBP,eOr,zBO,jf,zq,zBM,eC,zJ,fiF,fiX,R.d,zH,ju,Cp.b,Cp.f,Op2.f,Bi.f,Ty.s,w9,w8,J6,J7,J8,zBN,Qg,Zy,tT,vA,eCB,Zz,zDO,zDP,zDQ,QA,zAh,Tg.m,eqG,eqF,neG,neF,zDT,zDR,vD,WW,e,isW,QV];by_cases h1:lo≤i <;> simp [h1,w9,w8]
 | _=>first | (cases h; done) | simp [yA,ye,yw,fnM,dB,dS,dE,dG,dT,dA,dI,dO,sRet,sIf,zBB,zDS,sSet,vB,R.slot,zBP,eOr,zBO,jf,zq,zBM,eC,zJ,fiF,fiX,R.d,zH,ju,Cp.b,Cp.f,Op2.f,Bi.f,Ty.s,w9,w8,J6,J7,J8,zBN,Qg,Zy,tT,vA,eCB,Zz,zDO,zDP,zDQ,QA,zAh,Tg.m,eqG,eqF,neG,neF,zDT,zDR,vD,WW,e,isW,QV]
theorem zBG (d:D) (h:okD d):Y6 [.val d]=.ok (.val (.bl (zDU d)),[.emp]):=by
 cases d with
 | tup ds =>
  have t1:dT J9 (.tNot (.tE (.is .tuple (.var 0)))) [.val (.tup ds)]=.ok (false,[.val (.tup ds)]):=jP (t_E (b:=true) rfl) rfl;have l1:dE J9 (.cB .len (.cons (.var 0) .nil)) [.val (.tup ds)]=.ok (.val (.int ds.length),[.val (.tup ds)]):=Y0 (zC (zA rfl) zX) rfl;by_cases h2:2≤ds.length
  ·have b1:Cp.le.b 2 (ds.length:Int)=true:=decide_eq_true (by omega)
   by_cases h3:ds.length≤3
   ·have b2:Cp.le.b (ds.length:Int) 3=true:=decide_eq_true (by omega)
    have e:zDU (.tup ds)=ds.all (QV 1 9):=by simp [zDU,h2,h3]
    rw [e];exact zw (zG (jF (zBU t1 (jP (t_E (zCt QL l1 b1 QL b2)) rfl)) jG) (zR (zx (Y0 (zC (W1 (vs:=[]) (fun d=>.bl (QV 1 9 d)) (i_T (zA rfl) rfl) rfl (fun d hd=>⟨_,zu rfl (zA rfl) QL QL (wU d 1 9 (h.2 d hd)),rfl⟩) h.1 rfl) zX) (zFU rfl))))) rfl
   ·have b2:Cp.le.b (ds.length:Int) 3=false:=decide_eq_false (by omega)
    have e:zDU (.tup ds)=false:=by simp [zDU,h3]
    rw [e];exact zw (b_ret (zCu (zBU t1 (jP (t_E (zCt QL l1 b1 QL b2)) rfl)) (zR (zx x_c)))) rfl
  ·have b1:Cp.le.b 2 (ds.length:Int)=false:=decide_eq_false (by omega)
   have e:zDU (.tup ds)=false:=by simp [zDU,h2]
   rw [e];exact zw (b_ret (zCu (zBU t1 (jP (t_E (zEX QL l1 b1)) rfl)) (zR (zx x_c)))) rfl
 | fn x=>cases h
 | exn x=>cases h
 | _=>rfl
def nxt (s:Int):Int:=((s+7919) % 2147483647 * ((s+7919) % 2147483647)+48271 * ((s+7919) % 2147483647)+12345) % 2147483629
theorem Q8 (s:Int):wj [.val (.int s)]=.ok (.val (.int (nxt s)),[.emp]):=by
 have h1:0≤(s+7919) % 2147483647:=Int.emod_nonneg _ (by decide);have h2:(s+7919) % 2147483647 < 2147483647:=Int.emod_lt_of_pos _ (by decide);have h3:-18446744073709551616 < (s+7919) % 2147483647∧(s+7919) % 2147483647 < 18446744073709551616:=by omega
 simp [wj,YA,Zl,fnM,dB,dS,dE,dG,dT,dA,dI,dO,sRet,sIf,zBB,zDS,sSet,vB,R.slot,zBP,eOr,zBO,jf,zq,zBM,eC,zJ,fiF,fiX,R.d,zH,ju,Cp.b,Cp.f,Op2.f,Bi.f,Ty.s,w9,w8,J6,J7,J8,zBN,Qg,Zy,tT,vA,eCB,Zz,zDO,zDP,zDQ,QA,zAh,Tg.m,eqG,eqF,neG,neF,zDT,zDR,vD,WW,QS,WW,zE5,zBQ,nxt,h3]
def Pen (p:List D):Prop:=∃ l f s:Int,p=[.int l,.int f,.int s]
theorem zn (p:List D) (hp:Pen p) (m:Int) (h0:0 < m) (h1:m < 1073741824):∃ r p',zK [.par p,.val (.int m)]=.ok (.val (.int r),[.par p',.emp])∧0≤r∧r < m∧Pen p':=by
 obtain ⟨l,f,s,rfl⟩:=hp;by_cases hf:f=1
 ·refine ⟨l % m,[.int (l / m),.int f,.int s],?_,Int.emod_nonneg _ (by omega),Int.emod_lt_of_pos _ h0,_,_,_,rfl⟩
  simp [zK,wm,JD,fnM,dB,dS,dE,dG,dT,dA,dI,dO,sRet,sIf,zBB,zDS,sSet,vB,R.slot,zBP,eOr,zBO,jf,zq,zBM,eC,zJ,fiF,fiX,R.d,zH,ju,Cp.b,Cp.f,Op2.f,Bi.f,Ty.s,w9,w8,J6,J7,J8,zBN,Qg,Zy,tT,vA,eCB,Zz,zDO,zDP,zDQ,QA,zAh,Tg.m,eqG,eqF,neG,neF,zDT,zDR,vD,WW,eIxO,JX,ixS,atI,ixN,eqF,hf,zE5,Gw,zBQ,h0,h1,WZ,Slot.list?,Slot.put]
 ·refine ⟨nxt (nxt s+7) / 64 % m,[.int l,.int f,.int (nxt (nxt s+7))],?_,Int.emod_nonneg _ (by omega),Int.emod_lt_of_pos _ h0,_,_,_,rfl⟩
  simp [zK,wm,JD,fnM,dB,dS,dE,dG,dT,dA,dI,dO,sRet,sIf,zBB,zDS,sSet,vB,R.slot,zBP,eOr,zBO,jf,zq,zBM,eC,zJ,fiF,fiX,R.d,zH,ju,Cp.b,Cp.f,Op2.f,Bi.f,Ty.s,w9,w8,J6,J7,J8,zBN,Qg,Zy,tT,vA,eCB,Zz,zDO,zDP,zDQ,QA,zAh,Tg.m,eqG,eqF,neG,neF,zDT,zDR,vD,WW,eIxO,JX,ixS,atI,ixN,eqF,hf,zE5,Gw,QS,zBQ,h0,h1,WZ,Slot.list?,Slot.put,Q8]
theorem GM (c:Int):∃ p,yy [.val (.int c)]=.ok (.own p,[.emp])∧Pen p:=by
 refine ⟨[.int (if 0 - c > c then 0 - c else c),.int (if decide (10 ^ 18≤(if 0 - c > c then 0 - c else c))=true then 1 else 0),.int ((if 0 - c > c then 0 - c else c) % 1000003)],?_,_,_,_,rfl⟩;simp [yy,wk,Jp,fnM,dB,dS,dE,dG,dT,dA,dI,dO,sRet,sIf,zBB,zDS,sSet,vB,R.slot,zBP,eOr,zBO,jf,zq,zBM,eC,zJ,fiF,fiX,R.d,zH,ju,Cp.b,Cp.f,Op2.f,Bi.f,Ty.s,w9,w8,J6,J7,J8,zBN,Qg,Zy,tT,vA,eCB,Zz,zDO,zDP,zDQ,QA,zAh,Tg.m,eqG,eqF,neG,neF,zDT,zDR,vD,WW,zDR,zE4,zBR,intF,geD,powD,zE5,zBQ,cap]
theorem vT (ns:List Int):∃ c,yh [.val (.lst (ns.map .int)),.val (.int 0)]=.ok (.val (.int c),[.emp,.emp]):=by
 cases ns with
 | nil=>exact ⟨0,rfl⟩
 | cons n ns => 
  refine ⟨n,?_⟩;have:(0:Int) < ns.length+1:=by omega
  simp [yh,wJ,JC,fnM,dB,dS,dE,dG,dT,dA,dI,dO,sRet,sIf,zBB,zDS,sSet,vB,R.slot,zBP,eOr,zBO,jf,zq,zBM,eC,zJ,fiF,fiX,R.d,zH,ju,Cp.b,Cp.f,Op2.f,Bi.f,Ty.s,w9,w8,J6,J7,J8,zBN,Qg,Zy,tT,vA,eCB,Zz,zDO,zDP,zDQ,QA,zAh,Tg.m,eqG,eqF,neG,neF,zDT,zDR,vD,WW,lenD,ltD,zBR,ixD,atI,ixN,this]
end My
namespace My
open PySem L2 DV SM
section
variable {fs:List FI} {E E1 E2 E3 E4:zY}
theorem Q9 {t b:_} {p:Fl × zY} (h:DV.whN (dT fs t) (dB fs b) 1000000 E=.ok p):dS fs (.sWhile t b) E=.ok p:=by
 simp only [dS]; exact Qq (by simp only [DV.sWhile]; exact h)
theorem s_aug {i:Nat} {o:Op2} {a:_} {x y z:Int} (h:E[i]?=some (.val (.int x))) (h1:dE fs a E=.ok (.val (.int y),E)) (hz:o.aug x y=some z) (h2:E.set i (.val (.int z))=E1):dS fs (.sAug i o a) E=.ok (.nx,E1):=by
 subst h2;simp only [dS,DV.sAug,h,h1,R.d,hz,if_true]
end
theorem uE {n:Nat} (h:n < 2 ^ 800):n < Big:=Nat.lt_trans h (by decide +kernel)
theorem GN {i j:Int} (h1:i.natAbs < 2 ^ 800) (h2:j.natAbs < 2 ^ 800):vD (.int i) (.int j)=some (.val (.int (i * j))):=by
 unfold vD;have:WW (.int i) (.int j)=some (.val (.int (i * j))):=by
  simp only [WW];exact if_pos (.inr ⟨uE h1,uE h2⟩)
 rw [this]
theorem zC2 (a b:Nat) (h1:a < 2 ^ 800) (h2:b < 2 ^ 800):vD (.int a) (.int b)=some (.val (.int ((a * b:Nat):Int))):=by
 rw [GN (by simpa using h1) (by simpa using h2)]; simp
theorem GO (t:Int):absG [.int t]=some (.val (.int (t.natAbs:Nat))):=by
 have:(if t < 0 then -t else t)=((t.natAbs:Nat):Int):=by split <;> omega
 simp only [absG,this]
theorem zAA (t:Nat):absG [.int t]=some (.val (.int (t:Nat))):=by
 rw [GO]; simp
theorem zAB (a b:Nat) (h:b≠0):zE5 (.int a) (.int b)=some (.val (.int ((a % b:Nat):Int))):=by
 have:(0:Int) < b:=by omega
 simp only [zE5,zBQ];rw [if_pos (decide_eq_true this)];rfl
theorem WG (a:Int) (b:Nat) (h:0 < b) (h2:b < 2 ^ 800):Gw (.int a) (.int b)=some (.val (.int (a / b))):=by
 simp only [Gw,zBQ];rw [if_pos (decide_eq_true ⟨by omega,.inr (uE (by simpa using h2))⟩)]
theorem yg (d:D) (lo hi:Int) (h:isFn d=false) (hb:QV lo hi d=true):zZ [.val d,.val (.int lo),.val (.int hi)]=.ok (.val .non,[.emp,.emp,.emp]):=by
 have e:=wU d lo hi h;rw [hb] at e;exact f_nx (zR (jF (jP (t_E (zu rfl (zA rfl) (zA rfl) (zA rfl) e)) rfl) jG)) rfl
theorem uF (d:D) (h:okD d) (hb:zDU d=true):jd [.val d]=.ok (.val .non,[.emp]):=by
 have e:=zBG d h;rw [hb] at e;exact f_nx (zR (jF (jP (t_E (jE rfl (zA rfl) e)) rfl) jG)) rfl
theorem W4 (d:D) (m:Int) (h:isFn d=false) (hb:QV 0 (m - 1) d=true):jD [.val d,.val (.int m)]=.ok (.val .non,[.emp,.emp]) :=
 f_nx (zR (jQ (zu rfl (zA rfl) x_c (zt (zA rfl) x_c rfl) (yg d 0 (m - 1) h hb)))) rfl
theorem e_gcd (t:Int) (b:Nat) (hb:b < 2 ^ 800):zf [.val (.int t),.val (.int b)]=.ok (.val (.int (t.natAbs.gcd b:Nat)),[.emp,.emp]):=by
 have w:=WF (c:=dT yC (.tE (.cmp .ne (.var 1) (.c (.int 0))))) (bd:=dB yC (.bOne (.sPar 0 1 (.cons (.var 1) (.cons (.bin .mod (.var 0) (.var 1)) .nil))))) (fun a b=>[.val (.int (a:Nat)),.val (.int (b:Nat))])
  (fun a b=>t_E (wL (zA rfl) x_c (by
   show neG (.int (b:Int)) (.int 0)=_
   rw [ne_int];by_cases z:b=0
   ·subst z; rfl
   ·have:¬ (b:Int)=0:=by omega
    simp [z])))
  (fun a b h=>zR (Q5 (zC (zA rfl) (zC (zt (zA rfl) (zA rfl) (zAB a b h)) zX)) rfl)) 800 1000000 t.natAbs b hb (by omega)
 exact zw (zG (Q5 (zC (Y0 (zC (zA rfl) zX) (GO t)) (zC (Y0 (zC (zA rfl) zX) (zAA b)) zX)) rfl) (zG (Q9 w) (zR (zx (zA rfl))))) rfl
theorem zFW {t b:Nat} (h0:0 < b) (hb:b < 2 ^ 800):0 < t.gcd b∧t.gcd b < 2 ^ 800:=by
 refine ⟨gcd_pos_of_pos_right _ h0,?_⟩;have:=le_of_dvd h0 (gcd_dvd_right t b);exact lt_of_le_of_lt this hb
theorem GP (b g:Nat):((b:Int) / (g:Int))=((b / g:Nat):Int):=by simp
theorem JT (t:Int) (b:Nat) (h0:0 < b) (hb:b < 2 ^ 800):zU [.val (.int t),.val (.int b)]=.ok (.val (nrm t b),[.emp,.emp]):=by
 obtain ⟨g0,g1⟩:=zFW (t:=t.natAbs) h0 hb;have q:eqG (.int (b:Int)) (.int 0)=some (.val (.bl false)):=by
  rw [eq_int,decide_eq_false (by omega)]
 have l:ltD (.int (b:Int)) (.int 0)=some (.val (.bl false)):=by
  simp [ltD,zBR]
 have d1:=WG t _ g0 g1;have d2:=WG b _ g0 g1;rw [GP] at d2;exact zw (zG (jF (t_E (wL (zA rfl) x_c q)) jG) (zG (yJ (zI rfl (zA rfl) (zA rfl) (e_gcd t b hb)) rfl) (zG (jF (t_E (wL (zA rfl) x_c l)) jG) (zR (zx (Y8 (zC (zt (zA rfl) (zA rfl) d1) (zC (zt (zA rfl) (zA rfl) d2) zX)) rfl y3)))))) rfl
theorem zC3 (t:Int) (b:Nat) (hb:b < 2 ^ 800):JR [.val (.int t),.val (.int b)]=.ok (.val (.int (t.natAbs.gcd b:Nat)),[.emp,.emp]):=by
 have w:=WF (c:=dT YB (.tE (.cmp .ne (.var 1) (.c (.int 0))))) (bd:=dB YB (.bOne (.sPar 0 1 (.cons (.var 1) (.cons (.bin .mod (.var 0) (.var 1)) .nil))))) (fun a b=>[.val (.int (a:Nat)),.val (.int (b:Nat))])
  (fun a b=>t_E (wL (zA rfl) x_c (by
   show neG (.int (b:Int)) (.int 0)=_
   rw [ne_int];by_cases z:b=0
   ·subst z; rfl
   ·have:¬ (b:Int)=0:=by omega
    simp [z])))
  (fun a b h=>zR (Q5 (zC (zA rfl) (zC (zt (zA rfl) (zA rfl) (zAB a b h)) zX)) rfl)) 800 1000000 t.natAbs b hb (by omega)
 exact zw (zG (yJ (Y0 (zC (zA rfl) zX) (GO t)) rfl) (zG (yJ (Y0 (zC (zA rfl) zX) (zAA b)) rfl) (zG (Q9 w) (zR (zx (zA rfl)))))) rfl
theorem zAC (t:Int) (b:Nat) (h0:0 < b) (hb:b < 2 ^ 800):j6 [.val (.int t),.val (.int b)]=.ok (.val (nrm t b),[.emp,.emp]):=by
 obtain ⟨g0,g1⟩:=zFW (t:=t.natAbs) h0 hb;have l:ltD (.int (b:Int)) (.int 0)=some (.val (.bl false)):=by
  simp [ltD,zBR]
 have d1:=WG t _ g0 g1;have d2:=WG b _ g0 g1;rw [GP] at d2;exact zw (zG (yJ (zI (F:=JR) rfl (zA rfl) (zA rfl) (zC3 t b hb)) rfl) (zG (jF (t_E (wL (zA rfl) x_c l)) jG) (zR (zx (Y8 (zC (zt (zA rfl) (zA rfl) d1) (zC (zt (zA rfl) (zA rfl) d2) zX)) rfl y3))))) rfl
end My
namespace My
open PySem L2 DV SM
abbrev O1:List DV.Slot:=[.emp]
abbrev O2:List DV.Slot:=[.emp,.emp]
abbrev O3:List DV.Slot:=[.emp,.emp,.emp]
abbrev O4:List DV.Slot:=[.emp,.emp,.emp,.emp]
theorem JI (a b:Nat):QS (.int a) (.int b)=some (.val (.int ((a+b:Nat):Int))):=by simp [QS]
theorem zAt {a b:Nat} (h:b≤a):zE4 (.int (a:Int)) (.int (b:Int))=some (.val (.int ((a - b:Nat):Int))):=by
 simp only [zE4,zBR];rw [Int.ofNat_sub h]
theorem mul_sm0 {i j:Int} (h0:0≤i) (h:i≤100000):WW (.int i) (.int j)=some (.val (.int (i * j))):=by
 simp only [WW];exact if_pos (.inl (.inl ⟨by omega,by omega⟩))
theorem mul_sm1 {i j:Int} (h0:0≤j) (h:j≤100000):WW (.int i) (.int j)=some (.val (.int (i * j))):=by
 simp only [WW];exact if_pos (.inl (.inr ⟨by omega,by omega⟩))
theorem Yx (a b:Nat) (h:a≤100000):vD (.int a) (.int b)=some (.val (.int ((a * b:Nat):Int))):=by
 have:=zC0 (mul_sm0 (i:=(a:Int)) (j:=(b:Int)) (by omega) (by omega));rw [this,Int.natCast_mul]
theorem zBH (a b:Nat) (h:b≤100000):vD (.int a) (.int b)=some (.val (.int ((a * b:Nat):Int))):=by
 have:=zC0 (mul_sm1 (i:=(a:Int)) (j:=(b:Int)) (by omega) (by omega));rw [this,Int.natCast_mul]
theorem zFX (a b:Nat):gtD (.int (a:Int)) (.int (b:Int))=some (.val (.bl (decide (b < a)))):=by
 show some (R.val (D.bl (decide ((b:Int) < a))))=_
 congr 3; simp
theorem lt_nat (a b:Nat):ltD (.int (a:Int)) (.int (b:Int))=some (.val (.bl (decide (a < b)))):=by
 show some (R.val (D.bl (decide ((a:Int) < b))))=_
 congr 3; simp
theorem le_nat (a b:Nat):leD (.int (a:Int)) (.int (b:Int))=some (.val (.bl (decide (a≤b)))):=by
 show some (R.val (D.bl (decide ((a:Int)≤b))))=_
 congr 3; simp
theorem ne_nat (a b:Nat):neG (.int (a:Int)) (.int (b:Int))=some (.val (.bl (!decide (a=b)))):=by
 rw [ne_int]; congr 4; simp [Int.natCast_inj]
theorem zC4 (l:List Int):wx (l.map D.int)=some l:=by
 induction l with
 | nil=>rfl
 | cons a l ih=>simp only [map_cons,wx,ih]; rfl
theorem zC5 (l:List Nat):wx (N l)=some (l.map fun (n:Nat)=>(n:Int)):=by
 have:N l=(l.map fun (n:Nat)=>(n:Int)).map D.int:=by simp [N]
 rw [this,zC4]
theorem zEb (l:List Nat):zFK [.tup (N l)]=some (.val (.int (l.sum:Nat))):=by
 have sc:∀ l:List Nat,(l.map fun (n:Nat)=>(n:Int)).sum=((l.sum:Nat):Int):=fun l=>by
  induction l with
  | nil=>rfl
  | cons a l ih=>simp [ih]
 simp only [zFK,zC5,Option.map_some,sc]
theorem zAu:∀ l:List Nat,(l.map fun (n:Nat)=>(n:Int)).sum=((l.sum:Nat):Int)
 | []=>rfl
 | a::l=>by simp [zAu l]
theorem sum_N (l:List Nat):zFK [.lst (N l)]=some (.val (.int (l.sum:Nat))):=by
 simp only [zFK,zC5,Option.map_some,zAu]
theorem zEc (ds:List D) (h:0 < ds.length):zAT ds none (some (-1))=ds.dropLast:=by
 unfold zAT;have h1:HT.sIx ds.length 0 none=0:=rfl;have h2:HT.sIx ds.length ds.length (some (-1))=ds.length - 1:=by
  simp [HT.sIx]; omega
 rw [h1,h2];simp [List.dropLast_eq_take]
theorem cut_N (e:List Nat) (h:0 < e.length):slD (.lst (N e)) none (some (-1))=some (.own (N e.dropLast)):=by
 have:=zEc (N e) (by rw [W3]; exact h);simp only [slD,this];simp [N,List.map_dropLast]
theorem e_times {fs:List FI} {E E1:zY} {x1 x2:List Str} {c0 ci:Nat} {w:Nat} {l:List Nat} {s:DV.Slot} (hw:w≤1000) (hl:0 < l.length∧l.length≤1000) (hs:s=.own (N l)∨s=.val (.lst (N l))) (h:E[ci]?=some s) (h':E.set ci (.val (.lst (N l)))=E1) (h0:E1[c0]?=some (.val (.int (w:Nat)))) :
  dE fs (.comp 1 x1 x2 [c0] (.iL (.sl (.var ci) .oN (.oS (.neg (.c (.int 1)))))) (.n 0) .tTr (.bin .mul (.var 1) (.var 0))) E=.ok (.own (N (l.dropLast.map (w * ·))),E1):=by
 refine W1 (vs:=[.int (w:Nat)]) (fun d=>match d with | .int e=>.int (w * e) | _=>.non) (i_L (x_sl (x_vA hs h h') o_N (o_S (x_neg x_c)) (cut_N l hl.1)) rfl) (by simp [J4,h0]) (fun d hd=>?_) ?_ ?_
 ·obtain ⟨x,_,rfl⟩:=zC1 hd
  exact ⟨_,zt (zA rfl) (zA rfl) (Yx w x (by omega)),by simp [R.d]⟩
 ·rw [W3]; simp [cap]; omega
 ·simp only [N,map_map]
  refine List.map_congr_left fun x _=>?_
  simp
theorem p27 {n:Nat} (h:n≤80):27 ^ n < 2 ^ 400:=lt_of_le_of_lt (Nat.pow_le_pow_right (by omega) h) (by decide +kernel)
theorem GQ {n:Nat} (h:n < 2 ^ 400):n < 2 ^ 800:=Nat.lt_trans h (by decide +kernel)
theorem zC6:∀ {l:List Nat} {x:Nat},x∈l→x≤l.sum
 | a::l,x,h=>by
  rw [sum_cons];rcases mem_cons.mp h with rfl | h
  ·omega
  ·have:=zC6 h; omega
theorem GR {S n:Nat} (h:S≤27) (hn:n≤80):jW [.val (.int S),.val (.int n)]=.ok (.val (.int (S ^ n:Nat)),[.emp,.emp]):=by
 obtain ⟨E1,f1,s3,hE,h3⟩:=jI (tg:=gN 3) (body:=dB Ji (.bOne (.sAug 2 .mul (.var 0)))) (fun i E=>∃ s3,E=[.val (.int S),.val (.int n),.val (.int (S ^ i:Nat)),s3]∧wH s3=true) (DV.zO 0 n) 0 [.val (.int S),.val (.int n),.val (.int 1),.emp] ⟨.emp,by simp,rfl⟩ (fun i d q E ⟨s3,hE,h3⟩=>by
  obtain ⟨hi,rfl⟩:=JO _ _ _ _ q;rw [zero_add] at hE ⊢;refine ⟨[.val (.int S),.val (.int n),.val (.int (S ^ i:Nat)),.val (.int (0+(i:Int)))],[.val (.int S),.val (.int n),.val (.int (S ^ (i+1):Nat)),.val (.int (0+(i:Int)))],?_,?_,_,rfl,rfl⟩
  ·subst hE; cases s3 <;> first | rfl | (cases h3)
  ·have b1:S ^ i < 2 ^ 800:=GQ (lt_of_le_of_lt (pow_le_pow_left h i) (p27 (by omega)))
   have m:G6 ((S ^ i:Nat):Int) (S:Int)=some ((S ^ (i+1):Nat):Int):=by
    unfold G6;rw [if_pos (.inr ⟨uE (by rw [Int.natAbs_natCast]; exact b1),uE (by rw [Int.natAbs_natCast]; exact lt_of_le_of_lt h (by decide +kernel))⟩),pow_succ,Int.natCast_mul]
   exact zR (s_aug rfl (zA rfl) m rfl))
 rw [jw,zero_add] at hE;subst hE;have tn:((n:Nat):Int).toNat=n:=by omega
 exact zw (zG (yJ x_c rfl) (zG (YD (zC (zA rfl) zX) rfl ⟨by omega,by omega⟩ (by rw [tn]; exact f1)) (zR (zx (zA rfl))))) rfl
end My
namespace SM
end SM
namespace My
open PySem L2 DV SM
theorem zFY {a b:Nat} (h1:a < 2 ^ 400) (h2:b < 2 ^ 400):a * b < 2 ^ 800:=by
 have:2 ^ 400 * 2 ^ 400=2 ^ 800:=by decide +kernel
 rw [← this];exact Nat.mul_lt_mul'' h1 h2
theorem w_pow {w r:Nat} (h:w≤27) (hr:r≤80):w ^ r < 2 ^ 400:=lt_of_le_of_lt (pow_le_pow_left h r) (p27 hr)
theorem s27 {x:Nat} (h:x≤2000):x < 2 ^ 400:=lt_of_le_of_lt h (by decide +kernel)
abbrev wV (die:List Nat):D:=.tup (N die)
theorem N_fn {l:List Nat}:∀ d∈N l,isFn d=false:=fun d hd=>by
 obtain ⟨n,_,rfl⟩:=zC1 hd; rfl
theorem zFZ {die:List Nat} (h:Die die):okD (wV die):=⟨by rw [W3]; rcases h.1 with e | e <;> rw [e] <;> simp [cap],N_fn⟩
theorem die_B {die:List Nat} (h:Die die):zDU (wV die)=true:=by
 have hl:2≤die.length∧die.length≤3:=by rcases h.1 with e | e <;> omega
 have ha:(N die).all (QV 1 9)=true:=by
  rw [all_eq_true];intro d hd;obtain ⟨x,hx,rfl⟩:=zC1 hd;have:=h.2 x hx;simp [QV]; omega
 simp only [zDU,W3,ha,decide_eq_true hl.1,decide_eq_true hl.2,Bool.and_self]
theorem QN {c:Nat}:∀ {l:List Nat},(∀ x∈l,1≤x∧x≤c)→l.length≤l.sum∧l.sum≤l.length * c
 | [],_=>by simp
 | a::l,h=>by
  have h1:=h a mem_cons_self;have ih:=QN (l:=l) (fun x hx=>h x (mem_cons_of_mem _ hx));rw [sum_cons,length_cons,Nat.succ_mul];omega
structure DS (die:List Nat) (s:Nat):Prop where
 ok:Die die
 lt:s < die.length
namespace DS
variable {die:List Nat} {s:Nat}
theorem S27 (h:DS die s):2≤die.sum∧die.sum≤27:=by
 have:=QN h.ok.2;rcases h.ok.1 with e | e <;> rw [e] at this <;> omega
theorem get (h:DS die s):die[s]?=some (die.getD s 0):=by
 rw [getD_eq_getElem?_getD,getElem?_eq_getElem h.lt]; rfl
theorem le (h:DS die s):die.getD s 0≤die.sum:=zC6 (mem_of_getElem? h.get)
theorem wo (h:DS die s):die.getD s 0+(die.sum - die.getD s 0)≤27:=by have:=h.S27; have:=h.le; omega
theorem wo' (h:DS die s):die.getD s 0+(die.sum - die.getD s 0)=die.sum:=by have:=h.le; omega
end DS
theorem zAv {die:List Nat} {s x:Nat} (h:die[s]?=some x):ixD (wV die) (.int s)=some (.val (.int (x:Nat))):=by
 rw [W2,Zs (N_get h)]; rfl
theorem zAD (die:List Nat):lenD [wV die]=some (.val (.int die.length)):=by simp only [lenD,W3]
theorem S_pow {die:List Nat} {s:Nat} (h:DS die s) {n:Nat} (hn:n≤80):0 < die.sum ^ n∧die.sum ^ n < 2 ^ 400 :=
 ⟨pow_pos (by have:=h.S27; omega),lt_of_le_of_lt (pow_le_pow_left h.S27.2 n) (p27 hn)⟩
theorem zAw {n hi:Nat} (h:n≤hi):QV 0 (hi:Int) (.int n)=true:=by
 simp [QV]; omega
theorem zC7 {m sg:Nat} (h:sg < m):QV 0 ((m:Int) - 1) (.int (sg:Nat))=true:=by
 simp [QV]; omega
theorem zEd {die:List Nat} {s:Nat} (h:DS die s):yx [.val (wV die),.val (.int s)]=.ok (.val (.int ((die.sum - die.getD s 0:Nat):Int)),O2) :=
 zw (zR (zx (zt (Y0 (zC (zA rfl) zX) (zEb die)) (yj (zA rfl) (zA rfl) (zAv h.get)) (zAt h.le)))) rfl
theorem zEe {die:List Nat} {s:Nat} (h:DS die s) {n:Nat} (hn:n≤80) (t:Int):jJ [.val (wV die),.val (.int n),.val (.int t)]=.ok (.val (nrm t (die.sum ^ n)),O3):=by
 have sp:=S_pow h hn;exact zw (zR (zx (zI (F:=zU) rfl (zA rfl) (zI (F:=jW) rfl (Y0 (zC (zA rfl) zX) (zEb die)) (zA rfl) (GR h.S27.2 hn)) (JT _ _ sp.1 (GQ sp.2))))) rfl
theorem in_k {k:Nat} (h:1≤k∧k≤8):QV 1 8 (.int k)=true:=by simp [QV]; omega
theorem Yy {die:List Nat} {s:Nat} (h:DS die s) {k:Nat} (hk:1≤k∧k≤8):ze [.val (wV die),.val (.int s),.val (.int k)]=.ok (.val .non,O3) :=
 f_nx (zG (jQ (jE (F:=jd) rfl (zA rfl) (uF _ (zFZ h.ok) (die_B h.ok)))) (zG (jQ (zI (F:=jD) rfl (zA rfl) (Y0 (zC (zA rfl) zX) (zAD die)) (W4 _ _ rfl (zC7 h.lt)))) (zR (jQ (zu (F:=zZ) rfl (zA rfl) x_c QL (yg _ 1 8 rfl (in_k hk))))))) rfl
abbrev dw (die:List Nat) (s:Nat):Nat:=die.getD s 0
abbrev dr (die:List Nat) (s:Nat):Nat:=die.sum - die.getD s 0
def pat2:D→List DV.Slot
 | .tup [a,b]=>[.val a,.val b]
 | _=>[.emp,.emp]
theorem zEf (f:Nat→D) {i n:Nat} (h:i < n):ixD (.lst ((List.range n).map f)) (.int (i:Nat))=some (.val (f i)):=by
 rw [Q6,Zs (d:=f i) (by simp [h])]; rfl
end My
namespace My
open PySem L2 DV SM
end My
namespace DV
open PySem L2
theorem s_ix {fs:List FI} {E E1 E2 E3:zY} {i:Nat} {a b:_} {r:R} {s0:DV.Slot} {k:Int} {ds:List D} {j:Nat} (hs:E[i]?=some s0) (hs':JX (some s0)=false) (h1:dE fs a E=.ok (r,E1)) (h2:dE fs b E1=.ok (.val (.int k),E2)) (h3:E2[i]?=some (.own ds)) (h4:ixN ds.length k=some j) (h5:E2.set i (.own (ds.set j r.d))=E3):dS fs (.sIx i b a) E=.ok (.nx,E3):=by
 subst h5;simp only [dS,WZ,hs,hs',Bool.false_eq_true,if_false,h1,h2,h3,Slot.list?,h4,Slot.put]
theorem x_lenO {fs:List FI} {E:zY} {i:Nat} {ds:List D} (h:E[i]?=some (.own ds)):dE fs (.lenO i) E=.ok (.val (.int ds.length),E):=by simp only [dE,zB7,h]
end DV
namespace My
open PySem L2 DV SM
theorem N_set (l:List Nat) (j x:Nat):(N l).set j (.int (x:Nat))=N (l.set j x):=by simp [N,List.map_set]
theorem GS (p:List D) (hp:Pen p):∃ die p',ja [.par p]=.ok (.val (wV die),[.par p'])∧Pen p'∧Die die:=by
 obtain ⟨r1,p1,e1,l1,u1,hp1⟩:=zn p hp 4 (by decide) (by decide);have ht:∃ t:Nat,ixD (.lst [.int 1,.int 2,.int 9,.int 9]) (.int r1)=some (.val (.int (t:Nat)))∧0 < t∧t≤9:=by
  have:r1=0∨r1=1∨r1=2∨r1=3:=by omega
  rcases this with rfl | rfl | rfl | rfl
  ·exact ⟨1,rfl,by decide,by decide⟩
  ·exact ⟨2,rfl,by decide,by decide⟩
  ·exact ⟨9,rfl,by decide,by decide⟩
  ·exact ⟨9,rfl,by decide,by decide⟩
 obtain ⟨t,ht,t0,t1⟩:=ht;obtain ⟨r2,p2,e2,l2,u2,hp2⟩:=zn p1 hp1 2 (by decide) (by decide);obtain ⟨q2,rfl⟩:=Int.eq_ofNat_of_zero_le l2;obtain ⟨res,E',h1,h2,s,p3,l,hE,hs,hp3,hl,hn⟩:=Wh (tg:=gN 0) (tt:=Qm) (el:=dE yV (.bin .add (.c (.int 1)) (.call 0 (.lend 1 (.ev (.var 2) .nil))))) (fun k E acc=>acc.length=k∧∃ s p l,E=[s,.par p,.val (.int (t:Nat))]∧wH s=true∧Pen p∧acc=N l∧∀ x∈l,1≤x∧x≤9) (DV.zO 0 (2+q2)) 0 [.emp,.par p2,.val (.int (t:Nat))] [] ⟨rfl,.emp,p2,[],rfl,rfl,hp2,rfl,fun x hx=>by cases hx⟩ (by rw [jw]; simp [cap]; omega)
  (fun i d e E acc ⟨ha,s,p,l,hE,hs,hp,hl,hn⟩ hlt=>by
   obtain ⟨r,p',e',l',u',hp'⟩:=zn p hp (t:Nat) (by omega) (by omega);obtain ⟨r,rfl⟩:=Int.eq_ofNat_of_zero_le l';refine ⟨[.val d,.par p,.val (.int (t:Nat))],[.val d,.par p,.val (.int (t:Nat))],.val (.int ((1+r:Nat):Int)),[.val d,.par p',.val (.int (t:Nat))],?_,rfl,?_,by simp [ha],.val d,p',l++[1+r],rfl,rfl,hp',?_,?_⟩
   ·subst hE; cases s <;> first | rfl | (cases hs)
   ·exact zt x_c (jL (F:=zK) rfl rfl (zA rfl) e' rfl) (JI 1 r)
   ·rw [hl]; simp [N,R.d]
   ·intro x hx
    rcases mem_append.mp hx with hx | hx
    ·exact hn x hx
    ·simp at hx; omega)
 subst hE;have cp:dE yV (.comp 1 ["_law_turn"] ["_law_pen","_law_most"] [0,1] (.iR1 (.cons (.bin .add (.c (.int 2)) (.call 0 (.lend 0 (.ev (.c (.int 2)) .nil)))) .nil)) (.n 0) .tTr (.bin .add (.c (.int 1)) (.call 0 (.lend 1 (.ev (.var 2) .nil))))) [.par p1,.val (.int (t:Nat)),.emp]=.ok (.own (N l),[.par p3,.val (.int (t:Nat)),.emp]):=by
  have hi:=i_R1 (fs:=yV) (E:=[.par p1,.val (.int (t:Nat)),.emp]) (E1:=[.par p2,.val (.int (t:Nat)),.emp]) (a:=.cons (.bin .add (.c (.int 2)) (.call 0 (.lend 0 (.ev (.c (.int 2)) .nil)))) .nil) (zC (zt x_c (jL (F:=zK) rfl rfl x_c e2 rfl) (JI 2 q2)) zX) (j:=((2+q2:Nat):Int)) rfl ⟨by omega,by omega⟩;rw [show (((2+q2:Nat):Int)).toNat=2+q2 by omega] at hi;simp only [dE] at h1 ⊢;refine Qp ?_;simp only [Tg.m,dT];rw [← hl];simp [We,hi,J4,Slot.list?,zJ,h1,yF,zH,Slot.put]
 have hl2:l.length=2+q2:=by
  have:=congrArg List.length hl;rw [W3] at this;rw [← this,h2,jw]; omega
 obtain ⟨r4,p4,e4,l4,u4,hp4⟩:=zn p3 hp3 6 (by decide) (by decide);have q:=eq_int r4 0;by_cases c:r4=0
 ·rw [decide_eq_true c] at q
  obtain ⟨r5,p5,e5,l5,u5,hp5⟩:=zn p4 hp4 (l.length:Int) (by omega) (by omega);obtain ⟨j,rfl⟩:=Int.eq_ofNat_of_zero_le l5;have ix:ixN (N l).length (j:Int)=some j:=by
   have:(j:Int) < ((N l).length:Nat):=by rw [W3]; exact u5
   unfold ixN;rw [if_pos (by omega)];simp [this]
  refine ⟨l.set j 9,p5,?_,hp5,by rw [List.length_set]; omega,fun x hx=>?_⟩
  ·have lo:dE yV (.lenO 2) [.par p4,.val (.int (t:Nat)),.own (N l)]=.ok (.val (.int (l.length:Nat)),[.par p4,.val (.int (t:Nat)),.own (N l)]):=by
    have:=x_lenO (fs:=yV) (E:=[.par p4,.val (.int (t:Nat)),.own (N l)]) (i:=2) rfl;rw [W3] at this;exact this
   exact zw (zG (yJ (yj (Wz (zC x_c (zC x_c (zC x_c (zC x_c zX)))) rfl (by simp [cap])) (jL (F:=zK) rfl rfl x_c e1 rfl) ht) rfl) (zG (yJ cp rfl) (zG (zCu (t_E (wL (jL (F:=zK) rfl rfl x_c e4 rfl) x_c q)) (zR (s_ix rfl rfl x_c (jL (F:=zK) rfl rfl lo e5 rfl) rfl ix (by rw [show (R.val (D.int 9)).d=.int ((9:Nat):Int) from rfl,N_set])))) (zR (zx (Y0 (zC (uC rfl rfl) zX) rfl)))))) rfl
  ·rcases List.mem_or_eq_of_mem_set hx with hx | rfl
   ·exact hn x hx
   ·omega
 ·rw [decide_eq_false c] at q
  refine ⟨l,p4,?_,hp4,by omega,hn⟩;exact zw (zG (yJ (yj (Wz (zC x_c (zC x_c (zC x_c (zC x_c zX)))) rfl (by simp [cap])) (jL (F:=zK) rfl rfl x_c e1 rfl) ht) rfl) (zG (yJ cp rfl) (zG (jF (t_E (wL (jL (F:=zK) rfl rfl x_c e4 rfl) x_c q)) jG) (zR (zx (Y0 (zC (uC rfl rfl) zX) rfl)))))) rfl
end My
namespace SM
open PySem L2 DV
theorem mul_nrm {t1 t2 T:Int} {b1 b2 B:Nat} (h1:0 < b1) (h2:0 < b2) (hB:0 < B) (h:t1 * t2 * B=T * (b1 * b2:Nat)):nrm (JS t1 b1 * JS t2 b2) (wX t1 b1 * wX t2 b2)=nrm T B:=by
 have c1:=zCz t1 b1;have c2:=zCz t2 b2;have p1:=JH t1 h1;have p2:=JH t2 h2;generalize JS t1 b1=x1 at *;generalize wX t1 b1=y1 at *;generalize JS t2 b2=x2 at *;generalize wX t2 b2=y2 at *;refine zCy (mul_pos p1 p2) hB ?_;rw [Int.natCast_mul] at h ⊢;have hb:((b1:Int) * b2)≠0:=by
  have:0 < (b1:Int) * b2:=Int.mul_pos (by omega) (by omega);omega
 apply Int.eq_of_mul_eq_mul_right hb;have e1:x1 * x2 * (B:Int) * (b1 * b2)=(x1 * b1) * (x2 * b2) * B:=by grind
 have e2:T * ((y1:Int) * y2) * (b1 * b2)=T * (b1 * b2) * (y1 * y2):=by grind
 rw [e1,e2,c1,c2,← h]
 grind
theorem zAx {B:Nat} (h:0 < B):nrm 0 B=.tup [.int 0,.int 1]:=by
 simp [nrm,JS,wX,Nat.div_self h]
def Pt (S w:Nat):Nat→Nat
 | 0=>0
 | t+1=>(Pt S w t+w ^ t) * S
theorem zC8 (S w:Nat):∀ t,Pt S w (t+1)=Pt S w t * w+S ^ (t+1)
 | 0=>by simp [Pt]
 | t+1=>by
  have ih:=zC8 S w t;have e:Pt S w (t+1+1)=(Pt S w (t+1)+w ^ (t+1)) * S:=rfl;rw [e];have e2:Pt S w (t+1)=(Pt S w t+w ^ t) * S:=rfl;have:(Pt S w (t+1)+w ^ (t+1)) * S=(Pt S w t+w ^ t) * S * w+S ^ (t+1+1):=by
   rw [ih]
   grind
  rw [this,← e2]
def Rt (S w j:Nat):Nat→Nat
 | 0=>0
 | m+1=>Rt S w j m * w+S ^ (j+m+1)
theorem Pt_Rt (S w j:Nat):∀ m,Pt S w (j+m)=Pt S w j * w ^ m+Rt S w j m
 | 0=>by simp [Rt]
 | m+1=>by
  rw [show j+(m+1)=j+m+1 from rfl,zC8,Pt_Rt S w j m];simp only [Rt]
  grind
theorem Pt_le {S w:Nat} (hS:S≤27) (hw:w≤S):∀ t,Pt S w t≤t * 27 ^ t
 | 0=>by simp [Pt]
 | t+1=>by
  have ih:=Pt_le hS hw t;have h1:w ^ t≤27 ^ t:=pow_le_pow_left (by omega) t;have h2:Pt S w t+w ^ t≤(t+1) * 27 ^ t:=by rw [add_mul]; omega
  have:=mul_le_mul h2 hS;rw [pow_succ,← mul_assoc];exact this
end SM
namespace My
open PySem L2 DV SM
theorem zAy {t:Int} {b:Nat} (h:t.natAbs < 2 ^ 800):(JS t b).natAbs < 2 ^ 800:=lt_of_le_of_lt (Int.natAbs_ediv_le_natAbs _ _) h
theorem uG {t:Int} {b L:Nat} (h:b < L):wX t b < L:=lt_of_le_of_lt (div_le_self _ _) h
theorem zC9 {t1 t2:Int} {b1 b2:Nat} (h:b1 * b2 < 2 ^ 800):wX t1 b1 * wX t2 b2 < 2 ^ 800:=lt_of_le_of_lt (mul_le_mul (div_le_self _ _) (div_le_self _ _)) h
theorem f_mul {b1 b2 L:Nat} (h:b1 * b2 < L) (h2:0 < b2):b1 < L:=lt_of_le_of_lt (Nat.le_mul_of_pos_right b1 h2) h
theorem zDA {b1 b2 L:Nat} (h:b1 * b2 < L) (h1:0 < b1):b2 < L:=lt_of_le_of_lt (Nat.le_mul_of_pos_left b2 h1) h
theorem e_plus {t1 t2 T:Int} {b1 b2 B:Nat} (h1:0 < b1) (h2:0 < b2) (hB:0 < B) (a1:t1.natAbs < 2 ^ 800) (a2:t2.natAbs < 2 ^ 800) (hb:b1 * b2 < 2 ^ 800) (h:(t1 * b2+t2 * b1) * B=T * (b1 * b2:Nat)) :
  yb [.val (nrm t1 b1),.val (nrm t2 b2)]=.ok (.val (nrm T B),O2):=by
 have p1:=JH t1 h1;have p2:=JH t2 h2;have m1:=GN (i:=JS t1 b1) (j:=((wX t2 b2:Nat):Int)) (zAy a1) (by rw [Int.natAbs_natCast]; exact uG (zDA hb h1));have m2:=GN (i:=JS t2 b2) (j:=((wX t1 b1:Nat):Int)) (zAy a2) (by rw [Int.natAbs_natCast]; exact uG (f_mul hb h2));have m3:=zC2 (wX t1 b1) (wX t2 b2) (uG (f_mul hb h2)) (uG (zDA hb h1));have ad:QS (.int (JS t1 b1 * ((wX t2 b2:Nat):Int))) (.int (JS t2 b2 * ((wX t1 b1:Nat):Int)))=some (.val (.int (JS t1 b1 * ((wX t2 b2:Nat):Int)+JS t2 b2 * ((wX t1 b1:Nat):Int)))):=rfl;have sh:=JT (JS t1 b1 * ((wX t2 b2:Nat):Int)+JS t2 b2 * ((wX t1 b1:Nat):Int)) (wX t1 b1 * wX t2 b2) (mul_pos p1 p2) (zC9 hb);rw [add_nrm h1 h2 hB h] at sh;exact zw (zR (zx (zI (F:=zU) rfl (zt (zt (yj (zA rfl) x_c rfl) (yj (zA rfl) x_c rfl) m1) (zt (yj (zA rfl) x_c rfl) (yj (zA rfl) x_c rfl) m2) ad) (zt (yj (zA rfl) x_c rfl) (yj (zA rfl) x_c rfl) m3) sh))) rfl
theorem zEg {t1 t2 T:Int} {b1 b2 B:Nat} (h1:0 < b1) (h2:0 < b2) (hB:0 < B) (a1:t1.natAbs < 2 ^ 800) (a2:t2.natAbs < 2 ^ 800) (hb:b1 * b2 < 2 ^ 800) (h:t1 * t2 * B=T * (b1 * b2:Nat)) :
  zg [.val (nrm t1 b1),.val (nrm t2 b2)]=.ok (.val (nrm T B),O2):=by
 have p1:=JH t1 h1;have p2:=JH t2 h2;have m1:=GN (i:=JS t1 b1) (j:=JS t2 b2) (zAy a1) (zAy a2);have m3:=zC2 (wX t1 b1) (wX t2 b2) (uG (f_mul hb h2)) (uG (zDA hb h1));have sh:=JT (JS t1 b1 * JS t2 b2) (wX t1 b1 * wX t2 b2) (mul_pos p1 p2) (zC9 hb);rw [mul_nrm h1 h2 hB h] at sh;exact zw (zR (zx (zI (F:=zU) rfl (zt (yj (zA rfl) x_c rfl) (yj (zA rfl) x_c rfl) m1) (zt (yj (zA rfl) x_c rfl) (yj (zA rfl) x_c rfl) m3) sh))) rfl
abbrev pS (S w i:Nat):D:=nrm ((S ^ i:Nat):Int) (w ^ i)
theorem wW {x i:Nat} (hx:x≤27) (hi:i≤40):x ^ i < 2 ^ 400:=w_pow hx (by omega)
theorem zBI {x y i j:Nat} (hx:x≤27) (hi:i≤40) (hy:y≤27) (hj:j≤40):x ^ i * y ^ j < 2 ^ 800:=zFY (wW hx hi) (wW hy hj)
theorem e_spow {S w:Nat} (hS:S≤27) (hw:0 < w∧w≤27) {i:Nat} (hi:i≤20):yP [.val (nrm (S:Int) w),.val (.int (i:Nat))]=.ok (.val (pS S w i),O2):=by
 obtain ⟨E1,f1,s3,hE,h3⟩:=jI (tg:=gN 3) (body:=dB wI jg) (fun j E=>∃ s3,E=[.val (nrm (S:Int) w),.val (.int (i:Nat)),.val (pS S w j),s3]∧wH s3=true) (DV.zO 0 i) 0 [.val (nrm (S:Int) w),.val (.int (i:Nat)),.val (.tup [.int 1,.int 1]),.emp] ⟨.emp,by simp [pS,nrm,JS,wX],rfl⟩ (fun j d q E ⟨s3,hE,h3⟩=>by
  obtain ⟨hj,rfl⟩:=JO _ _ _ _ q;rw [zero_add] at hE ⊢;have et:=zEg (t1:=((S ^ j:Nat):Int)) (b1:=w ^ j) (t2:=(S:Int)) (b2:=w) (T:=((S ^ (j+1):Nat):Int)) (B:=w ^ (j+1)) (pow_pos hw.1) hw.1 (pow_pos hw.1) (by rw [Int.natAbs_natCast]; exact GQ (wW hS (by omega))) (by rw [Int.natAbs_natCast]; exact GQ (s27 (by omega))) (by rw [← pow_succ]; exact GQ (wW hw.2 (by omega))) (by rw [pow_succ,pow_succ]; simp only [Int.natCast_mul]);refine ⟨[.val (nrm (S:Int) w),.val (.int (i:Nat)),.val (pS S w j),.val (.int (0+(j:Int)))],[.val (nrm (S:Int) w),.val (.int (i:Nat)),.val (pS S w (j+1)),.val (.int (0+(j:Int)))],?_,?_,_,rfl,rfl⟩
  ·subst hE; cases s3 <;> first | rfl | (cases h3)
  ·exact zR (yJ (zI (F:=zg) rfl (zA rfl) (zA rfl) et) rfl))
 rw [jw,zero_add] at hE;subst hE;exact zw (zG (yJ QL rfl) (zG (YD (j:=(i:Int)) (zC (zA rfl) zX) rfl ⟨by omega,by omega⟩ (by rw [Int.toNat_natCast]; exact f1)) (zR (zx (zA rfl))))) rfl
abbrev rS (S w j m:Nat):D:=nrm ((Rt S w j m:Nat):Int) (w ^ (j+m))
theorem Rt_lt {S w j:Nat} (hS:S≤27) (hw:w≤S) {m:Nat} (h:j+m≤20):Rt S w j m < 2 ^ 800:=by
 have e:=Pt_Rt S w j m;have l:=Pt_le hS hw (j+m);have l2:(j+m) * 27 ^ (j+m) < 2 ^ 800:=zFY (s27 (by omega)) (wW (by omega) (by omega));omega
theorem e_ssum {S w j k:Nat} (hS:S≤27) (hw:0 < w∧w≤S) (hj:j < k) (hk:k≤8):wf [.val (.lst (((List.range (k+1)).map (pS S w)).drop (j+1)))]=.ok (.val (rS S w j (k - j)),O1):=by
 have len:(((List.range (k+1)).map (pS S w)).drop (j+1)).length=k - j:=by simp
 obtain ⟨E1,f1,s2,hE,h2⟩:=jI (tg:=gN 2) (body:=dB Zb Yd) (fun m E=>∃ s2,E=[.val (.lst (((List.range (k+1)).map (pS S w)).drop (j+1))),.val (rS S w j m),s2]∧wH s2=true) (((List.range (k+1)).map (pS S w)).drop (j+1)) 0 [.val (.lst (((List.range (k+1)).map (pS S w)).drop (j+1))),.val (.tup [.int 0,.int 1]),.emp] ⟨.emp,by rw [show rS S w j 0=.tup [.int 0,.int 1] from zAx (pow_pos hw.1)],rfl⟩ (fun m d q E ⟨s2,hE,h2⟩=>by
  have hm:m < k - j:=by rw [← len]; exact (List.getElem?_eq_some_iff.mp q).1
  rw [zero_add] at hE ⊢;have ed:d=pS S w (j+m+1):=by
   rw [List.getElem?_drop,getElem?_map,List.getElem?_range (by omega),Option.map_some] at q;rw [← Option.some.inj q,show j+1+m=j+m+1 by omega]
  subst ed;have et:=e_plus (t1:=((Rt S w j m:Nat):Int)) (b1:=w ^ (j+m)) (t2:=((S ^ (j+m+1):Nat):Int)) (b2:=w ^ (j+m+1)) (T:=((Rt S w j (m+1):Nat):Int)) (B:=w ^ (j+(m+1))) (pow_pos hw.1) (pow_pos hw.1) (pow_pos hw.1) (by rw [Int.natAbs_natCast]; exact Rt_lt hS hw.2 (by omega)) (by rw [Int.natAbs_natCast]; exact GQ (wW hS (by omega))) (zBI (by omega) (by omega) (by omega) (by omega)) (by
   have e:((Rt S w j (m+1):Nat):Int)=(Rt S w j m:Nat) * (w:Int)+((S ^ (j+m+1):Nat):Int):=by simp only [Rt,Int.natCast_add,Int.natCast_mul]
   rw [e,show j+(m+1)=j+m+1 from rfl,pow_succ w (j+m)];simp only [Int.natCast_mul]
   grind)
  refine ⟨[.val (.lst (((List.range (k+1)).map (pS S w)).drop (j+1))),.val (rS S w j m),.val (pS S w (j+m+1))],[.val (.lst (((List.range (k+1)).map (pS S w)).drop (j+1))),.val (rS S w j (m+1)),.val (pS S w (j+m+1))],?_,?_,_,rfl,rfl⟩
  ·subst hE; cases s2 <;> first | rfl | (cases h2)
  ·exact zR (yJ (zI (F:=yb) rfl (zA rfl) (zA rfl) et) rfl))
 rw [len,zero_add] at hE;subst hE;exact zw (zG (yJ QL rfl) (zG (zFS (zA rfl) rfl f1) (zR (zx (zA rfl))))) rfl
abbrev wS (die:List Nat) (s k j:Nat):D:=nrm ((Rt die.sum (dw die s) j (k - j):Nat):Int) (dw die s ^ (j+(k - j)))
theorem x_frz {fs:List FI} {E E1:zY} {a:_} {r:R} (h:dE fs a E=.ok (r,E1)):dE fs (.frz a) E=.ok (.val r.d,E1):=by simp only [dE,eFrz,h]
theorem zAz {fs:List FI} {E:zY} {a:_} {n:Nat} (hn:n≤1000) (h:dE fs a E=.ok (.val (.int (n:Nat)),E)):dI fs (.iR1 (.cons a .nil)) E=.ok (N (List.range n),E):=by
 have:=i_R1 (fs:=fs) (E:=E) (a:=.cons a .nil) (j:=(n:Int)) (zC h zX) rfl ⟨by omega,by omega⟩;rw [Int.toNat_natCast,ints_N] at this;exact this
theorem map_N (f:Nat→D) (n:Nat):(N (List.range n)).map (fun d=>match d with | .int i=>f i.toNat | d=>d)=(List.range n).map f:=by
 simp only [N,map_map];refine List.map_congr_left fun i _=>?_
 simp
theorem JJ {die:List Nat} {s:Nat} (h:DS die s) {k:Nat} (hk:1≤k∧k≤8):yN [.val (wV die),.val (.int s),.val (.int k)]=.ok (.own ((List.range k).map (wS die s k)),O3):=by
 have hS:=h.S27;have w1:=(h.ok.2 _ (mem_of_getElem? h.get));have hwS:dw die s≤die.sum:=h.le;have hw:0 < dw die s∧dw die s≤9:=⟨w1.1,w1.2⟩;have a1:QS (.int (k:Nat)) (.int 1)=some (.val (.int ((k+1:Nat):Int))):=JI k 1;have c1:dE Yj (.comp 1 ["i"] ["die","sign"] [0,1] (.iR1 (.cons (.bin .add (.var 2) (.c (.int 1))) .nil)) (.n 0) .tTr (.call 1 (.ev (.call 2 (.ev (.cB .sum (.cons (.var 1) .nil)) (.ev (.ix (.var 1) (.var 2)) .nil))) (.ev (.var 0) .nil)))) [.val (wV die),.val (.int s),.val (.int k),.emp]=.ok (.own ((List.range (k+1)).map (pS die.sum (dw die s))),[.val (wV die),.val (.int s),.val (.int k),.emp]):=by
  refine W1 (vs:=[wV die,.int s]) (fun d=>match d with | .int i=>pS die.sum (dw die s) i.toNat | d=>d) (zAz (n:=k+1) (by omega) (zt (zA rfl) x_c a1)) rfl (fun d hd=>?_) (by rw [W3]; simp [cap]; omega) (map_N _ _)
  obtain ⟨i,hi,rfl⟩:=zC1 hd;have hi:=mem_range.mp hi;exact ⟨_,zI (F:=yP) rfl (zI (F:=zU) rfl (Y0 (zC (zA rfl) zX) (zEb die)) (yj (zA rfl) (zA rfl) (zAv h.get)) (JT (die.sum:Int) (dw die s) hw.1 (GQ (s27 (by omega))))) (zA rfl) (e_spow hS.2 ⟨hw.1,by omega⟩ (by omega)),by simp [R.d]⟩
 refine zw (E1:=[.val (wV die),.val (.int s),.val (.int k),.val (.lst ((List.range (k+1)).map (pS die.sum (dw die s))))]) ?_ rfl;refine zG (jQ (zu (F:=ze) rfl (zA rfl) (zA rfl) (zA rfl) (Yy h hk))) (zG (yJ (x_frz c1) rfl) ?_);refine zR (zx (W1 (vs:=[.lst ((List.range (k+1)).map (pS die.sum (dw die s)))]) (fun d=>match d with | .int i=>wS die s k i.toNat | d=>d) (zAz (n:=k) (by omega) (zA rfl)) rfl (fun d hd=>?_) (by rw [W3]; simp [cap]; omega) (map_N _ _)))
 obtain ⟨j,hj,rfl⟩:=zC1 hd;have hj:=mem_range.mp hj;have aj:QS (.int (j:Nat)) (.int 1)=some (.val (.int ((j+1:Nat):Int))):=JI j 1;have sl:slD (.lst ((List.range (k+1)).map (pS die.sum (dw die s)))) (some ((j+1:Nat):Int)) none=some (.own (((List.range (k+1)).map (pS die.sum (dw die s))).drop (j+1))):=by
  simp only [slD]; rw [zAr _ (j+1) (by simp; omega)]
 exact ⟨_,jE (F:=wf) rfl (x_sl (zA rfl) (o_S (zt (zA rfl) x_c aj)) o_N sl) (e_ssum hS.2 ⟨hw.1,hwS⟩ hj hk.2),rfl⟩
theorem e_mean {die:List Nat} {s:Nat} (h:DS die s) {k:Nat} (hk:1≤k∧k≤8):j5 [.val (wV die),.val (.int s),.val (.int k)]=.ok (.val (wS die s k 0),O3) :=
 zw (zR (zx (yj (zu (F:=yN) rfl (zA rfl) (zA rfl) (zA rfl) (JJ h hk)) x_c (zEf (wS die s k) (i:=0) hk.1)))) rfl
end My
namespace My
open PySem L2 DV SM
theorem zFa:Big=2 ^ 4000:=by unfold Big; exact rfl
theorem mul_Big {i j:Int} (h1:i.natAbs < Big) (h2:j.natAbs < Big):vD (.int i) (.int j)=some (.val (.int (i * j))):=by
 unfold vD;have:WW (.int i) (.int j)=some (.val (.int (i * j))):=by
  simp only [WW];exact if_pos (.inr ⟨h1,h2⟩)
 rw [this]
theorem y4 {a b:Nat} (h1:a < Big) (h2:b < Big):vD (.int (a:Nat)) (.int (b:Nat))=some (.val (.int ((a * b:Nat):Int))):=by
 rw [mul_Big (by rw [Int.natAbs_natCast]; exact h1) (by rw [Int.natAbs_natCast]; exact h2),Int.natCast_mul]
theorem zA0 (a:Int) (b:Nat) (h:0 < b) (h2:b < Big):Gw (.int a) (.int b)=some (.val (.int (a / b))):=by
 simp only [Gw,zBQ];rw [if_pos (decide_eq_true ⟨by omega,.inr (by rw [Int.natAbs_natCast]; exact h2)⟩)]
theorem zFb (t:Int) (b:Nat) (hb:b < Big):zf [.val (.int t),.val (.int b)]=.ok (.val (.int (t.natAbs.gcd b:Nat)),[.emp,.emp]):=by
 rw [zFa] at hb;have w:=WF (c:=dT yC (.tE (.cmp .ne (.var 1) (.c (.int 0))))) (bd:=dB yC jT) (fun a b=>[.val (.int (a:Nat)),.val (.int (b:Nat))])
  (fun a b=>t_E (wL (zA rfl) x_c (by
   show neG (.int (b:Int)) (.int 0)=_
   rw [ne_int];by_cases z:b=0
   ·subst z; rfl
   ·have:¬ (b:Int)=0:=by omega
    simp [z])))
  (fun a b h=>zR (Q5 (zC (zA rfl) (zC (zt (zA rfl) (zA rfl) (zAB a b h)) zX)) rfl)) 4000 1000000 t.natAbs b hb (by decide)
 exact zw (zG (Q5 (zC (Y0 (zC (zA rfl) zX) (GO t)) (zC (Y0 (zC (zA rfl) zX) (zAA b)) zX)) rfl) (zG (Q9 w) (zR (zx (zA rfl))))) rfl
theorem zAE (t:Int) (b:Nat) (h0:0 < b) (hb:b < Big):zU [.val (.int t),.val (.int b)]=.ok (.val (nrm t b),[.emp,.emp]):=by
 have g0:0 < t.natAbs.gcd b:=gcd_pos_of_pos_right _ h0;have g1:t.natAbs.gcd b < Big:=lt_of_le_of_lt (le_of_dvd h0 (gcd_dvd_right _ _)) hb;have q:eqG (.int (b:Int)) (.int 0)=some (.val (.bl false)):=by
  rw [eq_int,decide_eq_false (by omega)]
 have l:ltD (.int (b:Int)) (.int 0)=some (.val (.bl false)):=by
  simp [ltD,zBR]
 have d1:=zA0 t _ g0 g1;have d2:=zA0 b _ g0 g1;rw [GP] at d2;exact zw (zG (jF (t_E (wL (zA rfl) x_c q)) jG) (zG (yJ (zI (F:=zf) rfl (zA rfl) (zA rfl) (zFb t b hb)) rfl) (zG (jF (t_E (wL (zA rfl) x_c l)) jG) (zR (zx (Y8 (zC (zt (zA rfl) (zA rfl) d1) (zC (zt (zA rfl) (zA rfl) d2) zX)) rfl y3)))))) rfl
abbrev nn (a b:Nat):D:=nrm ((a:Nat):Int) b
abbrev tp (a b:Nat):Nat:=a / a.gcd b
abbrev bt (a b:Nat):Nat:=b / a.gcd b
theorem wq (a b:Nat):nn a b=.tup [.int (tp a b:Nat),.int (bt a b:Nat)]:=by
 show D.tup [.int (JS (a:Int) b),.int (wX (a:Int) b:Nat)]=_
 rw [GK]; rfl
theorem Ju {a b:Nat} (h:0 < b):0 < bt a b:=div_pos (le_of_dvd h (gcd_dvd_right _ _)) (gcd_pos_of_pos_right _ h)
theorem zDB {a b:Nat} (h:0 < a):0 < tp a b:=div_pos (le_of_dvd h (gcd_dvd_left _ _)) (Nat.gcd_pos_of_pos_left _ h)
theorem W5 (a b:Nat):tp a b≤a:=div_le_self _ _
theorem JK (a b:Nat):bt a b≤b:=div_le_self _ _
theorem crn (a b:Nat):tp a b * b=a * bt a b:=by
 have c:=zCz (a:Int) b;rw [GK] at c;have c':((tp a b * b:Nat):Int)=((a * bt a b:Nat):Int):=by rw [Int.natCast_mul,Int.natCast_mul]; exact c
 exact Int.ofNat.inj c'
theorem zAF {T B W b:Nat} (hB:0 < B) (hb:0 < b) (h:T * b=W * B):nn T B=nn W b:=zCy hB hb (by rw [← Int.natCast_mul,← Int.natCast_mul,h])
theorem nn_co (a:Nat) {b:Nat} (h:0 < b):(tp a b).gcd (bt a b)=1:=by
 have hg:0 < a.gcd b:=gcd_pos_of_pos_right _ h;rw [Nat.gcd_div (gcd_dvd_left _ _) (gcd_dvd_right _ _),Nat.div_self hg]
theorem lt_cr {a b c d:Nat} (hb:0 < b) (hd:0 < d):tp a b * bt c d < tp c d * bt a b↔a * d < c * b:=by
 have c1:=crn a b;have c2:=crn c d;have p1:=Ju (a:=a) hb;have p2:=Ju (a:=c) hd;generalize tp a b=x at *;generalize bt a b=y at *;generalize tp c d=u at *;generalize bt c d=v at *;have pp:0 < b * d:=mul_pos hb hd;have pq:0 < y * v:=mul_pos p1 p2;have e1:x * v * (b * d)=a * d * (y * v):=by rw [show x * v * (b * d)=(x * b) * (v * d) by grind,c1]; grind
 have e2:u * y * (b * d)=c * b * (y * v):=by rw [show u * y * (b * d)=(u * d) * (y * b) by grind,c2]; grind
 constructor
 ·intro h
  have:=Nat.mul_lt_mul_of_pos_right h pp;rw [e1,e2] at this;exact Nat.lt_of_mul_lt_mul_right this
 ·intro h
  have:=Nat.mul_lt_mul_of_pos_right h pq;rw [← e1,← e2] at this;exact Nat.lt_of_mul_lt_mul_right this
theorem le_cr {a b c d:Nat} (hb:0 < b) (hd:0 < d):tp a b * bt c d≤tp c d * bt a b↔a * d≤c * b:=by
 have:=lt_cr (a:=c) (b:=d) (c:=a) (d:=b) hd hb;omega
theorem Yz (t b:Nat) (h0:0 < b) (hb:b < Big):zU [.val (.int (t:Nat)),.val (.int (b:Nat))]=.ok (.val (nn t b),O2):=zAE _ b h0 hb
theorem by_nn {a b c d T B:Nat} (hb:0 < b) (hc:0 < c) (hd:0 < d) (hB:0 < B) (l1:a < Big) (l2:d < Big) (l3:b * c < Big) (h:a * d * B=T * (b * c)):jc [.val (nn a b),.val (nn c d)]=.ok (.val (nn T B),O2):=by
 rw [wq a b,wq c d];have y1:=Ju (a:=a) hb;have x2:=zDB (b:=d) hc;have m1:=y4 (a:=tp a b) (b:=bt c d) (lt_of_le_of_lt (W5 _ _) l1) (lt_of_le_of_lt (JK _ _) l2);have m2:=y4 (a:=bt a b) (b:=tp c d) (lt_of_le_of_lt (JK _ _) (lt_of_le_of_lt (Nat.le_mul_of_pos_right b hc) l3)) (lt_of_le_of_lt (W5 _ _) (lt_of_le_of_lt (Nat.le_mul_of_pos_left c hb) l3));have sh:=Yz (tp a b * bt c d) (bt a b * tp c d) (mul_pos y1 x2) (lt_of_le_of_lt (mul_le_mul (JK _ _) (W5 _ _)) l3);have en:nn (tp a b * bt c d) (bt a b * tp c d)=nn T B:=by
  refine zAF (mul_pos y1 x2) hB ?_;have c1:=crn a b;have c2:=crn c d;generalize tp a b=x at *;generalize bt a b=y at *;generalize tp c d=u at *;generalize bt c d=v at *;have pos:0 < b * c:=mul_pos hb hc;apply Nat.eq_of_mul_eq_mul_right pos;have e1:x * v * B * (b * c)=(x * b) * (c * v) * B:=by grind
  rw [e1,c1,← c2];have e2:a * y * (u * d) * B=(a * d * B) * (y * u):=by grind
  rw [e2,h]; grind
 rw [en] at sh;exact zw (zR (zx (zI (F:=zU) rfl (zt (yj (zA rfl) x_c rfl) (yj (zA rfl) x_c rfl) m1) (zt (yj (zA rfl) x_c rfl) (yj (zA rfl) x_c rfl) m2) sh))) rfl
theorem WH {a b c d T B:Nat} (hb:0 < b) (hd:0 < d) (hB:0 < B) (l1:a < Big) (l2:c < Big) (l3:b * d < Big) (h:a * c * B=T * (b * d)):zg [.val (nn a b),.val (nn c d)]=.ok (.val (nn T B),O2):=by
 rw [wq a b,wq c d];have y1:=Ju (a:=a) hb;have y2:=Ju (a:=c) hd;have m1:=y4 (a:=tp a b) (b:=tp c d) (lt_of_le_of_lt (W5 _ _) l1) (lt_of_le_of_lt (W5 _ _) l2);have m2:=y4 (a:=bt a b) (b:=bt c d) (lt_of_le_of_lt (JK _ _) (lt_of_le_of_lt (Nat.le_mul_of_pos_right b hd) l3)) (lt_of_le_of_lt (JK _ _) (lt_of_le_of_lt (Nat.le_mul_of_pos_left d hb) l3));have sh:=Yz (tp a b * tp c d) (bt a b * bt c d) (mul_pos y1 y2) (lt_of_le_of_lt (mul_le_mul (JK _ _) (JK _ _)) l3);have en:nn (tp a b * tp c d) (bt a b * bt c d)=nn T B:=by
  refine zAF (mul_pos y1 y2) hB ?_;have c1:=crn a b;have c2:=crn c d;generalize tp a b=x at *;generalize bt a b=y at *;generalize tp c d=u at *;generalize bt c d=v at *;have pos:0 < b * d:=mul_pos hb hd;apply Nat.eq_of_mul_eq_mul_right pos;have e1:x * u * B * (b * d)=(x * b) * (u * d) * B:=by grind
  rw [e1,c1,c2];have e2:a * y * (c * v) * B=(a * c * B) * (y * v):=by grind
  rw [e2,h]; grind
 rw [en] at sh;exact zw (zR (zx (zI (F:=zU) rfl (zt (yj (zA rfl) x_c rfl) (yj (zA rfl) x_c rfl) m1) (zt (yj (zA rfl) x_c rfl) (yj (zA rfl) x_c rfl) m2) sh))) rfl
theorem plus_nn {a b c d T B:Nat} (hb:0 < b) (hd:0 < d) (hB:0 < B) (l1:a < Big) (l2:c < Big) (l3:b * d < Big) (h:(a * d+c * b) * B=T * (b * d)):yb [.val (nn a b),.val (nn c d)]=.ok (.val (nn T B),O2):=by
 rw [wq a b,wq c d];have y1:=Ju (a:=a) hb;have y2:=Ju (a:=c) hd;have b1:bt a b < Big:=lt_of_le_of_lt (JK _ _) (lt_of_le_of_lt (Nat.le_mul_of_pos_right b hd) l3);have b2:bt c d < Big:=lt_of_le_of_lt (JK _ _) (lt_of_le_of_lt (Nat.le_mul_of_pos_left d hb) l3);have m1:=y4 (a:=tp a b) (b:=bt c d) (lt_of_le_of_lt (W5 _ _) l1) b2;have m2:=y4 (a:=tp c d) (b:=bt a b) (lt_of_le_of_lt (W5 _ _) l2) b1;have m3:=y4 (a:=bt a b) (b:=bt c d) b1 b2;have ad:=JI (tp a b * bt c d) (tp c d * bt a b);have sh:=Yz (tp a b * bt c d+tp c d * bt a b) (bt a b * bt c d) (mul_pos y1 y2) (lt_of_le_of_lt (mul_le_mul (JK _ _) (JK _ _)) l3);have en:nn (tp a b * bt c d+tp c d * bt a b) (bt a b * bt c d)=nn T B:=by
  refine zAF (mul_pos y1 y2) hB ?_;have c1:=crn a b;have c2:=crn c d;generalize tp a b=x at *;generalize bt a b=y at *;generalize tp c d=u at *;generalize bt c d=v at *;have pos:0 < b * d:=mul_pos hb hd;apply Nat.eq_of_mul_eq_mul_right pos;have e1:(x * v+u * y) * B * (b * d)=((x * b) * d * v+(u * d) * b * y) * B:=by grind
  rw [e1,c1,c2];have e2:(a * y * d * v+c * v * b * y) * B=((a * d+c * b) * B) * (y * v):=by grind
  rw [e2,h]; grind
 rw [en] at sh;exact zw (zR (zx (zI (F:=zU) rfl (zt (zt (yj (zA rfl) x_c rfl) (yj (zA rfl) x_c rfl) m1) (zt (yj (zA rfl) x_c rfl) (yj (zA rfl) x_c rfl) m2) ad) (zt (yj (zA rfl) x_c rfl) (yj (zA rfl) x_c rfl) m3) sh))) rfl
theorem less_nn {a b:Nat} (hb:0 < b) (l:b < Big) (h:a≤b):jy [.val (.tup [.int 1,.int 1]),.val (nn a b)]=.ok (.val (nn (b - a) b),O2):=by
 rw [wq a b];have y1:=Ju (a:=a) hb;have le:tp a b≤bt a b:=by
  have c:=crn a b;have:tp a b * b≤bt a b * b:=by rw [c,mul_comm]; exact mul_le_mul_left _ h
  exact Nat.le_of_mul_le_mul_right this hb
 have m1:=Yx 1 (bt a b) (by omega);have m2:=zBH (tp a b) 1 (by omega);have sb:zE4 (.int ((1 * bt a b:Nat):Int)) (.int ((tp a b * 1:Nat):Int))=some (.val (.int ((1 * bt a b - tp a b * 1:Nat):Int))):=zAt (by omega);have sh:=Yz (1 * bt a b - tp a b * 1) (1 * bt a b) (by omega) (by rw [Nat.one_mul]; exact lt_of_le_of_lt (JK _ _) l);have en:nn (1 * bt a b - tp a b * 1) (1 * bt a b)=nn (b - a) b:=by
  refine zAF (by omega) hb ?_;have c:=crn a b;rw [Nat.one_mul,mul_one,Nat.sub_mul,Nat.sub_mul,c,mul_comm (bt a b)]
 rw [en] at sh;exact zw (zR (zx (zI (F:=zU) rfl (zt (zt (yj (zA rfl) x_c rfl) (yj (zA rfl) x_c rfl) m1) (zt (yj (zA rfl) x_c rfl) (yj (zA rfl) x_c rfl) m2) sb) (zt (yj (zA rfl) x_c rfl) (yj (zA rfl) x_c rfl) m1) sh))) rfl
theorem zEh {a b c d:Nat} (hb:0 < b) (hd:0 < d) (la:a < Big) (lb:b < Big) (lc:c < Big) (ld:d < Big):zT [.val (nn a b),.val (nn c d)]=.ok (.val (.bl (decide (a * d < c * b))),O2):=by
 rw [wq a b,wq c d];have m1:=y4 (a:=tp a b) (b:=bt c d) (lt_of_le_of_lt (W5 _ _) la) (lt_of_le_of_lt (JK _ _) ld);have m2:=y4 (a:=tp c d) (b:=bt a b) (lt_of_le_of_lt (W5 _ _) lc) (lt_of_le_of_lt (JK _ _) lb);have lt:=lt_nat (tp a b * bt c d) (tp c d * bt a b);rw [show decide (tp a b * bt c d < tp c d * bt a b)=decide (a * d < c * b) from decide_eq_decide.mpr (lt_cr hb hd)] at lt;exact zw (zR (zx (wL (zt (yj (zA rfl) x_c rfl) (yj (zA rfl) x_c rfl) m1) (zt (yj (zA rfl) x_c rfl) (yj (zA rfl) x_c rfl) m2) lt))) rfl
theorem JU {a b c d:Nat} (hb:0 < b) (hd:0 < d) (la:a < Big) (lb:b < Big) (lc:c < Big) (ld:d < Big) (h:a * d≤c * b):zP [.val (nn a b),.val (nn c d)]=.ok (.val (.bl true),O2):=by
 rw [wq a b,wq c d];have m1:=y4 (a:=tp a b) (b:=bt c d) (lt_of_le_of_lt (W5 _ _) la) (lt_of_le_of_lt (JK _ _) ld);have m2:=y4 (a:=tp c d) (b:=bt a b) (lt_of_le_of_lt (W5 _ _) lc) (lt_of_le_of_lt (JK _ _) lb);have le:=le_nat (tp a b * bt c d) (tp c d * bt a b);rw [decide_eq_true ((le_cr hb hd).mpr h)] at le;exact zw (zR (zx (wL (zt (yj (zA rfl) x_c rfl) (yj (zA rfl) x_c rfl) m1) (zt (yj (zA rfl) x_c rfl) (yj (zA rfl) x_c rfl) m2) le))) rfl
theorem zDC (a:Nat) {b:Nat} (hb:0 < b) (lb:b < Big):yl [.val (nn a b)]=.ok (.val (.bl true),O1):=by
 rw [wq a b];have g:=zFb ((tp a b:Nat):Int) (bt a b) (lt_of_le_of_lt (JK _ _) lb);rw [Int.natAbs_natCast,nn_co a hb] at g;have gt:=zFX (bt a b) 0;rw [decide_eq_true (Ju hb)] at gt;exact zw (zG (jF (zBU (jP (t_E (x_is (zA rfl) rfl rfl)) rfl) (t_E (wL (Y0 (zC (zA rfl) zX) rfl) x_c rfl))) jG) (zG (Y9 (zA rfl) rfl) (zG (jF (zBU (jP (t_E (jE (F:=jb) rfl (zA rfl) (ZA _ rfl))) rfl) (jP (t_E (jE (F:=jb) rfl (zA rfl) (ZA _ rfl))) rfl)) jG) (zR (zx (zAq (wL (zA rfl) x_c gt) (wL (zI (F:=zf) rfl (zA rfl) (zA rfl) g) x_c rfl))))))) rfl
theorem zEi {a b:Nat} (hb:0 < b) {n:Nat} (hn:n≤40) (la:∀ i,i≤n→a ^ i < Big) (lb:∀ i,i≤n→b ^ i < Big):yP [.val (nn a b),.val (.int (n:Nat))]=.ok (.val (nn (a ^ n) (b ^ n)),O2):=by
 have n0:nn (a ^ 0) (b ^ 0)=.tup [.int 1,.int 1]:=by simp [nn,nrm,JS,wX]
 obtain ⟨E1,f1,s3,hE,h3⟩:=jI (tg:=gN 3) (body:=dB wI jg) (fun i E=>∃ s3,E=[.val (nn a b),.val (.int (n:Nat)),.val (nn (a ^ i) (b ^ i)),s3]∧wH s3=true) (DV.zO 0 n) 0 [.val (nn a b),.val (.int (n:Nat)),.val (.tup [.int 1,.int 1]),.emp] ⟨.emp,by rw [n0],rfl⟩ (fun i d q E ⟨s3,hE,h3⟩=>by
  obtain ⟨hi,rfl⟩:=JO _ _ _ _ q;rw [zero_add] at hE ⊢;have et:=WH (a:=a ^ i) (b:=b ^ i) (c:=a) (d:=b) (T:=a ^ (i+1)) (B:=b ^ (i+1)) (pow_pos hb) hb (pow_pos hb) (la i (by omega)) (by have:=la 1 (by omega); rwa [Nat.pow_one] at this) (by rw [← pow_succ]; exact lb (i+1) (by omega)) (by rw [pow_succ,pow_succ]);refine ⟨[.val (nn a b),.val (.int (n:Nat)),.val (nn (a ^ i) (b ^ i)),.val (.int (0+(i:Int)))],[.val (nn a b),.val (.int (n:Nat)),.val (nn (a ^ (i+1)) (b ^ (i+1))),.val (.int (0+(i:Int)))],?_,?_,_,rfl,rfl⟩
  ·subst hE; cases s3 <;> first | rfl | (cases h3)
  ·exact zR (yJ (zI (F:=zg) rfl (zA rfl) (zA rfl) et) rfl))
 rw [jw,zero_add] at hE;subst hE;exact zw (zG (yJ QL rfl) (zG (YD (j:=(n:Int)) (zC (zA rfl) zX) rfl ⟨by omega,by omega⟩ (by rw [Int.toNat_natCast]; exact f1)) (zR (zx (zA rfl))))) rfl
end My
namespace My
open PySem L2 DV SM
theorem i_A {fs:List FI} {E E1:zY} {a:_} {r:R} {ds:List D} (h1:dE fs a E=.ok (r,E1)) (h2:r.d=.lst ds∨r.d=.tup ds):dI fs (.iA a) E=.ok (ds,E1):=by
 rcases h2 with h2 | h2 <;> simp only [dI,iA,h1,h2]
abbrev PP:=Nat × Nat
abbrev pD (p:PP):D:=nn p.1 p.2
def Le (p q:PP):Prop:=p.1 * q.2≤q.1 * p.2
theorem Le.refl (p:PP):Le p p:=le_refl _
theorem Le.trans {p q r:PP} (hq:0 < q.2) (h1:Le p q) (h2:Le q r):Le p r:=by
 obtain ⟨a,b⟩:=p; obtain ⟨c,d⟩:=q; obtain ⟨e,f⟩:=r;unfold Le at *;dsimp only at *;have e1:=mul_le_mul_right f h1;have e2:=mul_le_mul_right b h2;apply Nat.le_of_mul_le_mul_right (c:=d) _ hq;have q1:a * f * d=a * d * f:=by grind
 have q2:e * b * d=e * d * b:=by grind
 have q3:c * b * f=c * f * b:=by grind
 rw [q1,q2];rw [q3] at e1;exact le_trans e1 e2
structure OkL (L:List PP):Prop where
 ne:L≠[]
 pos:∀ p∈L,0 < p.2
 l1:∀ p∈L,p.1 < Big
 l2:∀ p∈L,p.2 < Big
theorem OkL.below {L:List PP} (h:OkL L) {p q:PP} (hp:p∈L) (hq:q∈L):zT [.val (pD p),.val (pD q)]=.ok (.val (.bl (decide (p.1 * q.2 < q.1 * p.2))),O2) :=
 zEh (h.pos p hp) (h.pos q hq) (h.l1 p hp) (h.l2 p hp) (h.l1 q hq) (h.l2 q hq)
theorem WI {α:Type} {L:List α} {i:Nat} {p q:α} (h:L[i]?=some p):q∈L.take (i+1)↔q∈L.take i∨q=p:=by
 rw [List.take_add_one,h]; simp
theorem zDD {L:List PP} (h:OkL L) {X:D} (hX:X=.lst (L.map pD)∨X=.tup (L.map pD)):∃ p∈L,yQ [.val X]=.ok (.val (pD p),O1)∧∀ q∈L,Le p q:=by
 obtain ⟨p0,r,rfl⟩:∃ p r,L=p::r:=by cases L with | nil=>exact absurd rfl h.ne | cons p r=>exact ⟨p,r,rfl⟩
 have ix:ixD X (.int 0)=some (.val (pD p0)):=by
  rcases hX with rfl | rfl
  ·rw [Q6,show (0:Int)=((0:Nat):Int) from rfl,Zs (k:=0) (d:=pD p0) rfl]; rfl
  ·rw [W2,show (0:Int)=((0:Nat):Int) from rfl,Zs (k:=0) (d:=pD p0) rfl]; rfl
 obtain ⟨E1,f1,p,s2,hE,h2,hp,hq⟩:=jI (tg:=gN 2) (body:=dB Jj JA) (fun i E=>∃ p s2,E=[.val X,.val (pD p),s2]∧wH s2=true∧p∈p0::r∧∀ q∈(p0::r).take i,Le p q) ((p0::r).map pD) 0 [.val X,.val (pD p0),.emp] ⟨p0,_,rfl,rfl,mem_cons_self,fun q hq=>by simp at hq⟩ (fun i d q E ⟨p,s2,hE,h2,hp,hq⟩=>by
  rw [zero_add] at hq ⊢;rw [getElem?_map] at q;cases ei:(p0::r)[i]? with
  | none=>rw [ei] at q; cases q
  | some x =>
   rw [ei] at q;cases q;have hx:=mem_of_getElem? ei;have bl:=h.below hx hp;by_cases c:x.1 * p.2 < p.1 * x.2
   ·rw [decide_eq_true c] at bl
    refine ⟨[.val X,.val (pD p),.val (pD x)],[.val X,.val (pD x),.val (pD x)],?_,zR (zCu (t_E (zI (F:=zT) rfl (zA rfl) (zA rfl) bl)) (zR (yJ (zA rfl) rfl))),x,_,rfl,rfl,hx,fun y hy=>?_⟩
    ·subst hE; cases s2 <;> first | rfl | (cases h2)
    ·rcases (WI ei).mp hy with hy | rfl
     ·exact Le.trans (h.pos p hp) (le_of_lt c) (hq y hy)
     ·exact Le.refl _
   ·rw [decide_eq_false c] at bl
    refine ⟨[.val X,.val (pD p),.val (pD x)],[.val X,.val (pD p),.val (pD x)],?_,zR (jF (t_E (zI (F:=zT) rfl (zA rfl) (zA rfl) bl)) jG),p,_,rfl,rfl,hp,fun y hy=>?_⟩
    ·subst hE; cases s2 <;> first | rfl | (cases h2)
    ·rcases (WI ei).mp hy with hy | rfl
     ·exact hq y hy
     ·exact Nat.le_of_not_lt c)
 rw [length_map,zero_add,take_length] at hq;subst hE;exact ⟨p,hp,zw (zG (yJ (yj (zA rfl) x_c ix) rfl) (zG (zFV (i_A (zA rfl) hX) f1) (zR (zx (zA rfl))))) rfl,hq⟩
theorem uH {L:List PP} (h:OkL L) {X:D} (hX:X=.lst (L.map pD)∨X=.tup (L.map pD)):∃ p∈L,zr [.val X]=.ok (.val (pD p),O1)∧∀ q∈L,Le q p:=by
 obtain ⟨p0,r,rfl⟩:∃ p r,L=p::r:=by cases L with | nil=>exact absurd rfl h.ne | cons p r=>exact ⟨p,r,rfl⟩
 have ix:ixD X (.int 0)=some (.val (pD p0)):=by
  rcases hX with rfl | rfl
  ·rw [Q6,show (0:Int)=((0:Nat):Int) from rfl,Zs (k:=0) (d:=pD p0) rfl]; rfl
  ·rw [W2,show (0:Int)=((0:Nat):Int) from rfl,Zs (k:=0) (d:=pD p0) rfl]; rfl
 obtain ⟨E1,f1,p,s2,hE,h2,hp,hq⟩:=jI (tg:=gN 2) (body:=dB wQ jz) (fun i E=>∃ p s2,E=[.val X,.val (pD p),s2]∧wH s2=true∧p∈p0::r∧∀ q∈(p0::r).take i,Le q p) ((p0::r).map pD) 0 [.val X,.val (pD p0),.emp] ⟨p0,_,rfl,rfl,mem_cons_self,fun q hq=>by simp at hq⟩ (fun i d q E ⟨p,s2,hE,h2,hp,hq⟩=>by
  rw [zero_add] at hq ⊢;rw [getElem?_map] at q;cases ei:(p0::r)[i]? with
  | none=>rw [ei] at q; cases q
  | some x =>
   rw [ei] at q;cases q;have hx:=mem_of_getElem? ei;have bl:=h.below hp hx;by_cases c:p.1 * x.2 < x.1 * p.2
   ·rw [decide_eq_true c] at bl
    refine ⟨[.val X,.val (pD p),.val (pD x)],[.val X,.val (pD x),.val (pD x)],?_,zR (zCu (t_E (zI (F:=zT) rfl (zA rfl) (zA rfl) bl)) (zR (yJ (zA rfl) rfl))),x,_,rfl,rfl,hx,fun y hy=>?_⟩
    ·subst hE; cases s2 <;> first | rfl | (cases h2)
    ·rcases (WI ei).mp hy with hy | rfl
     ·exact Le.trans (h.pos p hp) (hq y hy) (le_of_lt c)
     ·exact Le.refl _
   ·rw [decide_eq_false c] at bl
    refine ⟨[.val X,.val (pD p),.val (pD x)],[.val X,.val (pD p),.val (pD x)],?_,zR (jF (t_E (zI (F:=zT) rfl (zA rfl) (zA rfl) bl)) jG),p,_,rfl,rfl,hp,fun y hy=>?_⟩
    ·subst hE; cases s2 <;> first | rfl | (cases h2)
    ·rcases (WI ei).mp hy with hy | rfl
     ·exact hq y hy
     ·exact Nat.le_of_not_lt c)
 rw [length_map,zero_add,take_length] at hq;subst hE;exact ⟨p,hp,zw (zG (yJ (yj (zA rfl) x_c ix) rfl) (zG (zFV (i_A (zA rfl) hX) f1) (zR (zx (zA rfl))))) rfl,hq⟩
theorem p2 {x:Nat} (h:x < 4000):2 ^ x < Big:=by rw [zFa]; exact Nat.pow_lt_pow_right (by decide) h
theorem W6 {a b m n:Nat} (h1:a < 2 ^ m) (h2:b < 2 ^ n):a * b < 2 ^ (m+n):=by
 rw [pow_add]; exact Nat.mul_lt_mul'' h1 h2
theorem ZB {a m:Nat} (h:a < 2 ^ m) (hm:m < 4000):a < Big:=Nat.lt_trans h (p2 hm)
abbrev WD (A:List Nat) (Q:Nat):List D:=A.map fun a=>nn a Q
structure Wt (k c:Nat) (A:List Nat) (Q:Nat):Prop where
 len:A.length=k
 pos:∀ a∈A,0 < a
 lt:∀ a∈A,a < 2 ^ c
 q0:0 < Q
 ql:Q < 2 ^ c
theorem Jv {k c:Nat} {A:List Nat} {Q:Nat} (h:Wt k c A Q) (hk:k≤8) (hc:c≤80):yT [.val (.tup (WD A Q)),.val (.int (k:Nat))]=.ok (.val (.bl true),O2):=by
 have ne:neG (.int ((WD A Q).length:Nat)) (.int (k:Nat))=some (.val (.bl false)):=by rw [ne_nat,length_map,h.len]; simp
 refine zw (E1:=[.val (.tup (WD A Q)),.val (.int (k:Nat))]) (zG (jF (zBU (jP (t_E (x_is (zA rfl) rfl rfl)) rfl) (t_E (wL (Y0 (zC (zA rfl) zX) rfl) (zA rfl) ne))) jG) (zR (zx (Y0 (zC (W1 (vs:=[]) (fun d=>.bl ((fun _=>true) d)) (i_T (zA rfl) rfl) rfl (fun d hd=>?_) (by rw [length_map,h.len]; simp only [cap]; omega) rfl) zX) (zFU (by simp)))))) rfl;obtain ⟨a,ha,rfl⟩:=mem_map.mp hd;have g:=zDC a h.q0 (ZB h.ql (by omega));have gt:=zFX (tp a Q) 0;rw [decide_eq_true (zDB (h.pos a ha))] at gt;have ix:ixD (nn a Q) (.int 0)=some (.val (.int (tp a Q:Nat))):=by rw [wq]; rfl
 exact ⟨.val (.bl true),zAq (jE (F:=yl) rfl (zA rfl) g) (wL (yj (zA rfl) x_c ix) x_c gt),rfl⟩
def Mv (w o:Nat) (A:List Nat):List Nat:=(A.drop 1++[0]).map fun a=>w * a+o * A.getD 0 0
theorem zFc {w o k:Nat} {A:List Nat} (h:A.length=k) (hk:1≤k):(Mv w o A).length=k:=by simp [Mv]; omega
theorem zA1 {w o k j:Nat} {A:List Nat} (h:A.length=k) (hj:j < k):(Mv w o A)[j]?=some (w * A.getD (j+1) 0+o * A.getD 0 0):=by
 unfold Mv;rw [getElem?_map];have e:(A.drop 1++[0])[j]?=some (A.getD (j+1) 0):=by
  by_cases c:j+1 < k
  ·rw [getElem?_append_left (by simp; omega),List.getElem?_drop,add_comm 1 j,getElem?_eq_getElem (by omega),getD_eq_getElem?_getD,getElem?_eq_getElem (by omega)]
   rfl
  ·have nA:A[j+1]?=none:=getElem?_eq_none (by omega)
   rw [List.getElem?_append_right (by simp; omega),length_drop,show j - (A.length - 1)=0 by omega,getD_eq_getElem?_getD,nA];rfl
 rw [e]; rfl
section
variable {die:List Nat} {s:Nat}
theorem dw_ok (h:DS die s):0 < dw die s∧dw die s≤9:=h.ok.2 _ (mem_of_getElem? h.get)
theorem dr_pos (h:DS die s):0 < dr die s:=by
 have hl:=h.lt;have hd:=h.ok.1;have ha:=h.ok.2;have h1:∀ i,i < die.length→1≤die.getD i 0:=fun i hi=>(ha _ (mem_of_getElem? (by rw [getD_eq_getElem?_getD,getElem?_eq_getElem hi]; rfl))).1
 match die,hd,hl with
 | [a,b],_,hl =>
  have:=h1 0 (by simp); have:=h1 1 (by simp);have:s=0∨s=1:=by simp at hl; omega
  rcases this with rfl | rfl <;> simp [dr] at * <;> omega
 | [a,b,c],_,hl =>
  have:=h1 0 (by simp); have:=h1 1 (by simp); have:=h1 2 (by simp);have:s=0∨s=1∨s=2:=by simp at hl; omega
  rcases this with rfl | rfl | rfl <;> simp [dr] at * <;> omega
theorem S5 (h:DS die s):die.sum < 2 ^ 5:=by have:=h.S27; omega
theorem S0 (h:DS die s):0 < die.sum:=by have:=h.S27; omega
theorem Wt.head {k c Q:Nat} {A:List Nat} (h:Wt k c A Q) (hk:1≤k):A.getD 0 0∈A∧A[0]?=some (A.getD 0 0):=by
 have e:A[0]?=some (A.getD 0 0):=by rw [getD_eq_getElem?_getD,getElem?_eq_getElem (by have:=h.len; omega)]; rfl
 exact ⟨mem_of_getElem? e,e⟩
theorem Wt.step (h:DS die s) {k c Q:Nat} {A:List Nat} (W:Wt k c A Q) (hk:1≤k):Wt k (c+5) (Mv (dw die s) (dr die s) A) (die.sum * Q) where
 len:=zFc W.len hk
 pos:=fun a ha=>by
  obtain ⟨x,_,rfl⟩:=mem_map.mp ha;have:=mul_pos (dr_pos h) (W.pos _ (W.head hk).1);omega
 lt:=fun a ha=>by
  obtain ⟨x,hx,rfl⟩:=mem_map.mp ha;have x1:x < 2 ^ c:=by
   rcases mem_append.mp hx with hx | hx
   ·exact W.lt x (List.mem_of_mem_drop hx)
   ·rw [mem_singleton] at hx; subst hx; exact pow_pos (by decide)
  have x2:=W.lt _ (W.head hk).1;have S:=S5 h;have e:dw die s+dr die s=die.sum:=h.wo';rw [pow_add];have m1:dw die s * x≤dw die s * (2 ^ c - 1):=mul_le_mul_left _ (by omega);have m2:dr die s * A.getD 0 0≤dr die s * (2 ^ c - 1):=mul_le_mul_left _ (by omega);have m3:dw die s * (2 ^ c - 1)+dr die s * (2 ^ c - 1)=die.sum * (2 ^ c - 1):=by rw [← add_mul,e]
  have m4:die.sum * (2 ^ c - 1)≤(2 ^ 5 - 1) * (2 ^ c - 1):=mul_le_mul_right _ (by omega);have p:0 < 2 ^ c:=pow_pos (by decide);have m5:(2 ^ 5 - 1) * (2 ^ c - 1) < 2 ^ c * 2 ^ 5:=by omega
  omega
 q0:=mul_pos (S0 h) W.q0
 ql:=by rw [add_comm]; exact W6 (S5 h) W.ql
theorem nz {Q:Nat} (h:0 < Q):nn 0 Q=.tup [.int 0,.int 1]:=zAx h
theorem zDE (h:DS die s) {k c Q:Nat} {A:List Nat} (W:Wt k c A Q) (hk:1≤k∧k≤8) (hc:c≤80):Yk [.val (wV die),.val (.int (s:Nat)),.val (.tup (WD A Q))]=.ok (.own (WD (Mv (dw die s) (dr die s) A) (die.sum * Q)),O3):=by
 have S0:=S0 h;have SB:die.sum < Big:=ZB (S5 h) (by decide);have oB:dr die s < Big:=lt_of_le_of_lt (Nat.sub_le _ _) SB;have wB:dw die s < Big:=lt_of_le_of_lt h.le SB;have QB:=ZB W.ql (by omega:c < 4000);have so:=Yz (dw die s) die.sum S0 SB;have le:=less_nn (a:=dw die s) (b:=die.sum) S0 SB h.le;have SQ:die.sum * Q < 2 ^ (5+c):=W6 (S5 h) W.ql;have SQ0:0 < die.sum * Q:=mul_pos S0 W.q0;have SQ2:die.sum * Q * (die.sum * Q) < Big:=ZB (W6 SQ SQ) (by omega);obtain ⟨hm,hg⟩:=W.head hk.1;have ti:=WH (a:=dr die s) (b:=die.sum) (c:=A.getD 0 0) (d:=Q) (T:=dr die s * A.getD 0 0) (B:=die.sum * Q) S0 W.q0 SQ0 oB (ZB (W.lt _ hm) (by omega)) (ZB SQ (by omega)) rfl;have ix:ixD (.tup (WD A Q)) (.int 0)=some (.val (nn (A.getD 0 0) Q)):=by
  rw [W2,show (0:Int)=((0:Nat):Int) from rfl,Zs (k:=0) (d:=nn (A.getD 0 0) Q) (by rw [getElem?_map,hg]; rfl)]; rfl
 have sl:slD (.tup (WD A Q)) (some 1) none=some (.val (.tup ((WD A Q).drop 1))):=by
  simp only [slD];rw [show (1:Int)=((1:Nat):Int) from rfl,zAr _ 1 (by rw [length_map,W.len]; omega)]
 have ad:=GL ((WD A Q).drop 1) [.tup [.int 0,.int 1]] (by simp [W.len]; omega);have el:(WD A Q).drop 1++[.tup [.int 0,.int 1]]=WD (A.drop 1++[0]) Q:=by
  rw [← nz W.q0];show (A.map fun a=>nn a Q).drop 1++_=(A.drop 1++[0]).map fun a=>nn a Q
  rw [List.map_append,List.map_drop]; rfl
 rw [el] at ad;refine zw (E1:=[.val (wV die),.val (.int (s:Nat)),.val (.tup (WD A Q)),.val (nn (dw die s) die.sum),.val (nn (dr die s * A.getD 0 0) (die.sum * Q)),.val (.lst (WD (A.drop 1++[0]) Q))]) ?_ rfl;refine zG (yJ (zI (F:=zU) rfl (yj (zA rfl) (zA rfl) (zAv h.get)) (Y0 (zC (zA rfl) zX) (zEb die)) so) rfl) ?_;refine zG (yJ (zI (F:=zg) rfl (zI (F:=jy) rfl QL (zA rfl) le) (yj (zA rfl) x_c ix) ti) rfl) ?_;refine zG (yJ (zt (Y0 (zC (x_sl (zA rfl) (o_S x_c) o_N sl) zX) rfl) (Wz (zC QL zX) rfl W0) ad) rfl) ?_;refine zR (zx (x_compI (i_L (uC rfl rfl) rfl) rfl rfl (fun i d q=>?_) (by simp [Mv]) (by simp [W.len,cap]; omega) (fun _=>rfl)));rw [Mv,getElem?_map,getElem?_map];rw [getElem?_map] at q;cases e:(A.drop 1++[0])[i]? with
 | none=>rw [e] at q; cases q
 | some a =>
  rw [e] at q;cases q;have al:a < 2 ^ c:=by
   rcases mem_append.mp (mem_of_getElem? e) with hx | hx
   ·exact W.lt a (List.mem_of_mem_drop hx)
   ·rw [mem_singleton] at hx; subst hx; exact pow_pos (by decide)
  have w4:dw die s < 2 ^ 5:=by have:=(dw_ok h).2; omega
  have o5:dr die s < 2 ^ 5:=lt_of_le_of_lt (Nat.sub_le _ _) (S5 h);have t1:=WH (a:=dw die s) (b:=die.sum) (c:=a) (d:=Q) (T:=dw die s * a) (B:=die.sum * Q) S0 W.q0 SQ0 wB (ZB al (by omega)) (ZB SQ (by omega)) rfl;have pl:=plus_nn (a:=dw die s * a) (b:=die.sum * Q) (c:=dr die s * A.getD 0 0) (d:=die.sum * Q) (T:=dw die s * a+dr die s * A.getD 0 0) (B:=die.sum * Q) SQ0 SQ0 SQ0 (ZB (W6 w4 al) (by omega)) (ZB (W6 o5 (W.lt _ hm)) (by omega)) SQ2 (by grind);exact ⟨_,zI (F:=yb) rfl (zI (F:=zg) rfl (zA rfl) (zA rfl) t1) (zA rfl) pl,rfl⟩
end
end My
namespace My
open PySem L2 DV SM
section
variable {die:List Nat} {s:Nat}
abbrev MM (die:List Nat) (s:Nat) (A:List Nat):List Nat:=Mv (dw die s) (dr die s) A
theorem W7 (h:DS die s) {k c Q:Nat} {A:List Nat} (W:Wt k c A Q) (hk:1≤k∧k≤8) (hc:c≤80):jO [.val (wV die),.val (.int (s:Nat)),.val (.int (k:Nat)),.val (.tup (WD A Q))]=.ok (.val (.tup (WD (MM die s A) (die.sum * Q))),O4) :=
 zw (zG (jQ (zu (F:=ze) rfl (zA rfl) (zA rfl) (zA rfl) (Yy h hk))) (zG (jF (jP (t_E (zI (F:=yT) rfl (zA rfl) (zA rfl) (Jv W hk.2 hc))) rfl) jG) (zR (zx (Y0 (zC (zu (F:=Yk) rfl (zA rfl) (zA rfl) (zA rfl) (zDE h W hk hc)) zX) rfl))))) rfl
def FP (S:Nat):List Nat→List Nat→List PP
 | m::ms,a::as=>(m,S * a)::FP S ms as
 | _,_=>[]
def byD:D→D
 | .tup [.tup [.int a,.int b],.tup [.int c,.int d]]=>nn (a.toNat * d.toNat) (b.toNat * c.toNat)
 | d=>d
theorem zFd {S m a Q:Nat} (hS:0 < S) (ha:0 < a) (hQ:0 < Q):byD (.tup [nn m (S * Q),nn a Q])=nn m (S * a):=by
 rw [wq m,wq a];show nn (((tp m (S * Q):Nat):Int).toNat * ((bt a Q:Nat):Int).toNat) (((bt m (S * Q):Nat):Int).toNat * ((tp a Q:Nat):Int).toNat)=_;simp only [Int.toNat_natCast];have hb:0 < S * Q:=mul_pos hS hQ;have c1:=crn m (S * Q);have c2:=crn a Q;have y1:=Ju (a:=m) hb;have x2:=zDB (b:=Q) ha;refine zAF (mul_pos y1 x2) (mul_pos hS ha) ?_;generalize tp m (S * Q)=x at *;generalize bt m (S * Q)=y at *;generalize tp a Q=u at *;generalize bt a Q=v at *;apply Nat.eq_of_mul_eq_mul_right hQ;have e1:x * v * (S * a) * Q=(x * (S * Q)) * (a * v):=by grind
 rw [e1,c1,← c2]; grind
theorem zDF {S Q:Nat} (hS:0 < S) (hQ:0 < Q):∀ (ms as:List Nat),(∀ a∈as,0 < a)→(zipWith ui (WD ms (S * Q)) (WD as Q)).map byD=(FP S ms as).map pD
 | [],_,_=>by simp [FP]
 | _::_,[],_=>by simp [FP]
 | m::ms,a::as,h=>by
  have ih:=zDF hS hQ ms as (fun x hx=>h x (mem_cons_of_mem _ hx));have b1:=zFd (m:=m) hS (h a mem_cons_self) hQ;show byD (.tup [nn m (S * Q),nn a Q])::(zipWith ui (WD ms (S * Q)) (WD as Q)).map byD=nn m (S * a)::(FP S ms as).map pD;rw [b1,ih]
theorem GT {S Q:Nat}:∀ {ms as:List Nat} {d:D},d∈zipWith ui (WD ms (S * Q)) (WD as Q)→∃ m∈ms,∃ a∈as,d=.tup [nn m (S * Q),nn a Q]
 | [],_,d,h=>by simp at h
 | _::_,[],d,h=>by simp at h
 | m::ms,a::as,d,h=>by
  rcases mem_cons.mp (show d∈.tup [nn m (S * Q),nn a Q]::zipWith ui (WD ms (S * Q)) (WD as Q) from h) with rfl | h
  ·exact ⟨m,mem_cons_self,a,mem_cons_self,rfl⟩
  ·obtain ⟨m',h1,a',h2,e⟩:=GT h
   exact ⟨m',mem_cons_of_mem _ h1,a',mem_cons_of_mem _ h2,e⟩
theorem uI {S:Nat}:∀ {ms as:List Nat} {p:PP},p∈FP S ms as→∃ m∈ms,∃ a∈as,p=(m,S * a)
 | [],_,p,h=>by simp [FP] at h
 | _::_,[],p,h=>by simp [FP] at h
 | m::ms,a::as,p,h=>by
  rcases mem_cons.mp (show p∈(m,S * a)::FP S ms as from h) with rfl | h
  ·exact ⟨m,mem_cons_self,a,mem_cons_self,rfl⟩
  ·obtain ⟨m',h1,a',h2,e⟩:=uI h
   exact ⟨m',mem_cons_of_mem _ h1,a',mem_cons_of_mem _ h2,e⟩
theorem zDG {S:Nat}:∀ {ms as:List Nat} {j m a:Nat},ms[j]?=some m→as[j]?=some a→(m,S * a)∈FP S ms as
 | [],_,j,m,a,h,_=>by simp at h
 | _::_,[],j,m,a,_,h=>by simp at h
 | x::ms,y::as,0,m,a,h1,h2=>by
  simp at h1 h2
  subst h1 h2;exact mem_cons_self
 | x::ms,y::as,j+1,m,a,h1,h2=>mem_cons_of_mem _ (zDG (j:=j) (by simpa using h1) (by simpa using h2))
abbrev FF (die:List Nat) (s:Nat) (A:List Nat):List PP:=FP die.sum (MM die s A) A
theorem zDH (h:DS die s) {k c Q:Nat} {A:List Nat} (W:Wt k c A Q) (hk:1≤k) (hc:c≤80):OkL (FF die s A) where
 ne:=by
  obtain ⟨_,hg⟩:=W.head hk;have:=zDG (S:=die.sum) (zA1 (w:=dw die s) (o:=dr die s) W.len hk) hg;intro e;have e:FP die.sum (Mv (dw die s) (dr die s) A) A=[]:=e;rw [e] at this;cases this
 pos:=fun p hp=>by
  obtain ⟨m,_,a,ha,rfl⟩:=uI hp;exact mul_pos (S0 h) (W.pos a ha)
 l1:=fun p hp=>by
  obtain ⟨m,hm,a,ha,rfl⟩:=uI hp;exact ZB ((W.step h hk).lt m hm) (by omega)
 l2:=fun p hp=>by
  obtain ⟨m,_,a,ha,rfl⟩:=uI hp;exact ZB (W6 (S5 h) (W.lt a ha)) (by omega)
structure Fac (die:List Nat) (s k:Nat) (A:List Nat) (Q:Nat) (l g:PP):Prop where
 run:zM [.val (wV die),.val (.int (s:Nat)),.val (.int (k:Nat)),.val (.tup (WD A Q))]=.ok (.val (.tup [pD l,pD g]),O4)
 lm:l∈FF die s A
 gm:g∈FF die s A
 lo:∀ q∈FF die s A,Le l q
 hi:∀ q∈FF die s A,Le q g
theorem jl (h:DS die s) {k c Q:Nat} {A:List Nat} (W:Wt k c A Q) (hk:1≤k∧k≤8) (hc:c≤80):∃ l g,Fac die s k A Q l g:=by
 have ok:=zDH h W hk.1 hc;obtain ⟨l,lm,el,lo⟩:=zDD ok (.inl rfl);obtain ⟨g,gm,eg,hi⟩:=uH ok (.inl rfl);have W':=W.step h hk.1;refine ⟨l,g,?_,lm,gm,lo,hi⟩;have cp:(zipWith ui (WD (MM die s A) (die.sum * Q)) (WD A Q)).length≤cap:=by
  rw [List.length_zipWith,length_map,length_map,W'.len,W.len]; simp only [cap]; omega
 refine zw (E1:=[.val (wV die),.val (.int (s:Nat)),.val (.int (k:Nat)),.val (.tup (WD A Q)),.val (.tup (WD (MM die s A) (die.sum * Q))),.val (.lst ((FF die s A).map pD))]) ?_ rfl;refine zG (yJ (yG (F:=jO) rfl (zA rfl) (zA rfl) (zA rfl) (zA rfl) (W7 h W hk hc)) rfl) ?_;refine zG (yJ (zFT (rs:=(FF die s A).map pD) (vs:=[]) pat2 (fun _=>true) byD (i_Z (zC (zA rfl) (zC (zA rfl) zX)) rfl rfl) rfl (fun d hd S hS hn=>?_) (fun d hd=>?_) (fun d hd=>?_) (fun d hd _=>?_) cp (by rw [List.filter_eq_self.mpr (fun _ _=>rfl)]; exact zDF (S0 h) W.q0 _ _ W.pos)) rfl) ?_
 ·obtain ⟨m,_,a,_,rfl⟩:=GT hd
  exact gT_ok2 hS hn
 ·obtain ⟨m,_,a,_,rfl⟩:=GT hd
  refine ⟨rfl,fun s hs=>?_⟩;simp only [pat2,mem_cons,mem_nil_iff,or_false] at hs;rcases hs with rfl | rfl <;> rfl
 ·simp only [dT,Qm]
 ·obtain ⟨m,hm,a,ha,rfl⟩:=GT hd
  have b:=by_nn (a:=m) (b:=die.sum * Q) (c:=a) (d:=Q) (T:=m) (B:=die.sum * a) (mul_pos (S0 h) W.q0) (W.pos a ha) W.q0 (mul_pos (S0 h) (W.pos a ha)) (ZB (W'.lt m hm) (by omega)) (ZB W.ql (by omega)) (ZB (W6 (W6 (S5 h) W.ql) (W.lt a ha)) (by omega)) (by grind);exact ⟨_,zI (F:=jc) rfl (zA rfl) (zA rfl) b,by rw [zFd (S0 h) (W.pos a ha) W.q0]; rfl⟩
 exact zR (zx (Y8 (zC (jE (F:=yQ) rfl (uC rfl rfl) el) (zC (jE (F:=zr) rfl (zA rfl) eg) zX)) rfl y3))
abbrev bD (A:List Nat) (Q:Nat) (p:PP):D:=.tup [.tup (WD A Q),pD p]
theorem Zt {k c Q:Nat} {A:List Nat} (W:Wt k c A Q) (hk:k≤8) (hc:c≤80) {p:PP} (hp:0 < p.2) (hl:p.2 < Big):ym [.val (bD A Q p),.val (.int (k:Nat))]=.ok (.val (.bl true),O2):=by
 have g:=zDC p.1 hp hl;have ix:ixD (pD p) (.int 0)=some (.val (.int (tp p.1 p.2:Nat))):=by show ixD (nn p.1 p.2) _=_; rw [wq]; rfl
 have ge:geD (.int (tp p.1 p.2:Nat)) (.int 0)=some (.val (.bl true)):=by
  show some (R.val (D.bl (decide ((0:Int)≤(tp p.1 p.2:Nat)))))=_
  rw [decide_eq_true (by omega)]
 exact zw (zG (jF (zBU (jP (t_E (x_is (zA rfl) rfl rfl)) rfl) (t_E (wL (Y0 (zC (zA rfl) zX) rfl) x_c rfl))) jG) (zG (Y9 (zA rfl) rfl) (zR (zx (zAq (zI (F:=yT) rfl (zA rfl) (zA rfl) (Jv W hk hc)) (zAq (jE (F:=yl) rfl (zA rfl) g) (wL (yj (zA rfl) x_c ix) x_c ge))))))) rfl
theorem uJ {L:List PP} (h:OkL L) {p:PP} (hp:p∈L):zT [.val (pD p),.val (pD p)]=.ok (.val (.bl false),O2):=by
 have:=h.below hp hp
 rwa [decide_eq_false (lt_irrefl _)] at this
theorem Zu (h:DS die s) {k c Q:Nat} {A:List Nat} (W:Wt k c A Q) (hk:1≤k∧k≤8) (hc:c≤80) {l g:PP} (F:Fac die s k A Q l g):yn [.val (wV die),.val (.int (s:Nat)),.val (.int (k:Nat)),.val (bD A Q g)]=.ok (.val (.bl true),O4):=by
 have ok:=zDH h W hk.1 hc;exact zw (zG (jQ (zu (F:=ze) rfl (zA rfl) (zA rfl) (zA rfl) (Yy h hk))) (zG (jF (jP (t_E (zI (F:=ym) rfl (zA rfl) (zA rfl) (Zt W hk.2 hc (ok.pos g F.gm) (ok.l2 g F.gm)))) rfl) jG) (zG (Y9 (zA rfl) rfl) (zG (Y9 (yG (F:=zM) rfl (zA rfl) (zA rfl) (zA rfl) (zA rfl) F.run) rfl) (zR (zx (x_not (zI (F:=zT) rfl (zA rfl) (zA rfl) (uJ ok F.gm))))))))) rfl
theorem Zv (h:DS die s) {k c Q:Nat} {A:List Nat} (W:Wt k c A Q) (hk:1≤k∧k≤8) (hc:c≤80) {l g:PP} (F:Fac die s k A Q l g):yo [.val (wV die),.val (.int (s:Nat)),.val (.int (k:Nat)),.val (bD A Q l)]=.ok (.val (.bl true),O4):=by
 have ok:=zDH h W hk.1 hc;exact zw (zG (jQ (zu (F:=ze) rfl (zA rfl) (zA rfl) (zA rfl) (Yy h hk))) (zG (jF (jP (t_E (zI (F:=ym) rfl (zA rfl) (zA rfl) (Zt W hk.2 hc (ok.pos l F.lm) (ok.l2 l F.lm)))) rfl) jG) (zG (Y9 (zA rfl) rfl) (zG (Y9 (yG (F:=zM) rfl (zA rfl) (zA rfl) (zA rfl) (zA rfl) F.run) rfl) (zR (zx (x_not (zI (F:=zT) rfl (zA rfl) (zA rfl) (uJ ok F.lm))))))))) rfl
theorem Zw (h:DS die s) {k c Q:Nat} {A:List Nat} (W:Wt k c A Q) (hk:1≤k∧k≤8) (hc:c≤80) {l g:PP} (F:Fac die s k A Q l g):yp [.val (wV die),.val (.int (s:Nat)),.val (.int (k:Nat)),.val (bD A Q g)]=.ok (.val .non,O4) :=
 f_nx (zR (jF (jP (t_E (yG (F:=yn) rfl (zA rfl) (zA rfl) (zA rfl) (zA rfl) (Zu h W hk hc F))) rfl) jG)) rfl
theorem WL_ok {k c Q:Nat} {A:List Nat} (W:Wt k c A Q) (hk:1≤k) (hc:c≤80):OkL (A.map fun a=>(a,Q)) where
 ne:=by
  intro e;have:=W.len;rw [List.map_eq_nil_iff] at e;subst e;simp at this; omega
 pos:=fun p hp=>by obtain ⟨a,_,rfl⟩:=mem_map.mp hp; exact W.q0
 l1:=fun p hp=>by obtain ⟨a,ha,rfl⟩:=mem_map.mp hp; exact ZB (W.lt a ha) (by omega)
 l2:=fun p hp=>by obtain ⟨a,_,rfl⟩:=mem_map.mp hp; exact ZB W.ql (by omega)
theorem WL_D (A:List Nat) (Q:Nat):D.tup (WD A Q)=.tup ((A.map fun a=>(a,Q)).map pD):=by rw [map_map]; rfl
theorem e_min {k c Q:Nat} {A:List Nat} (W:Wt k c A Q) (hk:1≤k) (hc:c≤80):∃ m∈A,yQ [.val (.tup (WD A Q))]=.ok (.val (nn m Q),O1)∧∀ a∈A,m≤a:=by
 obtain ⟨p,hp,e,q⟩:=zDD (WL_ok W hk hc) (.inr (WL_D A Q));obtain ⟨m,hm,rfl⟩:=mem_map.mp hp;exact ⟨m,hm,e,fun a ha=>Nat.le_of_mul_le_mul_right (q (a,Q) (mem_map.mpr ⟨a,ha,rfl⟩)) W.q0⟩
theorem e_max {k c Q:Nat} {A:List Nat} (W:Wt k c A Q) (hk:1≤k) (hc:c≤80):∃ m∈A,zr [.val (.tup (WD A Q))]=.ok (.val (nn m Q),O1)∧∀ a∈A,a≤m:=by
 obtain ⟨p,hp,e,q⟩:=uH (WL_ok W hk hc) (.inr (WL_D A Q));obtain ⟨m,hm,rfl⟩:=mem_map.mp hp;exact ⟨m,hm,e,fun a ha=>Nat.le_of_mul_le_mul_right (q (a,Q) (mem_map.mpr ⟨a,ha,rfl⟩)) W.q0⟩
theorem zDI {a c:Nat} (h:a < 2 ^ c) (n:Nat):a ^ n≤2 ^ (c * n):=by rw [Nat.pow_mul]; exact pow_le_pow_left (le_of_lt h) n
theorem zDJ {a c:Nat} (h:a < 2 ^ c) (hc:c≤85) {i:Nat} (hi:i≤40):a ^ i < Big:=by
 refine lt_of_le_of_lt (zDI h i) (p2 ?_);have:=mul_le_mul hc hi;omega
theorem uK (h:DS die s) {k c Q:Nat} {A:List Nat} (W:Wt k c A Q) (hk:1≤k) (hc:c≤60) {p:PP} (hp:p∈FF die s A) {m:Nat} (hm:m∈A) {n:Nat} (hn:n≤40):je [.val (bD A Q p),.val (.int (n:Nat)),.val (nn m Q)]=.ok (.val (nn (p.1 ^ n * A.getD 0 0) (p.2 ^ n * m)),O3):=by
 obtain ⟨hm0,hg⟩:=W.head hk;obtain ⟨x,hx,a,ha,rfl⟩:=uI hp;have x1:x < 2 ^ (c+5):=(W.step h hk).lt x hx;have x2:die.sum * a < 2 ^ (5+c):=W6 (S5 h) (W.lt a ha);have p0:0 < die.sum * a:=mul_pos (S0 h) (W.pos a ha);have pw:=zEi (a:=x) (b:=die.sum * a) p0 hn (fun i hi=>zDJ x1 (by omega) (by omega)) (fun i hi=>zDJ x2 (by omega) (by omega));have A0:=W.lt _ hm0;have ml:=W.lt _ hm;have mp:=W.pos _ hm;have bn:=by_nn (a:=A.getD 0 0) (b:=Q) (c:=m) (d:=Q) (T:=A.getD 0 0) (B:=m) W.q0 mp W.q0 mp (ZB A0 (by omega)) (ZB W.ql (by omega)) (ZB (W6 W.ql ml) (by omega)) (by grind);have q1:(die.sum * a) ^ n * m < Big:=by
  have:=Nat.mul_lt_mul_of_le_of_lt (zDI x2 n) ml (pow_pos (by decide));rw [← pow_add] at this;exact ZB this (by have:=mul_le_mul (show 5+c≤65 by omega) hn; omega)
 have ti:=WH (a:=x ^ n) (b:=(die.sum * a) ^ n) (c:=A.getD 0 0) (d:=m) (T:=x ^ n * A.getD 0 0) (B:=(die.sum * a) ^ n * m) (pow_pos p0) mp (mul_pos (pow_pos p0) mp) (zDJ x1 (by omega) hn) (ZB A0 (by omega)) q1 rfl;have ix:ixD (.tup (WD A Q)) (.int 0)=some (.val (nn (A.getD 0 0) Q)):=by
  rw [W2,show (0:Int)=((0:Nat):Int) from rfl,Zs (k:=0) (d:=nn (A.getD 0 0) Q) (by rw [getElem?_map,hg]; rfl)]; rfl
 exact zw (zG (Y9 (zA rfl) rfl) (zR (zx (zI (F:=zg) rfl (zI (F:=yP) rfl (zA rfl) (zA rfl) pw) (zI (F:=jc) rfl (yj (zA rfl) x_c ix) (zA rfl) bn) ti)))) rfl
theorem zBJ (h:DS die s) {k c Q:Nat} {A:List Nat} (W:Wt k c A Q) (hk:1≤k∧k≤8) (hc:c≤60) {l g:PP} (F:Fac die s k A Q l g) {n:Nat} (hn:n≤40):∃ m∈A,(∀ a∈A,m≤a)∧JP [.val (wV die),.val (.int (s:Nat)),.val (.int (k:Nat)),.val (bD A Q g),.val (.int (n:Nat))]=.ok (.val (nn (g.1 ^ n * A.getD 0 0) (g.2 ^ n * m)),[.emp,.emp,.emp,.emp,.emp]):=by
 obtain ⟨m,hm,em,lm⟩:=e_min W hk.1 (by omega);exact ⟨m,hm,lm,zw (zG (jQ (yG (F:=yp) rfl (zA rfl) (zA rfl) (zA rfl) (zA rfl) (Zw h W hk (by omega) F))) (zG (jQ (zu (F:=zZ) rfl (zA rfl) x_c QL (yg _ 0 40 rfl (zAw hn)))) (zR (zx (zu (F:=je) rfl (zA rfl) (zA rfl) (jE (F:=yQ) rfl (yj (zA rfl) x_c rfl) em) (uK h W hk.1 hc F.gm hm hn)))))) rfl⟩
theorem zBK (h:DS die s) {k c Q:Nat} {A:List Nat} (W:Wt k c A Q) (hk:1≤k∧k≤8) (hc:c≤60) {l g:PP} (F:Fac die s k A Q l g) {n:Nat} (hn:n≤40):∃ m∈A,(∀ a∈A,a≤m)∧JQ [.val (wV die),.val (.int (s:Nat)),.val (.int (k:Nat)),.val (bD A Q l),.val (.int (n:Nat))]=.ok (.val (nn (l.1 ^ n * A.getD 0 0) (l.2 ^ n * m)),[.emp,.emp,.emp,.emp,.emp]):=by
 obtain ⟨m,hm,em,lm⟩:=e_max W hk.1 (by omega);exact ⟨m,hm,lm,zw (zG (jF (jP (t_E (yG (F:=yo) rfl (zA rfl) (zA rfl) (zA rfl) (zA rfl) (Zv h W hk (by omega) F))) rfl) jG) (zG (jQ (zu (F:=zZ) rfl (zA rfl) x_c QL (yg _ 0 40 rfl (zAw hn)))) (zR (zx (zu (F:=je) rfl (zA rfl) (zA rfl) (jE (F:=zr) rfl (yj (zA rfl) x_c rfl) em) (uK h W hk.1 hc F.lm hm hn)))))) rfl⟩
end
end My
namespace SM
theorem W8:∀ (l:List Nat) (f g:Nat→Nat),(∀ j,j < l.length→f j≤g j)→dot l f≤dot l g
 | [],_,_,_=>le_refl _
 | e::es,f,g,h=>by
  have h0:=mul_le_mul_left e (h 0 (by simp));have ih:=W8 es (fun j=>f (j+1)) (fun j=>g (j+1)) (fun j hj=>h (j+1) (by simp; omega));simp only [dot]; omega
theorem W9 (c:Nat):∀ (l:List Nat) (f:Nat→Nat),dot l (fun j=>c * f j)=c * dot l f
 | [],_=>by simp [dot]
 | e::es,f=>by
  simp only [dot];rw [W9 c es (fun j=>f (j+1)),mul_add,Nat.mul_left_comm]
theorem zDK:∀ (n:Nat) (f:Nat→Nat),dot (replicate n 0) f=0
 | 0,_=>rfl
 | n+1,f=>by simp [replicate_succ,dot,zDK n]
end SM
namespace My
open PySem L2 DV SM
theorem FP_ix {S:Nat}:∀ {ms as:List Nat} {p:PP},p∈FP S ms as→∃ j m a:Nat,ms[j]?=some m∧as[j]?=some a∧p=(m,S * a)
 | [],_,p,h=>by simp [FP] at h
 | _::_,[],p,h=>by simp [FP] at h
 | m::ms,a::as,p,h=>by
  rcases mem_cons.mp (show p∈(m,S * a)::FP S ms as from h) with rfl | h
  ·exact ⟨0,m,a,rfl,rfl,rfl⟩
  ·obtain ⟨j,m',a',h1,h2,e⟩:=FP_ix h
   exact ⟨j+1,m',a',by simpa using h1,by simpa using h2,e⟩
section
variable {die:List Nat} {s:Nat}
theorem get_D {A:List Nat} {j:Nat} (h:j < A.length):A[j]?=some (A.getD j 0):=by rw [getD_eq_getElem?_getD,getElem?_eq_getElem h]; rfl
abbrev Mj (die:List Nat) (s:Nat) (A:List Nat) (j:Nat):Nat:=dw die s * A.getD (j+1) 0+dr die s * A.getD 0 0
theorem zEj {k c Q:Nat} {A:List Nat} (W:Wt k c A Q) {j:Nat} (hj:j < k):(Mj die s A j,die.sum * A.getD j 0)∈FF die s A :=
 zDG (zA1 W.len hj) (get_D (by rw [W.len]; exact hj))
theorem FF_of {k c Q:Nat} (hk:1≤k) {A:List Nat} (W:Wt k c A Q) {p:PP} (h:p∈FF die s A):∃ j,j < k∧p=(Mj die s A j,die.sum * A.getD j 0):=by
 obtain ⟨j,m,a,h1,h2,rfl⟩:=FP_ix h;have hj:j < k:=by rw [← W.len]; exact (List.getElem?_eq_some_iff.mp h2).1
 rw [zA1 W.len hj] at h1;rw [get_D (by rw [W.len]; exact hj)] at h2;cases h1; cases h2;exact ⟨j,hj,rfl⟩
abbrev Vn (die:List Nat) (s k:Nat) (A:List Nat) (n:Nat):Nat:=dot (Zr (dw die s) (dr die s) (k - 1) n) fun j=>A.getD j 0
theorem V_0 (k:Nat) (A:List Nat):Vn die s k A 0=A.getD 0 0:=by
 show dot (1::replicate (k - 1) 0) _=_
 simp only [dot]; rw [zDK]; omega
theorem zFe {k c Q:Nat} {A:List Nat} (hk:1≤k) (W:Wt k c A Q) (n:Nat):Vn die s k A (n+1)≤dot (Zr (dw die s) (dr die s) (k - 1) n) (Mj die s A)∧dot (Zr (dw die s) (dr die s) (k - 1) n) (Mj die s A)≤Vn die s k A (n+1):=by
 have e:=zEY (dw die s) (dr die s) (k - 1) n fun j=>A.getD j 0
 have q:∀ j,j < (Zr (dw die s) (dr die s) (k - 1) n).length→(dr die s * A.getD 0 0+if j+1≤k - 1 then dw die s * A.getD (j+1) 0 else 0)=Mj die s A j:=fun j hj=>by
  rw [wC] at hj;by_cases c:j+1≤k - 1
  ·rw [if_pos c,add_comm]
  ·have nA:A[j+1]?=none:=getElem?_eq_none (by rw [W.len]; omega)
   rw [if_neg c];simp only [Mj];rw [show A.getD (j+1) 0=0 by rw [getD_eq_getElem?_getD,nA]; rfl];omega
 show dot _ _≤_∧_≤dot _ _
 rw [← e];exact ⟨W8 _ _ _ fun j hj=>le_of_eq (q j hj),W8 _ _ _ fun j hj=>le_of_eq (q j hj).symm⟩
theorem V_up {k c Q:Nat} {A:List Nat} (hk:1≤k) (W:Wt k c A Q) {g:PP} (hi:∀ q∈FF die s A,Le q g):∀ n,Vn die s k A n * g.2 ^ n≤(g.1 * die.sum) ^ n * A.getD 0 0
 | 0=>by rw [V_0]; simp
 | n+1=>by
  have ih:=V_up hk W hi n;have st:=(zFe (die:=die) (s:=s) hk W n).1;have h1:dot (Zr (dw die s) (dr die s) (k - 1) n) (Mj die s A) * g.2≤g.1 * die.sum * Vn die s k A n:=by
   rw [mul_comm,← W9,← W9];refine W8 _ _ _ fun j hj=>?_
   rw [wC] at hj;have:=hi _ (zEj (die:=die) (s:=s) W (j:=j) (by omega));unfold Le at this;dsimp only at this;rw [mul_comm g.2,mul_assoc];exact this
  have h2:=mul_le_mul_right g.2 st;have h3:=le_trans h2 h1;rw [pow_succ,pow_succ];generalize g.2 ^ n=y at *;generalize (g.1 * die.sum) ^ n=x at *;generalize Vn die s k A n=v at *;generalize Vn die s k A (n+1)=v' at *;generalize g.1 * die.sum=t at *;have e1:v' * (y * g.2)=(v' * g.2) * y:=by grind
  have e2:x * t * A.getD 0 0=t * (x * A.getD 0 0):=by grind
  have e3:t * v * y=t * (v * y):=by grind
  rw [e1,e2];exact le_trans (mul_le_mul_right y h3) (by rw [e3]; exact mul_le_mul_left t ih)
theorem V_dn {k c Q:Nat} {A:List Nat} (hk:1≤k) (W:Wt k c A Q) {l:PP} (lo:∀ q∈FF die s A,Le l q):∀ n,(l.1 * die.sum) ^ n * A.getD 0 0≤Vn die s k A n * l.2 ^ n
 | 0=>by rw [V_0]; simp
 | n+1=>by
  have ih:=V_dn hk W lo n;have st:=(zFe (die:=die) (s:=s) hk W n).2;have h1:l.1 * die.sum * Vn die s k A n≤dot (Zr (dw die s) (dr die s) (k - 1) n) (Mj die s A) * l.2:=by
   rw [mul_comm _ l.2,← W9,← W9];refine W8 _ _ _ fun j hj=>?_
   rw [wC] at hj;have:=lo _ (zEj (die:=die) (s:=s) W (j:=j) (by omega));unfold Le at this;dsimp only at this;rw [mul_comm l.2,mul_assoc];exact this
  have h2:=mul_le_mul_right l.2 st;have h3:=le_trans h1 h2;rw [pow_succ,pow_succ];generalize l.2 ^ n=y at *;generalize (l.1 * die.sum) ^ n=x at *;generalize Vn die s k A n=v at *;generalize Vn die s k A (n+1)=v' at *;generalize l.1 * die.sum=t at *;have e1:v' * (y * l.2)=(v' * l.2) * y:=by grind
  have e2:x * t * A.getD 0 0=t * (x * A.getD 0 0):=by grind
  have e3:t * v * y=t * (v * y):=by grind
  rw [e1,e2];exact le_trans (mul_le_mul_left t ih) (by rw [← e3]; exact mul_le_mul_right y h3)
theorem U_dot (w o k n:Nat):U w o k n=dot (Zr w o k n) fun _=>1:=(zCx _).symm
theorem A_at {k c Q:Nat} {A:List Nat} (W:Wt k c A Q) {j:Nat} (hj:j < k):A.getD j 0∈A:=mem_of_getElem? (get_D (by rw [W.len]; exact hj))
theorem zEk {k c Q:Nat} {A:List Nat} (hk:1≤k) (W:Wt k c A Q) {g:PP} (hi:∀ q∈FF die s A,Le q g) {m:Nat} (hm:∀ a∈A,m≤a) (n:Nat):U (dw die s) (dr die s) (k - 1) n * (g.2 ^ n * m)≤g.1 ^ n * A.getD 0 0 * die.sum ^ n:=by
 have v:=V_up hk W hi n;have u:m * U (dw die s) (dr die s) (k - 1) n≤Vn die s k A n:=by
  rw [U_dot,← W9];refine W8 _ _ _ fun j hj=>?_
  rw [wC] at hj;rw [mul_one];exact hm _ (A_at W (by omega))
 rw [Nat.mul_pow] at v;have h2:=mul_le_mul_right (g.2 ^ n) u;generalize U (dw die s) (dr die s) (k - 1) n=uu at *;generalize Vn die s k A n=vv at *;rw [show uu * (g.2 ^ n * m)=m * uu * g.2 ^ n by grind,show g.1 ^ n * A.getD 0 0 * die.sum ^ n=g.1 ^ n * die.sum ^ n * A.getD 0 0 by grind];omega
theorem zEl {k c Q:Nat} {A:List Nat} (hk:1≤k) (W:Wt k c A Q) {l:PP} (lo:∀ q∈FF die s A,Le l q) {m:Nat} (hm:∀ a∈A,a≤m) (n:Nat):l.1 ^ n * A.getD 0 0 * die.sum ^ n≤U (dw die s) (dr die s) (k - 1) n * (l.2 ^ n * m):=by
 have v:=V_dn hk W lo n;have u:Vn die s k A n≤m * U (dw die s) (dr die s) (k - 1) n:=by
  rw [U_dot,← W9];refine W8 _ _ _ fun j hj=>?_
  rw [wC] at hj;rw [mul_one];exact hm _ (A_at W (by omega))
 rw [Nat.mul_pow] at v;have h2:=mul_le_mul_right (l.2 ^ n) u;generalize U (dw die s) (dr die s) (k - 1) n=uu at *;generalize Vn die s k A n=vv at *;rw [show uu * (l.2 ^ n * m)=m * uu * l.2 ^ n by grind,show l.1 ^ n * A.getD 0 0 * die.sum ^ n=l.1 ^ n * die.sum ^ n * A.getD 0 0 by grind];omega
theorem MM_D {k c Q:Nat} {A:List Nat} (W:Wt k c A Q) {j:Nat} (hj:j < k):(MM die s A).getD j 0=Mj die s A j:=by
 rw [getD_eq_getElem?_getD,zA1 W.len hj]; rfl
theorem MM_E {k c Q:Nat} {A:List Nat} (hk:1≤k) (W:Wt k c A Q):(MM die s A).getD k 0=0∧A.getD k 0=0:=by
 constructor
 ·rw [getD_eq_getElem?_getD,getElem?_eq_none (by rw [zFc W.len hk]; exact le_refl _)]; rfl
 ·rw [getD_eq_getElem?_getD,getElem?_eq_none (by rw [W.len]; exact le_refl _)]; rfl
theorem zDL {k c Q:Nat} {A:List Nat} (hk:1≤k) (W:Wt k c A Q) (W':Wt k (c+5) (MM die s A) (die.sum * Q)) {g g':PP} (hi:∀ q∈FF die s A,Le q g) (hg:g'∈FF die s (MM die s A)):Le g' g:=by
 obtain ⟨j,hj,rfl⟩:=FF_of hk W' hg;have all:∀ i,(MM die s A).getD i 0 * g.2≤g.1 * (die.sum * A.getD i 0)∨k < i:=fun i=>by
  rcases Nat.lt_trichotomy i k with h | h | h
  ·rw [MM_D W h]; exact .inl (hi _ (zEj W h))
  ·subst h; rw [(MM_E hk W).1]; exact .inl (by simp)
  ·exact .inr h
 have a1:=(all (j+1)).resolve_right (by omega);have a0:=(all 0).resolve_right (by omega);unfold Le;dsimp only;rw [MM_D W hj];simp only [Mj];have b1:=mul_le_mul_left (dw die s) a1;have b0:=mul_le_mul_left (dr die s) a0;rw [add_mul,mul_assoc,mul_assoc];have e:g.1 * (die.sum * (dw die s * A.getD (j+1) 0+dr die s * A.getD 0 0))=dw die s * (g.1 * (die.sum * A.getD (j+1) 0))+dr die s * (g.1 * (die.sum * A.getD 0 0)):=by grind
 rw [e];exact Nat.add_le_add b1 b0
theorem l_rises {k c Q:Nat} {A:List Nat} (hk:1≤k) (W:Wt k c A Q) (W':Wt k (c+5) (MM die s A) (die.sum * Q)) {l l':PP} (lo:∀ q∈FF die s A,Le l q) (hl:l'∈FF die s (MM die s A)):Le l l':=by
 obtain ⟨j,hj,rfl⟩:=FF_of hk W' hl;have all:∀ i,l.1 * (die.sum * A.getD i 0)≤(MM die s A).getD i 0 * l.2∨k < i:=fun i=>by
  rcases Nat.lt_trichotomy i k with h | h | h
  ·rw [MM_D W h]; exact .inl (lo _ (zEj W h))
  ·subst h; rw [(MM_E (die:=die) (s:=s) hk W).2]; exact .inl (by simp)
  ·exact .inr h
 have a1:=(all (j+1)).resolve_right (by omega);have a0:=(all 0).resolve_right (by omega);unfold Le;dsimp only;rw [MM_D W hj];simp only [Mj];have b1:=mul_le_mul_left (dw die s) a1;have b0:=mul_le_mul_left (dr die s) a0;have e:l.1 * (die.sum * (dw die s * A.getD (j+1) 0+dr die s * A.getD 0 0))=dw die s * (l.1 * (die.sum * A.getD (j+1) 0))+dr die s * (l.1 * (die.sum * A.getD 0 0)):=by grind
 rw [e,add_mul,mul_assoc,mul_assoc];exact Nat.add_le_add b1 b0
end
end My
namespace My
open PySem L2 DV SM
abbrev stepB:Bx:=Jk
def InW (w o n k i:Nat) (E:zY):Prop:=∃ s4 s5,E=[.val (.int w),.val (.int o),.val (.int n),.val (.int k),s4,s5]∧(s4=.own (N (Zr w o k i))∨s4=.val (.lst (N (Zr w o k i))))∧wH s5=true
theorem step_w {w o n k:Nat} (hw:w≤1000) (ho:o≤1000) (hk:k≤80) (i:Nat) (E:zY) (hE:InW w o n k i E):∃ E1 E2,gN 5 (.int (i:Int)) E=.ok E1∧dB wg stepB E1=.ok (.nx,E2)∧InW w o n k (i+1) E2:=by
 obtain ⟨s4,s5,hE,h4,h5⟩:=hE;have mo:=Yx o (Zr w o k i).sum (by omega);have len:=wC w o k i;refine ⟨[.val (.int w),.val (.int o),.val (.int n),.val (.int k),s4,.val (.int (i:Int))],[.val (.int w),.val (.int o),.val (.int n),.val (.int k),.own (N (Zr w o k (i+1))),.val (.int (i:Int))],?_,?_,_,_,rfl,.inl rfl,rfl⟩
 ·subst hE; cases s5 <;> first | rfl | (cases h5)
 ·have ad:=GL [.int ((o * (Zr w o k i).sum:Nat):Int)] (N ((Zr w o k i).dropLast.map (w * ·))) (by simp [W3,len]; omega)
  exact zR (yJ (zt (Wz (zC (zt (zA rfl) (Y0 (zC (x_vA h4 rfl rfl) zX) (sum_N _)) mo) zX) rfl W0) (e_times hw (by omega) (.inr rfl) rfl rfl rfl) ad) (uD rfl rfl rfl))
theorem QO {w o n k:Nat} (hw:w≤1000) (ho:o≤1000) (hk:k≤80) (hn:n≤80):j0 [.val (.int w),.val (.int o),.val (.int n),.val (.int k)]=.ok (.val (.int (U w o k n:Nat)),O4):=by
 have z:replicate k (D.int 0)=N (replicate k 0):=by simp [N]
 have ml:=zEZ (.int 0) k (by omega);have ad:=GL [.int 1] (replicate k (.int 0)) (by simp; omega);obtain ⟨E1,f1,s4,s5,hE,h4,h5⟩:=jI (tg:=gN 5) (body:=dB wg stepB) (fun i E=>InW w o n k i E) (DV.zO 0 n) 0 [.val (.int w),.val (.int o),.val (.int n),.val (.int k),.own ([.int 1]++replicate k (.int 0)),.emp] ⟨_,_,rfl,.inl (by rw [z]; rfl),rfl⟩ (fun i d q E hI=>by
  obtain ⟨hi,rfl⟩:=JO _ _ _ _ q;rw [zero_add] at hI ⊢;rw [Int.zero_add];exact step_w hw ho hk i E hI)
 rw [jw,zero_add] at h4;subst hE;have tn:((n:Nat):Int).toNat=n:=by omega
 exact zw (zG (yJ (zt (Wz (zC x_c zX) rfl W0) (zt (Wz (zC x_c zX) rfl W0) (zA rfl) ml) ad) rfl) (zG (YD (zC (zA rfl) zX) rfl ⟨by omega,by omega⟩ (by rw [tn]; exact f1)) (zR (zx (Y0 (zC (x_vA h4 rfl rfl) zX) (sum_N _)))))) rfl
theorem zEm {die:List Nat} {s:Nat} (h:DS die s) {n:Nat} (hn:n≤40):jX [.val (wV die),.val (.int s),.val (.int n)]=.ok (.val .non,O3) :=
 f_nx (zG (jQ (jE (F:=jd) rfl (zA rfl) (uF _ (zFZ h.ok) (die_B h.ok)))) (zG (jQ (zI (F:=jD) rfl (zA rfl) (Y0 (zC (zA rfl) zX) (zAD die)) (W4 _ _ rfl (zC7 h.lt)))) (zR (jQ (zu (F:=zZ) rfl (zA rfl) x_c QL (yg _ 0 40 rfl (zAw hn))))))) rfl
theorem e_upto {die:List Nat} {s:Nat} (h:DS die s) {n k:Nat} (hn:n≤40) (hk:k≤40):j1 [.val (wV die),.val (.int s),.val (.int n),.val (.int k)]=.ok (.val (nrm (U (dw die s) (dr die s) k n:Nat) (die.sum ^ n)),O4):=by
 have hw:dw die s+dr die s≤27:=h.wo;exact zw (zG (jQ (zu (F:=jX) rfl (zA rfl) (zA rfl) (zA rfl) (zEm h hn))) (zG (jQ (zu (F:=zZ) rfl (zA rfl) x_c QL (yg _ 0 40 rfl (zAw hk)))) (zR (zx (zu (F:=jJ) rfl (zA rfl) (zA rfl) (yG (F:=j0) rfl (yj (zA rfl) (zA rfl) (zAv h.get)) (zI (F:=yx) rfl (zA rfl) (zA rfl) (zEd h)) (zA rfl) (zA rfl) (QO (w:=dw die s) (o:=dr die s) (by omega) (by omega) (by omega) (by omega))) (zEe h (by omega) _)))))) rfl
theorem zDM (S w j:Nat):∀ m,Rt S w j (m+1)=S ^ (j+1) * w ^ m+Rt S w (j+1) m
 | 0=>by simp [Rt]
 | m+1=>by
  have ih:=zDM S w j m;rw [Rt,ih];simp only [Rt];rw [show j+(m+1)+1=j+1+m+1 by omega,pow_succ w]
  grind
theorem zFf (S w j:Nat):∀ m,S * Rt S w j (m+1)=w * Rt S w (j+1) m+S ^ (j+m+2)
 | 0=>by simp only [Rt]; rw [show j+0+2=j+0+1+1 from rfl,pow_succ S (j+0+1)]; grind
 | m+1=>by
  have ih:=zFf S w j m;have e1:Rt S w j (m+1+1)=Rt S w j (m+1) * w+S ^ (j+m+2):=rfl;have e2:Rt S w (j+1) (m+1)=Rt S w (j+1) m * w+S ^ (j+m+2):=by simp only [Rt]; rw [show j+1+m+1=j+m+2 by omega]
  rw [e1,e2,mul_add,← mul_assoc,ih,show j+(m+1)+2=j+m+2+1 by omega,pow_succ S (j+m+2)]
  grind
theorem zFg {S w o:Nat} (e:w+o=S) (j:Nat):∀ m,o * Rt S w j m+S ^ (j+1) * w ^ m=S ^ (j+m+1)
 | 0=>by simp [Rt]
 | m+1=>by
  have ih:=zFg e j m;simp only [Rt];rw [pow_succ w,show j+(m+1)+1=j+m+1+1 by omega,pow_succ S (j+m+1)];subst e;have h1:o * (Rt (w+o) w j m * w+(w+o) ^ (j+m+1))+(w+o) ^ (j+1) * (w ^ m * w)=(o * Rt (w+o) w j m+(w+o) ^ (j+1) * w ^ m) * w+o * (w+o) ^ (j+m+1):=by grind
  rw [h1,ih]
  grind
theorem zAG {fs:List FI} {E E1 E2 E3 E4 E5 E6:zY} {k:Nat} {a b c d e f:_} {F:MF} {r r2 r3 r4 r5 r6 r':R} {o o2 o3 o4 o5 o6:DV.Slot} (h0:fiF fs k=F) (h1:dE fs a E=.ok (r,E1)) (h1':dE fs b E1=.ok (r2,E2)) (h1'':dE fs c E2=.ok (r3,E3)) (h4:dE fs d E3=.ok (r4,E4)) (h5:dE fs e E4=.ok (r5,E5)) (h6:dE fs f E5=.ok (r6,E6)) (h2:F [.val r.d,.val r2.d,.val r3.d,.val r4.d,.val r5.d,.val r6.d]=.ok (r',[o,o2,o3,o4,o5,o6])):dE fs (.call k (.ev a (.ev b (.ev c (.ev d (.ev e (.ev f .nil))))))) E=.ok (r',E6):=by
 subst h0;simp only [dE,dG,jf,zq,h1,h1',h1'',h4,h5,h6,zJ,h2,zH]
theorem zEn {fs:List FI} {E E1 E2:zY} {k i:Nat} {a:_} {F:MF} {r r':R} {s0:DV.Slot} {p p':List D} {o:DV.Slot} (h0:fiF fs k=F) (hs:E[i]?=some s0) (hs':JX (some s0)=false) (h1:dE fs a E=.ok (r,E1)) (hE:E1[i]?=some (.par p)) (h2:F [.par p,.val r.d]=.ok (r',[.par p',o])) (h3:E1.set i (.par p')=E2):dE fs (.call k (.lend i (.ev a .nil))) E=.ok (r',E2):=by
 subst h0 h3;have hi:i < E1.length:=(List.getElem?_eq_some_iff.mp hE).1;have hs1:(E1.set i .emp)[i]?=some .emp:=by simp [hi]
 simp only [dE,dG,jf,zq,hs,hs',Bool.false_eq_true,if_false,h1,zJ,hE,Slot.list?,h2,zH,hs1,Slot.put,set_set]
abbrev O5:List DV.Slot:=[.emp,.emp,.emp,.emp,.emp]
abbrev O6:List DV.Slot:=[.emp,.emp,.emp,.emp,.emp,.emp]
section
variable {die:List Nat} {s:Nat}
theorem pw_c {a c n m:Nat} (h:a < 2 ^ c) (hn:n≤40) (hc:c≤65) (hm:m < 2 ^ 60):a ^ n * m < Big:=by
 have:=Nat.mul_lt_mul_of_le_of_lt (zDI h n) hm (pow_pos (by decide));rw [← pow_add] at this;exact ZB this (by have:=mul_le_mul hc hn; omega)
theorem FF_lt (h:DS die s) {k c Q:Nat} {A:List Nat} (W:Wt k c A Q) (hk:1≤k) {p:PP} (hp:p∈FF die s A):p.1 < 2 ^ (c+5)∧p.2 < 2 ^ (5+c)∧0 < p.2:=by
 obtain ⟨x,hx,a,ha,rfl⟩:=uI hp;exact ⟨(W.step h hk).lt x hx,W6 (S5 h) (W.lt a ha),mul_pos (S0 h) (W.pos a ha)⟩
theorem up60 {a c:Nat} (h:a < 2 ^ c) (hc:c≤60):a < 2 ^ 60:=lt_of_lt_of_le h (Nat.pow_le_pow_right (by decide) hc)
theorem zAH (h:DS die s) {k n:Nat} (hk:1≤k∧k≤8) (hn:n≤40) {c Q:Nat} {A:List Nat} (W:Wt k c A Q) (hc:c≤60) {l g:PP} (F:Fac die s k A Q l g) {c' Q':Nat} {B:List Nat} (W':Wt k c' B Q') (hc':c'≤60) {l' g':PP} (F':Fac die s k B Q' l' g') :
  yq [.val (wV die),.val (.int (s:Nat)),.val (.int (k:Nat)),.val (.int (n:Nat)),.val (bD A Q g),.val (bD B Q' l')]=.ok (.val (.bl true),O6):=by
 have sb:zE4 (.int (k:Nat)) (.int 1)=some (.val (.int ((k - 1:Nat):Int))):=zAt (b:=1) hk.1;have up:=e_upto h hn (k:=k - 1) (by omega);have sp:=S_pow h (n:=n) (by omega);have ul:U (dw die s) (dr die s) (k - 1) n≤die.sum ^ n:=by
  have:=U_le (dw die s) (dr die s) (k - 1) n
  rwa [h.wo'] at this
 have SB:die.sum ^ n < Big:=uE (GQ sp.2);have UB:U (dw die s) (dr die s) (k - 1) n < Big:=lt_of_le_of_lt ul SB;obtain ⟨m,hm,lm,ea⟩:=zBJ h W hk hc F hn;obtain ⟨m',hm',lm',eb⟩:=zBK h W' hk hc' F' hn;obtain ⟨g1,g2,g0⟩:=FF_lt h W hk.1 F.gm;obtain ⟨l1,l2,l0⟩:=FF_lt h W' hk.1 F'.lm;have n1:=JU (a:=U (dw die s) (dr die s) (k - 1) n) (b:=die.sum ^ n) (c:=g.1 ^ n * A.getD 0 0) (d:=g.2 ^ n * m) sp.1 (mul_pos (pow_pos g0) (W.pos m hm)) UB SB (pw_c g1 hn (by omega) (up60 (W.lt _ (W.head hk.1).1) hc)) (pw_c g2 hn (by omega) (up60 (W.lt m hm) hc)) (zEk hk.1 W F.hi lm n);have n2:=JU (a:=l'.1 ^ n * B.getD 0 0) (b:=l'.2 ^ n * m') (c:=U (dw die s) (dr die s) (k - 1) n) (d:=die.sum ^ n) (mul_pos (pow_pos l0) (W'.pos m' hm')) sp.1 (pw_c l1 hn (by omega) (up60 (W'.lt _ (W'.head hk.1).1) hc')) (pw_c l2 hn (by omega) (up60 (W'.lt m' hm') hc')) UB SB (zEl hk.1 W' F'.lo lm' n);refine zw (E1:=[.val (wV die),.val (.int (s:Nat)),.val (.int (k:Nat)),.val (.int (n:Nat)),.val (bD A Q g),.val (bD B Q' l'),.val (nn (U (dw die s) (dr die s) (k - 1) n) (die.sum ^ n))]) ?_ rfl;refine zG (yJ (yG (F:=j1) rfl (zA rfl) (zA rfl) (zA rfl) (zt (zA rfl) x_c sb) up) rfl) ?_;refine zG (jF (zBU (t_E (wL (yG (F:=yn) rfl (zA rfl) (zA rfl) (zA rfl) (zA rfl) (Zu h W hk (by omega) F)) x_c rfl)) (t_E (wL (yG (F:=yo) rfl (zA rfl) (zA rfl) (zA rfl) (zA rfl) (Zv h W' hk (by omega) F')) x_c rfl))) jG) ?_;refine zG (jF (jP (t_E (zI (F:=zP) rfl (zA rfl) (Q7 (F:=JP) rfl (zA rfl) (zA rfl) (zA rfl) (zA rfl) (zA rfl) ea) n1)) rfl) jG) ?_;exact zR (zx (zI (F:=zP) rfl (Q7 (F:=JQ) rfl (zA rfl) (zA rfl) (zA rfl) (zA rfl) (zA rfl) eb) (zA rfl) n2))
theorem zEo (h:DS die s) {k:Nat} (hk:1≤k∧k≤8) {c Q:Nat} {A:List Nat} (W:Wt k c A Q) (hc:c≤60) {l g:PP} (F:Fac die s k A Q l g) {l' g':PP} (F':Fac die s k (MM die s A) (die.sum * Q) l' g') :
  WC [.val (wV die),.val (.int (s:Nat)),.val (.int (k:Nat)),.val (bD A Q g)]=.ok (.val (bD (MM die s A) (die.sum * Q) g'),O4) :=
 zw (zG (jQ (yG (F:=yp) rfl (zA rfl) (zA rfl) (zA rfl) (zA rfl) (Zw h W hk (by omega) F))) (zG (yJ (yG (F:=jO) rfl (zA rfl) (zA rfl) (zA rfl) (yj (zA rfl) x_c rfl) (W7 h W hk (by omega))) rfl) (zG (Y9 (yG (F:=zM) rfl (zA rfl) (zA rfl) (zA rfl) (zA rfl) F'.run) rfl) (zR (zx (Y8 (zC (zA rfl) (zC (zA rfl) zX)) rfl y3)))))) rfl
abbrev RA (die:List Nat) (s k:Nat):List Nat:=(List.range k).map fun j=>Rt die.sum (dw die s) j (k - j)
theorem RA_D (h:DS die s) (k:Nat):(List.range k).map (wS die s k)=WD (RA die s k) (dw die s ^ k):=by
 show _=((List.range k).map fun j=>Rt die.sum (dw die s) j (k - j)).map fun a=>nn a (dw die s ^ k)
 rw [map_map];refine List.map_congr_left fun j hj=>?_
 have:=mem_range.mp hj;show nrm _ (dw die s ^ (j+(k - j)))=_;rw [show j+(k - j)=k by omega]; rfl
theorem uL {k j:Nat} (hj:j < k):(RA die s k).getD j 0=Rt die.sum (dw die s) j (k - j):=by
 rw [getD_eq_getElem?_getD,getElem?_map,List.getElem?_range hj]; rfl
theorem RA_end (k:Nat):(RA die s k).getD k 0=Rt die.sum (dw die s) k (k - k):=by
 rw [getD_eq_getElem?_getD,getElem?_eq_none (by simp),Nat.sub_self]; rfl
theorem Rt42 {S w j:Nat} (hS:S≤27) (hw:w≤S) {m:Nat} (h:j+m≤8):Rt S w j m < 2 ^ 42:=by
 have e:=Pt_Rt S w j m;have l:=Pt_le hS hw (j+m);have l2:(j+m) * 27 ^ (j+m)≤8 * 27 ^ 8:=mul_le_mul h (Nat.pow_le_pow_right (by decide) h);have l3:8 * 27 ^ 8 < 2 ^ 42:=by decide +kernel
 omega
theorem Rt_pos {S w j:Nat} (hS:0 < S):∀ {m:Nat},0 < m→0 < Rt S w j m
 | m+1,_=>by simp only [Rt]; have:0 < S ^ (j+m+1):=pow_pos hS; omega
theorem RA_W (h:DS die s) {k:Nat} (hk:1≤k∧k≤8):Wt k 42 (RA die s k) (dw die s ^ k) where
 len:=by simp
 pos:=fun a ha=>by
  obtain ⟨j,hj,rfl⟩:=mem_map.mp ha;have:=mem_range.mp hj;exact Rt_pos (S0 h) (by omega)
 lt:=fun a ha=>by
  obtain ⟨j,hj,rfl⟩:=mem_map.mp ha;have:=mem_range.mp hj;exact Rt42 h.S27.2 h.le (by omega)
 q0:=pow_pos (dw_ok h).1
 ql:=lt_of_le_of_lt (le_trans (pow_le_pow_left (dw_ok h).2 k) (Nat.pow_le_pow_right (by decide) hk.2)) (by decide +kernel)
theorem R_key (h:DS die s) {k i:Nat} (hi:i < k):die.sum * dw die s ^ k+dw die s * Rt die.sum (dw die s) (i+1) (k - (i+1))+dr die s * Rt die.sum (dw die s) 0 k=die.sum * Rt die.sum (dw die s) i (k - i):=by
 have a:=zFf die.sum (dw die s) i (k - (i+1));have b:=zFg (S:=die.sum) (w:=dw die s) (o:=dr die s) h.wo' 0 k;rw [show k - (i+1)+1=k - i by omega,show i+(k - (i+1))+2=k+1 by omega] at a;rw [zero_add,Nat.pow_one,zero_add] at b;rw [a];omega
theorem R_top (h:DS die s) {k:Nat}:∀ i,i≤k→Rt die.sum (dw die s) i (k - i)≤Rt die.sum (dw die s) 0 k
 | 0,_=>le_refl _
 | i+1,hi=>by
  have ih:=R_top h (k:=k) i (by omega);have a:=zDM die.sum (dw die s) i (k - (i+1));rw [show k - (i+1)+1=k - i by omega] at a;omega
theorem M_key (h:DS die s) {k j:Nat} (hj:j < k):Mj die s (RA die s k) j+die.sum * dw die s ^ k=die.sum * (RA die s k).getD j 0:=by
 have key:=R_key h hj;simp only [Mj];have e1:(RA die s k).getD (j+1) 0=Rt die.sum (dw die s) (j+1) (k - (j+1)):=by
  by_cases c:j+1 < k
  ·exact uL c
  ·have:j+1=k:=by omega
   rw [this]; exact RA_end k
 rw [e1,uL hj,uL (by omega),← key,Nat.sub_zero];omega
theorem zAI (h:DS die s) {k:Nat} (hk:1≤k∧k≤8) {g:PP} (hg:g∈FF die s (RA die s k)):zP [.val (pD g),.val (.tup [.int ((tp ((RA die s k).getD 0 0) (dw die s ^ k):Nat) - (bt ((RA die s k).getD 0 0) (dw die s ^ k):Nat):Int),.int (tp ((RA die s k).getD 0 0) (dw die s ^ k):Nat)])]=.ok (.val (.bl true),O2):=by
 have W:=RA_W h hk;obtain ⟨j,hj,rfl⟩:=FF_of hk.1 W hg;obtain ⟨x1,x2,x0⟩:=FF_lt h W hk.1 hg;have mk:=M_key h hj;have m0:=M_key h (k:=k) (j:=0) hk.1;have tl:(RA die s k).getD j 0≤(RA die s k).getD 0 0:=by rw [uL hj,uL hk.1,Nat.sub_zero]; exact R_top h j (by omega)
 have q0:=W.q0;have S0:=S0 h;have ra:=W.lt _ (W.head hk.1).1;have rp:=W.pos _ (W.head hk.1).1;generalize (RA die s k).getD j 0=aj at *;generalize hM:Mj die s (RA die s k) j=mj at *;generalize Mj die s (RA die s k) 0=m00 at *;generalize (RA die s k).getD 0 0=R0 at *;generalize dw die s ^ k=Q at *;have QR:Q≤R0:=Nat.le_of_mul_le_mul_left (show die.sum * Q≤die.sum * R0 by omega) S0;obtain ⟨a,rfl⟩:∃ a,R0=a+Q:=⟨R0 - Q,by omega⟩;have gd:a.gcd (a+Q)=(a+Q).gcd Q:=by rw [Nat.gcd_self_add_right,Nat.gcd_add_self_left]
 have e:D.tup [.int ((tp (a+Q) Q:Nat) - (bt (a+Q) Q:Nat):Int),.int (tp (a+Q) Q:Nat)]=nn a (a+Q):=by
  rw [wq];have d1:(a+Q).gcd Q ∣ a:=by rw [← gd]; exact gcd_dvd_left _ _
  have d2:(a+Q).gcd Q ∣ Q:=gcd_dvd_right _ _;have gp:0 < (a+Q).gcd Q:=gcd_pos_of_pos_right _ q0;have s1:tp (a+Q) Q=tp a (a+Q)+bt (a+Q) Q:=by
   show (a+Q) / (a+Q).gcd Q=a / a.gcd (a+Q)+Q / (a+Q).gcd Q
   rw [gd];obtain ⟨u,hu⟩:=d1;obtain ⟨v,hv⟩:=d2;generalize (a+Q).gcd Q=gg at *;subst hu hv;rw [← mul_add,Nat.mul_div_cancel_left _ gp,Nat.mul_div_cancel_left _ gp,Nat.mul_div_cancel_left _ gp]
  have s2:bt a (a+Q)=tp (a+Q) Q:=by
   show (a+Q) / a.gcd (a+Q)=(a+Q) / (a+Q).gcd Q
   rw [gd]
  rw [s2];have s3:((tp (a+Q) Q:Nat):Int) - (bt (a+Q) Q:Nat)=(tp a (a+Q):Nat):=by rw [s1]; omega
  rw [s3]
 rw [e];refine JU x0 (by omega) (ZB x1 (by decide)) (ZB x2 (by decide)) (lt_of_le_of_lt (Nat.le_add_right a Q) (ZB ra (by decide))) (ZB ra (by decide)) ?_;show mj * (a+Q)≤a * (die.sum * aj);rw [← mk];have h1:mj≤die.sum * a:=by
  have:=mul_le_mul_left die.sum tl;rw [mul_add] at this;omega
 have h2:=mul_le_mul_right Q h1;rw [mul_add,mul_add,mul_comm mj a];have h3:a * (die.sum * Q)=die.sum * a * Q:=by grind
 omega
end
end My
namespace My
open PySem L2 DV SM
theorem div2520:∀ b,b < 9→2520 / (1+b) * (1+b)=2520:=by decide
theorem nn_1 (x:Nat):nn x 1=.tup [.int (x:Nat),.int 1]:=by rw [wq]; simp [tp,bt]
theorem zAJ (x:Nat):D.tup [.int (x:Nat),.int 1]=nn (2520 * x) 2520:=by rw [← nn_1]; exact zAF (by decide) (by decide) (by omega)
theorem zEp (x:Nat) {b:Nat} (hb:b < 9):nn x (1+b)=nn (x * (2520 / (1+b))) 2520:=zAF (by omega) (by decide) (by rw [mul_assoc,div2520 b hb])
structure Wi (A:List Nat):Prop where
 pos:∀ a∈A,0 < a
 lt:∀ a∈A,a < 2 ^ 18
theorem Wi.snoc {A:List Nat} (h:Wi A) {a:Nat} (h1:0 < a) (h2:a < 2 ^ 18):Wi (A++[a]):=⟨fun x hx=>by
 rcases mem_append.mp hx with hx | hx
 ·exact h.pos x hx
 ·rw [mem_singleton] at hx; subst hx; exact h1,fun x hx=>by
 rcases mem_append.mp hx with hx | hx
 ·exact h.lt x hx
 ·rw [mem_singleton] at hx; subst hx; exact h2⟩
theorem zEq {a b c d:D}:[a,b,c,d].length≤cap:=by simp only [length_cons,length_nil,cap]; omega
theorem zDN {a b c:D}:[a,b,c].length≤cap:=by simp only [length_cons,length_nil,cap]; omega
theorem QP (p:List D) (hp:Pen p) {k:Nat} (hk:1≤k∧k≤8):∃ A p',yf [.par p,.val (.int (k:Nat))]=.ok (.val (.tup (WD A 2520)),[.par p',.emp])∧Pen p'∧Wt k 18 A 2520:=by
 obtain ⟨way,p1,e1,l1,u1,hp1⟩:=zn p hp 4 (by decide) (by decide);have hway:way=0∨way=1∨way=2∨way=3:=by omega
 obtain ⟨E1,f1,p2,A,s4,s5,hE,hp2,hA,hw,h4,h5⟩:=jI (tg:=gN 4) (body:=dB j7 jh) (fun i E=>∃ p A s4 s5,E=[.par p,.val (.int (k:Nat)),.val (.int way),.own (WD A 2520),s4,s5]∧Pen p∧A.length=i∧Wi A∧wH s4=true∧wH s5=true) (DV.zO 0 k) 0 [.par p1,.val (.int (k:Nat)),.val (.int way),.own [],.emp,.emp] ⟨p1,[],_,_,rfl,hp1,rfl,⟨fun a h=>(by cases h),fun a h=>(by cases h)⟩,rfl,rfl⟩ (fun i d q E ⟨p,A,s4,s5,hE,hp,hA,hw,h4,h5⟩=>by
  obtain ⟨hi,rfl⟩:=JO _ _ _ _ q;rw [zero_add] at hA ⊢;rw [Int.zero_add];obtain ⟨x,p1,e1,l1,u1,hp1⟩:=zn p hp 3 (by decide) (by decide);have ht:∃ t:Nat,ixD (.lst [.int 9,.int 3,.int 99]) (.int x)=some (.val (.int (t:Nat)))∧0 < t∧t≤99:=by
   have:x=0∨x=1∨x=2:=by omega
   rcases this with rfl | rfl | rfl
   ·exact ⟨9,rfl,by decide,by decide⟩
   ·exact ⟨3,rfl,by decide,by decide⟩
   ·exact ⟨99,rfl,by decide,by decide⟩
  obtain ⟨t,ht,t0,t9⟩:=ht;obtain ⟨r,p2,e2,l2,u2,hp2⟩:=zn p1 hp1 (t:Nat) (by omega) (by omega);obtain ⟨r,rfl⟩:=Int.eq_ofNat_of_zero_le l2;obtain ⟨b,p3,e3,l3,u3,hp3⟩:=zn p2 hp2 9 (by decide) (by decide);obtain ⟨b,rfl⟩:=Int.eq_ofNat_of_zero_le l3;have ea:QS (.int 1) (.int (r:Nat))=some (.val (.int ((1+r:Nat):Int))):=JI 1 r;have eb:QS (.int 1) (.int (b:Nat))=some (.val (.int ((1+b:Nat):Int))):=JI 1 b;have hr:1≤1+r∧1+r≤99:=by omega
  generalize 1+r=top at *;have sh:=zAC ((top:Nat):Int) (1+b) (by omega) (GQ (s27 (by omega)));have mk:=Yx 2 k (by omega);have sk:zE4 (.int ((2 * k:Nat):Int)) (.int (i:Nat))=some (.val (.int ((2 * k - i:Nat):Int))):=zAt (by omega);have hx:∃ a,ixD (.lst [nn top (1+b),.tup [.int 1,.int 1],.tup [.int ((2 * k - i:Nat):Int),.int 1],.tup [.int (top:Nat),.int 1]]) (.int way)=some (.val (nn a 2520))∧0 < a∧a < 2 ^ 18:=by
   rcases hway with rfl | rfl | rfl | rfl
   ·refine ⟨top * (2520 / (1+b)),by rw [← zEp top (by omega)]; rfl,?_,?_⟩
    ·exact mul_pos (by omega) (div_pos (by omega) (by omega))
    ·have:2520 / (1+b)≤2520:=div_le_self _ _
     have:=mul_le_mul hr.2 this;omega
   ·exact ⟨2520 * 1,by rw [← zAJ]; rfl,by decide,by decide⟩
   ·exact ⟨2520 * (2 * k - i),by rw [← zAJ]; rfl,by omega,by omega⟩
   ·exact ⟨2520 * top,by rw [← zAJ]; rfl,by omega,by omega⟩
  obtain ⟨a,ha,a0,a1⟩:=hx;refine ⟨[.par p,.val (.int (k:Nat)),.val (.int way),.own (WD A 2520),.val (.int (i:Nat)),s5],[.par p3,.val (.int (k:Nat)),.val (.int way),.own (WD (A++[a]) 2520),.val (.int (i:Nat)),.val (.int (top:Nat))],?_,?_,_,_,_,_,rfl,hp3,by simp [hA],hw.snoc a0 a1,rfl,rfl⟩
  ·subst hE; cases s4 <;> first | rfl | (cases h4)
  ·refine zG (yJ (zt x_c (zEn (F:=zK) rfl rfl rfl (yj (Wz (zC x_c (zC x_c (zC x_c zX))) rfl zDN) (jL (F:=zK) rfl rfl x_c e1 rfl) ht) rfl e2 rfl) ea) (uD rfl h5 rfl)) ?_
   refine zR (s_app rfl (yj (Wz (zC (zI (F:=j6) rfl (zA rfl) (zt x_c (jL (F:=zK) rfl rfl x_c e3 rfl) eb) sh) (zC (Y8 (zC x_c (zC x_c zX)) rfl y3) (zC (Y8 (zC (zt (zt x_c (zA rfl) mk) (zA rfl) sk) (zC x_c zX)) rfl y3) (zC (Y8 (zC (zA rfl) (zC x_c zX)) rfl y3) zX)))) rfl zEq) (zA rfl) ha) rfl ?_ ?_)
   ·rw [length_map,hA]; simp only [cap]; omega
   ·show (_:zY)=[.par p3,.val (.int (k:Nat)),.val (.int way),.own ((A++[a]).map fun a=>nn a 2520),.val (.int (i:Nat)),.val (.int (top:Nat))]
    rw [List.map_append]; rfl)
 rw [jw,zero_add] at hA;subst hE;exact ⟨A,p2,zw (zG (yJ (jL (F:=zK) rfl rfl x_c e1 rfl) rfl) (zG (yJ (Wz zX rfl nil_cap) rfl) (zG (YD (j:=(k:Int)) (zC (zA rfl) zX) rfl ⟨by omega,by omega⟩ (by rw [Int.toNat_natCast]; exact f1)) (zR (zx (Y0 (zC (uC rfl rfl) zX) rfl)))))) rfl,hp2,hA,hw.pos,hw.lt,by decide,by decide⟩
section
variable {die:List Nat} {s:Nat}
theorem JV (h:DS die s) {k c Q c' Q':Nat} {A B:List Nat} (W:Wt k c A Q) (W':Wt k c' B Q') (hk:1≤k) (hc:c≤80) (hc':c'≤80) {p q:PP} (hp:p∈FF die s A) (hq:q∈FF die s B) (l:Le p q):zP [.val (pD p),.val (pD q)]=.ok (.val (.bl true),O2):=by
 have o1:=zDH h W hk hc;have o2:=zDH h W' hk hc';exact JU (o1.pos p hp) (o2.pos q hq) (o1.l1 p hp) (o1.l2 p hp) (o2.l1 q hq) (o2.l2 q hq) l
theorem zA2 (h:DS die s) {k:Nat} (hk:1≤k∧k≤8):yU [.val (wV die),.val (.int (s:Nat)),.val (.int (k:Nat))]=.ok (.val (.tup (WD (RA die s k) (dw die s ^ k))),O3):=by
 have wl:=JJ h hk;rw [RA_D h] at wl;exact zw (zR (zx (Y0 (zC (zu (F:=yN) rfl (zA rfl) (zA rfl) (zA rfl) wl) zX) rfl))) rfl
theorem GU (h:DS die s) {k:Nat} (hk:1≤k∧k≤8) {l g:PP} (F:Fac die s k (RA die s k) (dw die s ^ k) l g):jY [.val (wV die),.val (.int (s:Nat)),.val (.int (k:Nat))]=.ok (.val (bD (RA die s k) (dw die s ^ k) g),O3) :=
 zw (zG (yJ (zu (F:=yU) rfl (zA rfl) (zA rfl) (zA rfl) (zA2 h hk)) rfl) (zG (Y9 (yG (F:=zM) rfl (zA rfl) (zA rfl) (zA rfl) (zA rfl) F.run) rfl) (zR (zx (Y8 (zC (zA rfl) (zC (zA rfl) zX)) rfl y3))))) rfl
theorem GV (h:DS die s) {k:Nat} (hk:1≤k∧k≤8) {l g:PP} (F:Fac die s k (RA die s k) (dw die s ^ k) l g):jZ [.val (wV die),.val (.int (s:Nat)),.val (.int (k:Nat))]=.ok (.val (bD (RA die s k) (dw die s ^ k) l),O3) :=
 zw (zG (yJ (zu (F:=yU) rfl (zA rfl) (zA rfl) (zA rfl) (zA2 h hk)) rfl) (zG (Y9 (yG (F:=zM) rfl (zA rfl) (zA rfl) (zA rfl) (zA rfl) F.run) rfl) (zR (zx (Y8 (zC (zA rfl) (zC (zA rfl) zX)) rfl y3))))) rfl
theorem put78 {a0 a1 a2 a3 a4 a5 a6 s7 s8:DV.Slot} {x y:D} (h7:wH s7=true) (h8:wH s8=true):gT [7,8] (.tup [x,y]) [a0,a1,a2,a3,a4,a5,a6,s7,s8]=.ok [a0,a1,a2,a3,a4,a5,a6,.val x,.val y]:=by
 cases s7 <;> first | (cases h7; done) | (cases s8 <;> first | rfl | (cases h8))
theorem uM (h:DS die s) {k:Nat} (hk:1≤k∧k≤8) {c Q:Nat} {A:List Nat} (W:Wt k c A Q) (hc:c≤60) {l g l' g':PP} (F:Fac die s k A Q l g) (F':Fac die s k (MM die s A) (die.sum * Q) l' g') {a6 s7 s8:DV.Slot} (h7:wH s7=true) (h8:wH s8=true) :
  dB ji jU [.val (wV die),.val (.int (s:Nat)),.val (.int (k:Nat)),.val (.tup (WD A Q)),.val (pD l),.val (pD g),a6,s7,s8]=.ok (.nx,[.val (wV die),.val (.int (s:Nat)),.val (.int (k:Nat)),.val (.tup (WD (MM die s A) (die.sum * Q))),.val (pD l'),.val (pD g'),a6,.val (pD l'),.val (pD g')]):=by
 have W':=W.step h hk.1;have n1:=JV h W W' hk.1 (by omega) (by omega) F.lm F'.lm (l_rises hk.1 W W' F.lo F'.lm);have n2:=JV h W' W hk.1 (by omega) (by omega) F'.gm F.gm (zDL hk.1 W W' F.hi F'.gm);have n3:=JV h W' W' hk.1 (by omega) (by omega) F'.lm F'.gm (F'.lo _ F'.gm);refine zG (yJ (yG (F:=jO) rfl (zA rfl) (zA rfl) (zA rfl) (zA rfl) (W7 h W hk (by omega))) rfl) ?_;refine zG (Y9 (yG (F:=zM) rfl (zA rfl) (zA rfl) (zA rfl) (zA rfl) F'.run) (put78 h7 h8)) ?_;refine zG (jF (zBU (jP (t_E (zI (F:=zP) rfl (zA rfl) (zA rfl) n1)) rfl) (zBU (jP (t_E (zI (F:=zP) rfl (zA rfl) (zA rfl) n2)) rfl) (jP (t_E (zI (F:=zP) rfl (zA rfl) (zA rfl) n3)) rfl))) jG) ?_;exact zR (Q5 (zC (zA rfl) (zC (zA rfl) zX)) rfl)
theorem ints2:DV.zO 0 ((2:Int)).toNat=[.int 0,.int 1]:=rfl
theorem GW (h:DS die s) {k:Nat} (hk:1≤k∧k≤8) {A:List Nat} (W:Wt k 18 A 2520):yZ [.val (wV die),.val (.int (s:Nat)),.val (.int (k:Nat)),.val (.tup (WD A 2520))]=.ok (.val (.bl true),O4):=by
 have W':=W.step h hk.1;have W'':=W'.step h hk.1;obtain ⟨l,g,F⟩:=jl h W hk (by decide);obtain ⟨l',g',F'⟩:=jl h W' hk (by decide);obtain ⟨l'',g'',F''⟩:=jl h W'' hk (by decide);have b1:=uM h hk W (by decide) F F' (a6:=.val (.int 0)) (s7:=.emp) (s8:=.emp) rfl rfl;have b2:=uM h hk W' (by decide) F' F'' (a6:=.val (.int 1)) (s7:=.val (pD l')) (s8:=.val (pD g')) rfl rfl;refine zw (E1:=[.val (wV die),.val (.int (s:Nat)),.val (.int (k:Nat)),.val (.tup (WD (MM die s (MM die s A)) (die.sum * (die.sum * 2520)))),.val (pD l''),.val (pD g''),.val (.int 1),.val (pD l''),.val (pD g'')]) ?_ rfl;refine zG (Y9 (yG (F:=zM) rfl (zA rfl) (zA rfl) (zA rfl) (zA rfl) F.run) rfl) ?_;exact zG (YD (j:=2) (zC x_c zX) rfl ⟨by decide,by decide⟩ (by rw [ints2]; exact Yw rfl b1 (Yw rfl b2 zAs))) (zR (zx x_c))
theorem uN (h:DS die s) {k n:Nat} (hk:1≤k∧k≤8) (hn:n≤40) {c Q c' Q':Nat} {A B:List Nat} (W:Wt k c A Q) (hc:c≤55) (V:Wt k c' B Q') (hc':c'≤60) {l g l' g' u v:PP} (F:Fac die s k A Q l g) (F':Fac die s k (MM die s A) (die.sum * Q) l' g') (G:Fac die s k B Q' u v) {a4 a5 a6 a9 s10 a11:DV.Slot} (h10:wH s10=true) :
  dB Yo Jr [.val (wV die),.val (.int (s:Nat)),.val (.int (k:Nat)),.val (.int (n:Nat)),a4,a5,a6,.val (bD A Q g),.val (bD B Q' u),a9,s10,a11]=.ok (.nx,[.val (wV die),.val (.int (s:Nat)),.val (.int (k:Nat)),.val (.int (n:Nat)),a4,a5,a6,.val (bD (MM die s A) (die.sum * Q) g'),.val (bD B Q' u),a9,.val (bD (MM die s A) (die.sum * Q) g'),a11]):=by
 have W':=W.step h hk.1;have n2:=JV h W' W hk.1 (by omega) (by omega) F'.gm F.gm (zDL hk.1 W W' F.hi F'.gm);have ho:=zAH h hk hn W' (by omega) F' V hc' G;refine zG (yJ (yG (F:=WC) rfl (zA rfl) (zA rfl) (zA rfl) (zA rfl) (zEo h hk W (by omega) F F')) (uD rfl h10 rfl)) ?_;refine zG (jF (zBU (jP (t_E (zI (F:=zP) rfl (yj (zA rfl) x_c rfl) (yj (zA rfl) x_c rfl) n2)) rfl) (jP (t_E (zAG (F:=yq) rfl (zA rfl) (zA rfl) (zA rfl) (zA rfl) (zA rfl) (zA rfl) ho)) rfl)) jG) ?_;exact zR (yJ (zA rfl) rfl)
theorem e_right (h:DS die s) {k n:Nat} (hk:1≤k∧k≤8) (hn:n≤40) {A:List Nat} (W:Wt k 18 A 2520):j9 [.val (wV die),.val (.int (s:Nat)),.val (.int (k:Nat)),.val (.int (n:Nat)),.val (.tup (WD A 2520))]=.ok (.val (.bl true),O5):=by
 obtain ⟨l,g,F⟩:=jl h W hk (by decide);have V:=RA_W h hk;have V':=V.step h hk.1;have V'':=V'.step h hk.1;obtain ⟨l1,g1,G⟩:=jl h V hk (by decide);obtain ⟨l2,g2,G'⟩:=jl h V' hk (by decide);obtain ⟨l3,g3,G''⟩:=jl h V'' hk (by decide);have h1:=zAH h hk hn W (by decide) F W (by decide) F;have h2:=zAH h hk hn V (by decide) G V (by decide) G;have b1:=uN h hk hn V (by decide) V (by decide) G G' G (a4:=.val (.tup (WD A 2520))) (a5:=.val (pD l)) (a6:=.val (pD g)) (a9:=.val (.int 0)) (s10:=.emp) (a11:=.emp) rfl;have b2:=uN h hk hn V' (by decide) V (by decide) G' G'' G (a4:=.val (.tup (WD A 2520))) (a5:=.val (pD l)) (a6:=.val (pD g)) (a9:=.val (.int 1)) (s10:=.val (bD (MM die s (RA die s k)) (die.sum * dw die s ^ k) g2)) (a11:=.emp) rfl;have wl:=JJ h hk;rw [RA_D h] at wl;have em:=e_mean h hk;have e0:wS die s k 0=.tup [.int (tp ((RA die s k).getD 0 0) (dw die s ^ k):Nat),.int (bt ((RA die s k).getD 0 0) (dw die s ^ k):Nat)]:=by
  rw [← wq,uL hk.1];show nrm _ (dw die s ^ (0+(k - 0)))=_;rw [show 0+(k - 0)=k by omega]
 rw [e0] at em;have la:=zAI h hk G.gm;refine zw (E1:=[.val (wV die),.val (.int (s:Nat)),.val (.int (k:Nat)),.val (.int (n:Nat)),.val (.tup (WD A 2520)),.val (pD l),.val (pD g1),.val (bD (MM die s (MM die s (RA die s k))) (die.sum * (die.sum * dw die s ^ k)) g3),.val (bD (RA die s k) (dw die s ^ k) l1),.val (.int 1),.val (bD (MM die s (MM die s (RA die s k))) (die.sum * (die.sum * dw die s ^ k)) g3),.val (.tup [.int (tp ((RA die s k).getD 0 0) (dw die s ^ k):Nat),.int (bt ((RA die s k).getD 0 0) (dw die s ^ k):Nat)])]) ?_ rfl;refine zG (Y9 (yG (F:=zM) rfl (zA rfl) (zA rfl) (zA rfl) (zA rfl) F.run) rfl) ?_;refine zG (jF (jP (t_E (zAG (F:=yq) rfl (zA rfl) (zA rfl) (zA rfl) (zA rfl) (Y8 (zC (zA rfl) (zC (zA rfl) zX)) rfl y3) (Y8 (zC (zA rfl) (zC (zA rfl) zX)) rfl y3) h1)) rfl) jG) ?_;refine zG (Q5 (zC (zu (F:=jY) rfl (zA rfl) (zA rfl) (zA rfl) (GU h hk G)) (zC (zu (F:=jZ) rfl (zA rfl) (zA rfl) (zA rfl) (GV h hk G)) zX)) rfl) ?_;refine zG (jF (jP (t_E (zAG (F:=yq) rfl (zA rfl) (zA rfl) (zA rfl) (zA rfl) (zA rfl) (zA rfl) h2)) rfl) jG) ?_;refine zG (YD (j:=2) (zC x_c zX) rfl ⟨by decide,by decide⟩ (by rw [ints2]; exact Yw rfl b1 (Yw rfl b2 zAs))) ?_;refine zG (yJ (zu (F:=j5) rfl (zA rfl) (zA rfl) (zA rfl) em) rfl) ?_;refine zG (yJ (yj (yG (F:=zM) rfl (zA rfl) (zA rfl) (zA rfl) (Y0 (zC (zu (F:=yN) rfl (zA rfl) (zA rfl) (zA rfl) wl) zX) rfl) G.run) x_c rfl) rfl) ?_;exact zR (zx (zI (F:=zP) rfl (zA rfl) (Y8 (zC (zt (yj (zA rfl) x_c rfl) (yj (zA rfl) x_c rfl) rfl) (zC (yj (zA rfl) x_c rfl) zX)) rfl y3) la))
end
end My
namespace My
open PySem L2 DV SM
theorem zEr {fs:List FI} {E E1:zY} {k i:Nat} {F:MF} {r':R} {p p':List D} (h0:fiF fs k=F) (hE:E[i]?=some (.own p)) (h2:F [.par p]=.ok (r',[.par p'])) (h3:E.set i (.own p')=E1):dE fs (.call k (.lend i .nil)) E=.ok (r',E1):=by
 subst h0 h3;have hi:i < E.length:=(List.getElem?_eq_some_iff.mp hE).1;have hs:(E.set i .emp)[i]?=some .emp:=by simp [hi]
 simp only [dE,dG,jf,zq,hE,JX,Bool.false_eq_true,if_false,zJ,Slot.list?,h2,zH,hs,Slot.put,set_set]
abbrev InC (v:D) (E:zY):Prop:=∃ s1 s2 s3 s4 s5 s6 s7,E=[.val v,s1,s2,s3,s4,s5,s6,s7]∧wH s1=true∧wH s2=true∧wH s3=true∧wH s4=true∧wH s5=true∧wH s6=true∧wH s7=true
theorem put456 {v s1 s2 s3 s4 s5 s6 s7:DV.Slot} {a b c:D} (h4:wH s4=true) (h5:wH s5=true) (h6:wH s6=true):gNs [4,5,6] [a,b,c] [v,s1,s2,s3,s4,s5,s6,s7]=.ok [v,s1,s2,s3,.val a,.val b,.val c,s7]:=by
 cases s4 <;> first | (cases h4; done) | (cases s5 <;> first | (cases h5; done) | (cases s6 <;> first | rfl | (cases h6)))
theorem cell_ok (v:D) (c:Int) (s2 s3 s4 s5 s6 s7:DV.Slot) (h2:wH s2=true) (h3:wH s3=true) (h4:wH s4=true) (h5:wH s5=true) (h6:wH s6=true) (h7:wH s7=true) :
  ∃ E',dB QI GC [.val v,.val (.int c),s2,s3,s4,s5,s6,s7]=.ok (.nx,E')∧InC v E':=by
 obtain ⟨p0,e0,hp0⟩:=GM c;obtain ⟨die,p1,e1,hp1,hd⟩:=GS p0 hp0;have hl:2≤die.length∧die.length≤3:=by rcases hd.1 with e | e <;> omega
 obtain ⟨s,p2,e2,l2,u2,hp2⟩:=zn p1 hp1 (die.length:Nat) (by omega) (by omega);obtain ⟨s,rfl⟩:=Int.eq_ofNat_of_zero_le l2;have ds:DS die s:=⟨hd,by omega⟩;obtain ⟨q,p3,e3,l3,u3,hp3⟩:=zn p2 hp2 2 (by decide) (by decide);have ht:∃ t:Nat,ixD (.lst [.int 8,.int 3]) (.int q)=some (.val (.int (t:Nat)))∧0 < t∧t≤8:=by
  have:q=0∨q=1:=by omega
  rcases this with rfl | rfl
  ·exact ⟨8,rfl,by decide,by decide⟩
  ·exact ⟨3,rfl,by decide,by decide⟩
 obtain ⟨t,ht,t0,t8⟩:=ht;obtain ⟨a,p4,e4,l4,u4,hp4⟩:=zn p3 hp3 (t:Nat) (by omega) (by omega);obtain ⟨a,rfl⟩:=Int.eq_ofNat_of_zero_le l4;have ea:QS (.int 1) (.int (a:Nat))=some (.val (.int ((1+a:Nat):Int))):=JI 1 a;have hk:1≤1+a∧1+a≤8:=by omega
 generalize 1+a=k at ea hk;obtain ⟨n,p5,e5,l5,u5,hp5⟩:=zn p4 hp4 41 (by decide) (by decide);obtain ⟨n,rfl⟩:=Int.eq_ofNat_of_zero_le l5;obtain ⟨A,p6,e6,hp6,W⟩:=QP p5 hp5 hk;have sr:=e_right ds hk (n:=n) (by omega) W;have mr:=GW ds hk W;refine ⟨[.val v,.val (.int c),.own p6,.val (wV die),.val (.int (s:Nat)),.val (.int (k:Nat)),.val (.int (n:Nat)),.val (.tup (WD A 2520))],?_,_,_,_,_,_,_,_,rfl,rfl,rfl,rfl,rfl,rfl,rfl,rfl⟩;refine zG (yJ (jE (F:=yy) rfl (zA rfl) e0) (uD rfl h2 rfl)) ?_;refine zG (yJ (zEr (F:=ja) rfl rfl e1 rfl) (uD rfl h3 rfl)) ?_;refine zG (s_par3 (zC (WE (F:=zK) rfl rfl (Y0 (zC (zA rfl) zX) (zAD die)) e2 rfl) (zC (zt x_c (zEa (F:=zK) rfl rfl rfl (yj (Wz (zC x_c (zC x_c zX)) rfl y3) (WE (F:=zK) rfl rfl x_c e3 rfl) ht) rfl e4 rfl) ea) (zC (WE (F:=zK) rfl rfl x_c e5 rfl) zX))) (put456 h4 h5 h6)) ?_;refine zG (yJ (WE (F:=yf) rfl rfl (zA rfl) e6 rfl) (uD rfl h7 rfl)) ?_;exact zR (jF (zBU (jP (t_E (Q7 (F:=j9) rfl (zA rfl) (zA rfl) (zA rfl) (zA rfl) (zA rfl) sr)) rfl) (jP (t_E (yG (F:=yZ) rfl (zA rfl) (zA rfl) (zA rfl) (zA rfl) mr)) rfl)) jG)
theorem math57 (ns:List Int) (hns:ns.length≤63):∃ outs,m_law [.val (.lst (ns.map D.int))]=.ok (.val (.bl true),outs):=by
 obtain ⟨c,e2⟩:=vT ns;have hcut:zAT (ns.map D.int) (some 1) (some 6)=((ns.drop (HT.sIx ns.length 0 (some 1))).take (HT.sIx ns.length ns.length (some 6) - HT.sIx ns.length 0 (some 1))).map D.int:=by
  unfold zAT; simp [List.map_drop,List.map_take]
 generalize hk:(ns.drop (HT.sIx ns.length 0 (some 1))).take (HT.sIx ns.length ns.length (some 6) - HT.sIx ns.length 0 (some 1))=k at hcut;have hkl:k.length≤63:=by rw [← hk]; simp; omega
 have c1:slD (.lst (ns.map D.int)) (some 1) (some 6)=some (.own (k.map D.int)):=by simp only [slD,hcut]
 have c2:=GL [.int c] (k.map D.int) (by simp; omega);generalize hv:D.lst (ns.map D.int)=v at e2 c1;obtain ⟨E',f1,u1,u2,u3,u4,u5,u6,u7,hE,_⟩:=jI (tg:=gN 1) (body:=dB QI GC) (fun _ E=>InC v E) ([.int c]++k.map D.int) 0 [.val v,.emp,.emp,.emp,.emp,.emp,.emp,.emp] ⟨_,_,_,_,_,_,_,rfl,rfl,rfl,rfl,rfl,rfl,rfl,rfl⟩
  (fun i d q E ⟨s1,s2,s3,s4,s5,s6,s7,hE,h1,h2,h3,h4,h5,h6,h7⟩=>by
   obtain ⟨x,rfl⟩:∃ x:Int,d=.int x:=by
    have:=mem_of_getElem? q;rcases mem_append.mp this with m | m
    ·exact ⟨c,mem_singleton.mp m⟩
    ·obtain ⟨x,_,rfl⟩:=mem_map.mp m; exact ⟨x,rfl⟩
   obtain ⟨E2,f1,f2⟩:=cell_ok v x s2 s3 s4 s5 s6 s7 h2 h3 h4 h5 h6 h7;refine ⟨[.val v,.val (.int x),s2,s3,s4,s5,s6,s7],E2,?_,f1,f2⟩;subst hE; cases s1 <;> first | rfl | (cases h1))
 subst hE;refine ⟨_,zw (r:=.val (.bl true)) (E1:=[.val v,u1,u2,u3,u4,u5,u6,u7]) ?_ rfl⟩;show dB QI (.bSeq (.sForL _ _ GC) (.bOne _)) [.val v,.emp,.emp,.emp,.emp,.emp,.emp,.emp]=_;exact zG (zFS (zt (Wz (zC (zI (F:=yh) rfl (zA rfl) x_c e2) zX) rfl W0) (x_sl (zA rfl) (o_S x_c) (o_S x_c) c1) c2) rfl f1) (zR (zx x_c))
end My
namespace My
open PySem L2 DV
theorem txt_lk {K:PySem.W.Frag} {h:Heap} {mg:Str→Option Value} (X:K.In h) (G:h.Ns mainGlobals mg) (e:QW K=QX):Txt K mg :=
 have e1:=congrArg (fun x:lkT=>x.1) e;have e2:=congrArg (fun x:lkT=>x.2.1) e;have e3:=congrArg (fun x:lkT=>x.2.2.1) e
 { n_abs:=Z3 X G (ix 0 e3),n_all:=Z3 X G (ix 1 e3),n_bool:=Z3 X G (ix 2 e3),n_int:=Z3 X G (ix 3 e3),n_isinstance:=Z3 X G (ix 4 e3),n_len:=Z3 X G (ix 5 e3),n_list:=Z3 X G (ix 6 e3),n_max:=Z3 X G (ix 7 e3),n_range:=Z3 X G (ix 8 e3),n_sum:=Z3 X G (ix 9 e3),n_tuple:=Z3 X G (ix 10 e3),n_zip:=Z3 X G (ix 11 e3),c_ALL:=tt_at X G (ix 12 e3),c_NOTHING:=tt_at X G (ix 13 e3),c_LEAST_SIGNS:=Qs X G (ix 0 e2),c_LEAST_WEIGHT:=Qs X G (ix 1 e2),c_MOST_AWAITED:=Qs X G (ix 2 e2),c_MOST_BOUNDED:=Qs X G (ix 3 e2),c_MOST_COUNTED:=Qs X G (ix 4 e2),c_MOST_SIGNS:=Qs X G (ix 5 e2),c_MOST_WEIGHT:=Qs X G (ix 6 e2),f_is_whole:=zj X G (ix 0 e1),f_is_whole_within:=zj X G (ix 1 e1),f_greatest_divisor:=zj X G (ix 2 e1),f_whole_power:=zj X G (ix 3 e1),f_share_good:=zj X G (ix 4 e1),f_share_of:=zj X G (ix 5 e1),f_share_plus:=zj X G (ix 6 e1),f_share_less:=zj X G (ix 7 e1),f_share_times:=zj X G (ix 8 e1),f_share_by:=zj X G (ix 9 e1),f_share_power:=zj X G (ix 10 e1),f_share_sum:=zj X G (ix 11 e1),f_share_below:=zj X G (ix 12 e1),f_share_least:=zj X G (ix 13 e1),f_share_greatest:=zj X G (ix 14 e1),f_die_good:=zj X G (ix 15 e1),f_need_die:=zj X G (ix 16 e1),f_need_number:=zj X G (ix 17 e1),f_need_sign:=zj X G (ix 18 e1),f_weigh_upto:=zj X G (ix 19 e1),f_need_thrown:=zj X G (ix 20 e1),f_others_weight:=zj X G (ix 21 e1),f_share_in_all:=zj X G (ix 22 e1),f_share_upto:=zj X G (ix 23 e1),f_need_awaited:=zj X G (ix 24 e1),f_waits_list:=zj X G (ix 25 e1),f_mean_first:=zj X G (ix 26 e1),f_step_on:=zj X G (ix 27 e1),f_weights_good:=zj X G (ix 28 e1),f_stepped:=zj X G (ix 29 e1),f_factors_of:=zj X G (ix 30 e1),f_bound_good:=zj X G (ix 31 e1),f_above_good:=zj X G (ix 32 e1),f_below_good:=zj X G (ix 33 e1),f_need_above:=zj X G (ix 34 e1),f_bound_at:=zj X G (ix 35 e1),f_above_at:=zj X G (ix 36 e1),f_below_at:=zj X G (ix 37 e1),f_mean_weights:=zj X G (ix 38 e1),f_above_paper:=zj X G (ix 39 e1),f_below_paper:=zj X G (ix 40 e1),f_closer:=zj X G (ix 41 e1),f__law_cell_at:=zj X G (ix 42 e1),f__law_next:=zj X G (ix 43 e1),f__law_pen_of:=zj X G (ix 44 e1),f__law_draw:=zj X G (ix 45 e1),f__law_gcd:=zj X G (ix 46 e1),f__law_share:=zj X G (ix 47 e1),f__law_die_of:=zj X G (ix 48 e1),f__law_no_more:=zj X G (ix 49 e1),f__law_weights_of:=zj X G (ix 50 e1),f__law_holds:=zj X G (ix 51 e1),f__law_steps_right:=zj X G (ix 52 e1),f__law_right:=zj X G (ix 53 e1),f_law:=zj X G (ix 54 e1),cl:=cl_at X G (congrArg (fun x:lkT=>x.2.2.2) e) }
end My
end
open PySem PySem.W PyProof.Rows
set_option maxRecDepth 100000 in
set_option maxHeartbeats 0 in
theorem PySem.Challenge.cw_throwruns_k57_whole_bounds_holds : PySem.Challenge.rw_throwruns_k57_whole_bounds.Holds := by
 w_on; o_law
 refine holds_open (q:=My.q) (loose:=My.ls) (Xt:=fun s=>xlAt My.q [] s&&recOk (RowW.records (OpenLaw.row PySem.Challenge.rw_throwruns_k57_whole_bounds).toRowW) s) (XP:=XL My.q []) (Yf:=fun s=>My.QW (DV.YE s.heap My.as)) (Ya:=fun _=>My.QX) (YP:=(DV.zAm My.as My.lkT My.QW My.QX).says) (N:=5516) My.hl (DV.zAm My.as My.lkT My.QW My.QX).of (DV.zAm My.as My.lkT My.QW My.QX).keeps (fun s e=>xl_of s (Bool.and_eq_true_iff.mp e).1) XL.keeps (by rfl) (by rfl) (by rfl) (fun s e=>recFacts_of (Bool.and_eq_true_iff.mp e).2) ?h4 ?h5 ?h6 ⟨rfl,rfl,rfl,rfl,rfl,by decide +kernel⟩ ?hw ?hc
 case h4=>rfl
 case h5=>first | assumption | decide +kernel
 case h6=>decide +kernel
 case hw=>w_witness2
 case hc=>exact DV.walkE (l:=PySem.Challenge.rw_throwruns_k57_whole_bounds) (x:="_law_script") My.math57 rfl rfl fun w K mg fa h KX e G hmg=>My.law_fd hmg (My.txt_lk KX G e)
