import PyProof.Rows.All
import Wide.All
import OpenK.AllK
import Wide.FinOn
import Lean
import PyProof.EqAt
import PyProof.EqKinds
import PyProof.TupleCall
import PyProof.NeKinds
import PyProof.EnumFor
import PyProof.EnumMake
import PyProof.NsDelKeeps
import OpenK.KOwn
import KE.KIsBytes
import PyProof.CompFree
import PyProof.StrWalks
import PyProof.ConsumeWalk
import PyProof.StrBlockI
import KE.KRevIter
import KE.KDictList
import PyProof.ZipIter
import KE.KIntText
import PySem.Challenge.RW_kbestwood_k13_texts_refused
set_option Elab.async false
set_option linter.all false
set_option maxRecDepth 100000
set_option maxHeartbeats 4000000
open PySem.W (instObj methodObj hideAll hideAll_get of_hideAll lookIn plainGet hasDictIn findIn plainGet_of isFn plainOver takerIn Looks makesIn typeIn emptyDict makes_of looks_findIn keepIn takesIn mroIn kitOne kia_one kitx_list cellsFrom_some mg_of subIn kitCls funFrames_hide callWith_K excIn nsOkIn tail_of_in isNs_of_in clsIn isClsIn kitAny kia_tup mg_none_of)
open List (mem_filter mem_range filterMap_cons mem_cons_self mem_cons_of_mem mem_cons mem_append mem_append_left getElem?_set_ne mem_filterMap mem_append_right size_toArray length_cons map_cons length_map append_nil nodup_cons of_mem_zip replicate length length_take getElem?_append_right getElem?_replicate getElem?_append_left getElem?_map mem_of_getElem? length_append length_replicate length_drop length_set all_cons any_cons replicate_succ flatten_cons foldl append_assoc foldl_cons forIn_cons all_eq_true lookup_cons all_map take_of_length_le any_map not_mem_nil drop_eq_getElem_cons cons_append map_map length_range filter_cons filter_eq_self take_length take_add_one mem_singleton length_nil drop_zero take getD_eq_getElem?_getD all_append mem_map map_append length_filter_le getElem_mem mem_of_mem_take mem_of_mem_drop map_drop map_take map range')
open PySem.W renaming Frag→aa
open PySem renaming wpAny_bind→aj
open PySem renaming wpAny_pure→ak
open PySem.Heap renaming get?_push_of_some→ao
open PySem.Heap renaming get?_push_size→aq
open PySem.Heap renaming lt_size→au
open PySem renaming sizeLine→az
open List renaming getElem?_eq_getElem→aA
open Bool renaming false_ne_true→aC
open Bool renaming and_eq_true→aD
open PySem.Heap renaming SameBut→aF
open PySem.Str renaming ofString→aG
def auR:Lean.Syntax:=.node .none `Lean.Parser.Tactic.tacticSeq #[.node .none `Lean.Parser.Tactic.tacticSeq1Indented #[.node .none `null #[.node .none `Lean.Parser.Tactic.tacticRfl #[.atom .none "rfl"]]]]
def auD:Lean.Syntax:=.node .none `Lean.Parser.Tactic.tacticSeq #[.node .none `Lean.Parser.Tactic.tacticSeq1Indented #[.node .none `null #[.node .none `Lean.Parser.Tactic.decide #[.atom .none "decide",.node .none `Lean.Parser.Tactic.optConfig #[.node .none `null #[]]]]]]
noncomputable section
namespace L2
open PySem PySem.Spec PyProof.Rows
abbrev Key:=Sum Int Str
noncomputable def SA:Key->Value->Bool
 | .inl k,v=>Value.isInt k v
 | .inr x,v=>Value.isStrOf x v
noncomputable def keyH(w:World):Key->Int
 | .inl k=>hashInt k
 | .inr x=>hashStr w x
theorem Yt:∀ {k:Key}{v:Value},SA k v=true->(∃ i t,k=Sum.inl i/\v=Value.int i t)\/(∃ x t,k=Sum.inr x/\v=Value.str x t)
 | .inl i,v,h=>by
  obtain⟨t,e⟩:=Value.isInt_shape (k:=i) (v:=v) h
  exact .inl ⟨i,t,rfl,e⟩
 | .inr x,v,h=>by
  obtain⟨t,e⟩:=Value.isStrOf_shape (x:=x) (v:=v) h
  exact .inr ⟨x,t,rfl,e⟩
theorem He(i:Int)(t:Tok):SA (.inl i) (.int i t)=true:=by simp[SA,Value.isInt]
theorem Hf(x:Str)(t:Tok):SA (.inr x) (.str x t)=true:=by simp[SA,Value.isStrOf]
theorem mG(a b:Int):decide ((Sum.inl a:Key)=Sum.inl b)=(a==b):=by
 by_cases e:a=b
 ·subst e;simp
 ·have h:¬ (Sum.inl a:Key)=Sum.inl b:=λq=>e (Sum.inl.inj q)
  rw[decide_eq_false h]
  exact(beq_eq_false_iff_ne.mpr e).symm
theorem mH(a b:Str):decide ((Sum.inr a:Key)=Sum.inr b)=decide (a=b):=by
 by_cases e:a=b
 ·subst e;simp
 ·have h:¬ (Sum.inr a:Key)=Sum.inr b:=λq=>e (Sum.inr.inj q)
  rw[decide_eq_false h,decide_eq_false e]
theorem mI(a:Int)(b:Str):decide ((Sum.inl a:Key)=Sum.inr b)=false:=decide_eq_false (λq=>nomatch q)
theorem mJ(a:Str)(b:Int):decide ((Sum.inr a:Key)=Sum.inl b)=false:=decide_eq_false (λq=>nomatch q)
noncomputable def Yq(prog:Program)(w:World):PySem.KeyKind prog w Key where
 is:=SA
 hash:=keyH w
 inj:=λv a b ha hb=>by
  rcases Yt ha with⟨i,t,rfl,rfl⟩|⟨x,t,rfl,rfl⟩
  ·rcases Yt hb with⟨j,u,rfl,e⟩|⟨y,u,rfl,e⟩
   ·injection e with e1 _;rw[e1]
   ·exact nomatch e
  ·rcases Yt hb with⟨j,u,rfl,e⟩|⟨y,u,rfl,e⟩
   ·exact nomatch e
   ·injection e with e1 _;rw[e1]
 byValue:=λk v h=>by
  rcases Yt h with⟨i,t,rfl,rfl⟩|⟨x,t,rfl,rfl⟩<;>rfl
 pyHash:=λhv h=>by
  rcases Yt hv with⟨i,t,rfl,rfl⟩|⟨x,t,rfl,rfl⟩
  ·exact wpAny_pyHash_int h
  ·exact wpAny_pyHash_str h
 eqBool:=λhu hv h=>by
  rcases Yt hu with⟨i,t,rfl,rfl⟩|⟨x,t,rfl,rfl⟩
  ·rcases Yt hv with⟨j,u,rfl,rfl⟩|⟨y,u,rfl,rfl⟩
   ·rw[mG]at h;exact wpAny_eqBool_int h
   ·rw[mI]at h;exact SeqAt.EqAt.int_str i t y u _ _ _ _ h
  ·rcases Yt hv with⟨j,u,rfl,rfl⟩|⟨y,u,rfl,rfl⟩
   ·rw[mJ]at h;exact SeqAt.EqAt.str_int x t j u _ _ _ _ h
   ·rw[mH]at h;exact wpAny_eqBool_str h
 «strs»:=λk x t v h=>by
  rcases Yt h with⟨i,u,rfl,e⟩|⟨y,u,rfl,e⟩
  ·exact nomatch e
  ·injection e with e1 _
   subst e1
   cases v<;>rfl
inductive V where
 | non | bl (b:Bool) | int (i:Int) | str (x:Str) | byt (b:Array UInt8) | flt (b:UInt64) | ref (a:Addr) | ty (n:String)
 deriving DecidableEq
noncomputable def RelV:V->Value->Prop
 | .non,u=>u=Value.none
 | .bl b,u=>u=Value.bool b
 | .int i,u=>∃ t,u=Value.int i t
 | .str x,u=>∃ t,u=Value.str x t
 | .byt b,u=>∃ t,u=Value.bytes b t
 | .flt b,u=>∃ t,u=Value.float b t
 | .ref a,u=>u=Value.ref a
 | .ty n,u=>u=Value.type n
abbrev Vals:List V->List Value->Prop:=Paired RelV
theorem Vals.length(r:Vals xs us):xs.length=us.length:=Paired.length r
theorem Vals.get:∀ {xs:List V}{us:List Value}{i:Nat}{x:V},Vals xs us->xs[i]?=some x->∃ u,us[i]?=some u/\RelV x u
 | _,_,_,_,.nil,e=>by simp at e
 | _,_,0,_,.cons r _,e=>by simp at e;subst e;exact⟨_,rfl,r⟩
 | _,_,i+1,x,.cons _ t,e=>by
  obtain⟨u,h1,h2⟩:=Vals.get (i:=i) (x:=x) t (by simpa using e)
  exact⟨u,by simpa using h1,h2⟩
theorem Vals.set(r:RelV x u):∀ {xs:List V}{us:List Value}(i:Nat),Vals xs us->Vals (xs.set i x) (us.set i u)
 | _,_,_,.nil => .nil
 | _,_,0,.cons _ t => .cons r t
 | _,_,i+1,.cons q t => .cons q (Vals.set r i t)
theorem Vals.append:∀ {xs ys:List V}{us ws:List Value},Vals xs us->Vals ys ws->Vals (xs++ys) (us++ws)
 | _,_,_,_,.nil,s=>s
 | _,_,_,_,.cons r t,s => .cons r (Vals.append t s)
theorem Vals.take:∀ {xs:List V}{us:List Value}(n:Nat),Vals xs us->Vals (xs.take n) (us.take n)
 | _,_,0,_ => .nil
 | _,_,_+1,.nil => .nil
 | _,_,n+1,.cons r t => .cons r (Vals.take n t)
theorem Vals.drop:∀ {xs:List V}{us:List Value}(n:Nat),Vals xs us->Vals (xs.drop n) (us.drop n)
 | _,_,0,r=>r
 | _,_,_+1,.nil => .nil
 | _,_,n+1,.cons _ t=>Vals.drop n t
noncomputable def Im:Option V->Option Value->Prop
 | some v,some u=>RelV v u
 | none,none=>True
 | _,_=>False
noncomputable def KV:List (κ×V)->List (κ×Value)->Prop:=Paired λ(p:κ×V) (q:κ×Value)=>p.1=q.1/\RelV p.2 q.2
noncomputable def kV:Key->V
 | .inl i => .int i
 | .inr x => .str x
inductive HO where
 | lst (xs:List V)
 | tup (xs:List V)
 | dK (kvs:List (Key×V)) | dT (kvs:List (List Key×V))
 | set (S:Int->Bool) (n:Nat)
 | ins (C dx:Addr) (fs:List (Str×V))
 | own (x:Addr)
 | xd (fs:List (Str×V))
 | met (f x:Addr)
 | rng (lo hi:Int)
 | frz (o:Obj) (u:HO)
 | tbl (ps:Array Value)
 | ext (φ:Heap->Prop)
abbrev Hp:=Addr->Option HO
noncomputable def upd(H:Hp)(a:Addr)(o:HO):Hp:=λb=>if b=a then some o else H b
theorem Zx:upd H a o a=some o:=by unfold upd;rw[if_pos rfl]
theorem Zq(h:b≠a):upd H a o b=H b:=by unfold upd;rw[if_neg h]
theorem ZT{H:Hp}(h:H a=some o)(h':H b=none):a≠b:=by
 intro e;subst e;rw[h]at h';cases h'
section
variable (P:Program) (w:World)
noncomputable def YC(H:Hp)(h:Heap)(a:Addr):HO->Prop
 | .lst xs=>xs.length<=az/\∃ (its:List Value) (n:Nat),Vals xs its/\h.get? a=some { cls := .type "list",data := .seq its.toArray n }
 | .tup xs=>xs.length<=az/\∃ its:List Value,Vals xs its/\IsTup h a its.toArray
 | .dK kvs=>kvs.length<=az/\(a==sysModules)=false/\∃ vs,KV kvs vs/\h.DictOf (Yq P w) a vs
 | .dT kvs=>kvs.length<=az/\(a==sysModules)=false/\∃ xs:List (List Key×Addr×Value),
   Paired (λ(p:List Key×V) (q:List Key×Addr×Value)=>p.1=q.1/\H q.2.1=some (.tup (p.1.map kV))/\RelV p.2 q.2.2) kvs xs /\
   ∃ o es ep,h.get? a=some o/\o.ExactDict/\o.data = .dict es ep/\es.toList=xs.map (entryOfKey (tupleKind (Yq P w)))/\(xs.map (·.1)).Nodup
 | .set S n=>h.SetOf (intKind P w) a S n
 | .ins C dx fs=>H dx=some (.own a)/\fs.length<=1000/\dx≠a/\h.get? a=some (instObj C dx) /\
   ∃ mA,h.Ns1 dx mA/\(∀ f,Im (fs.lookup f) (mA f))/\PySem.Within mA (fs.map (·.1))
 | .own _=>∃ o,h.get? a=some o
 | .xd fs=>∃ mA,h.Ns1 a mA/\∀ f,Im (fs.lookup f) (mA f)
 | .rng lo hi=>∃ t u v,h.get? a=some { cls := .type "range",data := .fields #[.int lo t,.int hi u,.int 1 v] }
 | .frz o u=>h.get? a=some o/\YC H h a u
 | .tbl ps=>h.get? a=some { cls := .none,data := .fields ps }
 | .met f x=>h.get? a=some (methodObj (.ref f) (.ref x))
 | .ext φ=>φ h/\(∃ o,h.get? a=some o)/\∀ h1 h2:Heap,φ h1->(∀ o,h1.get? a=some o->h2.get? a=some o)->φ h2
noncomputable def HOk(H:Hp)(h:Heap):Prop:=∀ a o,H a=some o->YC P w H h a o
end
section
variable {P:Program}{w:World}{H H':Hp}{h h':Heap}{a:Addr}{o:HO}
theorem YC.lt(x:YC P w H h a o):a<h.objs.size:=by
 cases o with
 | lst xs=>obtain⟨_,_,_,_,e⟩:=x;exact au e
 | tup xs=>obtain⟨_,_,_,p⟩:=x;exact p.lt
 | dK kvs=>obtain⟨_,_,_,_,o,_,_,e,_⟩:=x;exact au e
 | dT kvs=>obtain⟨_,_,_,_,o,_,_,e,_⟩:=x;exact au e
 | set S n=>obtain⟨o,_,_,_,e,_⟩:=x;exact au e
 | ins C dx fs=>obtain⟨_,_,_,e,_⟩:=x;exact au e
 | own y=>obtain⟨_,e⟩:=x;exact au e
 | xd fs=>obtain⟨_,⟨_,_,_,e,_⟩,_⟩:=x;exact au e
 | rng lo hi=>obtain⟨_,_,_,e⟩:=x;exact au e
 | frz ob u=>obtain⟨e,_⟩:=x;exact au e
 | tbl ps=>exact au (show h.get? a=some _ from x)
 | met f y=>exact au (show h.get? a=some _ from x)
 | ext φ=>obtain⟨_,⟨_,e⟩,_⟩:=x;exact au e
theorem Paired.mapP:∀ {l₁:List α}{l₂:List β},Paired F l₁ l₂->(∀ a b,F a b->G a b)->Paired G l₁ l₂
 | _,_,.nil,_ => .nil
 | _,_,.cons r t,f => .cons (f _ _ r) (Paired.mapP t f)
theorem YC.stay(x:YC P w H h a o)(k:∀ b u,(b=a\/H b=some (.own a))->h.get? b=some u->h'.get? b=some u)
  (ho:∀ b,H b=some (.own a)->H' b=some (.own a))(ht:∀ b xs,H b=some (.tup xs)->H' b=some (.tup xs)):YC P w H' h' a o:=by
 induction o with
 | lst xs=>obtain⟨z,its,n,r,e⟩:=x;exact⟨z,its,n,r,k _ _ (.inl rfl) e⟩
 | tup xs=>obtain⟨z,its,r,ob,e,c⟩:=x;exact⟨z,its,r,ob,k _ _ (.inl rfl) e,c⟩
 | dK kvs=>obtain⟨z,y,vs,r,ob,es,ep,e,c⟩:=x;exact⟨z,y,vs,r,ob,es,ep,k _ _ (.inl rfl) e,c⟩
 | dT kvs =>
  obtain⟨z,y,xs,r,ob,es,ep,e,c⟩:=x
  exact⟨z,y,xs,Paired.mapP r λp q z=>⟨z.1,ht _ _ z.2.1,z.2.2⟩,ob,es,ep,k _ _ (.inl rfl) e,c⟩
 | set S n=>obtain⟨ob,es,ep,t,e,c⟩:=x;exact⟨ob,es,ep,t,k _ _ (.inl rfl) e,c⟩
 | ins C dx fs =>
  obtain⟨d,z,ne,e,mA,⟨od,es,ep,e2,c⟩,r⟩:=x
  exact⟨ho _ d,z,ne,k _ _ (.inl rfl) e,mA,⟨od,es,ep,k _ _ (.inr d) e2,c⟩,r⟩
 | own y=>obtain⟨ob,e⟩:=x;exact⟨ob,k _ _ (.inl rfl) e⟩
 | xd fs=>obtain⟨mA,⟨od,es,ep,e,c⟩,r⟩:=x;exact⟨mA,⟨od,es,ep,k _ _ (.inl rfl) e,c⟩,r⟩
 | rng lo hi=>obtain⟨t,u,v,e⟩:=x;exact⟨t,u,v,k _ _ (.inl rfl) e⟩
 | frz ob u ih=>obtain⟨e,q⟩:=x;exact⟨k _ _ (.inl rfl) e,ih q⟩
 | tbl ps =>
  have e:h.get? a=some { cls := .none,data := .fields ps }:=x
  show h'.get? a=some { cls := .none,data := .fields ps }
  exact k a _ (.inl rfl) e
 | met f y =>
  have e:h.get? a=some (methodObj (.ref f) (.ref y)):=x
  show h'.get? a=some (methodObj (.ref f) (.ref y))
  exact k a _ (.inl rfl) e
 | ext φ=>obtain⟨p,⟨o,e⟩,st⟩:=x;exact⟨st _ _ p λo q=>k _ _ (.inl rfl) q,⟨o,k _ _ (.inl rfl) e⟩,st⟩
theorem HOk.lt(x:HOk P w H h)(e:H a=some o):a<h.objs.size:=(x a o e).lt
theorem HOk.fresh(x:HOk P w H h)(e:h.objs.size<=a):H a=none:=by
 cases q:H a with
 | none=>rfl
 | some u=>exact absurd (Nat.lt_of_lt_of_le (x.lt q) e) (Nat.lt_irrefl _)
theorem HOk.kept(x:HOk P w H h)(k:∀ b u,h.get? b=some u->h'.get? b=some u):HOk P w H h':=λa o e =>
 (x a o e).stay (λb u _ q=>k b u q) (λ_ q=>q) λ_ _ q=>q
theorem HOk.laid(x:HOk P w H h)(k:∀ b u,h.get? b=some u->h'.get? b=some u)(hp:h.objs.size<=a)(new:YC P w (upd H a o) h' a o):HOk P w (upd H a o) h':=λb u e=>by
 have hn:=x.fresh hp
 by_cases hb:b=a
 ·subst hb;rw[Zx]at e;cases e;exact new
 ·rw[Zq hb]at e
  exact(x b u e).stay (λc v _ q=>k c v q) (λc q=>by rw[Zq (ZT q hn)];exact q) λc xs q=>by rw[Zq (ZT q hn)];exact q
end
noncomputable def Rd(H:Hp)(a:Addr)(u:HO):Prop:=H a=some u\/∃ o,H a=some (.frz o u)
theorem Rd.ok(r:Rd H a u)(x:HOk P w H h):YC P w H h a u:=by
 rcases r with r|⟨o,r⟩
 ·exact x a u r
 ·obtain⟨_,q⟩:=x a _ r
  exact q
noncomputable def Mut:Option HO->Prop
 | some (.lst _)=>True
 | some (.dK _)=>True
 | some (.dT _)=>True
 | some (.set _ _)=>True
 | some (.ins _ _ _)=>True
 | some (.ext _)=>True
 | _=>False
section
variable {P:Program}{w:World}{H:Hp}{h h':Heap}{x e:Addr}{o':HO}
theorem HOk.write(ok:HOk P w H h)(mu:Mut (H x))(he:e=x\/H e=some (.own x))(k:∀ b u,b≠e->h.get? b=some u->h'.get? b=some u)(heo:∃ u,h'.get? e=some u)
  (new:YC P w (upd H x o') h' x o'):HOk P w (upd H x o') h':=λb u q=>by
 have nown:∀ c y,H c=some (.own y)->c≠x:=λc y r z=>by subst z;rw[r]at mu;exact mu
 have ntup:∀ c xs,H c=some (.tup xs)->c≠x:=λc xs r z=>by subst z;rw[r]at mu;exact mu
 by_cases hb:b=x
 ·subst hb;rw[Zx]at q;cases q;exact new
 ·rw[Zq hb]at q
  by_cases hbe:b=e
  ·have q':H b=some (.own x):=by
    rcases he with z|z
    ·exact absurd (hbe.trans z) hb
    ·rw[hbe];exact z
   rw[q]at q';cases q'
   obtain⟨v,hv⟩:=heo
   exact⟨v,by rw[hbe];exact hv⟩
  ·refine(ok b u q).stay (λc v hc r=>k c v ?_ r) (λc r=>by rw[Zq (nown c b r)];exact r) λc xs r=>by rw[Zq (ntup c xs r)];exact r
   rcases hc with rfl|hc
   ·exact hbe
   ·rintro rfl
    rcases he with z|z
    ·exact nown c b hc z
    ·rw[hc]at z;cases z;exact hb rfl
end
structure Un (fs ex:List Addr)(H H':Hp)(h h':Heap):Prop where
 keep:∀ b o,h.get? b=some o->H b=none->b∉fs->b∉ex->h'.get? b=some o
 slot:∀ b o,h.get? b=some o->H b=none->b∈fs->b∉ex->∃ sl,h'.get? b=some { o with slots:=sl }
 free:∀ b o,h.get? b=some o->H b=none->b∉ex->H' b=none
 there:∀ b o,h.get? b=some o->b∉ex->∃ o',h'.get? b=some o'
 tups:∀ b xs,H b=some (.tup xs)->H' b=some (.tup xs)
 frzs:∀ b o u,H b=some (.frz o u)->H' b=some (.frz o u)
 tbls:∀ b ps,H b=some (.tbl ps)->∃ more,H' b=some (.tbl (ps++more))
section
variable {fs fs' ex ex':List Addr}{H H1 H2:Hp}{h h1 h2 h':Heap}{a x e:Addr}{o:HO}
theorem Un.any(u:Un fs ex H H1 h h1)(q:h.get? b=some ob)(n:H b=none)(hx:b∉ex):∃ sl,h1.get? b=some { ob with slots:=sl }:=by
 by_cases hb:b∈fs
 ·exact u.slot b ob q n hb hx
 ·exact⟨ob.slots,u.keep b ob q n hb hx⟩
theorem Un.kept(k:∀ b u,h.get? b=some u->h'.get? b=some u):Un fs ex H H h h' :=
 ⟨λb ob q _ _ _=>k b ob q,λb ob q _ _ _=>⟨ob.slots,k b ob q⟩,λ_ _ _ n _=>n,λb ob q _=>⟨ob,k b ob q⟩,λ_ _ q=>q,λ_ _ _ q=>q,λ_ ps q=>⟨#[],by rw[q];simp⟩⟩
theorem Un.refl:Un fs ex H H h h:=Un.kept λ_ _ q=>q
theorem Un.laid(k:∀ b u,h.get? b=some u->h'.get? b=some u)(hp:h.objs.size<=a)(hn:H a=none):Un fs ex H (upd H a o) h h' where
 keep:=λb u q _ _ _=>k b u q
 slot:=λb u q _ _ _=>⟨u.slots,k b u q⟩
 free:=λb u q n _=>by rw[Zq (Nat.ne_of_lt (Nat.lt_of_lt_of_le (au q) hp))];exact n
 there:=λb u q _=>⟨u,k b u q⟩
 tups:=λb xs q=>by rw[Zq (ZT q hn)];exact q
 frzs:=λb u xs q=>by rw[Zq (ZT q hn)];exact q
 tbls:=λb ps q=>⟨#[],by rw[Zq (ZT q hn),q];simp⟩
theorem Un.write(mu:Mut (H x))(he:e=x\/H e=some (.own x))(k:∀ b u,b≠e->h.get? b=some u->h'.get? b=some u)(heo:∃ u,h'.get? e=some u):Un fs ex H (upd H x o) h h':=by
 have hx:∀ b,H b=none->b≠x:=λb n z=>by subst z;rw[n]at mu;exact mu
 have hb:∀ b,H b=none->b≠e:=λb n z=>by
  subst z
  rcases he with r|r
  ·exact hx b n r
  ·rw[n]at r;cases r
 have hm:∀ b u,H b=some u->¬ Mut (some u)->b≠x:=λb u q nm z=>by subst z;rw[q]at mu;exact nm mu
 refine⟨λb u q n _ _=>k b u (hb b n) q,λb u q n _ _=>⟨u.slots,k b u (hb b n) q⟩,λb u q n _=>by rw[Zq (hx b n)];exact n,λb u q _=>?_,
  λb xs q=>by rw[Zq (hm b _ q λz=>z)];exact q,λb u xs q=>by rw[Zq (hm b _ q λz=>z)];exact q,λb ps q=>⟨#[],by rw[Zq (hm b _ q λz=>z),q];simp⟩⟩
 by_cases hbe:b=e
 ·subst hbe;exact heo
 ·exact⟨u,k b u hbe q⟩
end
noncomputable def trk(h:Heap)(H:Hp):List Addr:=(List.range h.objs.size).filter λa=>(H a).isSome
noncomputable def HP(h:Heap)(H:Hp):Heap:=hideAll h (trk h H)
theorem zY(h:Heap)(H:Hp):(HP h H).objs.size=h.objs.size:=PySem.W.hideAll_size _ _
theorem wV(e:h.get? b=some o)(n:H b=none):(HP h H).get? b=some o :=
 hideAll_get _ e λhm=>by
  have q:(H b).isSome=true:=(mem_filter.mp hm).2
  rw[n]at q;simp at q
theorem qz(e:(HP h H).get? b=some o):h.get? b=some o/\H b=none:=by
 have e':h.get? b=some o:=of_hideAll (trk h H) e
 refine⟨e',?_⟩
 cases q:H b with
 | none=>rfl
 | some x =>
  have hm:b∈trk h H:=mem_filter.mpr ⟨mem_range.mpr (au e'),by simp[q]⟩
  have z:(HP h H).get? b=none:=PySem.W.hideAll_none (trk h H) hm
  rw[z]at e;cases e
structure Mod (K:aa)(mg:Str->Option Value)(base:Heap):Prop where
 kin:K.In base
 glob:base.Ns mainGlobals mg
 blt:∃ mb,base.Ns builtinsNs mb/\∀ x:Str,x ≠ "__name__" -> mb x=bootBuiltins x
 nolimit:base.NoLimit
structure Cx where
 prog:Program
 w:World
 K:aa
 mg:Str->Option Value
 base:Heap
 A:Around
 N:List Str
 s₀:Shared
 H₀:Hp
 env:Env
 outer:List Env
 stack:List Env
 ex:List Addr
 fn:Str->Bool
 calm:Bool
 pn:List (Addr×Obj)
 xe:Value->Shared->Prop
noncomputable def frs(l:List Env):List Addr:=l.filterMap (·.frame)
abbrev Cx.fs(X:Cx):List Addr:=frs X.outer
noncomputable def Vis(sc:Scope)(x:Str):Prop:=sc.names.lookup x=some .local\/sc.names.lookup x=some .cell\/sc.names.lookup x=some .free
noncomputable def Loc(sc:Scope)(x:Str):Prop:=sc.names.lookup x=some .local\/sc.names.lookup x=some .cell
noncomputable def Look(env:Env)(h:Heap)(m:Str->Option Value)(x:Str)(u:Value):Prop :=
 (env.kindOf x=some .local/\m x=some u)\/((env.kindOf x=some .cell\/env.kindOf x=some .free)/\∃ c,env.cells.lookup x=some c/\h.IsCell c (some u))
structure Cx.Ok (X:Cx):Prop where
 mod:Mod X.K X.mg X.base
 kind:X.env.scope.kind = .function
 glob:X.env.globals=mainGlobals
 blt:X.env.builtins=builtinsNs
 above:X.s₀.heap.objs.size<=X.env.locals
 inj:∀ x y c,X.env.cells.lookup x=some c->X.env.cells.lookup y=some c->x=y
 has:∀ x,(X.env.kindOf x=some .cell\/X.env.kindOf x=some .free)->∃ c,X.env.cells.lookup x=some c
 cab:∀ x c,X.fn x=true->X.env.cells.lookup x=some c->X.s₀.heap.objs.size<=c
 hd:X.calm=true->X.A.handled=none
 frames:X.A.frames=some X.stack
 stk:X.stack=X.outer\/(X.stack=X.env::X.outer/\X.env.frame=some X.env.locals)
 exf:∀ b∈X.ex,b≠X.env.locals/\∀ x c,X.env.cells.lookup x=some c->c≠b
 bs:∀ b o,X.base.get? b=some o->X.s₀.heap.get? b=some o/\X.H₀ b=none
 bsz:X.base.objs.size<=X.s₀.heap.objs.size
 noex:∀ b o,X.base.get? b=some o->b∉X.ex
 exfs:∀ b∈X.ex,b∉X.fs
 Si:X.s₀.heap.FunFrames X.base X.outer
 frf:∀ b∈X.fs,X.H₀ b=none
structure Inv (X:Cx)(pins:List (Addr×Obj))(σ:List (Option V))(H:Hp)(s:Shared):Prop where
 ok:X.Ok
 os:s.os=X.s₀.os
 bare:AllBare s.gens
 base:Un X.fs X.ex X.H₀ H X.s₀.heap s.heap
 loc:∃ m,s.heap.Ns X.env.locals m/\∀ (i:Nat) (x:Str) (v:V),X.N[i]?=some x->σ[i]?=some (some v)->Vis X.env.scope x->∃ u,RelV v u/\Look X.env s.heap m x u
 cell:∀ x c,X.env.cells.lookup x=some c->∃ v,s.heap.IsCell c v
 free:H X.env.locals=none
 freeC:∀ x c,X.env.cells.lookup x=some c->H c=none
 pin:∀ p∈X.pn++pins,s.heap.get? p.1=some p.2/\H p.1=none/\p.1≠X.env.locals/\p.1∉X.fs/\∀ v,p.2.data ≠ .cell v
 hok:HOk X.prog X.w H s.heap
 len:σ.length=X.N.length
section
variable {X:Cx}{pins:List (Addr×Obj)}{σ:List (Option V)}{H H':Hp}{s:Shared}{h':Heap}
theorem Cx.Ok.nofr(ok:X.Ok)(e:X.base.get? b=some o):b∉X.fs:=λhb=>by
 have:=(ok.Si.mem hb).1
 rw[e]at this;cases this
theorem Inv.bs(I:Inv X pins σ H s):∀ b o,X.base.get? b=some o->s.heap.get? b=some o/\H b=none:=λb o e =>
 ⟨I.base.keep b o (I.ok.bs b o e).1 (I.ok.bs b o e).2 (I.ok.nofr e) (I.ok.noex b o e),I.base.free b o (I.ok.bs b o e).1 (I.ok.bs b o e).2 (I.ok.noex b o e)⟩
theorem Inv.bk(I:Inv X pins σ H s):∀ b o,X.base.get? b=some o->s.heap.get? b=some o:=λb o e=>(I.bs b o e).1
theorem Inv.mod(I:Inv X pins σ H s):Mod X.K X.mg X.base:=I.ok.mod
theorem Inv.kIn(I:Inv X pins σ H s):X.K.In s.heap:=I.ok.mod.kin.keeps I.bk
theorem Inv.fr(I:Inv X pins σ H s):∃ m,Fr X.base X.env.locals s.heap m :=
 let ⟨m,hn,_⟩:=I.loc
 ⟨m,hn,I.bk,Nat.le_trans I.ok.bsz I.ok.above⟩
theorem Inv.lt(I:Inv X pins σ H s):X.env.locals<s.heap.objs.size:=let ⟨_,hn,_⟩:=I.loc;hn.lt
theorem Inv.sz(I:Inv X pins σ H s):X.s₀.heap.objs.size<=s.heap.objs.size:=Nat.le_trans I.ok.above (Nat.le_of_lt I.lt)
theorem Inv.nofs(I:Inv X pins σ H s)(h:s.heap.objs.size<=a):a∉X.fs:=λhb=>by
 obtain⟨_,o,ho,_⟩:=I.ok.Si.mem hb
 exact absurd (Nat.lt_of_lt_of_le (au ho) (Nat.le_trans I.sz h)) (Nat.lt_irrefl _)
theorem Inv.cne(I:Inv X pins σ H s):∀ x c,X.env.cells.lookup x=some c->c≠X.env.locals:=λx c e z=>by
 obtain⟨v,o,ho,hd⟩:=I.cell x c e
 obtain⟨m,⟨o',es,ep,ho',hd',_⟩,_⟩:=I.loc
 rw[z,ho']at ho;cases ho;rw[hd']at hd;cases hd
theorem Inv.Si(I:Inv X pins σ H s):s.heap.FunFrames X.base X.outer:=by
 have all:∀ (l:List Env),(∀ b∈frs l,b∈X.fs)->X.s₀.heap.FunFrames X.base l->s.heap.FunFrames X.base l:=by
  intro l
  induction l with
  | nil=>intro _ _;trivial
  | cons env r ih =>
   intro hs hl
   obtain⟨hk,⟨L,o,hf,hn,ho,hd⟩,hr⟩:=hl
   have hL:L∈X.fs:=hs L (by unfold frs;rw[filterMap_cons,hf];exact mem_cons_self)
   obtain⟨sl,e⟩:=I.base.slot L o ho (I.ok.frf L hL) hL λz=>I.ok.exfs L z hL
   exact⟨hk,⟨L,_,hf,hn,e,hd⟩,ih (λb hb=>hs b (by unfold frs;rw[filterMap_cons,hf];exact mem_cons_of_mem _ hb)) hr⟩
 exact all X.outer (λ_ hb=>hb) I.ok.Si
theorem Inv.stack(I:Inv X pins σ H s):s.heap.FunFrames X.base X.stack:=by
 rcases I.ok.stk with e|⟨e,hf⟩
 ·rw[e];exact I.Si
 ·rw[e]
  obtain⟨m,hn,_⟩:=I.loc
  refine .cons (by rw[I.ok.kind];decide) hf hn ?_ I.Si
  exact Heap.get?_none_of_le (Nat.le_trans I.ok.bsz I.ok.above)
theorem Inv.Oi(I:Inv X pins σ H s):∀ b∈frs X.stack,b∈X.env.locals::X.fs:=λb hb=>by
 rcases I.ok.stk with e|⟨e,hf⟩
 ·rw[e]at hb;exact mem_cons_of_mem _ hb
 ·rw[e]at hb
  unfold frs at hb
  rw[filterMap_cons,hf]at hb
  exact hb
theorem Inv.Aj(I:Inv X pins σ H s):∀ b∈frs X.stack,H b=none:=λb hb=>by
 rcases mem_cons.mp (I.Oi b hb) with e|hb
 ·rw[e];exact I.free
 ·obtain⟨_,o,ho,_⟩:=I.ok.Si.mem hb
  exact I.base.free b o ho (I.ok.frf b hb) λz=>I.ok.exfs b z hb
theorem Inv.step{ch:List Addr}(I:Inv X pins σ H s)
  (hch:∀ b∈ch,(b∈X.ex\/X.s₀.heap.objs.size<=b)/\b≠X.env.locals/\(∀ x c,X.env.cells.lookup x=some c->c≠b)/\∀ p∈X.pn++pins,p.1≠b)
  (keep:∀ b o,b≠X.env.locals->b∉X.fs->b∉ch->s.heap.get? b=some o->H b=none->h'.get? b=some o)
  (slot:∀ b o,b≠X.env.locals->b∈X.fs->b∉ch->s.heap.get? b=some o->H b=none->∃ sl,h'.get? b=some { o with slots:=sl })(free:∀ b o,b∉ch->s.heap.get? b=some o->H b=none->H' b=none)
  (there:∀ b o,b∉ch->s.heap.get? b=some o->∃ o',h'.get? b=some o')
  (tups:∀ b xs,H b=some (.tup xs)->H' b=some (.tup xs))(frzs:∀ b o u,H b=some (.frz o u)->H' b=some (.frz o u))(tbls:∀ b ps,H b=some (.tbl ps)->∃ more,H' b=some (.tbl (ps++more)))
  (ns:∀ m,s.heap.Ns X.env.locals m->h'.Ns X.env.locals m)(hok:HOk X.prog X.w H' h')(hg:AllBare g') :
  Inv X pins σ H' { s with heap:=h',gens:=g',drawn:=d',toks:=t' }:=by
 have neL:∀ b o,X.s₀.heap.get? b=some o->b≠X.env.locals:=λb o e=>Nat.ne_of_lt (Nat.lt_of_lt_of_le (au e) I.ok.above)
 have neC:∀ b o,X.s₀.heap.get? b=some o->b∉X.ex->b∉ch:=λb o e hx hb=>by
  rcases (hch b hb).1 with z|z
  ·exact hx z
  ·exact absurd (Nat.lt_of_lt_of_le (au e) z) (Nat.lt_irrefl _)
 have cellK:∀ x c,X.env.cells.lookup x=some c->∀ v,s.heap.IsCell c v->h'.IsCell c v:=λx c e v ⟨o,ho,hd⟩=>by
  have nch:c∉ch:=λz=>(hch c z).2.2.1 x c e rfl
  by_cases hc:c∈X.fs
  ·obtain⟨sl,q⟩:=slot c o (I.cne x c e) hc nch ho (I.freeC x c e)
   exact⟨_,q,hd⟩
  ·exact⟨o,keep c o (I.cne x c e) hc nch ho (I.freeC x c e),hd⟩
 refine⟨I.ok,I.os,hg,⟨λb o e n hb hx=>?_,λb o e n hb hx=>?_,λb o e n hx=>?_,λb o e hx=>?_,λb xs e=>tups b xs (I.base.tups b xs e),λb o xs e=>frzs b o xs (I.base.frzs b o xs e),λb ps e=>?_⟩,?_,λx c e=>?_,?_,λx c e=>?_,λp hp=>?_,hok,I.len⟩
 ·exact keep b o (neL b o e) hb (neC b o e hx) (I.base.keep b o e n hb hx) (I.base.free b o e n hx)
 ·obtain⟨sl,e1⟩:=I.base.slot b o e n hb hx
  obtain⟨sl',e2⟩:=slot b _ (neL b o e) hb (neC b o e hx) e1 (I.base.free b o e n hx)
  exact⟨sl',e2⟩
 ·obtain⟨o',e1⟩:=I.base.there b o e hx
  exact free b o' (neC b o e hx) e1 (I.base.free b o e n hx)
 ·obtain⟨o',e1⟩:=I.base.there b o e hx
  exact there b o' (neC b o e hx) e1
 ·obtain⟨m1,e1⟩:=I.base.tbls b ps e
  obtain⟨m2,e2⟩:=tbls b _ e1
  exact⟨m1++m2,by rw[e2,Array.append_assoc]⟩
 ·obtain⟨m,hn,hl⟩:=I.loc
  refine⟨m,ns m hn,λi x v e1 e2 e3=>?_⟩
  obtain⟨u,r,l⟩:=hl i x v e1 e2 e3
  refine⟨u,r,?_⟩
  rcases l with l|⟨k,c,e,z⟩
  ·exact .inl l
  ·exact .inr ⟨k,c,e,cellK x c e _ z⟩
 ·obtain⟨v,z⟩:=I.cell x c e
  exact⟨v,cellK x c e v z⟩
 ·obtain⟨m,⟨o,_,_,ho,_⟩,_⟩:=I.loc
  exact free _ o (λz=>(hch _ z).2.1 rfl) ho I.free
 ·obtain⟨v,o,ho,hd⟩:=I.cell x c e
  exact free c o (λz=>(hch c z).2.2.1 x c e rfl) ho (I.freeC x c e)
 ·obtain⟨e,n,ne,nf,d⟩:=I.pin p hp
  have nch:p.1∉ch:=λz=>(hch p.1 z).2.2.2 p hp rfl
  exact⟨keep p.1 p.2 ne nf nch e n,free p.1 p.2 nch e n,ne,nf,d⟩
theorem Inv.un{t':Nat}(I:Inv X pins σ H s)(u:Un X.fs [] H H' s.heap h')(hok:HOk X.prog X.w H' h'):Inv X pins σ H' { s with heap:=h',toks:=t' }:=by
 obtain⟨m,⟨o,es,ep,ho,r⟩,_⟩:=id I.loc
 obtain⟨sl,hL⟩:=u.any ho I.free (by simp)
 exact I.step (g':=s.gens) (d':=s.drawn) (ch:=[]) (λ_ z=>nomatch z) (λb o _ hb _ e n=>u.keep b o e n hb (by simp)) (λb o _ hb _ e n=>u.slot b o e n hb (by simp)) (λb o _ e n=>u.free b o e n (by simp)) (λb o _ e=>u.there b o e (by simp)) u.tups u.frzs u.tbls (λm' hm=>by
  obtain⟨o',es',ep',ho',r'⟩:=hm
  rw[ho]at ho';cases ho'
  exact⟨_,es',ep',hL,r'⟩) hok I.bare
theorem Inv.call{ch:List Addr}(I:Inv X pins σ H s)(u:Un (frs X.stack) ch H H' s.heap h')(hok:HOk X.prog X.w H' h')(hg:AllBare g')
  (hch:∀ b∈ch,(b∈X.ex\/X.s₀.heap.objs.size<=b)/\b≠X.env.locals/\(∀ x c,X.env.cells.lookup x=some c->c≠b)/\∀ p∈X.pn++pins,p.1≠b) :
  Inv X pins σ H' { s with heap:=h',gens:=g',drawn:=d',toks:=t' }:=by
 obtain⟨m,⟨o,es,ep,ho,r⟩,_⟩:=id I.loc
 obtain⟨sl,hL⟩:=u.any ho I.free λz=>(hch _ z).2.1 rfl
 exact I.step (ch:=ch) hch (λb o hL hb hc e n=>u.keep b o e n (λz=>(mem_cons.mp (I.Oi b z)).elim hL hb) hc) (λb o _ _ hc e n=>u.any e n hc) (λb o hc e n=>u.free b o e n hc) (λb o hc e=>u.there b o e hc) u.tups u.frzs u.tbls (λm' hm=>by
  obtain⟨o',es',ep',ho',r'⟩:=hm
  rw[ho]at ho';cases ho'
  exact⟨_,es',ep',hL,r'⟩) hok hg
theorem Inv.turned(I:Inv X pins σ H s)(k:∀ b o,b≠it->s.heap.get? b=some o->h'.get? b=some o)(hn:H it=none)(hL:it≠X.env.locals)
  (h1:it∈X.ex\/X.s₀.heap.objs.size<=it)(h2:∀ x c,X.env.cells.lookup x=some c->c≠it)(h3:∀ p∈X.pn++pins,p.1≠it):Inv X pins σ H { s with heap:=h',toks:=t' }:=by
 have nit:∀ b u,H b=some u->b≠it:=λb u e z=>by rw[z,hn]at e;cases e
 refine I.step (g':=s.gens) (d':=s.drawn) (ch:=[it]) (λb hb=>?_) (λb o _ _ hc e _=>k b o (λz=>hc (by simp[z])) e) (λb o _ _ hc e _=>⟨o.slots,k b o (λz=>hc (by simp[z])) e⟩) (λ_ _ _ _ n=>n)
  (λb o hc e=>⟨o,k b o (λz=>hc (by simp[z])) e⟩) (λ_ _ e=>e) (λ_ _ _ e=>e) (λb ps e=>⟨#[],by rw[e];simp⟩) (λm hm=>?_) (λb u e=>?_) I.bare
 ·have e:b=it:=by simpa using hb
  subst e
  exact⟨h1,hL,h2,h3⟩
 ·obtain⟨o,es,ep,ho,r⟩:=hm
  exact⟨o,es,ep,k _ o (Ne.symm hL) ho,r⟩
 ·refine(I.hok b u e).stay (λc v hc q=>k c v ?_ q) (λ_ q=>q) λ_ _ q=>q
  rcases hc with z|z
  ·rw[z];exact nit b u e
  ·exact nit c _ z
theorem Inv.tok(I:Inv X pins σ H s)(t:Nat):Inv X pins σ H { s with toks:=t }:=I.un (h':=s.heap) (t':=t) Un.refl I.hok
theorem Inv.kept(I:Inv X pins σ H s)(k:∀ b u,s.heap.get? b=some u->h'.get? b=some u):Inv X pins σ H { s with heap:=h',toks:=t' }:=I.un (Un.kept k) (I.hok.kept k)
theorem Inv.laid(I:Inv X pins σ H s)(k:∀ b u,s.heap.get? b=some u->h'.get? b=some u)(hp:s.heap.objs.size<=a)(new:YC X.prog X.w (upd H a o) h' a o) :
  Inv X pins σ (upd H a o) { s with heap:=h',toks:=t' }:=I.un (Un.laid k hp (I.hok.fresh hp)) (I.hok.laid k hp new)
theorem Inv.write(I:Inv X pins σ H s)(mu:Mut (H x))(he:e=x\/H e=some (.own x))(k:∀ b u,b≠e->s.heap.get? b=some u->h'.get? b=some u)(heo:∃ u,h'.get? e=some u)
  (new:YC X.prog X.w (upd H x o) h' x o):Inv X pins σ (upd H x o) { s with heap:=h',toks:=t' }:=I.un (Un.write mu he k heo) (I.hok.write mu he k heo new)
theorem Inv.Ak(I:Inv X pins σ H s)(h:∀ p∈pins',s.heap.get? p.1=some p.2/\H p.1=none/\p.1≠X.env.locals/\p.1∉X.fs/\∀ v,p.2.data ≠ .cell v):Inv X pins' σ H s :=
 ⟨I.ok,I.os,I.bare,I.base,I.loc,I.cell,I.free,I.freeC,λp hp=>(mem_append.mp hp).elim (λz=>I.pin p (mem_append_left _ z)) (h p),I.hok,I.len⟩
theorem Kt{N:List Str}(hN:N.Nodup){i j:Nat}(a:N[i]?=some x)(b:N[j]?=some x):i=j:=by
 obtain⟨h1,e1⟩:=List.getElem?_eq_some_iff.mp a
 obtain⟨h2,e2⟩:=List.getElem?_eq_some_iff.mp b
 exact(List.getElem_inj hN).mp (e1.trans e2.symm)
theorem Hg{M:Model}{A:Around}{u:Value}{Q:Unit->Shared->Prop}(I:Inv X pins σ H s)(hN:X.N.Nodup)(hi:X.N[i]?=some x)(hx:Loc X.env.scope x)(r:RelV v u)
  (h:∀ s',Inv X pins (σ.set i (some v)) H s'->(∃ a,aF a s.heap s'.heap/\(a=X.env.locals\/X.env.cells.lookup x=some a))->Q () s')(hf:X.fn x=true\/X.env.scope.names.lookup x=some .local:=by first | exact .inl rfl | exact .inr rfl | assumption):wpAny M A (storeName X.env x u) Q E s:=by
 obtain⟨m,hn,hl⟩:=id I.loc
 have hcls:(X.env.scope.kind == .class||(X.env.scope.kind == .module&&X.env.locals != X.env.globals))=false:=by rw[I.ok.kind];rfl
 have hiσ:i<σ.length:=by rw[I.len];exact(List.getElem?_eq_some_iff.mp hi).1
 have cne:=I.cne
 have tracked:∀ {a:Addr}{h':Heap},(∃ o,s.heap.get? a=some o/\H a=none)->aF a s.heap h'->HOk X.prog X.w H h':=λ{a h'} ha hs b ob e=>by
  obtain⟨_,_,hfree⟩:=ha
  refine(I.hok b ob e).stay (λc w' hc q=>(hs.2 c ?_).trans q) (λ_ q=>q) λ_ _ q=>q
  rintro rfl
  rcases hc with rfl|hc
  ·rw[hfree]at e;cases e
  ·rw[hfree]at hc;cases hc
 rcases hx with hk|hk
 ·refine wpAny_storeName_local hk hn (λh' hn' hs=>?_) hcls
  obtain⟨oL,_,_,hoL,_⟩:=id hn
  refine h _ ⟨I.ok,I.os,I.bare,⟨λb o e n hb hx=>?_,λb o e n hb hx=>?_,I.base.free,λb o e hx=>?_,I.base.tups,I.base.frzs,I.base.tbls⟩,⟨_,hn',λj y v' e1 e2 e3=>?_⟩,λy c e=>?_,I.free,I.freeC,λp hp=>?_,tracked ⟨oL,hoL,I.free⟩ hs,by simpa using I.len⟩ ⟨_,hs,.inl rfl⟩
  ·exact(hs.2 b (Nat.ne_of_lt (Nat.lt_of_lt_of_le (au e) I.ok.above))).trans (I.base.keep b o e n hb hx)
  ·obtain⟨sl,e1⟩:=I.base.slot b o e n hb hx
   exact⟨sl,(hs.2 b (Nat.ne_of_lt (Nat.lt_of_lt_of_le (au e) I.ok.above))).trans e1⟩
  ·obtain⟨o',e1⟩:=I.base.there b o e hx
   exact⟨o',(hs.2 b (Nat.ne_of_lt (Nat.lt_of_lt_of_le (au e) I.ok.above))).trans e1⟩
  ·by_cases hj:j=i
   ·subst hj
    rw[hi]at e1;cases e1
    rw[List.getElem?_set_self hiσ]at e2
    cases e2
    exact⟨u,r,.inl ⟨hk,by simp⟩⟩
   ·rw[getElem?_set_ne (Ne.symm hj)]at e2
    obtain⟨u',r',q⟩:=hl j y v' e1 e2 e3
    refine⟨u',r',?_⟩
    rcases q with⟨k,e⟩|⟨k,c,e,z⟩
    ·refine .inl ⟨k,?_⟩
     have:y≠x:=λe=>hj (Kt hN e1 (e ▸ hi))
     simp[this,e]
    ·exact .inr ⟨k,c,e,z.sameBut hs (cne y c e)⟩
  ·obtain⟨w',z⟩:=I.cell y c e
   exact⟨w',z.sameBut hs (cne y c e)⟩
  ·obtain⟨e,n,ne,nf,d⟩:=I.pin p hp
   exact⟨(hs.2 p.1 ne).trans e,n,ne,nf,d⟩
 ·have hfn:X.fn x=true:=by
   rcases hf with z|z
   ·exact z
   ·rw[z]at hk;cases hk
  obtain⟨c,hc⟩:=I.ok.has x (.inl hk)
  obtain⟨w',z⟩:=I.cell x c hc
  refine wpAny_storeName_cell I.ok.kind hk hc z (λh' hc' hs=>?_)
  obtain⟨oc,hoc,hocd⟩:=id z
  refine h { s with heap:=h' } ⟨I.ok,I.os,I.bare,⟨λb o e n hb hx=>?_,λb o e n hb hx=>?_,I.base.free,λb o e hx=>?_,I.base.tups,I.base.frzs,I.base.tbls⟩,⟨m,hn.sameBut hs (Ne.symm (cne x c hc)),λj y v' e1 e2 e3=>?_⟩,λy c' e=>?_,I.free,I.freeC,λp hp=>?_,tracked ⟨oc,hoc,I.freeC x c hc⟩ hs,by simpa using I.len⟩ ⟨c,hs,.inr hc⟩
  ·exact(hs.2 b (Nat.ne_of_lt (Nat.lt_of_lt_of_le (au e) (I.ok.cab x c hfn hc)))).trans (I.base.keep b o e n hb hx)
  ·obtain⟨sl,e1⟩:=I.base.slot b o e n hb hx
   exact⟨sl,(hs.2 b (Nat.ne_of_lt (Nat.lt_of_lt_of_le (au e) (I.ok.cab x c hfn hc)))).trans e1⟩
  ·obtain⟨o',e1⟩:=I.base.there b o e hx
   exact⟨o',(hs.2 b (Nat.ne_of_lt (Nat.lt_of_lt_of_le (au e) (I.ok.cab x c hfn hc)))).trans e1⟩
  ·by_cases hj:j=i
   ·subst hj
    rw[hi]at e1;cases e1
    rw[List.getElem?_set_self hiσ]at e2
    cases e2
    exact⟨u,r,.inr ⟨.inl hk,c,hc,hc'⟩⟩
   ·rw[getElem?_set_ne (Ne.symm hj)]at e2
    obtain⟨u',r',q⟩:=hl j y v' e1 e2 e3
    refine⟨u',r',?_⟩
    rcases q with q|⟨k,c',e,z'⟩
    ·exact .inl q
    ·refine .inr ⟨k,c',e,z'.sameBut hs ?_⟩
     rintro rfl
     exact hj (Kt hN e1 (I.ok.inj _ _ _ e hc ▸ hi))
  ·by_cases hcc:c'=c
   ·subst hcc;exact⟨_,hc'⟩
   ·obtain⟨w2,z2⟩:=I.cell y c' e
    exact⟨w2,z2.sameBut hs hcc⟩
  ·obtain⟨e,n,ne,nf,d⟩:=I.pin p hp
   refine⟨(hs.2 p.1 ?_).trans e,n,ne,nf,d⟩
   intro q
   rw[q,hoc]at e
   have q':oc=p.2:=Option.some.inj e
   exact d w' (by rw[<-q'];exact hocd)
theorem WL(I:Inv X pins σ H s)(hN:X.N.Nodup)(hi:X.N[i]?=some x)(hx:Loc X.env.scope x)(r:RelV v u)
  (h:∀ s',Inv X pins (σ.set i (some v)) H s'->Q () s')(hf:X.fn x=true\/X.env.scope.names.lookup x=some .local:=by first | exact .inl rfl | exact .inr rfl | assumption):wpAny M A (storeName X.env x u) Q E s :=
 Hg I hN hi hx r (λs' I' _=>h s' I') hf
theorem Inv.call'(I:Inv X pins σ H s)(ho:s'.os=s.os)(u:Un (frs X.stack) ch H H' s.heap s'.heap)(hok:HOk X.prog X.w H' s'.heap)(hg:AllBare s'.gens)
  (hch:∀ b∈ch,(b∈X.ex\/X.s₀.heap.objs.size<=b)/\b≠X.env.locals/\(∀ x c,X.env.cells.lookup x=some c->c≠b)/\∀ p∈X.pn++pins,p.1≠b):Inv X pins σ H' s':=by
 obtain⟨h',g',d',t',o'⟩:=s'
 have e:o'=s.os:=ho
 subst e
 exact I.call (g':=g') (t':=t') (d':=d') u hok hg hch
end
abbrev XK:=Value->Option Addr->Hp->Prop
abbrev St:=List (Option V)
abbrev VK:=V->Hp->Prop
abbrev TE:=St->Hp->VK->Prop
abbrev TT:=St->Hp->(Bool->Hp->Prop)->Prop
abbrev TA:=St->Hp->(List V->Hp->Prop)->Prop
structure Ends where
 nx:St->Hp->Prop
 rt:VK
 bk:St->Hp->Prop:=λ_ _=>False
 ct:St->Hp->Prop:=λ_ _=>False
abbrev TS:=Ends->St->Hp->Prop
noncomputable def EP(X:Cx)(pins:List (Addr×Obj))(σ:St)(Q:VK)(u:Value)(s':Shared):Prop:=∃ v H',Inv X pins σ H' s'/\RelV v u/\Q v H'
noncomputable def TP(X:Cx)(pins:List (Addr×Obj))(σ:St)(Q:Bool->Hp->Prop)(b:Bool)(s':Shared):Prop:=∃ H',Inv X pins σ H' s'/\Q b H'
noncomputable def AP(X:Cx)(pins:List (Addr×Obj))(σ:St)(Q:List V->Hp->Prop)(us:List Value)(s':Shared):Prop:=∃ vs H',Inv X pins σ H' s'/\Vals vs us/\Q vs H'
noncomputable def SP(X:Cx)(pins:List (Addr×Obj))(D:Ends)(f:Flow)(s':Shared):Prop :=
 match f with
 | .next=>∃ σ' H',Inv X pins σ' H' s'/\D.nx σ' H'
 | .brk=>∃ σ' H',Inv X pins σ' H' s'/\D.bk σ' H'
 | .cont=>∃ σ' H',Inv X pins σ' H' s'/\D.ct σ' H'
 | .ret u=>∃ v σ' H',Inv X pins σ' H' s'/\RelV v u/\D.rt v H'
noncomputable def PE(X:Cx)(e:Expr)(t:TE):Prop :=
 ∀ (pins:List (Addr×Obj)) (s:Shared) (σ:St) (H:Hp) (Q:VK),Inv X pins σ H s->t σ H Q->wpAny (model X.prog X.w) X.A (eval e X.env) (EP X pins σ Q) X.xe s
noncomputable def PT(X:Cx)(e:Expr)(t:TT):Prop :=
 ∀ (pins:List (Addr×Obj)) (s:Shared) (σ:St) (H:Hp) (Q:Bool->Hp->Prop),Inv X pins σ H s->t σ H Q->wpAny (model X.prog X.w) X.A (isTrue e X.env (eval e X.env)) (TP X pins σ Q) X.xe s
noncomputable def PW(X:Cx)(e:Expr)(t:TT):Prop :=
 ∀ (whole:Sem Value) (pins:List (Addr×Obj)) (s:Shared) (σ:St) (H:Hp) (Q:Bool->Hp->Prop),Inv X pins σ H s->t σ H Q->wpAny (model X.prog X.w) X.A (isTrue e X.env whole) (TP X pins σ Q) X.xe s
theorem PW.pt(h:PW X e t):PT X e t:=h _
noncomputable def PA(X:Cx)(es:List Expr)(t:TA):Prop :=
 ∀ (pos:Pos) (pins:List (Addr×Obj)) (s:Shared) (σ:St) (H:Hp) (Q:List V->Hp->Prop),Inv X pins σ H s->t σ H Q->wpAny (model X.prog X.w) X.A (spliced (backTo pos (starEach es X.env))) (AP X pins σ Q) X.xe s
noncomputable def PS(X:Cx)(st:Stmt)(t:TS):Prop :=
 ∀ (pins:List (Addr×Obj)) (s:Shared) (σ:St) (H:Hp) (D:Ends),Inv X pins σ H s->t D σ H->wpAny (model X.prog X.w) X.A (exec st X.env) (SP X pins D) X.xe s
noncomputable def PSs(X:Cx)(st:List Stmt)(t:TS):Prop :=
 ∀ (pins:List (Addr×Obj)) (s:Shared) (σ:St) (H:Hp) (D:Ends),Inv X pins σ H s->t D σ H->wpAny (model X.prog X.w) X.A (execs st X.env) (SP X pins D) X.xe s
theorem thn(h:wpAny M A t Q E s)(hQ:∀ a s,Q a s->Q' a s):wpAny M A t Q' E s:=wpAny_mono h hQ λ_ _ x=>x
section
variable {X:Cx}
noncomputable def tVar(i:Nat):TE:=λσ H Q=>∃ v,σ[i]?=some (some v)/\Q v H
noncomputable def tC(v:V):TE:=λ_ H Q=>Q v H
theorem mK(hN:X.N[i]?=some x)(hv:Vis X.env.scope x)(hd:autoParam ((x==("__debug__" : Str))=false) auD)(hcd:autoParam ((x==("__classdict__" : Str))=false) auD):PE X (.Name x pos) (tVar i):=by
 intro pins s σ H Q I h
 obtain⟨v,e,h⟩:=h
 obtain⟨m,hn,hl⟩:=I.loc
 obtain⟨u,r,l⟩:=hl i x v hN e hv
 have fin:EP X pins σ Q u s:=⟨v,H,I,r,h⟩
 rcases l with⟨hk,hm⟩|⟨hk,c,hc,hcell⟩
 ·exact wpAny_Name (wpAny_loadName_local I.ok.kind hk hn hm fin) hd
 ·rcases hk with hk|hk
  ·exact wpAny_Name (wpAny_loadName_cell I.ok.kind hk hc hcell fin) hd
  ·exact wpAny_Name (wpAny_loadName_free I.ok.kind hk hc hcell fin hcd) hd
theorem mL:PE X (.Constant (.int i) j pos) (tC (.int i)):=λ_ _ _ H _ I h=>wpAny_Constant_int ⟨.int i,H,I.tok _,⟨_,rfl⟩,h⟩
theorem pe_bl:PE X (.Constant (.bool b) j pos) (tC (.bl b)):=λ_ _ _ H _ I h=>Constant_bool ⟨.bl b,H,I,rfl,h⟩
theorem mM:PE X (.Constant .none j pos) (tC .non):=λ_ _ _ H _ I h=>Constant_none ⟨.non,H,I,rfl,h⟩
theorem mO:PE X (.Constant (.str x) j pos) (tC (.str x)):=λ_ _ _ H _ I h=>Calls.Constant_str ⟨.str x,H,I.tok _,⟨_,rfl⟩,h⟩
noncomputable def Gl(X:Cx)(x:Str):Prop:=X.env.kindOf x=some .globalImplicit
theorem Vs(I:Inv X pins σ H s)(hg:Gl X x)(hm:X.mg x=some u)(h:Q u s)
  (hd:autoParam ((x==("__debug__" : Str))=false) auD):wpAny (model X.prog X.w) X.A (eval (.Name x pos) X.env) Q E s :=
 Calls.Name_function_global I.ok.kind hg (Calls.loadGlobal_global (by rw[I.ok.glob];exact I.mod.glob.keeps I.bk) hm h) hd
theorem Ku(I:Inv X pins σ H s)(hg:Gl X x)(hm:X.mg x=none)(hv:bootBuiltins x=some u)(h:Q u s)
  (hn:autoParam (x ≠ "__name__" ) auD)(hd:autoParam ((x==("__debug__" : Str))=false) auD):wpAny (model X.prog X.w) X.A (eval (.Name x pos) X.env) Q E s:=by
 obtain⟨mb,h1,h2⟩:=I.mod.blt
 exact Calls.Name_function_global I.ok.kind hg (Calls.loadGlobal_builtin (by rw[I.ok.glob];exact I.mod.glob.keeps I.bk) hm (by rw[I.ok.blt];exact h1.keeps I.bk) ((h2 x hn).trans hv) h) hd
theorem qA(hg:Gl X x)(hm:X.mg x=some u)(r:RelV v u)(hd:autoParam ((x==("__debug__" : Str))=false) auD):PE X (.Name x pos) (tC v) :=
 λ_ _ _ H _ I h=>Vs I hg hm ⟨v,H,I,r,h⟩ hd
theorem qB(hg:Gl X x)(hm:X.mg x=none)(hv:bootBuiltins x=some u)(r:RelV v u)(hn:autoParam (x ≠ "__name__" ) auD)(hd:autoParam ((x==("__debug__" : Str))=false) auD):PE X (.Name x pos) (tC v) :=
 λ_ _ _ H _ I h=>Ku I hg hm hv ⟨v,H,I,r,h⟩ hn hd
variable {a b:Expr}{ta tb:TE}{pos:Pos}
variable {tA tB':TT}{rest:List Expr}
noncomputable def tAnd(t u:TT):TT:=λσ H Q=>t σ H λc H1=>if c=true then u σ H1 Q else Q false H1
noncomputable def tOr(t u:TT):TT:=λσ H Q=>t σ H λc H1=>if c=true then Q true H1 else u σ H1 Q
noncomputable def tNot(t:TT):TT:=λσ H Q=>t σ H λc H1=>Q (!c) H1
theorem pw_and1(ha:PT X a tA):PW X (.BoolOp .And [a] pos) tA:=by
 intro wh pins s σ H Q I h
 refine isTrue_and (thn (ha pins s σ H Q I h) λc s1 e=>?_)
 cases c with
 | true=>exact isTrue_and_nil e
 | false=>exact e
theorem pw_or1(ha:PT X a tA):PW X (.BoolOp .Or [a] pos) tA:=by
 intro wh pins s σ H Q I h
 refine isTrue_or (thn (ha pins s σ H Q I h) λc s1 e=>?_)
 cases c with
 | false=>exact isTrue_or_nil e
 | true=>exact e
theorem pw_and(ha:PT X a tA)(hb:PW X (.BoolOp .And (b::rest) pos) tB'):PW X (.BoolOp .And (a::b::rest) pos) (tAnd tA tB'):=by
 intro wh pins s σ H Q I h
 refine isTrue_and (thn (ha pins s σ H _ I h) λc s1 zq=>?_)
 obtain⟨H1,I1,q1⟩:=zq
 cases c with
 | true=>exact hb wh pins s1 σ H1 Q I1 q1
 | false=>exact⟨H1,I1,q1⟩
theorem pw_or(ha:PT X a tA)(hb:PW X (.BoolOp .Or (b::rest) pos) tB'):PW X (.BoolOp .Or (a::b::rest) pos) (tOr tA tB'):=by
 intro wh pins s σ H Q I h
 refine isTrue_or (thn (ha pins s σ H _ I h) λc s1 zq=>?_)
 obtain⟨H1,I1,q1⟩:=zq
 cases c with
 | true=>exact⟨H1,I1,q1⟩
 | false=>exact hb wh pins s1 σ H1 Q I1 q1
theorem mP(ha:PT X a tA):PT X (.UnaryOp .Not a pos) (tNot tA):=by
 intro pins s σ H Q I h
 exact isTrue_not (ha pins s σ H (λc H1=>Q (!c) H1) I h)
noncomputable def tAndV(ta tb:TE):TE:=λσ H Q=>ta σ H λx H1=>∃ c,x = .bl c/\if c=true then tb σ H1 Q else Q (.bl false) H1
noncomputable def tOrV(ta tb:TE):TE:=λσ H Q=>ta σ H λx H1=>∃ c,x = .bl c/\if c=true then Q (.bl true) H1 else tb σ H1 Q
theorem mQ(h:PE X a t):PE X (.BoolOp op [a] pos) t:=λpins s σ H Q I hw=>BoolOp_one (h pins s σ H Q I hw)
theorem mR(ha:PE X a ta)(hb:PE X (.BoolOp .And (b::rest) pos) tb):PE X (.BoolOp .And (a::b::rest) pos) (tAndV ta tb):=by
 intro pins s σ H Q I h
 refine BoolOp_and (thn (ha pins s σ H _ I h) λv s1 zq=>?_)
 obtain⟨x,H1,I1,r1,q1⟩:=zq
 obtain⟨c,rfl,q1⟩:=q1
 cases r1
 refine wpAny_truthy_bool ?_
 cases c with
 | true=>exact hb pins s1 σ H1 Q I1 q1
 | false=>exact⟨.bl false,H1,I1,rfl,q1⟩
theorem pe_or(ha:PE X a ta)(hb:PE X (.BoolOp .Or (b::rest) pos) tb):PE X (.BoolOp .Or (a::b::rest) pos) (tOrV ta tb):=by
 intro pins s σ H Q I h
 refine BoolOp_or (thn (ha pins s σ H _ I h) λv s1 zq=>?_)
 obtain⟨x,H1,I1,r1,q1⟩:=zq
 obtain⟨c,rfl,q1⟩:=q1
 cases r1
 refine wpAny_truthy_bool ?_
 cases c with
 | false=>exact hb pins s1 σ H1 Q I1 q1
 | true=>exact⟨.bl true,H1,I1,rfl,q1⟩
noncomputable def tIf(t:TT)(ta tb:TE):TE:=λσ H Q=>t σ H λc H1=>if c=true then ta σ H1 Q else tb σ H1 Q
theorem wW(hc:PT X c tA)(ha:PE X a ta)(hb:PE X b tb):PE X (.IfExp c a b pos) (tIf tA ta tb):=by
 intro pins s σ H Q I h
 refine wpAny_IfExp (thn (hc pins s σ H _ I h) λd s1 zq=>?_)
 obtain⟨H1,I1,q1⟩:=zq
 cases d with
 | true=>exact ha pins s1 σ H1 Q I1 q1
 | false=>exact hb pins s1 σ H1 Q I1 q1
end
noncomputable def SqL(K:aa)(H:Hp)(a:Addr)(xs:List V):Prop :=
 Rd H a (.lst xs) \/
  ∃ (o:Obj) (its:Array Value) (n:Nat),K.lookup a=some o/\o.cls = .type "list" /\ o.dict=none/\o.data = .seq its n/\its.size<=az/\Vals xs its.toList
noncomputable def SqT(K:aa)(H:Hp)(a:Addr)(xs:List V):Prop :=
 Rd H a (.tup xs) \/
  ∃ (o:Obj) (its:Array Value) (n:Nat),K.lookup a=some o/\o.cls = .type "tuple" /\ o.data = .seq its n/\its.size<=az/\Vals xs its.toList
noncomputable def absV:Value->Option V
 | .none=>some .non
 | .bool b=>some (.bl b)
 | .int i _=>some (.int i)
 | .str x _=>some (.str x)
 | .bytes b _=>some (.byt b)
 | .float b _=>some (.flt b)
 | .ref a=>some (.ref a)
 | .type n=>some (.ty n)
 | _=>none
theorem RelV.abs(r:RelV x u):absV u=some x:=by
 cases x with
 | non=>cases r;rfl
 | bl _=>cases r;rfl
 | int _=>obtain⟨t,rfl⟩:=r;rfl
 | str _=>obtain⟨t,rfl⟩:=r;rfl
 | byt _=>obtain⟨t,rfl⟩:=r;rfl
 | flt _=>obtain⟨t,rfl⟩:=r;rfl
 | ref _=>cases r;rfl
 | ty _=>cases r;rfl
theorem RelV.inj(r:RelV x u)(q:RelV y u):x=y:=Option.some.inj (r.abs.symm.trans q.abs)
theorem Vals.inj:∀ {xs ys:List V}{us:List Value},Vals xs us->Vals ys us->xs=ys
 | _,_,_,.nil,.nil=>rfl
 | _,_,_,.cons r t,.cons r' t'=>by rw[r.inj r',Vals.inj t t']
section
variable {X:Cx}{pins:List (Addr×Obj)}{σ:St}{H:Hp}{s:Shared}{a:Addr}{xs ys:List V}
theorem SqL.of{K:aa}(h:H a=some (.lst xs)):SqL K H a xs := .inl (.inl h)
theorem SqT.of{K:aa}(h:H a=some (.tup xs)):SqT K H a xs := .inl (.inl h)
theorem Inv.list(I:Inv X pins σ H s)(h:SqL X.K H a xs):∃ its:List Value,Vals xs its/\PlainL s.heap a its.toArray/\xs.length<=az:=by
 rcases h with h|⟨o,its,n,hk,hc,hd,hs,hz,r⟩
 ·obtain⟨z,its,n,r,e⟩:=h.ok I.hok
  exact⟨its,r,⟨_,n,e,rfl,rfl,rfl⟩,z⟩
 ·refine⟨its.toList,r,⟨o,n,I.kIn a o hk,hc,hd,by simpa using hs⟩,?_⟩
  have e:=r.length
  simp only[Array.length_toList]at e
  omega
theorem Inv.tuple(I:Inv X pins σ H s)(h:SqT X.K H a xs):∃ its:List Value,Vals xs its/\IsTup s.heap a its.toArray/\xs.length<=az:=by
 rcases h with h|⟨o,its,n,hk,hc,hs,hz,r⟩
 ·obtain⟨z,its,r,p⟩:=h.ok I.hok
  exact⟨its,r,p,z⟩
 ·refine⟨its.toList,r,⟨o,I.kIn a o hk,hc,n,by simpa using hs⟩,?_⟩
  have e:=r.length
  simp only[Array.length_toList]at e
  omega
theorem Inv.OW(I:Inv X pins σ H s)(h:SqL X.K H a xs)(h':SqL X.K H a ys):xs=ys:=by
 obtain⟨its,r,⟨o,n,e,_,_,d⟩,_⟩:=I.list h
 obtain⟨its',r',⟨o',n',e',_,_,d'⟩,_⟩:=I.list h'
 rw[e]at e';cases e'
 rw[d]at d'
 injection d' with d1 _
 have:its=its':=by simpa using congrArg Array.toList d1
 subst this
 exact r.inj r'
theorem Inv.Ph(I:Inv X pins σ H s)(h:SqT X.K H a xs)(h':SqT X.K H a ys):xs=ys:=by
 obtain⟨its,r,⟨o,e,_,n,d⟩,_⟩:=I.tuple h
 obtain⟨its',r',⟨o',e',_,n',d'⟩,_⟩:=I.tuple h'
 rw[e]at e';cases e'
 rw[d]at d'
 injection d' with d1 _
 have:its=its':=by simpa using congrArg Array.toList d1
 subst this
 exact r.inj r'
end
abbrev Cx.wish(X:Cx)(E:Value->Shared->Prop):Cx:={ X with xe:=E }
abbrev Cx.nox(X:Cx):Cx:=X.wish λ_ _=>False
theorem Cx.Ok.wish{X:Cx}(ok:X.Ok)(E:Value->Shared->Prop):(X.wish E).Ok :=
 ⟨ok.mod,ok.kind,ok.glob,ok.blt,ok.above,ok.inj,ok.has,ok.cab,ok.hd,ok.frames,ok.stk,ok.exf,ok.bs,ok.bsz,ok.noex,ok.exfs,ok.Si,ok.frf⟩
theorem Cx.Ok.Sl{X:Cx}(ok:(X.wish E).Ok):X.Ok :=
 ⟨ok.mod,ok.kind,ok.glob,ok.blt,ok.above,ok.inj,ok.has,ok.cab,ok.hd,ok.frames,ok.stk,ok.exf,ok.bs,ok.bsz,ok.noex,ok.exfs,ok.Si,ok.frf⟩
section
variable {X:Cx}{pins:List (Addr×Obj)}{σ:St}{H:Hp}{s:Shared}{E:Value->Shared->Prop}
theorem Inv.wish(I:Inv X pins σ H s)(E:Value->Shared->Prop):Inv (X.wish E) pins σ H s:=⟨I.ok.wish E,I.os,I.bare,I.base,I.loc,I.cell,I.free,I.freeC,I.pin,I.hok,I.len⟩
theorem Inv.Sl(I:Inv (X.wish E) pins σ H s):Inv X pins σ H s:=⟨I.ok.Sl,I.os,I.bare,I.base,I.loc,I.cell,I.free,I.freeC,I.pin,I.hok,I.len⟩
theorem SP.Sl(h:SP (X.wish E) pins D f s'):SP X pins D f s':=by
 cases f with
 | next=>obtain⟨σ',H',I,q⟩:=h;exact⟨σ',H',I.Sl,q⟩
 | brk=>obtain⟨σ',H',I,q⟩:=h;exact⟨σ',H',I.Sl,q⟩
 | cont=>obtain⟨σ',H',I,q⟩:=h;exact⟨σ',H',I.Sl,q⟩
 | ret u=>obtain⟨v,σ',H',I,r,q⟩:=h;exact⟨v,σ',H',I.Sl,r,q⟩
theorem PSs.nox{st:List Stmt}(h:PSs X.nox st t):PSs X st t:=λpins s σ H D I hw =>
 wpAny_mono (h pins s σ H D (I.wish _) hw) (λ_ _ q=>q.Sl) λ_ _ z=>False.elim z
end
section
variable {X:Cx}{st:Stmt}{rest:List Stmt}{t u:TS}{e:Expr}{te:TE}{pos:Pos}
noncomputable def tNext:TS:=λD σ H=>D.nx σ H
noncomputable def tSeq(t u:TS):TS:=λD σ H=>t { D with nx:=u D } σ H
theorem HQ:PSs X [] tNext:=λ_ _ σ H _ I h=>wpAny_execs_nil ⟨σ,H,I,h⟩
theorem wX(h1:PS X st t)(h2:PSs X rest u):PSs X (st::rest) (tSeq t u):=by
 intro pins s σ H D I h
 refine wpAny_execs_cons (thn (h1 pins s σ H { D with nx:=u D } I h) λf s1 q=>?_)
 cases f with
 | next =>
  obtain⟨σ',H',I',q⟩:=q
  exact h2 pins s1 σ' H' D I' q
 | ret v=>exact q
 | brk=>exact q
 | cont=>exact q
theorem qC(h1:PS X st t):PSs X [st] t:=by
 intro pins s σ H D I h
 refine wpAny_execs_cons (thn (h1 pins s σ H D I h) λf s1 q=>?_)
 cases f with
 | next=>exact wpAny_execs_nil q
 | ret v=>exact q
 | brk=>exact q
 | cont=>exact q
theorem Inv.quiet(I:Inv X pins σ H s):interactive X.env=false:=by simp[interactive,I.ok.kind]
noncomputable def tDrop(te:TE):TS:=λD σ H=>te σ H λ_ H1=>D.nx σ H1
theorem Kj(he:PE X e te)(hs:autoParam (swapsWith e none pos.line X.env=pure false) auR):PS X (.Expr e pos) (tDrop te):=by
 intro pins s σ H D I h
 exact wpAny_Expr_any (thn (he pins s σ H _ I h) λv s1 ⟨x,H1,I1,r1,q1⟩=>⟨σ,H1,I1,q1⟩) I.quiet hs
noncomputable def tRet(te:TE):TS:=λD σ H=>te σ H D.rt
theorem mS(he:PE X e te):PS X (.Return (some e) pos) (tRet te):=by
 intro pins s σ H D I h
 exact wpAny_Return_some (thn (he pins s σ H _ I h) λv s1 ⟨x,H1,I1,r1,q1⟩=>⟨x,σ,H1,I1,r1,q1⟩)
noncomputable def tIfS(c:TT)(t u:TS):TS:=λD σ H=>c σ H λb H1=>if b=true then t D σ H1 else u D σ H1
theorem ps_if(hc:PT X c tc)(ha:PSs X a t)(hb:PSs X b u):PS X (.If c a b pos) (tIfS tc t u):=by
 intro pins s σ H D I h
 refine wpAny_If (thn (hc pins s σ H _ I h) λd s1 zq=>?_)
 obtain⟨H1,I1,q1⟩:=zq
 cases d with
 | true=>exact ha pins s1 σ H1 D I1 q1
 | false=>exact hb pins s1 σ H1 D I1 q1
end
abbrev TG:=V->St->Hp->(St->Hp->Prop)->Prop
abbrev TGs:=List V->St->Hp->(St->Hp->Prop)->Prop
noncomputable def PG(X:Cx)(target:Expr)(t:TG):Prop :=
 ∀ (pins:List (Addr×Obj)) (s:Shared) (σ:St) (H:Hp) (v:V) (u:Value) (Q:St->Hp->Prop),Inv X pins σ H s->RelV v u->t v σ H Q ->
  wpAny (model X.prog X.w) X.A (assign target X.env u) (λ_ s'=>∃ σ' H',Inv X pins σ' H' s'/\Q σ' H') X.xe s
noncomputable def PGs(X:Cx)(ts:List Expr)(t:TGs):Prop :=
 ∀ (pins:List (Addr×Obj)) (s:Shared) (σ:St) (H:Hp) (vs:List V) (us:List Value) (Q:St->Hp->Prop),Inv X pins σ H s->Vals vs us->t vs σ H Q ->
  wpAny (model X.prog X.w) X.A (assignInOrder ((assignEach ts X.env).map (·.2)) us) (λ_ s'=>∃ σ' H',Inv X pins σ' H' s'/\Q σ' H') X.xe s
abbrev TSet:=V->V->V->Hp->(Hp->Prop)->Prop
noncomputable def PSet(X:Cx)(t:TSet):Prop :=
 ∀ (pins:List (Addr×Obj)) (s:Shared) (σ:St) (H:Hp) (o i v:V) (ov iv u:Value) (Q:Hp->Prop),Inv X pins σ H s->RelV o ov->RelV i iv->RelV v u->t o i v H Q ->
  wpAny (model X.prog X.w) X.A (setItem ov iv u) (λ_ s'=>∃ H',Inv X pins σ H' s'/\Q H') X.xe s
abbrev TIp:=V->V->Hp->VK->Prop
noncomputable def PIp(X:Cx)(op:Operator)(t:TIp):Prop :=
 ∀ (pins:List (Addr×Obj)) (s:Shared) (σ:St) (H:Hp) (x y:V) (v u:Value) (Q:VK),Inv X pins σ H s->RelV x v->RelV y u->t x y H Q ->
  wpAny (model X.prog X.w) X.A (inplaceOp op v u) (EP X pins σ Q) X.xe s
section
variable {X:Cx}{pos:Pos}
noncomputable def OX(i:Nat):TG:=λv σ H Q=>Q (σ.set i (some v)) H
theorem qD(hN:X.N.Nodup)(hi:X.N[i]?=some x)(hx:Loc X.env.scope x)(hf:X.fn x=true\/X.env.scope.names.lookup x=some .local:=by first | exact .inl rfl | exact .inr rfl | assumption):PG X (.Name x pos) (OX i):=by
 intro pins s σ H v u Q I r h
 exact wpAny_assign_Name (WL I hN hi hx r (λs' I'=>⟨_,H,I',h⟩) hf)
noncomputable def gNil:TGs:=λvs σ H Q=>vs=[]/\Q σ H
noncomputable def gCons(t:TG)(u:TGs):TGs:=λvs σ H Q=>∃ v r,vs=v::r/\t v σ H λσ' H'=>u r σ' H' Q
theorem qE:PGs X [] gNil:=by
 intro pins s σ H vs us Q I r h
 obtain⟨e,h⟩:=h
 subst e
 cases r
 exact assignInOrder_nil ⟨σ,H,I,h⟩
theorem wY(h1:PG X e t)(h2:PGs X es u)
  (hs:autoParam ((assignEach (e::es) X.env).map (·.2)=assign e X.env::(assignEach es X.env).map (·.2)) auR):PGs X (e::es) (gCons t u):=by
 intro pins s σ H vs us Q I r h
 obtain⟨v,vr,e1,h⟩:=h
 subst e1
 cases r with
 | cons r rr =>
  rw[hs]
  refine assignInOrder_cons (thn (h1 pins s σ H _ _ _ I r h) λ_ s1 zq=>?_)
  obtain⟨σ1,H1,I1,q1⟩:=zq
  exact h2 pins s1 σ1 H1 _ _ Q I1 rr q1
noncomputable def gTup(K:aa)(n:Nat)(t:TGs):TG:=λv σ H Q=>∃ a xs,v = .ref a/\SqT K H a xs/\xs.length=n/\t xs σ H Q
theorem mU(hc:X.calm=true)(h:PGs X es t)
  (hn:autoParam ((assignEach es X.env).length=n) auR)(hst:autoParam ((assignEach es X.env).findIdx? (·.1)=none) auR):PG X (.Tuple es k pos) (gTup X.K n t):=by
 intro pins s σ H v u Q I r hw
 obtain⟨a,xs,e1,hq,hl,hw⟩:=hw
 subst e1
 cases r
 obtain⟨its,rv,ht,hz⟩:=I.tuple hq
 refine assign_Tuple_tuple (I.ok.hd hc) ht (by simp[hn,<-hl,rv.length]) hst λh' hx=>?_
 have I1:Inv X pins σ H { s with heap:=h' }:=I.kept (t':=s.toks) λb o e=>hx b o (Nat.ne_of_lt (au e)) e
 exact h pins _ σ H xs _ Q I1 (by simpa using rv) hw
noncomputable def gSub(to ti:TE)(t:TSet):TG:=λv σ H Q=>to σ H λo H1=>ti σ H1 λi H2=>t o i v H2 λH3=>Q σ H3
theorem mV(ho:PE X o to)(hi:PE X i ti)(hs:PSet X t)
  (ha:∀ v,assign (.Subscript o i pos) X.env v=(do
   let ov <- holding [v] (eval o X.env)
   let iv <- holding [v,ov] (eval i X.env)
   standAt pos
   holding [v,ov,iv] (setItem ov iv v)
   release [v,ov,iv] []):=by intro _;rfl):PG X (.Subscript o i pos) (gSub to ti t):=by
 intro pins s σ H v u Q I r h
 rw[ha]
 refine aj (wpAny_holding (thn (ho pins s σ H _ I h) λov s1 zq=>?_))
 obtain⟨x,H1,I1,r1,q1⟩:=zq
 refine aj (wpAny_holding (thn (hi pins s1 σ H1 _ I1 q1) λiv s2 zq=>?_))
 obtain⟨y,H2,I2,r2,q2⟩:=zq
 refine aj (wpAny_standAt (aj (wpAny_holding (thn (hs pins s2 σ H2 x y v ov iv u _ I2 r1 r2 r q2) λ_ s3 zq=>?_))))
 obtain⟨H3,I3,q3⟩:=zq
 exact wpAny_release ⟨σ,H3,I3,q3⟩
noncomputable def Io(te:TE)(g:TG):TS:=λD σ H=>te σ H λx H1=>g x σ H1 D.nx
theorem wZ(he:PE X e te)(hg:PG X tg g)(hs:autoParam (swapsWithSole [tg] e pos.line X.env=pure false) auR)(hw:autoParam (swappedStores [tg] e X.env=pure none) auR)
  (h1:autoParam ((assignEach [tg] X.env).map (·.2)=[assign tg X.env]) auR):PS X (.Assign [tg] e pos) (Io te g):=by
 intro pins s σ H D I h
 refine wpAny_Assign_stores (thn (he pins s σ H _ I h) λv s1 zq=>?_) hs hw
 obtain⟨x,H1,I1,r1,q1⟩:=zq
 rw[h1]
 exact thn (hg pins s1 σ H1 x v _ I1 r1 q1) λ_ s2 q=>q
theorem DX(hN:X.N.Nodup)(hi:X.N[i]?=some x)(hx:Loc X.env.scope x)(he:PE X e te)(hs:autoParam (swapsWith e (some (.Name x pos')) pos.line X.env=pure false) auR)(hf:X.fn x=true\/X.env.scope.names.lookup x=some .local:=by first | exact .inl rfl | exact .inr rfl | assumption) :
  PS X (.Assign [.Name x pos'] e pos) (Io te (OX i)):=by
 intro pins s σ H D I h
 refine wpAny_Assign_Name (thn (he pins s σ H _ I h) λv s1 zq=>?_) hs
 obtain⟨y,H1,I1,r1,q1⟩:=zq
 exact WL I1 hN hi hx r1 (λs2 I2=>⟨_,H1,I2,q1⟩) hf
noncomputable def tPar(i j:Nat)(ta:TA):TS:=λD σ H=>ta σ H λvs H1=>∃ v w,vs=[v,w]/\D.nx ((σ.set i (some v)).set j (some w)) H1
theorem DY(hc:X.calm=true)(hN:X.N.Nodup)(hi:X.N[i]?=some x)(hj:X.N[j]?=some y)(hij:i≠j)
  (hx:X.env.scope.names.lookup x=some .local)(hy:X.env.scope.names.lookup y=some .local)(ha:PA X [a,b] ta)
  (hw:swappedStores [.Tuple [.Name x px,.Name y py] kt pt] (.Tuple [a,b] k2 pt2) X.env=pure (some [x,y]))
  (hs:autoParam (swapsWithSole [.Tuple [.Name x px,.Name y py] kt pt] (.Tuple [a,b] k2 pt2) pos.line X.env=pure false) auR) :
  PS X (.Assign [.Tuple [.Name x px,.Name y py] kt pt] (.Tuple [a,b] k2 pt2) pos) (tPar i j ta):=by
 intro pins s σ H D I h
 rw[exec_Assign_arm]
 refine aj (wpAny_standAt ?_)
 rw[hs]
 refine aj (ak ?_)
 rw[if_neg (by decide)]
 refine aj (Tuple_ (thn (ha _ pins s σ H _ I h) λus s1 zq=>?_))
 obtain⟨vs,H1,I1,r1,q1⟩:=zq
 obtain⟨v,w,e1,q1⟩:=q1
 subst e1
 obtain⟨u1,u2,rfl,rv,rw'⟩:∃ u1 u2,us=[u1,u2]/\RelV v u1/\RelV w u2:=by
  cases r1 with
  | cons p q =>
   cases q with
   | cons p' q' =>
    cases q'
    exact⟨_,_,rfl,p,p'⟩
 refine wpAny_newObj_type ?_ (by show 2<=az;decide)
 have I2:Inv X pins σ H1 { s1 with heap:=s1.heap.push { cls := .type "tuple",data := .seq [u1,u2].toArray } }:=I1.kept (t':=s1.toks) λb o e=>ao _ e
 rw[hw]
 refine aj (ak ?_)
 show wpAny (model X.prog X.w) X.A (do rule "assign.swapped-stores";let items <- unpackItems (.ref s1.heap.objs.size) 2 none;assignInOrder [λv=>bindName X.env y v,λv=>bindName X.env x v] items.reverse;pure Flow.next) _ _ _
 refine aj (wpAny_rule (aj (unpackItems_tuple (items:=#[u1,u2]) (I.ok.hd hc) (IsTup.new s1.heap _) λh' hx'=>?_)))
 have I3:=I2.kept (h':=h') (t':=s1.toks) λb o e=>hx' b o (Nat.ne_of_lt (au e)) e
 show wpAny _ _ (assignInOrder [λv=>bindName X.env y v,λv=>bindName X.env x v] [u2,u1] >>= λ_=>pure Flow.next) _ _ _
 refine aj (assignInOrder_cons (wpAny_bindName (WL I3 hN hj (.inl hy) rw' (λs2 I4=>?_) (.inr hy))))
 refine assignInOrder_cons (wpAny_bindName (WL I4 hN hi (.inl hx) rv (λs3 I5=>assignInOrder_nil (ak ?_)) (.inr hx)))
 rw[List.set_comm _ _ (Ne.symm hij)]at I5
 exact⟨_,H1,I5,q1⟩
noncomputable def tAug(i:Nat)(te:TE)(ti:TIp):TS:=λD σ H=>∃ x,σ[i]?=some (some x)/\te σ H λy H1=>ti x y H1 λz H2=>D.nx (σ.set i (some z)) H2
theorem mW(hN:X.N.Nodup)(hi:X.N[i]?=some x)(hx:Loc X.env.scope x)(he:PE X e te)(ho:PIp X op ti)(hf:X.fn x=true\/X.env.scope.names.lookup x=some .local:=by first | exact .inl rfl | exact .inr rfl | assumption) :
  PS X (.AugAssign (.Name x pos') op e pos) (tAug i te ti):=by
 intro pins s σ H D I h
 obtain⟨v,e1,h⟩:=h
 obtain⟨m,hn,hl⟩:=I.loc
 have vis:Vis X.env.scope x:=by rcases hx with k|k;exact .inl k;exact .inr (.inl k)
 obtain⟨u,r,l⟩:=hl i x v hi e1 vis
 refine wpAny_AugAssign_Name ?_
 have go:wpAny (model X.prog X.w) X.A (eval e X.env) (λw s₂=>wpAny (model X.prog X.w) X.A (inplaceOp op u w) (λr s₃=>wpAny (model X.prog X.w) X.A (storeName X.env x r) (λ_=>SP X pins D .next) X.xe s₃) X.xe s₂) X.xe s:=by
  refine thn (he pins s σ H _ I h) λw s1 zq=>?_
  obtain⟨y,H1,I1,r1,q1⟩:=zq
  refine thn (ho pins s1 σ H1 v y u w _ I1 r r1 q1) λz s2 zq=>?_
  obtain⟨zv,H2,I2,r2,q2⟩:=zq
  exact WL I2 hN hi hx r2 (λs3 I3=>⟨_,H2,I3,q2⟩) hf
 rcases l with⟨hk,hm⟩|⟨hk,c,hc,hcell⟩
 ·exact wpAny_loadName_local I.ok.kind hk hn hm go
 ·rcases hk with hk|hk
  ·exact wpAny_loadName_cell I.ok.kind hk hc hcell go
  ·rcases hx with k|k
   ·have:X.env.scope.names.lookup x=some .free:=hk
    rw[k]at this;cases this
   ·have:X.env.scope.names.lookup x=some .free:=hk
    rw[k]at this;cases this
end
section
variable {X:Cx}{pos:Pos}
noncomputable def mX(c:TT)(tb:TS):TS:=λD σ H=>∃ W:Nat->St->Hp->Prop,(∃ m,W m σ H)/\∀ m σ H,W m σ H ->
 c σ H λb H1=>if b=true then ∃ N:St->Hp->Prop,(∀ σ' H',N σ' H'->∃ m',m'<m/\W m' σ' H')/\tb { D with nx:=N,ct:=N,bk:=D.nx } σ H1 else D.nx σ H1
theorem vb(hp:PassesOwn (model X.prog X.w) X.A X.env X.xe)(hc:PT X c tc)(hb:PSs X body tb):PS X (.While c body [] pos) (mX tc tb):=by
 intro pins s σ H D I h
 obtain⟨W,⟨m0,w0⟩,turn⟩:=h
 refine wpAny_While (codeAny_whileLoop (λn s'=>∃ σ' H',Inv X pins σ' H' s'/\W n σ' H') ?_ m0 ⟨σ,H,I,w0⟩)
 rintro n s1 ⟨σ1,H1,I1,w1⟩
 refine wpAny_passesOwn hp (thn (hc pins s1 σ1 H1 _ I1 (turn n σ1 H1 w1)) λb s2 zq=>?_)
 obtain⟨H2,I2,q2⟩:=zq
 cases b with
 | true =>
  obtain⟨N,hN,q2⟩:=q2
  rw[if_pos rfl]
  refine wpAny_passesOwn hp (thn (hb pins s2 σ1 H2 _ I2 q2) λf s3 q3=>?_)
  cases f with
  | next =>
   obtain⟨σ3,H3,I3,n3⟩:=q3
   obtain⟨m',hm,w3⟩:=hN σ3 H3 n3
   exact⟨m',hm,σ3,H3,I3,w3⟩
  | cont =>
   obtain⟨σ3,H3,I3,n3⟩:=q3
   obtain⟨m',hm,w3⟩:=hN σ3 H3 n3
   exact⟨m',hm,σ3,H3,I3,w3⟩
  | brk=>exact q3
  | ret v=>exact q3
 | false =>
  rw[if_neg aC]
  exact wpAny_execs_nil ⟨σ1,H2,I2,q2⟩
end
structure It where
 go:Nat->Hp->Prop
 yld:Nat->Hp->V->Hp->Prop
 stop:Nat->Hp->Prop
noncomputable def Ql(X:Cx)(pins:List (Addr×Obj))(H:Hp)(b:Addr):Prop :=
 H b=none/\b≠X.env.locals/\b∉X.fs/\(b∈X.ex\/X.s₀.heap.objs.size<=b)/\(∀ x c,X.env.cells.lookup x=some c->c≠b)/\∀ p∈X.pn++pins,p.1≠b
theorem Inv.vc(I:Inv X pins σ H s)(hb:s.heap.objs.size<=b)(hn:H' b=none):Ql X pins H' b:=by
 refine⟨hn,Nat.ne_of_gt (Nat.lt_of_lt_of_le I.lt hb),I.nofs hb,.inr (Nat.le_trans I.sz hb),λx c e z=>?_,λp hp z=>?_⟩
 ·obtain⟨v,q⟩:=I.cell x c e
  exact absurd (Nat.lt_of_lt_of_le q.lt (by rw[z];exact hb)) (Nat.lt_irrefl _)
 ·exact absurd (Nat.lt_of_lt_of_le (au (I.pin p hp).1) (by rw[z];exact hb)) (Nat.lt_irrefl _)
structure Turn (P:Program)(w:World)(K:aa)(tg:Expr)(J:It)(fp:List Addr)(it:Addr)(tn:Nat->Heap->Prop):Prop where
 mem:it∈fp
 obj:∀ i h,tn i h->∀ b∈fp,∃ o,h.get? b=some o/\∀ v,o.data ≠ .cell v
 keep:∀ i h h',tn i h->(∀ b∈fp,∀ o,h.get? b=some o->h'.get? b=some o)->tn i h'
 item:∀ (X:Cx),X.prog=P->X.w=w->X.K=K->X.calm=true->∀ (i:Nat) (pins:List (Addr×Obj)) (s:Shared) (σ:St) (H:Hp) (E:Value->Shared->Prop),Inv X pins σ H s->(∀ b∈fp,Ql X pins H b)->tn i s.heap->J.go i H ->
  wpAny (model P w) X.A (pyNext (.ref it)) (λr s1=>∃ u,r=some u /\
   wpAny (model P w) X.A (letOwnedTupleGo tg (.ref it) u) (λ_ s2=>∃ x H',Inv X pins σ H' s2/\RelV x u/\J.yld i H x H'/\tn (i+1) s2.heap/\∀ b∈fp,H' b=none) E s1) E s
 done:∀ (X:Cx),X.prog=P->X.w=w->X.K=K->X.calm=true->∀ (i:Nat) (pins:List (Addr×Obj)) (s:Shared) (σ:St) (H:Hp) (E:Value->Shared->Prop),Inv X pins σ H s->(∀ b∈fp,Ql X pins H b)->tn i s.heap->J.stop i H ->
  wpAny (model P w) X.A (pyNext (.ref it)) (λr s1=>r=none/\Inv X pins σ H s1) E s
 self:∀ (A:Around) (i:Nat) (s:Shared) (Q:Value->Shared->Prop) (E:Value->Shared->Prop),tn i s.heap->Q (.ref it) s->wpAny (model P w) A (pyIter (.ref it)) Q E s
abbrev TI:=St->Hp->(It->Hp->Prop)->Prop
noncomputable def PIE(X:Cx)(pins:List (Addr×Obj))(σ:St)(tg:Expr)(R:It->Hp->Prop)(itv:Value)(s2:Shared):Prop :=
 ∃ (it:Addr) (fp:List Addr) (tn:Nat->Heap->Prop) (J:It) (H':Hp),itv = .ref it/\Inv X pins σ H' s2/\Turn X.prog X.w X.K tg J fp it tn/\tn 0 s2.heap/\(∀ b∈fp,Ql X pins H' b)/\R J H'
noncomputable def PI(X:Cx)(tg iter:Expr)(wi:TI):Prop :=
 ∀ (pins:List (Addr×Obj)) (s:Shared) (σ:St) (H:Hp) (R:It->Hp->Prop),Inv X pins σ H s->wi σ H R ->
  wpAny (model X.prog X.w) X.A (eval iter X.env) (λv s1=>wpAny (model X.prog X.w) X.A (pyIter v) (PIE X pins σ tg R) X.xe s1) X.xe s
theorem Al(ho:s.heap.get? it=some o)(hc:o.cls = .type n)(hd:o.data = .fields vs)
    (hn:["enumerate", "zip", "dict_itemiterator", "dict_reverseitemiterator", "odict_iterator", "itertools.zip_longest", "itertools.pairwise"].contains n=false)(hQ:Q () s):wpAny M A (letOwnedTupleGo tg (.ref it) u) Q E s:=by
  unfold letOwnedTupleGo
  cases tg<;>first
    | exact ak hQ
    | (cases u<;>first
        | exact ak hQ
        | (refine aj (wpAny_load ho ?_)
           rw[hc,hd]
           show wpAny M A (if (["enumerate", "zip", "dict_itemiterator", "dict_reverseitemiterator", "odict_iterator", "itertools.zip_longest", "itertools.pairwise"].contains n&&vs[0]?==some (rawInt _))=true then _ else _) Q E s
           rw[if_neg (by intro h;rw[hn,Bool.false_and]at h;cases h)]
           exact ak hQ))
noncomputable def Itl(K:aa)(a:Addr):It :=
 ⟨λi H=>∃ xs x,SqL K H a xs/\xs[i]?=some x,λi H x H'=>H'=H/\∀ xs,SqL K H a xs->xs[i]?=some x,λi H=>∃ xs,SqL K H a xs/\xs.length<=i⟩
noncomputable def Itt(K:aa)(a:Addr):It :=
 ⟨λi H=>∃ xs x,SqT K H a xs/\xs[i]?=some x,λi H x H'=>H'=H/\∀ xs,SqT K H a xs->xs[i]?=some x,λi H=>∃ xs,SqT K H a xs/\xs.length<=i⟩
noncomputable def Itr(lo:Int)(n:Nat):It:=⟨λi _=>i<n,λi H x H'=>H'=H/\x = .int (lo+i),λi _=>n<=i⟩
theorem zZ{K:aa}(a it:Addr):Turn P w K tg (Itl K a) [it] it (λi h=>h.IsListIter it a i) where
 mem:=by simp
 obj:=λi h st b hb=>by
  have e:b=it:=by simpa using hb
  subst e
  obtain⟨o,e,c,d⟩:=st
  exact⟨o,e,λv z=>by rw[d]at z;cases z⟩
 keep:=λi h h' st k=>st.at λo e=>k it (by simp) o e
 item:=by
  intro X hP hw hK hc i pins s σ H E I hf st hg
  subst hP hw hK
  obtain⟨xs,x,hq,hx⟩:=hg
  obtain⟨its,rv,p,hz⟩:=I.list hq
  obtain⟨u,hu,ru⟩:=rv.get hx
  obtain⟨f0,f1,f2,f3,f4,f5⟩:=hf it (by simp)
  refine wpAny_pyNext_list_item st p.isList (x:=u) (by simpa using hu) λh' st' sb=>?_
  have I1:Inv X pins σ H { s with heap:=h' }:=I.turned (t':=s.toks) (λb o hb e=>(sb.2 b hb).trans e) f0 f1 f3 f4 f5
  obtain⟨o,e,c,d⟩:=id st'
  exact⟨u,rfl,Al (s:={ s with heap:=h' }) e c d (by decide) ⟨x,H,I1,ru,⟨rfl,λys hy=>by rw[I.OW hy hq];exact hx⟩,st',λb hb=>(hf b hb).1⟩⟩
 done:=by
  intro X hP hw hK hc i pins s σ H E I hf st hg
  subst hP hw hK
  obtain⟨xs,hq,hx⟩:=hg
  obtain⟨its,rv,p,hz⟩:=I.list hq
  obtain⟨f0,f1,f2,f3,f4,f5⟩:=hf it (by simp)
  have hl:=rv.length
  exact wpAny_pyNext_list_end (I.ok.hd hc) st p.isList (by simp;omega) λh' eb=>⟨rfl,I.turned (t':=s.toks) (λb o hb e=>eb b o hb e) f0 f1 f3 f4 f5⟩
 self:=λ_ _ _ _ _ st h=>wpAny_pyIter_listiter st h
theorem DZ{K:aa}(a it:Addr):Turn P w K tg (Itt K a) [it] it (λi h=>h.IsTupleIter it a i) where
 mem:=by simp
 obj:=λi h st b hb=>by
  have e:b=it:=by simpa using hb
  subst e
  obtain⟨o,e,c,d⟩:=st
  exact⟨o,e,λv z=>by rw[d]at z;cases z⟩
 keep:=λi h h' st k=>st.at λo e=>k it (by simp) o e
 item:=by
  intro X hP hw hK hc i pins s σ H E I hf st hg
  subst hP hw hK
  obtain⟨xs,x,hq,hx⟩:=hg
  obtain⟨its,rv,p,hz⟩:=I.tuple hq
  obtain⟨u,hu,ru⟩:=rv.get hx
  obtain⟨f0,f1,f2,f3,f4,f5⟩:=hf it (by simp)
  refine wpAny_pyNext_tuple_item st (show s.heap.IsTuple a its.toArray from p) (x:=u) (by simpa using hu) λh' st' sb=>?_
  have I1:Inv X pins σ H { s with heap:=h' }:=I.turned (t':=s.toks) (λb o hb e=>(sb.2 b hb).trans e) f0 f1 f3 f4 f5
  obtain⟨o,e,c,d⟩:=id st'
  exact⟨u,rfl,Al (s:={ s with heap:=h' }) e c d (by decide) ⟨x,H,I1,ru,⟨rfl,λys hy=>by rw[I.Ph hy hq];exact hx⟩,st',λb hb=>(hf b hb).1⟩⟩
 done:=by
  intro X hP hw hK hc i pins s σ H E I hf st hg
  subst hP hw hK
  obtain⟨xs,hq,hx⟩:=hg
  obtain⟨its,rv,p,hz⟩:=I.tuple hq
  obtain⟨f0,f1,f2,f3,f4,f5⟩:=hf it (by simp)
  have hl:=rv.length
  exact wpAny_pyNext_tuple_end (I.ok.hd hc) st (show s.heap.IsTuple a its.toArray from p) (by simp;omega) λh' eb=>⟨rfl,I.turned (t':=s.toks) (λb o hb e=>eb b o hb e) f0 f1 f3 f4 f5⟩
 self:=λ_ _ _ _ _ st h=>wpAny_pyIter_tupleiter st h
theorem Ca{K:aa}(it:Addr)(lo:Int)(n:Nat):Turn P w K tg (Itr lo n) [it] it (λi h=>IsRangeIter h it (lo+(i:Nat)*1) ((n:Int)-(i:Nat)) 1) where
 mem:=by simp
 obj:=λi h st b hb=>by
  have e:b=it:=by simpa using hb
  subst e
  exact⟨_,st,λv z=>by
   have z':Data.fields _=Data.cell v:=z
   cases z'⟩
 keep:=λi h h' st k=>k it (by simp) _ st
 item:=by
  intro X hP hw hK hc i pins s σ H E I hf st hg
  subst hP hw hK
  obtain⟨f0,f1,f2,f3,f4,f5⟩:=hf it (by simp)
  have W:=Walks.range (prog:=X.prog) (w:=X.w) (I.ok.hd hc) it lo 1 n
  refine W.item i s _ _ hg st λv h' tk hv st' kk=>?_
  obtain⟨t,rfl⟩:=hv
  have I1:Inv X pins σ H { s with heap:=h',toks:=tk }:=I.turned (λb o hb e=>kk b o (by simpa using hb) e) f0 f1 f3 f4 f5
  refine⟨_,rfl,Al (s:={ s with heap:=h',toks:=tk }) (n := "range_iterator") st' rfl rfl (by decide) ⟨.int (lo+i),H,I1,⟨t,?_⟩,⟨rfl,rfl⟩,st',λb hb=>(hf b hb).1⟩⟩
  rw[Int.mul_one]
 done:=by
  intro X hP hw hK hc i pins s σ H E I hf st hg
  subst hP hw hK
  obtain⟨f0,f1,f2,f3,f4,f5⟩:=hf it (by simp)
  exact wpAny_pyNext_range_end (I.ok.hd hc) st (by have:n<=i:=hg;omega) λh' eb=>⟨rfl,I.turned (t':=s.toks) (λb o hb e=>eb b o hb e) f0 f1 f3 f4 f5⟩
 self:=λ_ _ _ _ _ st h=>wpAny_pyIter_rangeiter st h
section
variable {X:Cx}{tg:Expr}
theorem vd{lo hi:Int}{t u v:Tok}{tk:Nat}(I:Inv X pins σ H s)(h1 : -(2^62)<=lo)(h2:lo<2^62)(h3 : -(2^62)<=hi)(h4:hi<2^62)
  (q:R (Itr lo (hi-lo).toNat) H):wpAny (model X.prog X.w) X.A (pyIter (.ref s.heap.objs.size)) (PIE X pins σ tg R) E { s with heap:=s.heap.push { cls := .type "range",data := .fields #[.int lo t,.int hi u,.int 1 v] },toks:=tk }:=by
 refine wpAny_pyIter_range (IsRange.new ..) (small_one h1 h2 h3 h4) ?_
 have I1:Inv X pins σ H { s with heap:=s.heap.push { cls := .type "range",data := .fields #[.int lo t,.int hi u,.int 1 v] },toks:=tk }:=I.kept λb o e=>ao _ e
 refine⟨(s.heap.push { cls := .type "range",data := .fields #[.int lo t,.int hi u,.int 1 v] }).objs.size,[(s.heap.push { cls := .type "range",data := .fields #[.int lo t,.int hi u,.int 1 v] }).objs.size],_,_,H,rfl,
  I1.kept (t':=tk) λb o e=>ao _ e,Ca _ lo (hi-lo).toNat,?_,λb hb=>?_,q⟩
 ·have e1:lo+((0:Nat):Int)*1=lo:=by simp
  have e2:(((hi-lo).toNat:Nat):Int)-((0:Nat):Int)=Builtin.Range.rangeSize lo hi 1:=by rw[rangeSize_one];split<;>omega
  show IsRangeIter _ _ (lo+((0:Nat):Int)*1) ((((hi-lo).toNat:Nat):Int)-((0:Nat):Int)) 1
  rw[e1,e2]
  exact aq _ rfl
 ·have e:b=(s.heap.push { cls := .type "range",data := .fields #[.int lo t,.int hi u,.int 1 v] }).objs.size:=by simpa using hb
  subst e
  exact I1.vc (Nat.le_refl _) (I1.hok.fresh (Nat.le_refl _))
noncomputable def iRng1(ta:TA):TI:=λσ H R=>ta σ H λvs H1=>∃ j:Int,vs=[.int j] /\ -(2^62)<=j/\j<2^62/\R (Itr 0 j.toNat) H1
theorem ya(hg:Gl X "range")(hm:X.mg "range" = none)(ha:PA X [a] ta)(hs:autoParam (starEach [a] X.env=[(false,eval a X.env)]) auR):PI X tg (.Call (.Name "range" p) [a] [] pos) (iRng1 ta):=by
 intro pins s σ H R I h
 refine Call_ (Ku I hg hm boot_range (PyProof.Rows.callWith_type1 (thn (ha pos pins s σ H _ I h) λus s1 zq=>?_) hs rfl))
 obtain⟨vs,H1,I1,r1,q1⟩:=zq
 obtain⟨j,e,q1,q2,q⟩:=q1
 subst e
 cases r1 with
 | cons r rr =>
  cases rr
  obtain⟨t,rfl⟩:=r
  exact call_range_1 (vd I1 (by omega) (by omega) q1 q2 (by simpa using q))
noncomputable def tFor(wi:TI)(g:TG)(tb:TS):TS:=λD σ H=>wi σ H λJ H1=>∃ W:Nat->Nat->St->Hp->Prop,(∃ m,W 0 m σ H1)/\∀ i m σ H,W i m σ H ->
 (J.stop i H/\D.nx σ H)\/(J.go i H/\∃ N:St->Hp->Prop,(∀ σ' H',N σ' H'->∃ m',m'<m/\W (i+1) m' σ' H')/\∀ x H',J.yld i H x H'->g x σ H' λσ2 H2=>tb { D with nx:=N,ct:=N,bk:=D.nx } σ2 H2)
noncomputable def Mg(fp:List Addr)(h:Heap):List (Addr×Obj):=fp.filterMap λb=>(h.get? b).map λo=>(b,o)
theorem Vj(hb:b∈fp)(e:h.get? b=some o):(b,o)∈Mg fp h:=mem_filterMap.mpr ⟨b,hb,by rw[e];rfl⟩
theorem yc(hp:p∈Mg fp h):p.1∈fp/\h.get? p.1=some p.2:=by
 obtain⟨b,hb,e⟩:=mem_filterMap.mp hp
 cases q:h.get? b with
 | none=>rw[q]at e;cases e
 | some o =>
  rw[q]at e
  have e':(b,o)=p:=Option.some.inj e
  subst e'
  exact⟨hb,q⟩
theorem Inv.pinned(I:Inv X pins σ H s)(hf:∀ b∈fp,Ql X pins H b)(ho:∀ b∈fp,∃ o,s.heap.get? b=some o/\∀ v,o.data ≠ .cell v):Inv X (pins++Mg fp s.heap) σ H s :=
 I.Ak λp hp=>(mem_append.mp hp).elim (λz=>I.pin p (mem_append_right _ z)) λz=>by
  obtain⟨hb,e⟩:=yc z
  obtain⟨f0,f1,f2,_⟩:=hf p.1 hb
  obtain⟨o,e',d⟩:=ho p.1 hb
  rw[e]at e';cases e'
  exact⟨e,f0,f1,f2,d⟩
theorem Inv.Qm(I:Inv X (pins++pl) σ H s):Inv X pins σ H s:=I.Ak λp hp=>I.pin p (mem_append_right _ (mem_append_left _ hp))
theorem mY(hp:PassesOwn (model X.prog X.w) X.A X.env X.xe)(hc:X.calm=true)(hi:PI X tg iter wi)(hg:PG X tg g)(hb:PSs X body tb)
  (hs:∀ x,foldedSetIterable iter X.env x=pure x:=by intro _;rfl):PS X (.For tg iter body [] pos) (tFor wi g tb):=by
 intro pins s σ H D I h
 refine wpAny_For (thn (hi pins s σ H _ I h) λv s1 h1=>thn h1 λitv s2 h2=>?_) hs
 obtain⟨it,fp,tn,J,H2,e,I2,T,st2,f2,W,⟨m0,w0⟩,turn⟩:=h2
 subst e
 -- what stays true of the iterator's objects through the loop
 have stat:∀ {H':Hp},(∀ b∈fp,H' b=none)->∀ b∈fp,Ql X pins H' b:=λhn b hb=>⟨hn b hb,(f2 b hb).2⟩
 refine codeAny_forLoop_any (λn s'=>∃ i σ' H',Inv X pins σ' H' s'/\tn i s'.heap/\(∀ b∈fp,H' b=none)/\W i n σ' H') ?_ m0 ⟨0,σ,H2,I2,st2,λb hb=>(f2 b hb).1,w0⟩
 rintro n s3 ⟨i,σ3,H3,I3,st3,fr3,w3⟩
 rcases turn i n σ3 H3 w3 with⟨stop,qn⟩|⟨go,N,hN,step⟩
 ·refine wpAny_passesOwn hp (thn (T.done X rfl rfl rfl hc i pins s3 σ3 H3 X.xe I3 (stat fr3) st3 stop) λr s4 zq=>?_)
  obtain⟨hr,I4⟩:=zq
  subst hr
  exact wpAny_execs_nil ⟨σ3,H3,I4,qn⟩
 ·refine wpAny_passesOwn hp (thn (T.item X rfl rfl rfl hc i pins s3 σ3 H3 X.xe I3 (stat fr3) st3 go) λr s4 zq=>?_)
  obtain⟨u,hr,h4⟩:=zq
  subst hr
  refine wpAny_passesOwn hp (thn h4 λ_ s5 zq=>?_)
  obtain⟨x,H5,I5,r5,y5,st5,fr5⟩:=zq
  have I5':=I5.pinned (stat fr5) (T.obj _ _ st5)
  refine wpAny_passesOwn hp (thn (hg _ s5 σ3 H5 x u _ I5' r5 (step x H5 y5)) λ_ s6 zq=>?_)
  obtain⟨σ6,H6,I6,q6⟩:=zq
  refine wpAny_passesOwn hp (thn (hb _ s6 σ6 H6 _ I6 q6) λf s7 q7=>?_)
  have again:∀ {σ7:St}{H7:Hp},Inv X (pins++Mg fp s5.heap) σ7 H7 s7->N σ7 H7->∃ m,m<n/\∃ i σ' H',Inv X pins σ' H' s7/\tn i s7.heap/\(∀ b∈fp,H' b=none)/\W i m σ' H':=λ{σ7 H7} I7 n7=>by
   obtain⟨m',hm,w7⟩:=hN σ7 H7 n7
   refine⟨m',hm,i+1,σ7,H7,I7.Qm,T.keep _ _ _ st5 λb hb o e=>(I7.pin (b,o) (mem_append_right _ (mem_append_right _ (Vj hb e)))).1,λb hb=>?_,w7⟩
   obtain⟨o,e,d⟩:=T.obj _ _ st5 b hb
   exact(I7.pin (b,o) (mem_append_right _ (mem_append_right _ (Vj hb e)))).2.1
  cases f with
  | next=>obtain⟨σ7,H7,I7,n7⟩:=q7;exact again I7 n7
  | cont=>obtain⟨σ7,H7,I7,n7⟩:=q7;exact again I7 n7
  | brk=>obtain⟨σ7,H7,I7,q7⟩:=q7;exact⟨σ7,H7,I7.Qm,q7⟩
  | ret v=>obtain⟨x7,σ7,H7,I7,r7,q7⟩:=q7;exact⟨x7,σ7,H7,I7.Qm,r7,q7⟩
end
abbrev R2:=V->V->Hp->VK->Prop
noncomputable def OpR(X:Cx)(f:Value->Value->Sem Value)(r:R2):Prop :=
 ∀ (pins:List (Addr×Obj)) (s:Shared) (σ:St) (H:Hp) (x y:V) (v u:Value) (Q:VK),Inv X pins σ H s->RelV x v->RelV y u->r x y H Q ->
  wpAny (model X.prog X.w) X.A (f v u) (EP X pins σ Q) X.xe s
noncomputable def UnR(X:Cx)(f:Value->Sem Value)(r:V->Hp->VK->Prop):Prop :=
 ∀ (pins:List (Addr×Obj)) (s:Shared) (σ:St) (H:Hp) (x:V) (v:Value) (Q:VK),Inv X pins σ H s->RelV x v->r x H Q ->
  wpAny (model X.prog X.w) X.A (f v) (EP X pins σ Q) X.xe s
noncomputable def Xz(X:Cx)(f:Value)(r:List V->Hp->VK->Prop):Prop :=
 ∀ (pins:List (Addr×Obj)) (s:Shared) (σ:St) (H:Hp) (xs:List V) (us:List Value) (Q:VK),Inv X pins σ H s->Vals xs us->r xs H Q ->
  wpAny (model X.prog X.w) X.A (call f us) (EP X pins σ Q) X.xe s
noncomputable def TruR(X:Cx)(r:V->Hp->(Bool->Hp->Prop)->Prop):Prop :=
 ∀ (pins:List (Addr×Obj)) (s:Shared) (σ:St) (H:Hp) (x:V) (v:Value) (Q:Bool->Hp->Prop),Inv X pins σ H s->RelV x v->r x H Q ->
  wpAny (model X.prog X.w) X.A (truthy v) (TP X pins σ Q) X.xe s
noncomputable def tOp(r:R2)(ta tb:TE):TE:=λσ H Q=>ta σ H λx H1=>tb σ H1 λy H2=>r x y H2 Q
noncomputable def tUn(r:V->Hp->VK->Prop)(ta:TE):TE:=λσ H Q=>ta σ H λx H1=>r x H1 Q
noncomputable def rI(C:Int->Int->Prop)(g:Int->Int->V):R2:=λx y H Q=>∃ i j,x = .int i/\y = .int j/\C i j/\Q (g i j) H
noncomputable def rI0(g:Int->Int->V):R2:=λx y H Q=>∃ i j,x = .int i/\y = .int j/\Q (g i j) H
noncomputable def rU(g:Int->V):V->Hp->VK->Prop:=λx H Q=>∃ i,x = .int i/\Q (g i) H
section
variable {X:Cx}{a b c:Expr}{ta tb tc:TE}{pos:Pos}
theorem binT(ha:PE X a ta)(hb:PE X b tb){R:V->V->Hp->Prop}(I:Inv X pins σ H s)
  (h:ta σ H λx H1=>tb σ H1 λy H2=>R x y H2){f:Value->Value->Sem Value}
  (hf:∀ v u s2 x y H2,Inv X pins σ H2 s2->RelV x v->RelV y u->R x y H2->wpAny (model X.prog X.w) X.A (f v u) Q X.xe s2) :
  wpAny (model X.prog X.w) X.A (eval a X.env) (λv s₁=>wpAny (model X.prog X.w) X.A (eval b X.env) (λu s₂=>wpAny (model X.prog X.w) X.A (f v u) Q X.xe s₂) X.xe s₁) X.xe s:=by
 refine thn (ha pins s σ H _ I h) λv s1 zq=>?_
 obtain⟨x,H1,I1,r1,q1⟩:=zq
 refine thn (hb pins s1 σ H1 _ I1 q1) λu s2 zq=>?_
 obtain⟨y,H2,I2,r2,q2⟩:=zq
 exact hf v u s2 x y H2 I2 r1 r2 q2
theorem pe_op(ho:OpR X (binaryOp op) r)(ha:PE X a ta)(hb:PE X b tb):PE X (.BinOp a op b pos) (tOp r ta tb):=by
 intro pins s σ H Q I h
 exact wpAny_BinOp (binT ha hb I h λv u s2 x y H2 I2 rx ry q=>ho pins s2 σ H2 x y v u Q I2 rx ry q)
theorem pe_un(ho:UnR X (unaryOp op) r)(ha:PE X a ta):PE X (.UnaryOp op a pos) (tUn r ta):=by
 intro pins s σ H Q I h
 exact UnaryOp_ (thn (ha pins s σ H _ I h) λv s1 ⟨x,H1,I1,r1,q1⟩=>ho pins s1 σ H1 x v Q I1 r1 q1)
theorem opI{g:Int->Int->Int}
  (rule:∀ (i j:Int) (t u:Tok) (s:Shared) (Q:Value->Shared->Prop) (E:Value->Shared->Prop),C i j->Q (.int (g i j) s.toks) { s with toks:=s.toks+1 }->wpAny (model X.prog X.w) X.A (f (.int i t) (.int j u)) Q E s) :
  OpR X f (rI C λi j => .int (g i j)):=by
 intro pins s σ H x y v u Q I rx ry h
 obtain⟨i,j,rfl,rfl,hc,q⟩:=h
 obtain⟨t,rfl⟩:=rx
 obtain⟨t',rfl⟩:=ry
 exact rule i j t t' s _ _ hc ⟨.int (g i j),H,I.tok _,⟨_,rfl⟩,q⟩
theorem opI0{g:Int->Int->Int}
  (rule:∀ (i j:Int) (t u:Tok) (s:Shared) (Q:Value->Shared->Prop) (E:Value->Shared->Prop),Q (.int (g i j) s.toks) { s with toks:=s.toks+1 }->wpAny (model X.prog X.w) X.A (f (.int i t) (.int j u)) Q E s) :
  OpR X f (rI0 λi j => .int (g i j)):=by
 intro pins s σ H x y v u Q I rx ry h
 obtain⟨i,j,rfl,rfl,q⟩:=h
 obtain⟨t,rfl⟩:=rx
 obtain⟨t',rfl⟩:=ry
 exact rule i j t t' s _ _ ⟨.int (g i j),H,I.tok _,⟨_,rfl⟩,q⟩
theorem opB0{g:Int->Int->Bool}
  (rule:∀ (i j:Int) (t u:Tok) (s:Shared) (Q:Value->Shared->Prop) (E:Value->Shared->Prop),Q (.bool (g i j)) s->wpAny (model X.prog X.w) X.A (f (.int i t) (.int j u)) Q E s) :
  OpR X f (rI0 λi j => .bl (g i j)):=by
 intro pins s σ H x y v u Q I rx ry h
 obtain⟨i,j,rfl,rfl,q⟩:=h
 obtain⟨t,rfl⟩:=rx
 obtain⟨t',rfl⟩:=ry
 exact rule i j t t' s _ _ ⟨.bl (g i j),H,I,rfl,q⟩
noncomputable def CPow(i j:Int):Prop:=0<=j/\j<=1000000/\i.natAbs<2^64
noncomputable def CMul(i j:Int):Prop:=(-(2^64)<i/\i<2^64)\/(-(2^64)<j/\j<2^64)
theorem CMul.ok(h:CMul i j):IntMulOk i j:=by
 rcases h with⟨h1,h2⟩|⟨h1,h2⟩
 ·exact .of_left (intBits_le_64 h1 h2)
 ·exact .of_right (intBits_le_64 h1 h2)
theorem mZ:OpR X (binaryOp .Add) (rI0 λi j => .int (i+j)):=opI0 λ_ _ _ _ _ _ _ q=>add_int q
theorem lg:OpR X (binaryOp .Sub) (rI0 λi j => .int (i-j)):=opI0 λ_ _ _ _ _ _ _ q=>sub_int q
theorem qF:OpR X (binaryOp .Mod) (rI (λ_ j=>j≠0) λi j => .int (i.fmod j)):=opI λ_ _ _ _ _ _ _ hc q=>mod_int' hc q
theorem lj:OpR X (binaryOp .Pow) (rI CPow λi j => .int (i^j.toNat)):=opI λ_ _ _ _ _ _ _ hc q=>pow_int_small hc.1 hc.2.1 hc.2.2 q
theorem unI{g:Int->Int}
  (rule:∀ (i:Int) (t:Tok) (s:Shared) (Q:Value->Shared->Prop) (E:Value->Shared->Prop),Q (.int (g i) s.toks) { s with toks:=s.toks+1 }->wpAny (model X.prog X.w) X.A (f (.int i t)) Q E s) :
  UnR X f (rU λi => .int (g i)):=by
 intro pins s σ H x v Q I rx h
 obtain⟨i,rfl,q⟩:=h
 obtain⟨t,rfl⟩:=rx
 exact rule i t s _ _ ⟨.int (g i),H,I.tok _,⟨_,rfl⟩,q⟩
theorem lq:UnR X (unaryOp .USub) (rU λi => .int (-i)):=unI λ_ _ _ _ _ q=>neg_int q
end
noncomputable def scal:V->V->Bool
 | .non,.non=>true | .non,.int _=>true | .int _,.non=>true | .non,.bl _=>true | .bl _,.non=>true | .non,.str _=>true | .str _,.non=>true
 | .int _,.int _=>true | .bl _,.bl _=>true | .str _,.str _=>true | .byt _,.byt _=>true
 | .int _,.str _=>true | .str _,.int _=>true | .bl _,.str _=>true | .str _,.bl _=>true
 | _,_=>false
noncomputable def rEq:R2:=λx y H Q=>scal x y=true/\Q (.bl (decide (x=y))) H
noncomputable def rNe:R2:=λx y H Q=>scal x y=true/\Q (.bl (!decide (x=y))) H
theorem Am:decide (V.int i=V.int j)=(i==j):=by
 rw[Bool.eq_iff_iff]
 simp
theorem ve:decide (V.bl i=V.bl j)=(i==j):=by
 rw[Bool.eq_iff_iff]
 simp
theorem An:decide (V.str i=V.str j)=(i==j):=by
 rw[Bool.eq_iff_iff]
 simp
theorem Ao:decide (V.byt i=V.byt j)=(i.toList==j.toList):=by
 rw[Bool.eq_iff_iff]
 cases i
 cases j
 simp
section
variable {X:Cx}{a b c:Expr}{ta tb tc:TE}{pos:Pos}
theorem ZR(I:Inv X pins σ H s)(q:Q (.bl k) H)(e:k=k'):EP X pins σ Q (.bool k') s:=by
 subst e
 exact⟨.bl k,H,I,rfl,q⟩
theorem op_eq:OpR X (compareOp .Eq) rEq:=by
 intro pins s σ H x y v u Q I rx ry h
 obtain⟨hs,q⟩:=h
 cases x with
 | non =>
  cases rx
  cases y with
  | non=>cases ry;exact PySem.EqNone.eq_none_none (ZR I q (by simp))
  | bl j=>cases ry;exact PySem.EqNone.eq_none_bool (ZR I q (by simp))
  | int j=>obtain⟨t',rfl⟩:=ry;exact PySem.EqNone.eq_none_int (ZR I q (by simp))
  | str j=>obtain⟨t',rfl⟩:=ry;exact PySem.EqNone.eq_none_str (ZR I q (by simp))
  | _=>exact absurd (show false=true from hs) aC
 | bl i =>
  cases rx
  cases y with
  | non=>cases ry;exact PySem.EqNone.eq_bool_none (ZR I q (by simp))
  | bl j=>cases ry;exact eq_bool (ZR I q ve)
  | str j=>obtain⟨t',rfl⟩:=ry;exact PySem.EqMixed.eq_bool_str (ZR I q (by simp))
  | _=>exact absurd (show false=true from hs) aC
 | int i =>
  obtain⟨t,rfl⟩:=rx
  cases y with
  | non=>cases ry;exact PySem.EqNone.eq_int_none (ZR I q (by simp))
  | int j=>obtain⟨t',rfl⟩:=ry;exact eq_int (ZR I q Am)
  | str j=>obtain⟨t',rfl⟩:=ry;exact PySem.EqMixed.eq_int_str (ZR I q (by simp))
  | _=>exact absurd (show false=true from hs) aC
 | str i =>
  obtain⟨t,rfl⟩:=rx
  cases y with
  | non=>cases ry;exact PySem.EqNone.eq_str_none (ZR I q (by simp))
  | bl j=>cases ry;exact PySem.EqMixed.eq_str_bool (ZR I q (by simp))
  | int j=>obtain⟨t',rfl⟩:=ry;exact PySem.EqMixed.eq_str_int (ZR I q (by simp))
  | str j=>obtain⟨t',rfl⟩:=ry;exact eq_str (ZR I q An)
  | _=>exact absurd (show false=true from hs) aC
 | byt i =>
  obtain⟨t,rfl⟩:=rx
  cases y with
  | byt j=>obtain⟨t',rfl⟩:=ry;exact PySem.W.eq_bytes (ZR I q Ao)
  | _=>exact absurd (show false=true from hs) aC
 | _=>cases y<;>exact absurd (show false=true from hs) aC
theorem op_ne:OpR X (compareOp .NotEq) rNe:=by
 intro pins s σ H x y v u Q I rx ry h
 obtain⟨hs,q⟩:=h
 cases x with
 | non =>
  cases rx
  cases y with
  | non=>cases ry;exact PySem.EqNone.ne_none_none (ZR I q (by simp))
  | bl j=>cases ry;exact PySem.EqNone.ne_none_bool (ZR I q (by simp))
  | int j=>obtain⟨t',rfl⟩:=ry;exact PySem.EqNone.ne_none_int (ZR I q (by simp))
  | str j=>obtain⟨t',rfl⟩:=ry;exact PySem.EqNone.ne_none_str (ZR I q (by simp))
  | _=>exact absurd (show false=true from hs) aC
 | bl i =>
  cases rx
  cases y with
  | non=>cases ry;exact PySem.EqNone.ne_bool_none (ZR I q (by simp))
  | bl j=>cases ry;exact ne_bool (ZR I q (congrArg not ve))
  | str j=>obtain⟨t',rfl⟩:=ry;exact PySem.EqMixed.ne_bool_str (ZR I q (by simp))
  | _=>exact absurd (show false=true from hs) aC
 | int i =>
  obtain⟨t,rfl⟩:=rx
  cases y with
  | non=>cases ry;exact PySem.EqNone.ne_int_none (ZR I q (by simp))
  | int j=>obtain⟨t',rfl⟩:=ry;exact ne_int (ZR I q (congrArg not Am))
  | str j=>obtain⟨t',rfl⟩:=ry;exact PySem.EqMixed.ne_int_str (ZR I q (by simp))
  | _=>exact absurd (show false=true from hs) aC
 | str i =>
  obtain⟨t,rfl⟩:=rx
  cases y with
  | non=>cases ry;exact PySem.EqNone.ne_str_none (ZR I q (by simp))
  | bl j=>cases ry;exact PySem.EqMixed.ne_str_bool (ZR I q (by simp))
  | int j=>obtain⟨t',rfl⟩:=ry;exact PySem.EqMixed.ne_str_int (ZR I q (by simp))
  | str j=>obtain⟨t',rfl⟩:=ry;exact ne_str (ZR I q (congrArg not An))
  | _=>exact absurd (show false=true from hs) aC
 | byt i =>
  obtain⟨t,rfl⟩:=rx
  cases y with
  | byt j=>obtain⟨t',rfl⟩:=ry;exact PySem.W.ne_bytes (ZR I q (congrArg not Ao))
  | _=>exact absurd (show false=true from hs) aC
 | _=>cases y<;>exact absurd (show false=true from hs) aC
theorem op_lt:OpR X (compareOp .Lt) (rI0 λi j => .bl (decide (i<j))):=opB0 λ_ _ _ _ _ _ _ q=>lt_int q
theorem op_le:OpR X (compareOp .LtE) (rI0 λi j => .bl (decide (i<=j))):=opB0 λ_ _ _ _ _ _ _ q=>le_int q
theorem op_gt:OpR X (compareOp .Gt) (rI0 λi j => .bl (decide (j<i))):=opB0 λ_ _ _ _ _ _ _ q=>gt_int q
theorem yd:OpR X (compareOp .In) (λx y H Q=>∃ i j,x = .str i/\y = .str j/\Q (.bl (!(Builtin.Str.occurrences j i 0 j.length 1).isEmpty)) H):=by
 intro pins s σ H x y v u Q I rx ry h
 obtain⟨i,j,rfl,rfl,q⟩:=h
 obtain⟨t,rfl⟩:=rx
 obtain⟨t',rfl⟩:=ry
 exact in_str (ZR I q rfl)
theorem lu:OpR X (compareOp .Is) (λx y H Q=>y = .non/\Q (.bl (decide (x = .non))) H):=by
 intro pins s σ H x y v u Q I rx ry h
 obtain⟨rfl,q⟩:=h
 cases ry
 refine is_none_gen (ZR I q ?_)
 cases x<;>first
  | (cases rx;rfl)
  | (obtain⟨t,rfl⟩:=rx;rfl)
theorem qG:OpR X (compareOp .IsNot) (λx y H Q=>y = .non/\Q (.bl (!decide (x = .non))) H):=by
 intro pins s σ H x y v u Q I rx ry h
 obtain⟨rfl,q⟩:=h
 cases ry
 refine isnot_none_gen (ZR I q ?_)
 cases x<;>first
  | (cases rx;rfl)
  | (obtain⟨t,rfl⟩:=rx;rfl)
theorem HR:OpR X (compareOp .NotIn) (λx y H Q=>∃ i j,x = .str i/\y = .str j/\Q (.bl (!(!(Builtin.Str.occurrences j i 0 j.length 1).isEmpty))) H):=by
 intro pins s σ H x y v u Q I rx ry h
 obtain⟨i,j,rfl,rfl,q⟩:=h
 obtain⟨t,rfl⟩:=rx
 obtain⟨t',rfl⟩:=ry
 exact notIn_str (ZR I q rfl)
theorem OpR.or(h:OpR X f r)(h':OpR X f r'):OpR X f (λx y H Q=>r x y H Q\/r' x y H Q):=by
 intro pins s σ H x y v u Q I rx ry q
 rcases q with q|q
 ·exact h pins s σ H x y v u Q I rx ry q
 ·exact h' pins s σ H x y v u Q I rx ry q
theorem Zk(b:Expr)(h:autoParam (op ≠ .In) auD)(h2:autoParam (op ≠ .NotIn) auD):behindInMarks op b=false:=by
 have e1:(op==CmpOp.In)=false:=by cases op<;>first | rfl | exact absurd rfl h
 have e2:(op==CmpOp.NotIn)=false:=by cases op<;>first | rfl | exact absurd rfl h2
 cases b<;>simp[behindInMarks,e1,e2]
theorem qH(ho:OpR X (compareOp op) r)(ha:PE X a ta)(hb:PE X b tb)(hm:behindInMarks op b=false):PE X (.Compare a [op] [b] pos) (tOp r ta tb):=by
 intro pins s σ H Q I h
 exact wpAny_Compare1 (binT ha hb I h λv u s2 x y H2 I2 rx ry q=>ho pins s2 σ H2 x y v u Q I2 rx ry q) hm
noncomputable def vf(t:TE):TT:=λσ H Q=>t σ H λx H'=>∃ k,x = .bl k/\Q k H'
theorem qI(ho:OpR X (compareOp op) r)(ha:PE X a ta)(hb:PE X b tb)(hm:behindInMarks op b=false):PT X (.Compare a [op] [b] pos) (vf (tOp r ta tb)):=by
 intro pins s σ H Q I h
 refine wpAny_isTrue_Compare1 (thn (ha pins s σ H _ I h) λv s1 ⟨x,H1,I1,r1,q1⟩=>thn (hb pins s1 σ H1 _ I1 q1) λu s2 ⟨y,H2,I2,r2,q2⟩ =>
  thn (ho pins s2 σ H2 x y v u _ I2 r1 r2 q2) λc s3 ⟨z,H3,I3,r3,k,e,q3⟩=>?_) hm
 subst e
 cases r3
 exact wpAny_truthy_bool ⟨H3,I3,q3⟩
noncomputable def vg(r r':R2)(ta tb tc:TE):TE:=λσ H Q=>ta σ H λx H1=>tb σ H1 λy H2=>r x y H2 λz H3=>∃ k,z = .bl k /\
 (if k=true then tc σ H3 λw' H4=>r' y w' H4 Q else Q (.bl false) H3)
theorem vh(ho:OpR X (compareOp op) r)(ho':OpR X (compareOp op') r')(ha:PE X a ta)(hb:PE X b tb)(hc:PE X c tc)
  (hm:lastMarks [op,op'] [b,c]=false:=by with_unfolding_all rfl):PE X (.Compare a [op,op'] [b,c] pos) (vg r r' ta tb tc):=by
 intro pins s σ H Q I h
 refine Compare_chain (thn (ha pins s σ H _ I h) λv s1 ⟨x,H1,I1,r1,q1⟩=>chain_link (thn (hb pins s1 σ H1 _ I1 q1) λu s2 ⟨y,H2,I2,r2,q2⟩ =>
  thn (ho pins s2 σ H2 x y v u _ I2 r1 r2 q2) λd s3 ⟨z,H3,I3,r3,k,e,q3⟩=>?_)) hm
 subst e
 cases r3
 refine wpAny_truthy_bool ?_
 cases k with
 | false=>exact ite_ff ⟨.bl false,H3,I3,rfl,q3⟩
 | true=>exact ite_tt (chain_last (thn (hc pins s3 σ H3 _ I3 q3) λw' s4 ⟨z',H4,I4,r4,q4⟩=>ho' pins s4 σ H4 y z' u w' Q I4 r2 r4 q4))
theorem vi(ho:OpR X (compareOp op) r)(ho':OpR X (compareOp op') r')(ha:PE X a ta)(hb:PE X b tb)(hc:PE X c tc)
  (hm:lastMarks [op,op'] [b,c]=false:=by with_unfolding_all rfl):PT X (.Compare a [op,op'] [b,c] pos) (vf (vg r r' ta tb tc)):=by
 intro pins s σ H Q I h
 refine isTrue_chain (thn (ha pins s σ H _ I h) λv s1 ⟨x,H1,I1,r1,q1⟩=>test_link (thn (hb pins s1 σ H1 _ I1 q1) λu s2 ⟨y,H2,I2,r2,q2⟩ =>
  thn (ho pins s2 σ H2 x y v u _ I2 r1 r2 q2) λd s3 ⟨z,H3,I3,r3,k,e,q3⟩=>?_)) hm
 subst e
 cases r3
 refine wpAny_truthy_bool ?_
 cases k with
 | false =>
  obtain⟨k',e',q'⟩:=q3
  cases e'
  exact ite_ff ⟨H3,I3,q'⟩
 | true =>
  refine ite_tt (test_last (thn (hc pins s3 σ H3 _ I3 q3) λw' s4 ⟨z',H4,I4,r4,q4⟩=>thn (ho' pins s4 σ H4 y z' u w' _ I4 r2 r4 q4) λd' s5 zq=>?_))
  obtain⟨z2,H5,I5,r5,k2,e2,q5⟩:=zq
  subst e2
  cases r5
  exact wpAny_truthy_bool ⟨H5,I5,q5⟩
noncomputable def TruV(K:aa)(x:V)(H:Hp)(k:Bool):Prop :=
 match x with
 | .non=>k=false
 | .bl b=>k=b
 | .int i=>k=(i != 0)
 | .str y=>y.length<=az/\k=((y.length:Int) != 0)
 | .byt y=>y.size<=az/\k=((y.size:Int) != 0)
 | .ref p=>(∃ xs,SqL K H p xs/\k = !xs.isEmpty)\/(∃ xs,SqT K H p xs/\k = !xs.isEmpty)\/∃ kvs,H p=some (.dK kvs)/\k = !kvs.isEmpty
 | _=>False
theorem Cb(r:KV kvs vs):(!vs.isEmpty) = !kvs.isEmpty:=by
 cases r<;>rfl
theorem Kv(r:Vals xs its):(!its.toArray.isEmpty) = !xs.isEmpty:=by
 cases r<;>simp
theorem Oj:(az:Nat)<2^63:=by rw[sizeLine_eq];decide
theorem ly:TruR X (λx H Q=>∃ k,TruV X.K x H k/\Q k H):=by
 intro pins s σ H x v Q I rx h
 obtain⟨k,e,q⟩:=h
 have hl:=Oj
 have hs:az=16777216:=sizeLine_eq
 cases x with
 | non =>
  cases rx
  have e':k=false:=e
  subst e'
  exact truthy_none ⟨H,I,q⟩
 | bl b =>
  cases rx
  have e':k=b:=e
  subst e'
  exact wpAny_truthy_bool ⟨H,I,q⟩
 | int i =>
  obtain⟨t,rfl⟩:=rx
  have e':k=(i != 0):=e
  subst e'
  exact PySem.P.truthy_int ⟨H,I,q⟩
 | str y =>
  obtain⟨t,rfl⟩:=rx
  obtain⟨hy,e'⟩:y.length<=az/\k=((y.length:Int) != 0):=e
  subst e'
  exact PySem.P.truthy_str (by omega) ⟨H,I.tok _,q⟩
 | byt y =>
  obtain⟨t,rfl⟩:=rx
  obtain⟨hy,e'⟩:y.size<=az/\k=((y.size:Int) != 0):=e
  subst e'
  exact PySem.W.truthy_bytes (by omega) ⟨H,I.tok _,q⟩
 | ref p =>
  cases rx
  have e':(∃ xs,SqL X.K H p xs/\k = !xs.isEmpty)\/(∃ xs,SqT X.K H p xs/\k = !xs.isEmpty)\/∃ kvs,H p=some (.dK kvs)/\k = !kvs.isEmpty:=e
  rcases e' with⟨xs,hx,e'⟩|⟨xs,hx,e'⟩|⟨kvs,hx,e'⟩
  ·subst e'
   obtain⟨its,r,pl,hz⟩:=I.list hx
   have hlen:=r.length
   exact wpAny_truthy_list pl.isList (by simp only[size_toArray];omega) ⟨H,I.tok _,by rw[Kv r];exact q⟩
  ·subst e'
   obtain⟨its,r,pl,hz⟩:=I.tuple hx
   have hlen:=r.length
   exact truthy_tuple pl (by simp only[size_toArray];omega) ⟨H,I.tok _,by rw[Kv r];exact q⟩
  ·subst e'
   obtain⟨hz,hS,vs,r,m⟩:kvs.length<=az/\(p==sysModules)=false/\∃ vs,KV kvs vs/\s.heap.DictOf (Yq X.prog X.w) p vs:=I.hok p _ hx
   have hlen:kvs.length=vs.length:=Paired.length r
   exact wpAny_truthy_dict hS m (by omega) ⟨H,I.tok _,by rw[Cb r];exact q⟩
 | _=>exact(show False from e).elim
theorem vj(ha:PE X a ta)(he:∀ whole,isTrue a X.env whole=(do let v <- whole;standAt a.pos;holding [v] (truthy v))) :
  PT X a (λσ H Q=>ta σ H λx H'=>∃ k,TruV X.K x H' k/\Q k H'):=by
 intro pins s σ H Q I h
 exact isTrue_plain (thn (ha pins s σ H _ I h) λv s1 ⟨x,H1,I1,r1,q1⟩=>ly pins s1 σ H1 x v Q I1 r1 q1) (he _)
theorem Cd:OpR X (binaryOp .Add) (λx y H Q=>∃ i j,x = .str i/\y = .str j/\i.length+j.length<=az/\Q (.str (i++j)) H):=by
 intro pins s σ H x y v u Q I rx ry h
 obtain⟨i,j,rfl,rfl,hz,q⟩:=h
 obtain⟨t,rfl⟩:=rx
 obtain⟨t',rfl⟩:=ry
 exact add_str (λt' tk=>⟨.str (i++j),H,I.tok _,⟨_,rfl⟩,q⟩) hz
theorem vals1(r:Vals [x] us):∃ u,us=[u]/\RelV x u:=by
 cases r with
 | cons r1 r2=>cases r2;exact⟨_,rfl,r1⟩
theorem vals2(r:Vals [x,y] us):∃ u w',us=[u,w']/\RelV x u/\RelV y w':=by
 cases r with
 | cons r1 r2 =>
  cases r2 with
  | cons r3 r4=>cases r4;exact⟨_,_,rfl,r1,r3⟩
theorem vk:Xz X (.builtin "abs") (λxs H Q=>∃ i,xs=[.int i]/\Q (.int (if i<0 then -i else i)) H):=by
 intro pins s σ H xs us Q I r h
 obtain⟨i,rfl,q⟩:=h
 obtain⟨u,rfl,t,rfl⟩:=vals1 r
 exact call_abs_int λu tk=>⟨.int (if i<0 then -i else i),H,I.tok _,⟨_,rfl⟩,q⟩
theorem ye:Xz X (.type "int") (λxs H Q=>(∃ i,xs=[.int i]/\Q (.int i) H)\/∃ k,xs=[.bl k]/\Q (.int (if k then 1 else 0)) H):=by
 intro pins s σ H xs us Q I r h
 rcases h with⟨i,rfl,q⟩|⟨k,rfl,q⟩
 ·obtain⟨u,rfl,t,rfl⟩:=vals1 r
  exact call_int_int ⟨.int i,H,I,⟨_,rfl⟩,q⟩
 ·obtain⟨u,rfl,r1⟩:=vals1 r
  cases r1
  exact call_int_bool ⟨.int (if k then 1 else 0),H,I.tok _,⟨_,rfl⟩,q⟩
theorem HS:Xz X (.type "str") (λxs H Q=>∃ i,xs=[.int i]/\i.natAbs.log2<1920/\Q (.str (toString i)) H):=by
 intro pins s σ H xs us Q I r h
 obtain⟨i,rfl,hz,q⟩:=h
 obtain⟨u,rfl,t,rfl⟩:=vals1 r
 exact PySem.P.str_of_int hz ⟨.str _,H,I.tok _,⟨_,rfl⟩,q⟩
end
structure Ce (h:Heap)(x dx C:Addr)(mA:Str->Option Value):Prop where
 obj:h.get? x=some (instObj C dx)
 ns:h.Ns1 dx mA
 ne:dx≠x
theorem yf{h:Heap}(n:h.Ns1 dx mA):∃ od,h.get? dx=some od/\∀ name,lookIn name od=some (mA name):=by
 obtain⟨o,es,ep,ho,hd,hk,_,hm⟩:=n
 refine⟨o,ho,λname=>?_⟩
 have e:=hm name
 unfold nsFind findBy at e
 rw[<-Array.find?_toList]at e
 unfold lookIn
 rw[hd]
 dsimp only
 split
 ·rename_i y q
  rw[q]at e
  exact congrArg some e
 ·rename_i q
  rw[q]at e
  have a:es.toList.any (·.refKey)=false:=by
   rw[List.any_eq_false]
   intro y hy
   obtain⟨z,t,hkey⟩:=hk y (Array.mem_toList_iff.mp hy)
   simp[DictEntry.refKey,hkey]
  have a':¬ es.toList.any (·.refKey)=true:=by rw[a];exact aC
  rw[if_neg a']
  exact congrArg some e
theorem Ce.look(I:Ce h x dx C mA):∃ od,PySem.W.InstAt h x (instObj C dx) C (some od)/\∀ name,lookIn name od=some (mA name) :=
 let ⟨od,ho,hl⟩:=yf I.ns
 ⟨od,⟨I.obj,rfl,rfl,ho⟩,hl⟩
section
variable {prog:Program}{w:World}{A:Around}{E:Value->Shared->Prop}{s:Shared}{K:aa}{x dx C f:Addr}{mA:Str->Option Value}{name:Str}{v:Value}
theorem get_map(X:K.In s.heap)(I:Ce s.heap x dx C mA)(hg:plainGet K C name=true)(hh:hasDictIn K C=true)
  (ha:findIn K (.ref C) name=some none)(hv:mA name=some v)(hv':PySem.W.handedIn v=true)(h:Q v { s with toks:=s.toks+1 }) :
  wpAny (model prog w) A (getAttr (.ref x) name expr) Q E s:=by
 obtain⟨od,J,hl⟩:=I.look
 exact PySem.W.get_value X J (plainGet_of hg).1 (PySem.W.findObj_own hh ha rfl (by rw[hl,hv])) hv' h
theorem vm(X:K.In s.heap)(I:Ce s.heap x dx C mA)(hg:plainGet K C name=true)
  (hf:findIn K (.ref C) name=some (some (.ref f)))(ht:isFn K (.ref f)=true)(hv:mA name=none)(h:Q (.ref f,[.ref x]) s) :
  wpAny (model prog w) A (getMethod (.ref x) name pl) Q E s:=by
 obtain⟨od,J,hl⟩:=I.look
 exact PySem.W.method_fn X J (plainGet_of hg).1 (plainGet_of hg).2 hf (beq_iff_eq.mp ht) (by show(lookIn name od).map (·.isSome)=some false;rw[hl,hv];rfl) h
theorem qJ(X:K.In s.heap)(I:Ce s.heap x dx C mA)
  (hs:findIn K (.ref C) "__setattr__" = some (some (.builtin "object.__setattr__")))(hp:plainOver K C=true)(ht:takerIn K C name=some none)(hh:hasDictIn K C=true)
  (hw:PySem.Within mA ns)(hsz:ns.length<=az)
  (h:∀ h',Ce h' x dx C (λy=>if y=name then some v else mA y)->aF dx s.heap h'->Q () { s with heap:=h',toks:=s.toks+2 }) :
  wpAny (model prog w) A (setAttr (.ref x) name v) Q E s:=by
 obtain⟨od,J,hl⟩:=I.look
 refine PySem.W.set_plain X J hs (PySem.W.osa_open (s:={ s with toks:=s.toks+1 }) (r:=none) X J hp ht λb=>?_)
 obtain⟨cd,hc,hd'⟩:=PySem.W.any_some hh
 have hx:s.heap.get? x=some ⟨.ref C,some dx,.plain,#[]⟩:=I.obj
 refine aj (ak (aj (aj (wpAny_loadPart hx (aj (Looks.here (s:={ s with toks:=s.toks+1 }) (PySem.W.looks_clsIn X hc) ?_))))))
 rw[hd']
 refine ak (a:=some dx) (aj (ak (aj ?_)))
 refine wpAny_nsSet1 (s:={ s with toks:=s.toks+1 }) I.ns λh' hn2 hs2=>?_
 obtain⟨oD,esD,epD,hoD,hdD,hcD⟩:=hn2.count (PySem.Within.cons name v hw)
 refine aj (wpAny_lookBehind hoD (by rw[hdD];exact pastItsLine_dict (Nat.le_trans hcD (by rw[length_cons];omega))) ?_)
 exact ak (h _ ⟨(hs2.2 _ (Ne.symm I.ne)).trans I.obj,hn2,I.ne⟩ hs2)
theorem vn(X:K.In s.heap)(hm:makesIn K C=true)
  (hi:findIn K (.ref C) "__init__" = some (some (.ref f)))(hf:typeIn K (.ref f)=some (.type "function"))
  (h:codeAny (model prog w) (A.under (.builtin "type.__call__" ⟨.ref C::vs,kw⟩)) (.call (.ref f) ⟨.ref (s.heap.objs.size+1)::vs,kw⟩) (PySem.W.InitBack (s.heap.objs.size+1) R)
   { s with heap:=(s.heap.push emptyDict).push (instObj C s.heap.objs.size) }) :
  codeAny (model prog w) A (.call (.ref C) ⟨vs,kw⟩) R s:=by
 obtain⟨hh,g,d,t,os⟩:=s
 exact PySem.W.make_core (makes_of X hm) (looks_findIn X hi) (λself=>PySem.W.bind_fn X self hf) (.inl rfl) h
theorem yg(X:K.In s.heap)(hm:makesIn K C=true)
  (hi:findIn K (.ref C) "__init__" = some (some (.builtin "object.__init__")))
  (hb:∀ self,Looks (model prog w) s.heap (bindSpecial (.builtin "object.__init__") self) (.builtin "object.__init__",[self]))
  (h:codeAny (model prog w) (A.under (.builtin "type.__call__" ⟨[.ref C],[]⟩)) (.call (.builtin "object.__init__") ⟨[.ref (s.heap.objs.size+1)],[]⟩) (PySem.W.InitBack (s.heap.objs.size+1) R)
   { s with heap:=(s.heap.push emptyDict).push (instObj C s.heap.objs.size) }) :
  codeAny (model prog w) A (.call (.ref C) ⟨[],[]⟩) R s:=by
 obtain⟨hh,g,d,t,os⟩:=s
 exact PySem.W.make_core (makes_of X hm) (looks_findIn X hi) hb (.inr ⟨rfl,rfl⟩) h
end
noncomputable def Qh(f:Str)(v:V):List (Str×V)->List (Str×V)
 | []=>[(f,v)]
 | (g,x)::r=>if g=f then (g,v)::r else (g,x)::Qh f v r
theorem Lk(f g:Str)(v:V):∀ fs:List (Str×V),(Qh f v fs).lookup g=if g=f then some v else fs.lookup g
 | []=>by
  show List.lookup g [(f,v)]=_
  by_cases h:g=f
  ·have hb:(g==f)=true:=beq_iff_eq.mpr h
   simp only[List.lookup,hb,if_pos h]
  ·have hb:(g==f)=false:=beq_eq_false_iff_ne.mpr h
   simp only[List.lookup,hb,if_neg h]
 | (k,x)::r=>by
  have ih:=Lk f g v r
  rw[show Qh f v ((k,x)::r)=(if k=f then (k,v)::r else (k,x)::Qh f v r) from rfl]
  by_cases hk:k=f
  ·rw[if_pos hk]
   by_cases h:g=k
   ·have hb:(g==k)=true:=beq_iff_eq.mpr h
    simp only[List.lookup,hb,if_pos (h.trans hk)]
   ·have hb:(g==k)=false:=beq_eq_false_iff_ne.mpr h
    simp only[List.lookup,hb,if_neg (λe:g=f=>h (e.trans hk.symm))]
  ·rw[if_neg hk]
   by_cases h:g=k
   ·have hb:(g==k)=true:=beq_iff_eq.mpr h
    simp only[List.lookup,hb,if_neg (λe:g=f=>hk (h.symm.trans e))]
   ·have hb:(g==k)=false:=beq_eq_false_iff_ne.mpr h
    simp only[List.lookup,hb]
    exact ih
theorem Mh(f:Str)(v:V):∀ fs:List (Str×V),f∈(Qh f v fs).map (·.1)/\∀ g,g∈fs.map (·.1)->g∈(Qh f v fs).map (·.1)
 | []=>⟨by simp[Qh],λg h=>by simp at h⟩
 | (k,x)::r=>by
  obtain⟨i1,i2⟩:=Mh f v r
  rw[show Qh f v ((k,x)::r)=(if k=f then (k,v)::r else (k,x)::Qh f v r) from rfl]
  by_cases hk:k=f
  ·rw[if_pos hk]
   subst hk
   exact⟨by simp,λg h=>by simpa using h⟩
  ·rw[if_neg hk]
   refine⟨?_,λg h=>?_⟩
   ·rw[map_cons]
    exact mem_cons_of_mem _ i1
   ·rw[map_cons]at h⊢
    rcases mem_cons.mp h with e|e
    ·exact mem_cons.mpr (.inl e)
    ·exact mem_cons_of_mem _ (i2 g e)
theorem Lp(f:Str)(v:V):∀ fs:List (Str×V),(Qh f v fs).length<=fs.length+1
 | []=>by simp[Qh]
 | (k,x)::r=>by
  have ih:=Lp f v r
  rw[show Qh f v ((k,x)::r)=(if k=f then (k,v)::r else (k,x)::Qh f v r) from rfl]
  by_cases hk:k=f
  ·rw[if_pos hk,length_cons,length_cons];omega
  ·rw[if_neg hk,length_cons,length_cons];omega
theorem Im.some_of(r:Im (some v) o):∃ u,o=some u/\RelV v u:=by
 cases o with
 | none=>exact(show False from r).elim
 | some u=>exact⟨u,rfl,r⟩
theorem Im.none_of(r:Im none o):o=none:=by
 cases o with
 | none=>rfl
 | some u=>exact(show False from r).elim
theorem yh(r:RelV v u):PySem.W.handedIn u=true:=by
 cases v with
 | non=>cases (show u=Value.none from r);rfl
 | bl b=>cases (show u=Value.bool b from r);rfl
 | int i=>obtain⟨t,e⟩:=(show ∃ t,u=Value.int i t from r);cases e;rfl
 | str x=>obtain⟨t,e⟩:=(show ∃ t,u=Value.str x t from r);cases e;rfl
 | byt b=>obtain⟨t,e⟩:=(show ∃ t,u=Value.bytes b t from r);cases e;rfl
 | flt b=>obtain⟨t,e⟩:=(show ∃ t,u=Value.float b t from r);cases e;rfl
 | ref a=>cases (show u=Value.ref a from r);rfl
 | ty n=>cases (show u=Value.type n from r);rfl
section
variable {P:Program}{w:World}{H H':Hp}{h h':Heap}{a C dx:Addr}{fs fs':List (Str×V)}
theorem Kk(hok:HOk P w H h)(e:H a=some (.ins C dx fs)):∃ mA,Ce h a dx C mA/\(∀ f,Im (fs.lookup f) (mA f))/\PySem.Within mA (fs.map (·.1))/\fs.length<=1000/\H dx=some (.own a):=by
 obtain⟨d,z,ne,ob,mA,n,r,q⟩:=(show YC P w H h a (.ins C dx fs) from hok a _ e)
 exact⟨mA,⟨ob,n,ne⟩,r,q,z,d⟩
end
structure Cls (K:aa)(C:Addr):Prop where
 pg:plainGet K C Str.empty=true
 hd:hasDictIn K C=true
 po:plainOver K C=true
 sa:findIn K (.ref C) "__setattr__" = some (some (.builtin "object.__setattr__"))
theorem Cls.get{K:aa}(c:Cls K C)(f:Str):plainGet K C f=true:=c.pg
noncomputable def Xt(K:aa)(C:Addr)(f:Str):Prop:=findIn K (.ref C) f=some none
theorem Xt.taker{K:aa}(n:Xt K C f):takerIn K C f=some none:=by
 unfold takerIn
 rw[show findIn K (.ref C) f=some none from n]
 rfl
structure Meth (K:aa)(C:Addr)(m:Str)(f:Addr):Prop where
 at_:findIn K (.ref C) m=some (some (.ref f))
 fn:isFn K (.ref f)=true
 kp:keepIn K (.ref f)=true
section
variable {X:Cx}{pins:List (Addr×Obj)}{σ:St}{H:Hp}{s:Shared}{a C dx:Addr}{fs:List (Str×V)}{f:Str}{v:V}{A:Around}{E:Value->Shared->Prop}
theorem Cg(I:Inv X pins σ H s)(e:H a=some (.ins C dx fs))(c:Cls X.K C)(n:Xt X.K C f)(l:fs.lookup f=some v)
  (h:∀ u s',Inv X pins σ H s'->RelV v u->Q u s'):wpAny (model X.prog X.w) A (getAttr (.ref a) f b) Q E s:=by
 obtain⟨mA,O,r,_,_,_⟩:=Kk I.hok e
 obtain⟨u,hu,ru⟩:=Im.some_of (v:=v) (o:=mA f) (by rw[<-l];exact r f)
 exact get_map I.kIn O (c.get f) c.hd n hu (yh ru) (h u _ (I.tok _) ru)
theorem Ci(I:Inv X pins σ H s)(e:H a=some (.ins C dx fs))(c:Cls X.K C)(k:Meth X.K C m g)(l:fs.lookup m=none)
  (h:Q (.ref g,[.ref a]) s):wpAny (model X.prog X.w) A (getMethod (.ref a) m pl) Q E s:=by
 obtain⟨mA,O,r,_,_,_⟩:=Kk I.hok e
 have hn:mA m=none:=Im.none_of (by rw[<-l];exact r m)
 exact vm I.kIn O (c.get m) k.at_ k.fn hn h
theorem Cj(I:Inv X pins σ H s)(e:H a=some (.ins C dx fs))(c:Cls X.K C)(n:Xt X.K C f)(hl:fs.length<1000)(ry:RelV y u)
  (h:∀ s',Inv X pins σ (upd H a (.ins C dx (Qh f y fs))) s'->Q () s'):wpAny (model X.prog X.w) A (setAttr (.ref a) f u) Q E s:=by
 obtain⟨mA,O,r,wi,_,ho⟩:=Kk I.hok e
 have hz:(fs.map (·.1)).length<=az:=by rw[length_map,sizeLine_eq];omega
 refine qJ I.kIn O c.sa c.po n.taker c.hd wi hz λh' O' sb=>h _ ?_
 have hd:∃ o,h'.get? dx=some o:=let ⟨o,_,_,e',_⟩:=O'.ns;⟨o,e'⟩
 refine I.write (x:=a) (e:=dx) (by rw[e];exact True.intro) (.inr ho) (λb q hb z=>(sb.2 b hb).trans z) hd ?_
 refine⟨by rw[Zq O.ne];exact ho,?_,O.ne,O'.obj,_,O'.ns,λg=>?_,λg hg=>?_⟩
 ·have:=Lp f y fs;omega
 ·show Im ((Qh f y fs).lookup g) (if g=f then some u else mA g)
  rw[Lk]
  by_cases q:g=f
  ·rw[if_pos q,if_pos q];exact ry
  ·rw[if_neg q,if_neg q];exact r g
 ·by_cases q:g=f
  ·rw[q];exact(Mh f y fs).1
  ·refine(Mh f y fs).2 g (wi g λz=>hg ?_)
   show(if g=f then some u else mA g)=none
   rw[if_neg q];exact z
theorem Inv.made(I:Inv X pins σ H s):Inv X pins σ (upd (upd H s.heap.objs.size (.own (s.heap.objs.size+1))) (s.heap.objs.size+1) (.ins C s.heap.objs.size []))
  { s with heap:=(s.heap.push emptyDict).push (instObj C s.heap.objs.size) }:=by
 have e1:(s.heap.push emptyDict).get? s.heap.objs.size=some emptyDict:=aq s.heap rfl
 have e2:((s.heap.push emptyDict).push (instObj C s.heap.objs.size)).get? (s.heap.objs.size+1)=some (instObj C s.heap.objs.size):=by
  have:=aq (s.heap.push emptyDict) (o:=instObj C s.heap.objs.size) rfl
  rwa [Heap.size_push]at this
 have e3:(s.heap.push emptyDict).Ns s.heap.objs.size (λ_=>none):=⟨emptyDict,#[],_,e1,rfl,(λe he=>absurd he (by simp)),λ_=>rfl⟩
 have I1:=I.laid (a:=s.heap.objs.size) (o := .own (s.heap.objs.size+1)) (h':=s.heap.push emptyDict) (t':=s.toks) (λb u q=>ao _ q) (Nat.le_refl _) ⟨_,e1⟩
 refine I1.laid (a:=s.heap.objs.size+1) (o := .ins C s.heap.objs.size []) (t':=s.toks) (λb u q=>ao _ q) (Nat.le_of_eq (Heap.size_push _ _)) ?_
 have ne:s.heap.objs.size≠s.heap.objs.size+1:=Nat.ne_of_lt (Nat.lt_succ_self _)
 refine⟨by rw[Zq ne,Zx],Nat.zero_le _,ne,e2,λ_=>none,(Heap.Ns1.of_empty e3).at λo q=>ao _ q,λ_=>True.intro,λy hy=>absurd rfl hy⟩
theorem qK(hb:attributeBase e f env (eval e env)=eval e env)
  (h:wpAny (model prog w) A (eval e env) (λo s₁=>wpAny (model prog w) A (getAttr o f true) Q E s₁) E s):wpAny (model prog w) A (eval (.Attribute e f pos) env) Q E s :=
 Attribute_any_ h (by rw[arm_eval_Attribute,hb])
end
noncomputable def tFld(K:aa)(ta:TE)(f:Str):TE:=λσ H Q=>ta σ H λx H1=>∃ a C dx fs v,x = .ref a/\H1 a=some (.ins C dx fs)/\Cls K C/\Xt K C f/\fs.lookup f=some v/\Q v H1
noncomputable def sFld(K:aa)(ta tv:TE)(f:Str):TS:=λD σ H=>tv σ H λy H1=>ta σ H1 λx H2=>∃ a C dx fs,x = .ref a/\H2 a=some (.ins C dx fs)/\Cls K C/\Xt K C f/\fs.length<1000 /\
 D.nx σ (upd H2 a (.ins C dx (Qh f y fs)))
section
variable {X:Cx}{o e value:Expr}{f:Str}{pos pos' tpos:Pos}{ta tv:TE}
theorem lA(he:PE X e ta)(hb:attributeBase e f X.env (eval e X.env)=eval e X.env):PE X (.Attribute e f pos) (tFld X.K ta f):=by
 intro pins s σ H Q I h
 refine qK hb (thn (he pins s σ H _ I h) λu s1 zq=>?_)
 obtain⟨x,H1,I1,rx,a,C,dx,fs,v,ex,ea,c,n,l,q⟩:=zq
 subst ex
 obtain rfl:u=Value.ref a:=rx
 exact Cg I1 ea c n l λu' s2 I2 ru=>⟨v,H1,I2,ru,q⟩
theorem lB(ha:PE X o ta)(hv:PE X value tv)(hs:swapsWith value (some (.Attribute o f pos')) pos.line X.env=pure false):PS X (.Assign [.Attribute o f pos'] value pos) (sFld X.K ta tv f):=by
 intro pins s σ H D I h
 refine plainObj_wpAny_Assign_Attribute (thn (hv pins s σ H _ I h) λu s1 ⟨y,H1,I1,ry,q⟩=>thn (ha pins s1 σ H1 _ I1 q) λov s2 zq=>?_) hs
 obtain⟨x,H2,I2,rx,a,C,dx,fs,ex,ea,c,n,l,q2⟩:=zq
 subst ex
 obtain rfl:ov=Value.ref a:=rx
 exact Cj I2 ea c n l ry λs3 I3=>⟨σ,_,I3,q2⟩
end
section
variable {X:Cx}{pins:List (Addr×Obj)}{σ:St}{H:Hp}{s:Shared}{A:Around}{E:Value->Shared->Prop}{Q:Value->Shared->Prop}{c:Value}{b:Bool}
inductive OY (K:aa) (H:Hp):V->Value->Prop where
 | non:OY K H .non (.type "NoneType")
 | bl (x:Bool):OY K H (.bl x) (.type "bool")
 | int (i:Int):OY K H (.int i) (.type "int")
 | str (x:Str):OY K H (.str x) (.type "str")
 | flt (x:UInt64):OY K H (.flt x) (.type "float")
 | lst {a:Addr}{xs:List V}(e:H a=some (.lst xs)):OY K H (.ref a) (.type "list")
 | frz {a:Addr}{o:Obj}{xs:List V}(e:H a=some (.frz o (.lst xs))):OY K H (.ref a) (.type "list")
 | tup {a:Addr}{xs:List V}(e:H a=some (.tup xs)):OY K H (.ref a) (.type "tuple")
 | dK {a:Addr}{kvs:List (Key×V)}(e:H a=some (.dK kvs)):OY K H (.ref a) (.type "dict")
 | dT {a:Addr}{kvs:List (List Key×V)}(e:H a=some (.dT kvs)):OY K H (.ref a) (.type "dict")
 | ins {a C dx:Addr}{fs:List (Str×V)}(e:H a=some (.ins C dx fs)) (cl:Cls K C) (ha:findIn K (.ref C) "__class__" = some (some (.builtin "object.__class__")))
   (hn:PySem.W.specialIn K (.builtin "object.__class__") "__get__" = some (some (.builtin "getset_descriptor.__get__"))) (htk:takesIn K (.builtin "object.__class__")=some true)
   (hm:mroIn K C (.type "object")=some true):OY K H (.ref a) (.ref C)
theorem yi(I:Inv X pins σ H s)(rx:RelV x u)(ty:OY X.K H x t)(e:kitOne X.K t c=some b)(h:∀ tk,Q (.bool b) { s with toks:=tk }) :
  wpAny (model X.prog X.w) A (call (.builtin "isinstance") [u,c]) Q E s:=by
 cases ty with
 | non=>cases (show u=Value.none from rx);exact kia_one PySem.W.kitx_none I.kIn True.intro e (λz=>nomatch z) h
 | bl y=>cases (show u=Value.bool y from rx);exact kia_one PySem.W.kitx_bool I.kIn True.intro e (λz=>nomatch z) h
 | int i=>obtain⟨t,q⟩:=(show ∃ t,u=Value.int i t from rx);cases q;exact kia_one PySem.W.kitx_int I.kIn True.intro e (λz=>nomatch z) h
 | str y=>obtain⟨t,q⟩:=(show ∃ t,u=Value.str y t from rx);cases q;exact kia_one PySem.W.kitx_str I.kIn True.intro e (λz=>nomatch z) h
 | flt y=>obtain⟨t,q⟩:=(show ∃ t,u=Value.float y t from rx);cases q;exact kia_one PySem.W.kitx_float I.kIn True.intro e (λz=>nomatch z) h
 | @lst a xs ea =>
  cases (show u=Value.ref a from rx)
  obtain⟨_,_,n,_,h1⟩:=(show YC X.prog X.w H s.heap a (.lst xs) from I.hok a _ ea)
  exact kia_one kitx_list I.kIn ⟨_,h1,rfl⟩ e (λz=>nomatch z) h
 | @frz a ob xs ea =>
  cases (show u=Value.ref a from rx)
  obtain⟨_,_,_,n,_,h1⟩:=(show YC X.prog X.w H s.heap a (.frz ob (.lst xs)) from I.hok a _ ea)
  exact kia_one kitx_list I.kIn ⟨_,h1,rfl⟩ e (λz=>nomatch z) h
 | @tup a xs ea =>
  cases (show u=Value.ref a from rx)
  obtain⟨_,_,_,p⟩:=(show YC X.prog X.w H s.heap a (.tup xs) from I.hok a _ ea)
  obtain⟨o,h1,h2,_⟩:=p
  exact kia_one PySem.W.kitx_tuple I.kIn ⟨o,h1,h2⟩ e (λz=>nomatch z) h
 | @dK a kvs ea =>
  cases (show u=Value.ref a from rx)
  obtain⟨_,_,vs,_,p⟩:=(show YC X.prog X.w H s.heap a (.dK kvs) from I.hok a _ ea)
  obtain⟨o,es,ep,h1,h2,_⟩:=p
  exact kia_one PySem.W.kitx_dict I.kIn ⟨o,h1,h2.1⟩ e (λz=>nomatch z) h
 | @dT a kvs ea =>
  cases (show u=Value.ref a from rx)
  obtain⟨_,_,xs,_,o,es,ep,h1,h2,_⟩:=(show YC X.prog X.w H s.heap a (.dT kvs) from I.hok a _ ea)
  exact kia_one PySem.W.kitx_dict I.kIn ⟨o,h1,h2.1⟩ e (λz=>nomatch z) h
 | @ins a C dx fs ea cl ha hn htk hm =>
  cases (show u=Value.ref a from rx)
  obtain⟨mA,O,_⟩:=Kk I.hok ea
  obtain⟨od,J,_⟩:=O.look
  exact kia_one (PySem.W.kitx_own (cl.get _) cl.hd ha hn htk hm) I.kIn J e (λz=>nomatch z) h
end
structure XA (k:Nat)(A:Around):Prop where
 hd:A.handled=none
 dp:A.depth+3*k+5<recursionLimit
 un:A.units+16*k+200<cLine
theorem XA.mono(r:XA k A)(h:j<=k):XA j A:=⟨r.hd,by have:=r.dp;omega,by have:=r.un;omega⟩
theorem XA.deeper(r:XA (k+1) A)(env:Env):XA k (A.deeper env) :=
 ⟨r.hd,by have:=r.dp;show A.depth+1+3*k+5<_;omega,by have:=r.un;show A.units+3+16*k+200<_;omega⟩
theorem Ck{A:Around}:(A.under (.builtin "type.__call__" ⟨.ref C::us,kw⟩)).depth=A.depth+1:=by
 first | rfl | simp[Around.under,Code.weight,Code.isCreation,Code.isGuard,Code.isCaller,Code.frames,Code.isFrame,guardIds]
theorem Cm{A:Around}:(A.under (.builtin "type.__call__" ⟨.ref C::us,kw⟩)).units=A.units+1:=by
 first | rfl | simp[Around.under,Code.cUnits,Code.frames,Code.isFrame]
theorem XA.make(r:XA (k+1) A)(C:Addr)(us:List Value)(kw:List (Str×Value)):XA k (A.under (.builtin "type.__call__" ⟨.ref C::us,kw⟩)) :=
 ⟨r.hd,by have:=r.dp;rw[Ck];omega,by have:=r.un;rw[Cm];omega⟩
theorem XA.depth(r:XA k A):A.depth<recursionLimit:=by have:=r.dp;omega
noncomputable def tNil:TA:=λ_ H Q=>Q [] H
noncomputable def vo(ta:TE)(tr:TA):TA:=λσ H Q=>ta σ H λx H1=>tr σ H1 λxs H2=>Q (x::xs) H2
section
variable {X:Cx}{e:Expr}{es:List Expr}{te:TE}{t:TA}{pos:Pos}
theorem Kw:PA X [] tNil:=λ_ _ _ _ H Q I h=>Calls.spliced_nil ⟨[],H,I,.nil,h⟩
theorem qL(ha:PE X e te)(hr:PA X es t)(hs:autoParam (starEach (e::es) X.env=(false,eval e X.env)::starEach es X.env) auR):PA X (e::es) (vo te t):=by
 intro pos pins s σ H Q I h
 rw[hs]
 show wpAny _ _ (spliced ((false,eval e X.env)::backTo pos (starEach es X.env))) _ _ s
 refine Calls.spliced_cons (thn (ha pins s σ H _ I h) λu s1 zq=>?_)
 obtain⟨x,H1,I1,r1,q1⟩:=zq
 exact thn (hr pos pins s1 σ H1 _ I1 q1) λus s2 ⟨xs,H2,I2,r2,q2⟩=>⟨x::xs,H2,I2,.cons r1 r2,q2⟩
noncomputable def tTup(t:TA):TE:=λσ H Q=>t σ H λxs H1=>xs.length<=az/\∀ p,H1 p=none->Q (.ref p) (upd H1 p (.tup xs))
noncomputable def tLst(t:TA):TE:=λσ H Q=>t σ H λxs H1=>xs.length<=az/\∀ p,H1 p=none->Q (.ref p) (upd H1 p (.lst xs))
theorem lD(h:PA X es t):PE X (.Tuple es x1 pos) (tTup t):=by
 intro pins s σ H Q I hq
 refine wpAny_Tuple_spliced (thn (h pos pins s σ H _ I hq) λus s1 ⟨xs,H1,I1,r,z,q⟩=>⟨by rw[<-r.length];exact z,?_⟩)
 have hf:H1 s1.heap.objs.size=none:=I1.hok.fresh (Nat.le_refl _)
 refine⟨.ref s1.heap.objs.size,upd H1 s1.heap.objs.size (.tup xs),I1.laid (t':=s1.toks) (λb u e=>ao _ e) (Nat.le_refl _) ?_,rfl,q _ hf⟩
 exact⟨z,us,r,⟨_,aq _ rfl,rfl,_,rfl⟩⟩
theorem vp(h:PA X es t):PE X (.List es pos) (tLst t):=by
 intro pins s σ H Q I hq
 refine wpAny_List_spliced (thn (h pos pins s σ H _ I hq) λus s1 ⟨xs,H1,I1,r,z,q⟩=>⟨by rw[<-r.length];exact z,?_⟩)
 have hf:H1 s1.heap.objs.size=none:=I1.hok.fresh (Nat.le_refl _)
 refine⟨.ref s1.heap.objs.size,upd H1 s1.heap.objs.size (.lst xs),I1.laid (t':=s1.toks) (λb u e=>ao _ e) (Nat.le_refl _) ?_,rfl,q _ hf⟩
 exact⟨z,us,0,r,aq _ rfl⟩
end
abbrev Sp:=List V->Hp->VK->XK->Prop
abbrev CXT:=List Env->Hp->Shared->XK->Value->Shared->Prop
structure HU (P:Program)(w:World)(K:aa)(mg:Str->Option Value)(base:Heap)(A:Around)(outer:List Env)(s:Shared)(H:Hp):Prop where
 frames:A.frames=some outer
 mod:Mod K mg base
 bs:∀ b o,base.get? b=some o->s.heap.get? b=some o/\H b=none
 bsz:base.objs.size<=s.heap.objs.size
 Si:s.heap.FunFrames base outer
 frf:∀ b∈frs outer,H b=none
 hok:HOk P w H s.heap
 bare:AllBare s.gens
noncomputable def CE(outer:List Env)(P:Program)(w:World)(H:Hp)(s:Shared)(Q:VK)(u:Value)(s':Shared):Prop :=
 ∃ v H',s'.os=s.os/\AllBare s'.gens/\Un (frs outer) [] H H' s.heap s'.heap/\HOk P w H' s'.heap/\RelV v u/\Q v H'
noncomputable def CR(CX:CXT)(outer:List Env)(P:Program)(w:World)(H:Hp)(s:Shared)(Q:VK)(E:XK)(r:Result)(s':Shared):Prop :=
 match r with
 | .ok (.ret u)=>CE outer P w H s Q u s'
 | .ok _=>False
 | .error e=>CX outer H s E e s'
structure ZL (P:Program)(w:World)(K:aa)(mg:Str->Option Value)(base:Heap)(CX:CXT)(k:Nat)(f:Addr)(fd:FuncData)(ps:List Str)(sp:Sp):Prop where
 len:∀ vs H Q E,sp vs H Q E->vs.length=ps.length
 run:∀ (A:Around) (outer:List Env) (s:Shared) (H:Hp) (args:Args) (us:List Value) (vs:List V) (Q:VK) (E:XK),XA k A->HU P w K mg base A outer s H->BindsTo s fd args (ps.zip us)->Vals vs us->sp vs H Q E ->
  codeAny (model P w) A (.call (.ref f) args) (CR CX outer P w H s Q E) s
theorem HU.make{K:aa}{outer:List Env}{s:Shared}{H:Hp}(e:HU P w K mg base A outer s H)(C:Addr)(us:List Value)(kw:List (Str×Value)) :
  HU P w K mg base (A.under (.builtin "type.__call__" ⟨.ref C::us,kw⟩)) outer s H:=⟨by first | exact e.frames | (simpa [Around.under,Code.envs,Code.isFrame,pushEnvs] using e.frames),e.mod,e.bs,e.bsz,e.Si,e.frf,e.hok,e.bare⟩
section
variable {X:Cx}{pins:List (Addr×Obj)}{σ:St}{H:Hp}{s s':Shared}
theorem Inv.env0(I:Inv X pins σ H s):HU X.prog X.w X.K X.mg X.base X.A X.stack s H :=
 ⟨I.ok.frames,I.ok.mod,I.bs,Nat.le_trans I.ok.bsz I.sz,I.stack,I.Aj,I.hok,I.bare⟩
theorem Inv.after(I:Inv X pins σ H s)(h:CE X.stack X.prog X.w H s Q u s'):EP X pins σ Q u s':=by
 obtain⟨v,H',os,bare,un,hok,r,q⟩:=h
 obtain⟨hh,g,d,t,os'⟩:=s'
 obtain rfl:os'=s.os:=os
 exact⟨v,H',I.call (h':=hh) (g':=g) (d':=d) (t':=t) (ch:=[]) un hok bare (λb z=>absurd z (by simp)),r,q⟩
end
noncomputable def Binds(K:aa)(fd:FuncData)(ps:List Str)(ds:List Value):Prop :=
 ∀ (s:Shared) (us:List Value),K.In s.heap->(us++ds).length=ps.length->BindsTo s fd ⟨us,[]⟩ (ps.zip (us++ds))
theorem Binds.all{K:aa}(h:∀ us:List Value,us.length=ps.length->bindArgs fd ⟨us,[]⟩=pure (ps.zip us)):Binds K fd ps []:=λs us _ hl=>by
 rw[append_nil]at hl⊢
 exact .of_eq (h us hl)
section
variable {X:Cx}{CX:CXT}{k:Nat}{f C:Addr}{fd:FuncData}{ps:List Str}{sp:Sp}{dvs:List V}{ds:List Value}{E:XK}{x m:Str}{p pos apos:Pos}{e o:Expr}{es:List Expr}{ta:TE}{t:TA}
structure Mk (K:aa)(C f:Addr):Prop where
 makes:makesIn K C=true
 init:findIn K (.ref C) "__init__" = some (some (.ref f))
 fn:isFn K (.ref f)=true
 kp:keepIn K (.ref C)=true
end
section
variable {X:Cx}{CX:CXT}{k:Nat}{f C:Addr}{fd:FuncData}{ps ks:List Str}{sp:Sp}{E:XK}{x m:Str}{p pos apos kpos:Pos}{e o:Expr}{es:List Expr}{kws:List Keyword}{te ta:TE}{t tk:TA}{nm:Option Str}
variable {g:List Value->List Value->List Value}{gV:List V->List V->List V}
end
structure Zn (N P:List Str)(sc:Scope):Prop where
 kind:sc.kind = .function
 co:sc.isCoroutine=false
 gen:sc.isGenerator=false
 nd:N.Nodup
 pre:N.take P.length=P
 par:∀ x∈P,sc.names.lookup x=some .local\/sc.names.lookup x=some .cell
 nofree:∀ y∈sc.names,y.2 ≠ .free
theorem Hh{kindOf:Str->Option NameKind}:∀ {binds:List (Str×Value)}{m:Str->Option Value},(∀ v,(x,v)∉binds)->bindL kindOf binds m x=m x
 | [],_,_=>rfl
 | (n,v)::r,m,h=>by
  unfold bindL
  rw[Hh λw hw=>h w (mem_cons_of_mem _ hw)]
  split
  ·have:x≠n:=by rintro rfl;exact h v mem_cons_self
   simp[this]
  ·rfl
theorem Hi{kindOf:Str->Option NameKind}:∀ {binds:List (Str×Value)}{m:Str->Option Value},(∀ v,(x,v)∉binds)->bindC kindOf binds m x=m x
 | [],_,_=>rfl
 | (n,v)::r,m,h=>by
  unfold bindC
  rw[Hi λw hw=>h w (mem_cons_of_mem _ hw)]
  split
  ·rfl
  ·have:x≠n:=by rintro rfl;exact h v mem_cons_self
   simp[this]
theorem Hj{kindOf:Str->Option NameKind}:∀ {P:List Str}{vs:List Value}{i:Nat}{m:Str->Option Value},P.Nodup->P[i]?=some x->vs[i]?=some v->kindOf x=some .local ->
  bindL kindOf (P.zip vs) m x=some v
 | [],_,_,_,_,h,_,_=>by simp at h
 | _::_,[],_,_,_,_,h,_=>by simp at h
 | p::P,w::vs,0,m,nd,h1,h2,hk=>by
  simp at h1 h2;subst h1;subst h2
  show bindL kindOf ((p,w)::P.zip vs) m p=_
  unfold bindL
  rw[Hh λv hv=>(nodup_cons.mp nd).1 (of_mem_zip hv).1,if_pos hk]
  simp
 | p::P,w::vs,i+1,m,nd,h1,h2,hk=>by
  show bindL kindOf ((p,w)::P.zip vs) m x=_
  unfold bindL
  exact Hj (i:=i) (nodup_cons.mp nd).2 (by simpa using h1) (by simpa using h2) hk
theorem Hk{kindOf:Str->Option NameKind}:∀ {P:List Str}{vs:List Value}{i:Nat}{m:Str->Option Value},P.Nodup->P[i]?=some x->vs[i]?=some v->kindOf x≠some .local ->
  bindC kindOf (P.zip vs) m x=some v
 | [],_,_,_,_,h,_,_=>by simp at h
 | _::_,[],_,_,_,_,h,_=>by simp at h
 | p::P,w::vs,0,m,nd,h1,h2,hk=>by
  simp at h1 h2;subst h1;subst h2
  show bindC kindOf ((p,w)::P.zip vs) m p=_
  unfold bindC
  rw[Hi λv hv=>(nodup_cons.mp nd).1 (of_mem_zip hv).1,if_neg hk]
  simp
 | p::P,w::vs,i+1,m,nd,h1,h2,hk=>by
  show bindC kindOf ((p,w)::P.zip vs) m x=_
  unfold bindC
  exact Hk (i:=i) (nodup_cons.mp nd).2 (by simpa using h1) (by simpa using h2) hk
noncomputable def start(N:List Str)(vs:List V):St:=vs.map some++replicate (N.length-vs.length) none
noncomputable def ZS(CX:CXT)(P:Program)(w:World)(K:aa)(mg:Str->Option Value)(base:Heap)(N:List Str)(qual:Str)(scope:Scope)(f:Addr)(cd:Value)(A:Around)(outer:List Env)(s:Shared)(H:Hp)(E:XK):Cx where
 prog:=P
 w:=w
 K:=K
 mg:=mg
 base:=base
 A:=A.deeper (envOfC qual scope s.heap.objs.size f cd)
 N:=N
 s₀:=s
 H₀:=H
 env:=envOfC qual scope s.heap.objs.size f cd
 outer:=outer
 stack:=envOfC qual scope s.heap.objs.size f cd::outer
 ex:=[]
 calm:=true
 fn:=λ_=>true
 pn:=[]
 xe:=λe s'=>wpAny (model P w) (A.deeper (envOfC qual scope s.heap.objs.size f cd)) (leaving (envOfC qual scope s.heap.objs.size f cd) e) (λ_ s''=>CX outer H s E e s'') (λe' s''=>CX outer H s E e' s'') s'
theorem FV{sc:Scope}(h:sc.names.lookup x=some .cell):∃ c,(cellsFrom n sc.names []).lookup x=some c:=by
 have q:=cellsFrom_some sc.names n [] (.inl h)
 exact Option.isSome_iff_exists.mp q
theorem Hl{CX:CXT}{K:aa}{N ps:List Str}{qual:Str}{scope:Scope}{f:Addr}{cd:Value}{A:Around}{outer:List Env}{s s1:Shared}{H:Hp}{E:XK}{us:List Value}{vs:List V}
  (S:Zn N ps scope)(hd:A.handled=none)(e0:HU P w K mg base A outer s H)(hl:vs.length=ps.length)(r:Vals vs us)
  (x:InCallC s s.heap.objs.size (bindL (envOfC qual scope s.heap.objs.size f cd).kindOf (ps.zip us) λ_=>none) (cellsFrom (s.heap.objs.size+1) scope.names []) (bindC (envOfC qual scope s.heap.objs.size f cd).kindOf (ps.zip us) λ_=>none) s1) :
  Inv (ZS CX P w K mg base N qual scope f cd A outer s H E) [] (start N vs) H s1:=by
 have hpl:ps.length<=N.length:=by have:=congrArg length S.pre;rw[length_take]at this;omega
 obtain⟨h1,tk,rfl,hk⟩:=x.done
 have noA:∀ b:Addr,b∉(ZS CX P w K mg base N qual scope f cd A outer s H E).ex:=λb z=>absurd (show b∈([]:List Addr) from z) (by simp)
 refine⟨⟨e0.mod,S.kind,rfl,rfl,Nat.le_refl _,λy z c h1 h2=>?_,λy hy=>?_,λy c _ h=>?_,λ_=>hd,Around.frames_deeper e0.frames,.inr ⟨rfl,rfl⟩,λb z=>absurd z (noA b),e0.bs,e0.bsz,λb _ _=>noA b,λb z=>absurd z (noA b),e0.Si,e0.frf⟩,
  rfl,e0.bare,Un.kept hk,⟨_,x.toInCall.ns,λi y v h1 h2 h3=>?_⟩,λy c h=>⟨_,x.cell y c h⟩,e0.hok.fresh (Nat.le_refl _),λy c h=>?_,λp hp=>absurd (show p∈([]:List (Addr×Obj)) from hp) (by simp),e0.hok.kept hk,?_⟩
 ·exact name_of_addr x.apart (PySem.mem_of_lookup h1) (PySem.mem_of_lookup h2)
 ·have hy:scope.names.lookup y=some .cell\/scope.names.lookup y=some .free:=hy
  rcases hy with hy|hy
  ·exact FV hy
  ·exact absurd rfl (S.nofree _ (PySem.mem_of_lookup hy))
 ·exact Nat.le_of_lt (x.above y c (PySem.mem_of_lookup h))
 ·have hi:i<vs.length:=by
   unfold start at h2
   by_cases hi:i<vs.length
   ·exact hi
   ·rw[getElem?_append_right (by simpa using hi)]at h2
    rw[getElem?_replicate]at h2
    split at h2<;>cases h2
  have ha:vs[i]?=some v:=by
   unfold start at h2
   rw[getElem?_append_left (by simpa using hi),getElem?_map]at h2
   cases e:vs[i]? with
   | none=>rw[e]at h2;cases h2
   | some a=>rw[e]at h2;cases h2;rfl
  obtain⟨u,hu,rv⟩:=r.get ha
  have hp:ps[i]?=some y:=by
   rw[<-S.pre,List.getElem?_take_of_lt (by omega)];exact h1
  have ndP:ps.Nodup:=by rw[<-S.pre];exact S.nd.sublist (List.take_sublist _ _)
  refine⟨u,rv,?_⟩
  rcases S.par y (mem_of_getElem? hp) with k|k
  ·exact .inl ⟨k,Hj ndP hp hu k⟩
  ·obtain⟨c,e⟩:=FV (n:=s.heap.objs.size+1) k
   refine .inr ⟨.inl k,c,e,?_⟩
   have q:=x.cell y c e
   rw[Hk ndP hp hu (by show scope.names.lookup y≠_;rw[k];decide)]at q
   exact q
 ·exact e0.hok.fresh (Nat.le_of_lt (x.above y c (PySem.mem_of_lookup h)))
 ·unfold start
  show _=N.length
  rw[length_append,length_map,length_replicate]
  omega
theorem vq{K:aa}{k:Nat}{f:Addr}{name qual:Str}{params:Arguments}{body:List Stmt}{scope:Scope}{dV kV doc pm cdv ct oc:Value}{an od:Option Addr}
  {osl:Array (Option Value)}{N ps:List Str}{sp:Sp}(lk:K.lookup f=some ⟨oc,od,.func (PySem.W.fnOf name qual params body scope dV kV doc pm an cdv ct),osl⟩)(hcd:PySem.W.codeIn K cdv qual=true)(S:Zn N ps scope)
  (len:∀ vs H Q E,sp vs H Q E->vs.length=ps.length)
  (hbody:∀ (A:Around) (outer:List Env) (s:Shared) (H:Hp) (vs:List V) (Q:VK) (E:XK),XA k (A.deeper (envOfC qual scope s.heap.objs.size f cdv))->sp vs H Q E ->
   ∃ t,PSs (ZS CX P w K mg base N qual scope f cdv A outer s H E) body t/\t { nx:=λ_ H'=>Q .non H',rt:=Q } (start N vs) H) :
  ZL P w K mg base CX (k+1) f (PySem.W.fnOf name qual params body scope dV kV doc pm an cdv ct) ps sp:=by
 refine⟨len,λA outer s H args us vs Q E hr e0 hb r hsp=>?_⟩
 have hl:=len _ _ _ _ hsp
 have KX:K.In s.heap:=e0.mod.kin.keeps λb o e=>(e0.bs b o e).1
 have lim:s.heap.NoLimit:=e0.mod.nolimit.keeps λb o e=>(e0.bs b o e).1
 have hkind:∀ y∈ps.zip us,scope.names.lookup y.1=some .local\/(scope.names.lookup y.1=some .cell/\((cellsFrom (s.heap.objs.size+1) scope.names []).lookup y.1).isSome=true):=λ⟨n,v⟩ hy=>by
  rcases S.par n (of_mem_zip hy).1 with q|q
  ·exact .inl q
  ·exact .inr ⟨q,cellsFrom_some _ _ _ (.inl q)⟩
 refine codeAny_call_function hr.depth (KX _ _ lk) rfl S.co S.gen rfl (PySem.W.codeRec_of KX hcd) (hb _ _ _ _ ?_)
 refine wpAny_newFunctionEnv_cells S.kind hkind λenv he s1 x=>?_
 subst he
 refine⟨lim.keeps x.toInCall.keep,codeAny_func ?_⟩
 obtain⟨t,ht,hq⟩:=hbody A outer s H vs Q E (hr.deeper _) hsp
 have I:Inv (ZS CX P w K mg base N qual scope f cdv A outer s H E) [] (start N vs) H s1:=Hl S hr.hd e0 hl r x
 refine wpAny_mono (ht [] s1 (start N vs) H _ I hq) (λfl s' hs=>?_) λe s' hs=>hs
 have fin:∀ {σ':St}{H':Hp}{v:V}{u:Value},Inv (ZS CX P w K mg base N qual scope f cdv A outer s H E) [] σ' H' s'->RelV v u->Q v H'->CE outer P w H s Q u s' :=
  λ{σ' H' v u} J rv q=>⟨v,H',J.os,J.bare,J.base,J.hok,rv,q⟩
 cases fl with
 | ret u =>
  obtain⟨v,σ',H',J,rv,q⟩:=hs
  exact fin J rv q
 | next =>
  obtain⟨σ',H',J,q⟩:=hs
  exact fin (v:=V.non) (u:=Value.none) J rfl q
 | brk =>
  obtain⟨_,_,_,q⟩:=hs
  exact False.elim q
 | cont =>
  obtain⟨_,_,_,q⟩:=hs
  exact False.elim q
section
variable {X:Cx}{x:Str}{p pos:Pos}{e:Expr}{es:List Expr}{t:TA}{id T:String}{r:List V->Hp->VK->Prop}
noncomputable def tCB(r:List V->Hp->VK->Prop)(t:TA):TE:=λσ H Q=>t σ H λvs H1=>r vs H1 Q
theorem vt(hc:Xz X (.builtin id) r)(hg:Gl X x)(hm:X.mg x=none)(hv:bootBuiltins x=some (.builtin id))(ha:PA X (e::es) t)(hn:autoParam (x ≠ "__name__" ) auD)(hdb:autoParam ((x==("__debug__" : Str))=false) auD)
  (he:autoParam (starEach (e::es) X.env=(false,eval e X.env)::starEach es X.env) auR)(hpl:autoParam ((backTo pos (starEach es X.env)).any (·.1)=false) auR):PE X (.Call (.Name x p) (e::es) [] pos) (tCB r t):=by
 intro pins s σ H Q I h
 refine wpAny_Call_Name_kw (Ku I hg hm hv ?_ hn hdb)
 exact PyProof.Rows.callWith_builtin1 (thn (ha pos pins s σ H _ I h) λus s1 ⟨vs,H1,I1,r1,q1⟩=>hc pins s1 σ H1 vs us Q I1 r1 q1) he hpl
theorem yj(hc:Xz X (.type T) r)(hg:Gl X x)(hm:X.mg x=none)(hv:bootBuiltins x=some (.type T))(ha:PA X (e::es) t)(hn:autoParam (x ≠ "__name__" ) auD)(hdb:autoParam ((x==("__debug__" : Str))=false) auD)
  (he:autoParam (starEach (e::es) X.env=(false,eval e X.env)::starEach es X.env) auR)(hpl:autoParam ((backTo pos (starEach es X.env)).any (·.1)=false) auR):PE X (.Call (.Name x p) (e::es) [] pos) (tCB r t):=by
 intro pins s σ H Q I h
 refine wpAny_Call_Name_kw (Ku I hg hm hv ?_ hn hdb)
 exact PyProof.Rows.callWith_type1 (thn (ha pos pins s σ H _ I h) λus s1 ⟨vs,H1,I1,r1,q1⟩=>hc pins s1 σ H1 vs us Q I1 r1 q1) he hpl
end
end L2
namespace HT
open PySem PyProof.Rows
section
open PySem.SeqAt
open PySem.AutoSeq1 (wpAny_loadPart')
open PySem.MeetsSeq PySem.MeetsSeq2 PySem.MeetsSeq3
end
section
variable {prog:Program}{w:World}{A:Around}{E:Value->Shared->Prop}{s:Shared}
theorem qM(ht:IsTup s.heap t vs.toArray)(hb:IsTup s.heap b ws.toArray)(hv:vs≠[])
  (h1:ws=[]->Q (.ref t) s)(h2:ws≠[]->Q (.ref s.heap.objs.size) { s with heap:=s.heap.push { cls := .type "tuple",data := .seq (vs++ws).toArray } })
  (hsz:vs.length+ws.length<=az):wpAny (model prog w) A (binaryOp .Add (.ref t) (.ref b)) Q E s:=by
 obtain⟨⟨cls,dd,data,sl⟩,ho,hc,n,hd⟩:=id ht
 obtain⟨⟨cls2,dd2,data2,sl2⟩,ho2,hc2,n2,hd2⟩:=id hb
 simp only at hc hd hc2 hd2
 subst hc hd hc2 hd2
 have e:vs.toArray++ws.toArray=(vs++ws).toArray:=by simp
 by_cases hw:ws=[]
 ·exact concat_meets ⟨_,ho,rfl⟩ ⟨_,ho2,rfl⟩ noFill_tuple_add seq_tuple_add PySem.F.slot_tuple_add PySem.F.entry_tuple_add (PySem.F.args_tuple_add_2 _ _)
   (tuple_addW1 t b vs.toArray ws.toArray n n2 dd dd2 sl sl2 (by simpa using hv) (by simp[hw])) ⟨ho,ho2,h1 hw⟩
 ·refine concat_meets ⟨_,ho,rfl⟩ ⟨_,ho2,rfl⟩ noFill_tuple_add seq_tuple_add PySem.F.slot_tuple_add PySem.F.entry_tuple_add (PySem.F.args_tuple_add_2 _ _)
   (tuple_addW2 t b vs.toArray ws.toArray n n2 dd dd2 sl sl2 (by simpa using hv) (by simpa using hw) (by rw[size_toArray,size_toArray];exact hsz)) ⟨ho,ho2,?_⟩
  rw[e]
  exact h2 hw
noncomputable def sIx(n d:Nat):Option Int->Nat
 | none=>d
 | some v=>if v<0 then (v+(n:Int)).toNat else min v.toNat n
theorem Kx(n d:Nat):sIx n d none=d:=rfl
theorem Pj(n d k:Nat):sIx n d (some (k:Int))=min k n:=by
 show(if (k:Int)<0 then ((k:Int)+(n:Int)).toNat else min (k:Int).toNat n)=min k n
 rw[if_neg (by omega),Int.toNat_natCast]
end
end HT
namespace L2
open PySem PySem.Spec PyProof.Rows
abbrev TO:=St->Hp->(Option Int->Hp->Prop)->Prop
noncomputable def PO(X:Cx)(e:Option Expr)(t:TO):Prop :=
 ∀ (pins:List (Addr×Obj)) (s:Shared) (σ:St) (H:Hp) (Q:Option Int->Hp->Prop),Inv X pins σ H s->t σ H Q ->
  wpAny (model X.prog X.w) X.A (evalPart e X.env) (λu s'=>∃ o H',Inv X pins σ H' s'/\IsPart u o/\Q o H') X.xe s
noncomputable def qN:TO:=λ_ H Q=>Q none H
noncomputable def tPart(t:TE):TO:=λσ H Q=>t σ H λx H1=>∃ i,x = .int i/\Q (some i) H1
section
variable {X:Cx}{e:Expr}{te:TE}{lo hi:Option Expr}{tl th:TO}{pos p2:Pos}
theorem qO:PO X none qN:=by
 intro pins s σ H Q I h
 rw[evalPart_none]
 exact ak ⟨none,H,I,.none,h⟩
theorem qP(h:PE X e te):PO X (some e) (tPart te):=by
 intro pins s σ H Q I hw
 rw[evalPart_some]
 refine thn (h pins s σ H _ I hw) λu s1 zq=>?_
 obtain⟨x,H1,I1,r1,q1⟩:=zq
 obtain⟨i,rfl,q⟩:=q1
 obtain⟨t,rfl⟩:=r1
 exact⟨some i,H1,I1,.int i t,q⟩
noncomputable def SlR(X:Cx)(r:V->Option Int->Option Int->Hp->VK->Prop):Prop :=
 ∀ (pins:List (Addr×Obj)) (s:Shared) (σ:St) (H:Hp) (x:V) (v vl vu:Value) (lo hi:Option Int) (sl:Addr) (Q:VK),Inv X pins σ H s->RelV x v->s.heap.IsSliceOf sl vl vu .none->IsPart vl lo->IsPart vu hi->r x lo hi H Q ->
  ∃ T id,typeLookup (.type T) "__getitem__" = pure (some (.builtin id))/\s.TypeIs v T/\wpAny (model X.prog X.w) X.A (getItem v (.ref sl)) (EP X pins σ Q) X.xe s
theorem SlR.or(h:SlR X r)(h':SlR X r'):SlR X (λx lo hi H Q=>r x lo hi H Q\/r' x lo hi H Q):=by
 intro pins s σ H x v vl vu lo hi sl Q I rx hs pl pu q
 rcases q with q|q
 ·exact h pins s σ H x v vl vu lo hi sl Q I rx hs pl pu q
 ·exact h' pins s σ H x v vl vu lo hi sl Q I rx hs pl pu q
noncomputable def tSl(r:V->Option Int->Option Int->Hp->VK->Prop)(te:TE)(tl th:TO):TE:=λσ H Q=>te σ H λx H1=>tl σ H1 λl H2=>th σ H2 λu H3=>r x l u H3 Q
theorem vw(hr:SlR X r)(he:PE X e te)(hl:PO X lo tl)(hu:PO X hi th):PE X (.Subscript e (.Slice lo hi none p2) pos) (tSl r te tl th):=by
 intro pins s σ H Q I h
 refine Subscript_ (thn (he pins s σ H _ I h) λv s1 zq=>?_)
 obtain⟨x,H1,I1,r1,q1⟩:=zq
 refine wpAny_Slice (thn (hl pins s1 σ H1 _ I1 q1) λvl s2 ⟨l,H2,I2,pl,q2⟩=>thn (hu pins s2 σ H2 _ I2 q2) λvu s3 zq=>?_)
 obtain⟨u,H3,I3,pu,q3⟩:=zq
 rw[evalPart_none]
 refine ak ?_
 have I4:Inv X pins σ H3 { s3 with heap:=s3.heap.push { cls := .type "slice",data := .fields #[vl,vu,.none] } }:=I3.kept (t':=s3.toks) λb ob q=>ao _ q
 obtain⟨T,id,hT,ht,hg⟩:=hr pins { s3 with heap:=s3.heap.push { cls := .type "slice",data := .fields #[vl,vu,.none] } } σ H3 x v vl vu l u s3.heap.objs.size Q I4 r1 (Heap.IsSliceOf.new ..) pl pu q3
 show wpAny (model X.prog X.w) X.A (subscriptTail e (.Slice lo hi none p2) v (.ref s3.heap.objs.size)) (EP X pins σ Q) X.xe { s3 with heap:=s3.heap.push { cls := .type "slice",data := .fields #[vl,vu,.none] } }
 exact tail_any (ops:=[.ref s3.heap.objs.size,v]) ht hT hg (by with_unfolding_all rfl)
noncomputable def yk(xs:List V)(lo hi:Option Int):List V:=(xs.drop (HT.sIx xs.length 0 lo)).take (HT.sIx xs.length xs.length hi-HT.sIx xs.length 0 lo)
theorem FW(xs:List V)(lo hi:Option Int):(yk xs lo hi).length<=xs.length:=by
 unfold yk
 rw[length_take,length_drop]
 omega
noncomputable def rCatT(K:aa):R2:=λx y H Q=>∃ a b xs ys,x = .ref a/\y = .ref b/\SqT K H a xs/\SqT K H b ys/\xs≠[]/\xs.length+ys.length<=az /\
 (ys=[]->Q (.ref a) H)/\(ys≠[]->∀ p,H p=none->Q (.ref p) (upd H p (.tup (xs++ys))))
theorem Vals.HV(r:Vals xs us):us=[]↔xs=[]:=by
 cases r with
 | nil=>simp
 | cons _ _=>simp
theorem qQ:OpR X (binaryOp .Add) (rCatT X.K):=by
 intro pins s σ H x y v u Q I rx ry h
 obtain⟨a,b,xs,ys,rfl,rfl,ha,hb,hx,hz,q1,q2⟩:=h
 cases rx
 cases ry
 obtain⟨its,r1,p1,_⟩:=I.tuple ha
 obtain⟨its2,r2,p2,_⟩:=I.tuple hb
 refine HT.qM p1 p2 (λz=>hx (r1.HV.mp z)) (λz=>⟨.ref a,H,I,rfl,q1 (r2.HV.mp z)⟩) (λz=>?_) (by rw[<-r1.length,<-r2.length];exact hz)
 refine⟨.ref s.heap.objs.size,_,I.laid (t':=s.toks) (o := .tup (xs++ys)) (λb ob q=>ao _ q) (Nat.le_refl _) ?_,rfl,q2 (λw=>z (r2.HV.mpr w)) _ (I.hok.fresh (Nat.le_refl _))⟩
 exact⟨by rw[length_append];exact hz,_,r1.append r2,IsTup.new _ _⟩
end
noncomputable def ixN(n:Nat)(i:Int):Option Nat:=if 0<=i then (if i<n then some i.toNat else none) else if -(n:Int)<=i then some (i+n).toNat else none
noncomputable def atI(xs:List α)(i:Int):Option α:=(ixN xs.length i).bind λj=>xs[j]?
theorem Ap(h:ixN n i=some j):seqIndex? i n=some j/\j<n /\ -(n:Int)<=i/\i<n:=by
 unfold ixN at h
 by_cases h0:0<=i
 ·rw[if_pos h0]at h
  by_cases h1:i<n
  ·rw[if_pos h1]at h
   have e:i.toNat=j:=Option.some.inj h
   exact⟨by rw[seqIndex_of h0 h1,e],by omega,by omega,h1⟩
  ·rw[if_neg h1]at h;cases h
 ·rw[if_neg h0]at h
  by_cases h1 : -(n:Int)<=i
  ·rw[if_pos h1]at h
   have e:(i+n).toNat=j:=Option.some.inj h
   exact⟨by rw[seqIndex_neg (by omega) h1,e],by omega,h1,by omega⟩
  ·rw[if_neg h1]at h;cases h
theorem HW(h:atI xs i=some v):∃ j,seqIndex? i xs.length=some j/\xs[j]?=some v/\j<xs.length /\ -(xs.length:Int)<=i/\i<xs.length:=by
 unfold atI at h
 cases e:ixN xs.length i with
 | none=>rw[e]at h;cases h
 | some j =>
  rw[e]at h
  obtain⟨h1,h2,h3,h4⟩:=Ap e
  exact⟨j,h1,h,h2,h3,h4⟩
theorem YY{j:Nat}(h:xs[j]?=some v):atI xs (j:Int)=some v:=by
 have hj:j<xs.length:=(List.getElem?_eq_some_iff.mp h).1
 have e:ixN xs.length (j:Int)=some j:=by
  unfold ixN
  rw[if_pos (by omega),if_pos (by omega)];simp
 unfold atI;rw[e];exact h
theorem vx(xs:List α)(v:α):atI (xs++[v]) (-1)=some v:=by
 have hl:(xs++[v]).length=xs.length+1:=by simp
 have e:ixN (xs++[v]).length (-1)=some xs.length:=by
  unfold ixN
  rw[hl,if_neg (by decide),if_pos (by omega)]
  congr 1
  omega
 unfold atI
 rw[e]
 show(xs++[v])[xs.length]?=some v
 simp
noncomputable def Aq(b:Expr):Prop:=∀ o i,subscripted b false o i=operate [o,i] (getItem o i)
noncomputable def IxR(X:Cx)(r:R2):Prop :=
 ∀ (value slice:Expr) (pins:List (Addr×Obj)) (s:Shared) (σ:St) (H:Hp) (x y:V) (v u:Value) (Q:VK),Inv X pins σ H s->RelV x v->RelV y u->r x y H Q ->
  subscripted slice false v u=operate [v,u] (getItem v u)->wpAny (model X.prog X.w) X.A (subscriptTail value slice v u) (EP X pins σ Q) X.xe s
noncomputable def MtR(X:Cx)(id:String)(r:V->List V->Hp->VK->Prop):Prop :=
 ∀ (pins:List (Addr×Obj)) (s:Shared) (σ:St) (H:Hp) (x:V) (xs:List V) (v:Value) (us:List Value) (Q:VK),Inv X pins σ H s->RelV x v->Vals xs us->r x xs H Q ->
  wpAny (model X.prog X.w) X.A (call (.builtin id) (v::us)) (EP X pins σ Q) X.xe s
section
variable {X:Cx}{a b:Expr}{ta tb:TE}{pos:Pos}
theorem IxR.or(h:IxR X r)(h':IxR X r'):IxR X (λx y H Q=>r x y H Q\/r' x y H Q):=by
 intro value slice pins s σ H x y v u Q I rx ry q hs
 rcases q with q|q
 ·exact h value slice pins s σ H x y v u Q I rx ry q hs
 ·exact h' value slice pins s σ H x y v u Q I rx ry q hs
theorem pe_ix(hr:IxR X r)(ha:PE X a ta)(hb:PE X b tb)(hs:Aq b):PE X (.Subscript a b pos) (tOp r ta tb):=by
 intro pins s σ H Q I h
 exact Subscript_ (binT ha hb I h λv u s2 x y H2 I2 rx ry q=>hr a b pins s2 σ H2 x y v u Q I2 rx ry q (hs _ _))
noncomputable def rIxL(K:aa):R2:=λx y H Q=>∃ p xs i v,x = .ref p/\y = .int i/\SqL K H p xs/\atI xs i=some v/\Q v H
noncomputable def rIxT(K:aa):R2:=λx y H Q=>∃ p xs i v,x = .ref p/\y = .int i/\SqT K H p xs/\atI xs i=some v/\Q v H
noncomputable def rIxS:R2:=λx y H Q=>∃ z i c,x = .str z/\y = .int i/\z.length<=az/\atI z.cps.toList i=some c/\Q (.str ⟨#[c]⟩) H
theorem qR:IxR X (rIxL X.K):=by
 intro value slice pins s σ H x y v u Q I rx ry h hs
 obtain⟨p,xs,i,z,rfl,rfl,hq,he,q⟩:=h
 cases rx
 obtain⟨t,rfl⟩:=ry
 obtain⟨its,r,pl,hz⟩:=I.list hq
 obtain⟨j,h1,h2,h3,h4,h5⟩:=HW he
 obtain⟨w,ew,rw'⟩:=r.get h2
 have hl:=r.length
 have hn:=Oj
 have fin:EP X pins σ Q w s:=⟨z,H,I,rw',q⟩
 by_cases h0:0<=i
 ·have hj:i.toNat=j:=by
   rw[seqIndex_of h0 h5]at h1
   exact Option.some.inj h1
  exact item_listR pl.isList h0 (by omega) (by rw[hj];simpa using ew) fin hs
 ·have hj:(i+(its.toArray.size:Int)).toNat=j:=by
   rw[seqIndex_neg (by omega) h4]at h1
   rw[size_toArray,<-hl]
   exact Option.some.inj h1
  exact subscriptTail_builtinR (x:=w) pl.isList.typeIs slot_list_getitem.lookup
   (wpAny_getItem_list_neg (Q:=λr s'=>r=w/\EP X pins σ Q r s') pl.isList (by omega) (by rw[size_toArray]<;>omega) (by omega) (by rw[hj];simpa using ew) ⟨rfl,fin⟩) hs
theorem lE:IxR X (rIxT X.K):=by
 intro value slice pins s σ H x y v u Q I rx ry h hs
 obtain⟨p,xs,i,z,rfl,rfl,hq,he,q⟩:=h
 cases rx
 obtain⟨t,rfl⟩:=ry
 obtain⟨its,r,pl,hz⟩:=I.tuple hq
 obtain⟨j,h1,h2,h3,h4,h5⟩:=HW he
 obtain⟨w,ew,rw'⟩:=r.get h2
 have hl:=r.length
 have hn:=Oj
 have fin:EP X pins σ Q w s:=⟨z,H,I,rw',q⟩
 exact subscriptTail_builtinR (x:=w) pl.typeIs slot_tuple_getitem.lookup
  (getItem_tuple (j:=j) (Q:=λr s'=>r=w/\EP X pins σ Q r s') pl (by omega) (by omega) (by rw[size_toArray,<-hl];exact h1) (by simpa using ew) ⟨rfl,fin⟩) hs
theorem lF:IxR X rIxS:=by
 intro value slice pins s σ H x y v u Q I rx ry h hs
 obtain⟨z,i,c,rfl,rfl,hz,he,q⟩:=h
 obtain⟨t,rfl⟩:=rx
 obtain⟨t',rfl⟩:=ry
 obtain⟨j,h1,h2,h3,h4,h5⟩:=HW he
 have hl:z.cps.toList.length=z.length:=by simp[Str.length]
 rw[hl]at h1 h4 h5
 have hn:=Oj
 exact tail_any (typeIs_str s z t) slot_str_getitem.lookup (getItem_str (c:=c) (by
  have e1:decide (i < -(2^63:Int))=false:=decide_eq_false (by omega)
  have e2:decide (i >= 2^63)=false:=decide_eq_false (by omega)
  rw[e1,e2,Bool.or_false]) (by rw[h1];simpa using h2) ⟨.str ⟨#[c]⟩,H,I.tok _,⟨_,rfl⟩,q⟩) hs
noncomputable def rIx(K:aa):R2:=λx y H Q=>rIxL K x y H Q\/rIxT K x y H Q\/rIxS x y H Q
theorem lG:IxR X (rIx X.K):=qR.or (lE.or lF)
theorem Cp(its:List Value)(n j:Nat)(u:Value):Obj.mapSeq (·.setIfInBounds j u) { cls := .type "list",data := .seq its.toArray n }={ cls := .type "list",data := .seq (its.set j u).toArray n }:=by
 simp[Obj.mapSeq]
theorem Inv.lst(I:Inv X pins σ H s)(h:H p=some (.lst xs)) :
  ∃ (its:List Value) (n:Nat),Vals xs its/\s.heap.get? p=some { cls := .type "list",data := .seq its.toArray n }/\xs.length<=az:=by
 obtain⟨z,its,n,r,e⟩:=I.hok p _ h
 exact⟨its,n,r,e,z⟩
theorem Inv.lI{its its':List Value}{n n':Nat}{f:Obj->Obj}(I:Inv X pins σ H s)(h:H p=some (.lst xs))
  (ho:s.heap.get? p=some { cls := .type "list",data := .seq its.toArray n })(hf:f { cls := .type "list",data := .seq its.toArray n }={ cls := .type "list",data := .seq its'.toArray n' })(r:Vals ys its')(hz:ys.length<=az)(t:Nat) :
  Inv X pins σ (upd H p (.lst ys)) { s with heap:=s.heap.update p f,toks:=t }:=by
 have e:(s.heap.update p f).get? p=some { cls := .type "list",data := .seq its'.toArray n' }:=by
  rw[Heap.get?_update_self f ho (by rw[hf]<;>rfl),hf]
 refine I.write (x:=p) (e:=p) (by rw[h];trivial) (.inl rfl) (λb u hb q=>(Heap.get?_update_other _ _ (Ne.symm hb)).trans q) ⟨_,e⟩ ?_
 exact⟨hz,its',n',r,e⟩
noncomputable def nS:V->V->V->Hp->(Hp->Prop)->Prop:=λo i v H Q=>∃ p xs k j,o = .ref p/\i = .int k/\H p=some (.lst xs)/\ixN xs.length k=some j/\Q (upd H p (.lst (xs.set j v)))
theorem set_list:PSet X nS:=by
 intro pins s σ H o i v ov iv u Q I ro ri rv h
 obtain⟨p,xs,k,j,rfl,rfl,hp,hj,q⟩:=h
 cases ro
 obtain⟨t,rfl⟩:=ri
 obtain⟨its,n,r,ho,hz⟩:=I.lst hp
 obtain⟨h1,h2,h3,h4⟩:=Ap hj
 have hl:=r.length
 have hn:=Oj
 have I':Inv X pins σ (upd H p (.lst (xs.set j v))) { s with heap:=s.heap.update p (Obj.mapSeq (·.setIfInBounds j u)) } :=
  I.lI hp ho (Cp its n j u) (r.set rv j) (by rw[length_set];exact hz) s.toks
 by_cases h0:0<=k
 ·have hk:k.toNat=j:=by
   rw[seqIndex_of h0 h4]at h1
   exact Option.some.inj h1
  exact PySem.W.ki_setAt ho h0 (by omega) (by rw[size_toArray,<-hl];exact h4) (by rw[hk];exact⟨_,I',q⟩)
 ·have hk:(k+(its.toArray.size:Int)).toNat=j:=by
   rw[seqIndex_neg (by omega) h3]at h1
   rw[size_toArray,<-hl]
   exact Option.some.inj h1
  exact PySem.W.ki_setBack ho (by omega) (by rw[size_toArray,<-hl];exact h3) (by omega) (by rw[hk];exact⟨_,I',q⟩)
theorem HX(lo hi:Option Int)(n:Nat):(sliceBounds lo hi none n).1=((HT.sIx n 0 lo:Nat):Int)/\(sliceBounds lo hi none n).2.1=((HT.sIx n n hi:Nat):Int)/\(sliceBounds lo hi none n).2.2=1:=by
 refine⟨?_,?_,rfl⟩
 ·cases lo with
  | none=>simp[sliceBounds,HT.sIx]
  | some i =>
   simp only[sliceBounds,HT.sIx,Option.getD_none,show(1:Int) > 0 by decide,if_true]
   by_cases h:i<0
   ·simp only[h,if_true]<;>omega
   ·simp only[h,if_false]<;>omega
 ·cases hi with
  | none=>simp[sliceBounds,HT.sIx]
  | some i =>
   simp only[sliceBounds,HT.sIx,Option.getD_none,show(1:Int) > 0 by decide,if_true]
   by_cases h:i<0
   ·simp only[h,if_true]<;>omega
   ·simp only[h,if_false]<;>omega
theorem Ip(its:List Value)(lo hi:Option Int):slicePick its.toArray lo hi none=((its.drop (HT.sIx its.length 0 lo)).take (HT.sIx its.length its.length hi-HT.sIx its.length 0 lo)).toArray:=by
 obtain⟨h1,h2,h3⟩:=HX lo hi its.toArray.size
 unfold slicePick
 rw[h1,h2,h3]
 simp only[sliceRange_one,pick_run,size_toArray]<;>rfl
noncomputable def rSlL(K:aa):V->Option Int->Option Int->Hp->VK->Prop:=λx lo hi H Q=>∃ a xs,x = .ref a/\SqL K H a xs/\∀ p,H p=none->Q (.ref p) (upd H p (.lst (yk xs lo hi)))
theorem qS:SlR X (rSlL X.K):=by
 intro pins s σ H x v vl vu lo hi sl Q I rx hs pl pu h
 obtain⟨a,xs,rfl,hx,q⟩:=h
 cases rx
 obtain⟨its,r,ht,hz⟩:=I.list hx
 have hlen:=r.length
 refine⟨"list",_,slot_list_getitem.lookup,ht.isList.typeIs,?_⟩
 refine wpAny_getItem_list_slice ht.isList hs pl pu .none (by simp) ?_ (by rw[size_toArray]<;>omega)
 rw[Ip,<-hlen]
 refine⟨.ref s.heap.objs.size,_,I.laid (t':=s.toks) (o := .lst (yk xs lo hi)) (λb ob q=>ao _ q) (Nat.le_refl _) ?_,rfl,q _ (I.hok.fresh (Nat.le_refl _))⟩
 exact⟨Nat.le_trans (FW xs lo hi) hz,_,0,(r.drop (HT.sIx xs.length 0 lo)).take (HT.sIx xs.length xs.length hi-HT.sIx xs.length 0 lo),aq _ rfl⟩
noncomputable def Tz:V->Bool
 | .non=>true
 | .bl _=>true
 | .int _=>true
 | .str _=>true
 | _=>false
noncomputable def eqV:V->V->Bool
 | .non,.non=>true
 | .bl a,.bl b=>a==b
 | .bl a,.int b=>(if a then 1 else 0)==b
 | .int a,.bl b=>a==(if b then 1 else 0)
 | .int a,.int b=>a==b
 | .str a,.str b=>a==b
 | _,_=>false
theorem vy(ry:RelV y u)(rx:RelV x v)(fy:Tz y=true)(fx:Tz x=true):SeqAt.EqAt A s u v (eqV y x):=by
 cases y with
 | non =>
  cases ry
  cases x with
  | non=>cases rx;exact SeqAt.EqAt.same _
  | bl b=>cases rx;exact SeqAt.EqAt.none_bool b
  | int b=>obtain⟨t,rfl⟩:=rx;exact SeqAt.EqAt.none_int b t
  | str b=>obtain⟨t,rfl⟩:=rx;exact SeqAt.EqAt.none_str b t
  | _=>exact absurd (show false=true from fx) aC
 | bl a =>
  cases ry
  cases x with
  | non=>cases rx;exact SeqAt.EqAt.bool_none a
  | bl b=>cases rx;exact SeqAt.EqAt.bool_bool a b
  | int b=>obtain⟨t,rfl⟩:=rx;exact SeqAt.EqAt.bool_int a b t
  | str b=>obtain⟨t,rfl⟩:=rx;exact SeqAt.EqAt.bool_str a b t
  | _=>exact absurd (show false=true from fx) aC
 | int a =>
  obtain⟨t',rfl⟩:=ry
  cases x with
  | non=>cases rx;exact SeqAt.EqAt.int_none a t'
  | bl b=>cases rx;exact SeqAt.EqAt.int_bool a t' b
  | int b=>obtain⟨t,rfl⟩:=rx;exact SeqAt.EqAt.int_int a t' b t
  | str b=>obtain⟨t,rfl⟩:=rx;exact SeqAt.EqAt.int_str a t' b t
  | _=>exact absurd (show false=true from fx) aC
 | str a =>
  obtain⟨t',rfl⟩:=ry
  cases x with
  | non=>cases rx;exact SeqAt.EqAt.str_none a t'
  | bl b=>cases rx;exact SeqAt.EqAt.str_bool a t' b
  | int b=>obtain⟨t,rfl⟩:=rx;exact SeqAt.EqAt.str_int a t' b t
  | str b=>obtain⟨t,rfl⟩:=rx;exact SeqAt.EqAt.str_str a t' b t
  | _=>exact absurd (show false=true from fx) aC
 | _=>exact absurd (show false=true from fy) aC
noncomputable def eqU(x:V)(u:Value):Bool:=match u with
 | .none=>eqV .non x
 | .bool b=>eqV (.bl b) x
 | .int i _=>eqV (.int i) x
 | .str z _=>eqV (.str z) x
 | _=>false
theorem vz(r:RelV y u)(f:Tz y=true):eqU x u=eqV y x:=by
 cases y with
 | non=>cases r;rfl
 | bl b=>cases r;rfl
 | int i=>obtain⟨t,rfl⟩:=r;rfl
 | str z=>obtain⟨t,rfl⟩:=r;rfl
 | _=>exact absurd (show false=true from f) aC
theorem OZ:∀ {xs:List V}{us:List Value},Vals xs us->xs.all Tz=true->us.any (eqU x)=xs.any λy=>eqV y x
 | _,_,.nil,_=>rfl
 | y::xs,u::us,.cons r t,f=>by
  rw[all_cons,aD]at f
  rw[any_cons,any_cons,vz r f.1,OZ t f.2]
theorem Qn(rx:RelV x v)(fx:Tz x=true):∀ {xs:List V}{us:List Value},Vals xs us->xs.all Tz=true->∀ u∈us,SeqAt.EqAt A s u v (eqU x u)
 | _,_,.nil,_=>λu hu=>by cases hu
 | y::xs,u::us,.cons r t,f=>λu' hu=>by
  rw[all_cons,aD]at f
  rcases mem_cons.mp hu with rfl|hu
  ·rw[vz r f.1];exact vy r rx f.1 fx
  ·exact Qn rx fx t f.2 u' hu
noncomputable def inV(x:V)(xs:List V):Bool:=xs.any λy=>eqV y x
noncomputable def rIn(K:aa)(neg:Bool):R2:=λx y H Q=>∃ p xs,y = .ref p/\(SqL K H p xs\/SqT K H p xs)/\Tz x=true/\xs.all Tz=true/\Q (.bl (if neg then !inV x xs else inV x xs)) H
theorem yl:OpR X (compareOp .In) (rIn X.K false):=by
 intro pins s σ H x y v u Q I rx ry h
 obtain⟨p,xs,rfl,hq,fx,fs,q⟩:=h
 cases ry
 rcases hq with hq|hq
 ·obtain⟨its,r,pl,hz⟩:=I.list hq
  refine SeqAt.in_listAt (eqU x) pl.isList (λw hw=>Qn rx fx r fs w (by simpa using hw)) ⟨.bl _,H,I,rfl,?_⟩
  rw[show its.toArray.any (eqU x)=its.any (eqU x) by simp,OZ r fs]
  exact q
 ·obtain⟨its,r,pl,hz⟩:=I.tuple hq
  refine SeqAt.in_tupleAt (eqU x) pl (λw hw=>Qn rx fx r fs w (by simpa using hw)) ⟨.bl _,H,I,rfl,?_⟩
  rw[show its.toArray.any (eqU x)=its.any (eqU x) by simp,OZ r fs]
  exact q
theorem HY:OpR X (compareOp .NotIn) (rIn X.K true):=by
 intro pins s σ H x y v u Q I rx ry h
 obtain⟨p,xs,rfl,hq,fx,fs,q⟩:=h
 cases ry
 rcases hq with hq|hq
 ·obtain⟨its,r,pl,hz⟩:=I.list hq
  refine SeqAt.notIn_listAt (eqU x) pl.isList (λw hw=>Qn rx fx r fs w (by simpa using hw)) ⟨.bl _,H,I,rfl,?_⟩
  rw[show its.toArray.any (eqU x)=its.any (eqU x) by simp,OZ r fs]
  exact q
 ·obtain⟨its,r,pl,hz⟩:=I.tuple hq
  refine SeqAt.notIn_tupleAt (eqU x) pl (λw hw=>Qn rx fx r fs w (by simpa using hw)) ⟨.bl _,H,I,rfl,?_⟩
  rw[show its.toArray.any (eqU x)=its.any (eqU x) by simp,OZ r fs]
  exact q
theorem HZ:Xz X (.builtin "len") (λxs H Q=>∃ p ys,xs=[.ref p]/\(SqL X.K H p ys\/SqT X.K H p ys)/\Q (.int ys.length) H):=by
 intro pins s σ H xs us Q I r h
 obtain⟨p,ys,rfl,hq,q⟩:=h
 obtain⟨u,rfl,rx⟩:=vals1 r
 cases rx
 have hn:=Oj
 rcases hq with hq|hq
 ·obtain⟨its,r',pl,hz⟩:=I.list hq
  have hlen:=r'.length
  exact Calls.call_len_list pl.isList (by simp only[size_toArray]<;>omega) ⟨.int ys.length,H,I.tok _,⟨s.toks+1,by rw[size_toArray,hlen]⟩,q⟩
 ·obtain⟨its,r',pl,hz⟩:=I.tuple hq
  have hlen:=r'.length
  exact len_tuple pl (by simp only[size_toArray]<;>omega) ⟨.int ys.length,H,I.tok _,⟨s.toks+1,by rw[size_toArray,hlen]⟩,q⟩
theorem Ga:Xz X (.builtin "len") (λxs H Q=>∃ z,xs=[.str z]/\z.length<=az/\Q (.int z.length) H):=by
 intro pins s σ H xs us Q I r h
 obtain⟨z,rfl,hz,q⟩:=h
 obtain⟨u,rfl,t,rfl⟩:=vals1 r
 have hn:=Oj
 exact len_str (by omega) ⟨.int z.length,H,I.tok _,⟨_,rfl⟩,q⟩
theorem Xz.or(h:Xz X f r)(h':Xz X f r'):Xz X f (λxs H Q=>r xs H Q\/r' xs H Q):=by
 intro pins s σ H xs us Q I rs q
 rcases q with q|q
 ·exact h pins s σ H xs us Q I rs q
 ·exact h' pins s σ H xs us Q I rs q
theorem Gb:Xz X (.type "list") (λxs H Q=>∃ p ys,xs=[.ref p]/\(SqL X.K H p ys\/SqT X.K H p ys)/\∀ l,H l=none->Q (.ref l) (upd H l (.lst ys))):=by
 intro pins s σ H xs us Q I r h
 obtain⟨p,ys,rfl,hq,q⟩:=h
 obtain⟨u,rfl,rx⟩:=vals1 r
 cases rx
 have fin:∀ (its:List Value),Vals ys its->ys.length<=az->∀ (h':Heap) (c':Nat),(∀ b o',s.heap.get? b=some o'->h'.get? b=some o') ->
   h'.get? s.heap.objs.size=some { cls := .type "list",dict:=none,data := .seq its.toArray c',slots:=#[] }->EP X pins σ Q (.ref s.heap.objs.size) { s with heap:=h' }:=λits r' hz h' c' kp e =>
  ⟨.ref s.heap.objs.size,_,I.laid (t':=s.toks) kp (Nat.le_refl _) (show YC X.prog X.w _ h' _ (.lst ys) from⟨hz,its,c',r',e⟩),rfl,q _ (I.hok.fresh (Nat.le_refl _))⟩
 rcases hq with hq|hq
 ·obtain⟨its,r',pl,hz⟩:=I.list hq
  have hlen:=r'.length
  obtain⟨o,ho,hc,n,hd⟩:=pl.isList
  exact call_list_seq p (.inl rfl) ho hc hd (λh' c' kp e=>fin its r' hz h' c' kp e) (by simp only[size_toArray]<;>omega)
 ·obtain⟨its,r',pl,hz⟩:=I.tuple hq
  have hlen:=r'.length
  obtain⟨o,ho,hc,n,hd⟩:=pl
  exact call_list_seq p (.inr rfl) ho hc hd (λh' c' kp e=>fin its r' hz h' c' kp e) (by simp only[size_toArray]<;>omega)
theorem Iq:Xz X (.type "tuple") (λxs H Q=>∃ p ys,xs=[.ref p]/\((SqL X.K H p ys/\∀ l,H l=none->Q (.ref l) (upd H l (.tup ys)))\/(SqT X.K H p ys/\Q (.ref p) H))):=by
 intro pins s σ H xs us Q I r h
 obtain⟨p,ys,rfl,h⟩:=h
 obtain⟨u,rfl,rx⟩:=vals1 r
 cases rx
 rcases h with⟨hq,q⟩|⟨hq,q⟩
 ·obtain⟨its,r',pl,hz⟩:=I.list hq
  have hlen:=r'.length
  refine call_tuple_list pl.isList (λh' kp=>?_) (by simp only[size_toArray]<;>omega)
  have I1:Inv X pins σ H { s with heap:=h' }:=I.kept (t':=s.toks) kp
  have I2:Inv X pins σ (upd H h'.objs.size (.tup ys)) { s with heap:=h'.push { cls := .type "tuple",data := .seq its.toArray } } :=
   I1.laid (t':=s.toks) (λb o e=>ao _ e) (Nat.le_refl _) (show YC X.prog X.w _ _ _ (.tup ys) from⟨hz,its,r',IsTup.new _ _⟩)
  exact⟨.ref h'.objs.size,_,I2,rfl,q _ (I1.hok.fresh (Nat.le_refl _))⟩
 ·obtain⟨its,r',pl,hz⟩:=I.tuple hq
  exact call_tuple_same pl ⟨.ref p,H,I,rfl,q⟩
noncomputable def tyV(K:aa)(T:String)(x:V)(H:Hp):Prop:=match x with
 | .str _=>T = "str"
 | .int _=>T = "int"
 | .ref p=>(T = "list" /\ ∃ xs,SqL K H p xs)\/(T = "tuple" /\ ∃ o,K.lookup p=some o/\o.cls = .type "tuple" /\ o.dict=none) \/
   (T = "dict" /\ ((∃ kvs,H p=some (.dK kvs))\/∃ kvs,H p=some (.dT kvs)))\/(T = "set" /\ ∃ S n,H p=some (.set S n))
 | _=>False
theorem vA(I:Inv X pins σ H s)(r:RelV x v)(ty:tyV X.K T x H) :
  s.TypeIs v T/\∀ a,v = .ref a->∃ ob,s.heap.get? a=some ob/\ob.dict=none:=by
 cases x with
 | str z =>
  obtain⟨t,rfl⟩:=r
  cases (show T = "str" from ty)
  exact⟨typeIs_str s z t,λ_ e=>nomatch e⟩
 | int i =>
  obtain⟨t,rfl⟩:=r
  cases (show T = "int" from ty)
  exact⟨typeIs_int s i t,λ_ e=>nomatch e⟩
 | ref p =>
  cases r
  rcases ty with⟨rfl,xs,hq⟩|⟨rfl,o,hk,hc,hd⟩|⟨rfl,hk⟩|⟨rfl,S,n,hk⟩
  ·obtain⟨its,_,pl,_⟩:=I.list hq
   refine⟨pl.isList.typeIs,λa e=>?_⟩
   cases e
   obtain⟨o,n,e,c,hd,_⟩:=pl
   exact⟨o,e,hd⟩
  ·refine⟨⟨o,I.kIn p o hk,hc⟩,λa e=>?_⟩
   cases e
   exact⟨o,I.kIn _ o hk,hd⟩
  ·have z:∃ o,s.heap.get? p=some o/\o.ExactDict:=by
    rcases hk with⟨kvs,hk⟩|⟨kvs,hk⟩
    ·obtain⟨_,_,_,_,o,_,_,e,ex,_⟩:=I.hok p _ hk
     exact⟨o,e,ex⟩
    ·obtain⟨_,_,_,_,o,_,_,e,ex,_⟩:=I.hok p _ hk
     exact⟨o,e,ex⟩
   obtain⟨o,e,ex⟩:=z
   refine⟨⟨o,e,ex.1⟩,λa e2=>?_⟩
   cases e2
   exact⟨o,e,ex.2.1⟩
  ·obtain⟨o,_,_,_,e,ex,_⟩:=I.hok p _ hk
   refine⟨⟨o,e,ex.1⟩,λa e2=>?_⟩
   cases e2
   exact⟨o,e,ex.2.1⟩
 | _=>exact False.elim ty
noncomputable def tBM0(K:aa)(T:String)(r:V->List V->Hp->VK->Prop)(to:TE):TE:=λσ H Q=>to σ H λx H1=>tyV K T x H1/\r x [] H1 Q
noncomputable def tBM(K:aa)(T:String)(r:V->List V->Hp->VK->Prop)(to:TE)(t:TA):TE:=λσ H Q=>to σ H λx H1=>tyV K T x H1/\t σ H1 λxs H2=>r x xs H2 Q
variable {o e:Expr}{es:List Expr}{to:TE}{t:TA}{name:Str}{apos cpos:Pos}{T id:String}{r:V->List V->Hp->VK->Prop}
theorem lJ(pa:PlainAttrs T)(slot:Slot T name id)(hty:typeOf (.builtin id)=pure (.type "method_descriptor"))(hm:MtR X id r)(ho:PE X o to)
  (hbase:autoParam (attributeBase o name X.env (eval o X.env)=eval o X.env) auR)(hline:autoParam ((apos.endLine==cpos.line)=true) auR):PE X (.Call (.Attribute o name apos) [] [] cpos) (tBM0 X.K T r to):=by
 intro pins s σ H Q I h
 refine wpAny_Call_method0_late hbase hline (thn (ho pins s σ H _ I h) λv s1 zq=>?_)
 obtain⟨x,H1,I1,r1,ty,q1⟩:=zq
 obtain⟨h1,h2⟩:=vA I1 r1 ty
 exact⟨T,id,pa,slot,hty,h1,h2,Calls.callWith_builtin rfl (PySem.evalArgs_none (hm pins s1 σ H1 x [] v [] Q I1 r1 .nil q1))⟩
theorem Au(pa:PlainAttrs T)(slot:Slot T name id)(hty:typeOf (.builtin id)=pure (.type "method_descriptor"))(hm:MtR X id r)(ho:PE X o to)(ha:PA X (e::es) t)
  (hbase:autoParam (attributeBase o name X.env (eval o X.env)=eval o X.env) auR)
  (hfew:autoParam (((backTo cpos (starEach (e::es) X.env)).all (λx => !x.1)&&(backToKw cpos (keywordEach [] X.env)).all (λx=>x.1.isSome)
   && decide ((e::es).length+([]:List Keyword).length+(if ([]:List Keyword).isEmpty then 0 else 1)<30))=true) auR)
  (hline:autoParam ((apos.endLine==cpos.line)=true) auR)(hs:autoParam (starEach (e::es) X.env=(false,eval e X.env)::starEach es X.env) auR)(hplain:autoParam ((backTo cpos (starEach es X.env)).any (·.1)=false) auR) :
  PE X (.Call (.Attribute o name apos) (e::es) [] cpos) (tBM X.K T r to t):=by
 intro pins s σ H Q I h
 refine wpAny_Call_method_late hbase hfew hline rfl (thn (ho pins s σ H _ I h) λv s1 zq=>?_)
 obtain⟨x,H1,I1,r1,ty,q1⟩:=zq
 obtain⟨h1,h2⟩:=vA I1 r1 ty
 refine⟨T,id,pa,slot,hty,h1,h2,?_⟩
 have hA:=ha cpos pins s1 σ H1 _ I1 q1
 rw[hs]at hA⊢
 refine Calls.callWith_builtin (by show(false||(backTo cpos (starEach es X.env)).any (·.1))=false;rw[hplain]<;>rfl) (Calls.evalArgs_plain ?_)
 exact thn hA λus s2 ⟨vs,H2,I2,r2,q2⟩=>hm pins s2 σ H2 x vs v us Q I2 r1 r2 q2
/- xs.append(e),list.index on a module's tuple .. are MtR facts of 06m -/
end
noncomputable def MtM(X:Cx)(id:String)(r:V->List V->Hp->VK->Prop):Prop :=
 ∀ (pins:List (Addr×Obj)) (s:Shared) (σ:St) (H:Hp) (x:V) (xs:List V) (v:Value) (us:List Value) (Q:VK),Inv X pins σ H s->RelV x v->Vals xs us->r x xs H Q ->
  wpAny (model X.prog X.w) X.A (call (.builtin id) (v::us)) (EP X pins σ Q) X.xe s
theorem Vals.one(h:Vals [x] us):∃ u,us=[u]/\RelV x u:=by
 cases h with | cons r t=>cases t;exact⟨_,rfl,r⟩
theorem Vals.zero:∀ {us:List Value},Vals [] us->us=[]
 | _,.nil=>rfl
theorem Vals.rep(h:Vals xs us):∀ k:Nat,Vals (replicate k xs).flatten (replicate k us).flatten
 | 0 => .nil
 | k+1=>by
  rw[replicate_succ,replicate_succ,flatten_cons,flatten_cons]
  exact Vals.append h (Vals.rep h k)
theorem foldl_rep(its:List Value):∀ (k:Nat) (acc:List Value),
  foldl (λx1 x2=>x1++x2) acc.toArray (replicate k its.toArray)=(acc++(replicate k its).flatten).toArray
 | 0,acc=>by simp
 | k+1,acc=>by
  have e:acc.toArray++its.toArray=(acc++its).toArray:=by simp
  have e2:(acc++its)++(replicate k its).flatten=acc++(replicate (k+1) its).flatten:=by
   rw[replicate_succ,flatten_cons,append_assoc]
  rw[<-e2,<-foldl_rep its k (acc++its),<-e,replicate_succ,foldl_cons]
section
variable {X:Cx}{pins:List (Addr×Obj)}{σ:St}{H:Hp}{s:Shared}{l b:Addr}{xs ys zs:List V}
theorem Inv.lset{its its':List Value}(I:Inv X pins σ H s)(hH:H l=some (.lst xs))
  (e:s.heap.get? l=some { cls := .type "list",data := .seq its.toArray n })(hf:f its.toArray=its'.toArray)(hv:Vals ys its')(hz:ys.length<=az) :
  Inv X pins σ (upd H l (.lst ys)) { s with heap:=s.heap.update l (Obj.mapSeq f),toks:=t' }:=by
 have q:=PySem.IsL.update e f
 rw[hf]at q
 refine I.write (x:=l) (e:=l) (by rw[hH];exact trivial) (.inl rfl) (λb' u hb hu=>(Heap.get?_update_other s.heap (Obj.mapSeq f) (Ne.symm hb)).trans hu) ⟨_,q⟩ ?_
 exact⟨hz,its',_,hv,q⟩
theorem Inv.lnew(I:Inv X pins σ H s)(hv:Vals ys its)(hz:ys.length<=az) :
  Inv X pins σ (upd H s.heap.objs.size (.lst ys)) { s with heap:=s.heap.push { cls := .type "list",data := .seq its.toArray },toks:=t' } :=
 I.laid (λ_ _ q=>ao _ q) (Nat.le_refl _) ⟨hz,its,0,hv,aq _ rfl⟩
theorem Inv.fresh(I:Inv X pins σ H s):H s.heap.objs.size=none:=I.hok.fresh (Nat.le_refl _)
theorem Inv.Cq(I:Inv X pins σ H s)(hH:H l=some (.lst xs)):xs.length<=az/\∃ (its:List Value) (n:Nat),Vals xs its/\xs.length=its.length/\s.heap.get? l=some { cls := .type "list",data := .seq its.toArray n }:=by
 obtain⟨z,its,n,r,e⟩:=I.hok l _ hH
 exact⟨z,its,n,r,r.length,e⟩
theorem Qo(h:n<=az):Builtin.List.listTooLong n=false:=by
 unfold Builtin.List.listTooLong
 exact decide_eq_false (by omega)
end
section
variable {X:Cx}
noncomputable def Gc:V->List V->Hp->VK->Prop:=λx vs H Q=>∃ l xs y,x = .ref l/\vs=[y]/\H l=some (.lst xs)/\xs.length<az/\Q .non (upd H l (.lst (xs++[y])))
theorem Mi:MtM X "list.append" Gc:=by
 intro pins s σ H x vs v us Q I rx rv h
 obtain⟨l,xs,y,rfl,rfl,hH,hz,q⟩:=h
 cases rx
 obtain⟨u,rfl,ru⟩:=rv.one
 obtain⟨z,its,n,r,hl,e⟩:=I.Cq hH
 refine call_meets F.slot_list_append ⟨_,e,rfl⟩ F.entry_list_append (F.args_list_append_2 _ _) (PySem.list_append l its.toArray n u (by rw[size_toArray];omega)) ⟨e,?_⟩
 refine⟨.non,_,I.lset (its':=its++[u]) hH e (by simp) (r.append (.cons ru .nil)) ?_,rfl,q⟩
 rw[length_append,List.length_singleton]
 omega
noncomputable def Gd:V->List V->Hp->VK->Prop:=λx vs H Q=>∃ l b xs zs,x = .ref l/\vs=[.ref b]/\H l=some (.lst xs)/\H b=some (.lst zs)/\xs.length+zs.length<=az/\Q .non (upd H l (.lst (xs++zs)))
theorem ym:MtM X "list.extend" Gd:=by
 intro pins s σ H x vs v us Q I rx rv h
 obtain⟨l,b,xs,zs,rfl,rfl,hH,hB,hz,q⟩:=h
 cases rx
 obtain⟨u,rfl,ru⟩:=rv.one
 cases ru
 obtain⟨z,its,n,r,hl,e⟩:=I.Cq hH
 obtain⟨z2,its2,n2,r2,hl2,e2⟩:=I.Cq hB
 have hsz:its.toArray.size+its2.toArray.size<=az:=by rw[size_toArray,size_toArray];omega
 have hlong:¬ (!its.toArray.isEmpty&&Builtin.List.listTooLong (its.toArray.size+its2.toArray.size))=true:=by
  rw[Qo hsz,Bool.and_false]
  exact aC
 refine call_meets F.slot_list_extend ⟨_,e,rfl⟩ F.entry_list_extend (F.args_list_extend_2 _ _)
  (AutoSeq1.list_extend_list_list_0 l its.toArray n b its2.toArray n2 hlong (by rw[size_toArray];omega) (by omega)) ⟨e,e2,?_⟩
 refine⟨.non,_,I.lset (its':=its++its2) hH e (by simp) (r.append r2) ?_,rfl,q⟩
 rw[length_append]
 omega
noncomputable def rRep:R2:=λx y H Q=>∃ l k xs,x = .ref l/\y = .int k/\H l=some (.lst xs) /\ -(2^63)<=k/\k<2^63/\xs.length*k.toNat<=az /\
 ∀ p,H p=none->Q (.ref p) (upd H p (.lst (replicate k.toNat xs).flatten))
theorem len_rep(xs:List α)(k:Nat):(replicate k xs).flatten.length=k*xs.length:=by
 induction k with
 | zero=>simp
 | succ k ih=>rw[replicate_succ,flatten_cons,length_append,ih,Nat.succ_mul,Nat.add_comm]
theorem lK:OpR X (binaryOp .Mult) rRep:=by
 intro pins s σ H x y v u Q I rx ry h
 obtain⟨l,k,xs,rfl,rfl,hH,h1,h2,hz,q⟩:=h
 cases rx
 obtain⟨t,rfl⟩:=ry
 obtain⟨z,its,n,r,hl,e⟩:=I.Cq hH
 have hlen:its.toArray.size*k.toNat<=az:=by rw[size_toArray,<-hl];exact hz
 have hcap:¬ its.toArray.size*k.toNat > (2^63-1)/8:=by
  have:(az:Nat)<=(2^63-1)/8:=by decide
  omega
 have hfit:¬ (!Builtin.List.listFitsIndex k)=true:=by
  rw[fitsIndex_both h1 h2]
  exact aC
 have hlong:¬ Builtin.List.listTooLong (its.toArray.size*k.toNat)=true:=by
  rw[Qo hlen]
  exact aC
 have hnew:foldl (λx1 x2=>x1++x2) #[] (replicate (if its.toArray.isEmpty=true then 0 else k.toNat) its.toArray)=(replicate k.toNat its).flatten.toArray:=by
  have f0:∀ m:Nat,foldl (λx1 x2=>x1++x2) #[] (replicate m its.toArray)=(replicate m its).flatten.toArray:=λm=>by
   have:=foldl_rep its m []
   rw[List.nil_append]at this
   exact this
  rw[f0]
  cases its with
  | nil=>simp
  | cons a r'=>rw[if_neg (by simp)]
 refine wpAny_binaryOp_repeat_ref (T := "list") (U := "int") (by decide) ⟨_,e,rfl⟩ (λs'=>typeIs_int s' k t) noFill_list_mul F.fills_int_mul F.slot_int_rmul repeat_list F.slot_int_index.lookup
  (call_meets F.slot_int_rmul (typeIs_int s k t) F.entry_int_rmul (F.args_int_rmul_2 _ _) (int___rmul___int_list k t l its.toArray n)
   ⟨e,rfl,⟨_,e,rfl⟩,call_meets F.slot_list_mul ⟨_,e,rfl⟩ F.entry_list_mul (F.args_list_mul_2 _ _) (AutoListH.list___mul___list_int_3 l its.toArray n k t hfit hcap hlong) ⟨e,?_⟩⟩)
 rw[hnew]
 exact⟨.ref _,_,I.lnew (t':=s.toks) (r.rep k.toNat) (by rw[len_rep,Nat.mul_comm];exact hz),rfl,q _ I.fresh⟩
end
section
variable {prog:Program}{w:World}{A:Around}{E:Value->Shared->Prop}{s:Shared}
theorem Cr{a c n:Nat}(hac:a<=c)(hc:c<=n):sliceBounds (some (a:Int)) (some (c:Int)) none n=((a:Int),(c:Int),1):=by
 simp only[sliceBounds,Option.getD_none]
 have h1:¬ ((a:Int)<0):=by omega
 have h2:¬ ((c:Int)<0):=by omega
 simp only[h1,h2,if_false,show(1:Int) > 0 by decide,if_true]
 congr 1
 ·omega
 ·congr 1;omega
set_option maxRecDepth 100000 in
theorem qo{a c:Nat} 
    (e:s.heap.get? l=some { cls := .type "list",data := .seq items n })(e2:s.heap.get? b=some { cls := .type "list",data := .seq new n2 })(hne:l≠b)
    (hs:s.heap.IsSliceOf sl vl vu .none)(pl:IsPart vl (some (a:Int)))(pu:IsPart vu (some (c:Int)))(hac:a<=c)(hc:c<=items.size)
    (hsz:items.size+new.size<=az)(h:Q () { s with heap:=s.heap.update l (Obj.mapSeq λxs=>xs.extract 0 a++new++xs.extract c xs.size) }) :
    wpAny (model prog w) A (setItem (.ref l) (.ref sl) (.ref b)) Q E s:=by
  have hl:s.heap.IsList l items:=PySem.IsL.isList e
  have hb:s.heap.IsList b new:=PySem.IsL.isList e2
  obtain⟨os,hos,hcs,hds⟩:=id hs
  have hTs:s.TypeIs (.ref sl) "slice" := ⟨os,hos,hcs⟩
  have hstep:¬ ((rawPart none==rawInt 0)=true):=aC
  have hsame:Builtin.List.listSameRef (.ref l) (.ref b)=false:=by
    unfold Builtin.List.listSameRef
    exact beq_eq_false_iff_ne.mpr hne
  have hmax:(max (a:Int) (c:Int)).toNat=c:=by omega
  have hz':((λxs:Array Value=>xs.extract 0 a++new++xs.extract c xs.size) items).size<=az+1:=by
    simp only[Array.size_append,Array.size_extract]
    omega
  unfold setItem
  try with_reducible refine wpAny_holding ?_
  first | refine aj (ak ?_) | skip
  refine aj (wpAny_sequenceKey hl.typeIs (by decide) ?_)
  refine aj (wpAny_callSpecial?_slot (name:=aG "__setitem__") hl.typeIs slot_list_setitem
    (wpAny_call_entry slot_list_setitem hl.typeIs entry_list_setitem ?_ (args_list_setitem _ _ _)))
  show wpAny _ _ (Builtin.List.listSubscript? (.ref sl) >>= _) _ _ s
  refine aj ?_
  unfold Builtin.List.listSubscript?
  refine aj (wpAny_specialOf hTs slice_no_index ?_)
  simp only[Option.isNone_none,if_true]
  refine ak ?_
  show wpAny _ _ (typeOf (.ref sl) >>= _) _ _ s
  refine aj (wpAny_typeOf hTs ?_)
  first
    | rw[if_neg (by decide)]
    | refine PySem.W.KFB.if_not (by decide) ?_
  rw[listSliceParts_eq]
  refine aj (aj (wpAny_field hos hds (x := .none) rfl (aj (wpAny_listPart .none ?_))))
  rw[if_neg hstep]
  refine aj (wpAny_field hos hds (x:=vl) rfl (aj (wpAny_listPart pl ?_)))
  refine aj (wpAny_field hos hds (x:=vu) rfl (aj (wpAny_listPart pu (ak ?_))))
  first
    | simp only[hsame,Bool.false_eq_true,if_false]
    | refine PySem.W.KFB.if_not hsame ?_
    | (dsimp only
       rw[if_neg (by rw[hsame];exact aC)])
  refine aj (m:=Builtin.List.listAllItems (.ref b) "must assign iterable to extended slice") ?_
  unfold Builtin.List.listAllItems
  refine aj (wpAny_typeOf hb.typeIs ?_)
  first
    | refine PySem.W.KFB.if_so (by decide) ?_
    | rw[if_pos (by decide)]
    | simp only[beq_self_eq_true,Bool.true_or,if_true]
  unfold Builtin.List.listItems
  refine aj (wpAny_seqItems e2 rfl (ak ?_))
  refine aj (aj (wpAny_seqItems e rfl (ak ?_)))
  refine aj (wpAny_of_eq ((sliceIndices_raw (some (a:Int)) (some (c:Int)) none items.size (by simp)).trans (congrArg (pure:Int×Int×Int->Sem (Int×Int×Int)) (Cr hac hc))) ?_)
  show wpAny _ _ (if ((1:Int)==1)=true then _ else _) _ _ s
  rw[if_pos (by decide)]
  refine aj (wpAny_rule ?_)
  first
    | simp only[Qo hsz,Bool.false_eq_true,if_false]
    | refine PySem.W.KFB.if_not (Qo hsz) ?_
  first | refine aj (ak ?_) | skip
  show wpAny _ _ (updateSeq l (λxs=>xs.extract 0 ((a:Int)).toNat++new++xs.extract (max (a:Int) (c:Int)).toNat xs.size) >>= _) _ _ s
  rw[hmax,Int.toNat_natCast]
  refine aj (wpAny_updateSeq (hz:=Nat.le_trans (Nat.le_add_right _ _) hsz) (_hz':=hz') e rfl ?_)
  refine aj (wpAny_letGo ?_)
  first
    | exact aj (ak (ak ⟨.none,rfl,ak h⟩))
    | exact ak ⟨.none,rfl,ak h⟩
end
section
variable {X:Cx}
end
end L2
namespace Att
open PySem PySem.W PySem.Calls PyProof.Rows
theorem Lx:∀ (ns:List Int) (vs:List Value),WellAll P h vs (ns.map WData.int)->IntsAre vs ns:=by
 intro ns
 induction ns with
 | nil =>
  intro vs w
  rw[List.map_nil]at w
  cases w
  exact .nil
 | cons n ns ih =>
  intro vs w
  rw[map_cons]at w
  cases w with
  | cons a b =>
   cases a
   exact .cons _ _ (ih _ b)
theorem yn{l:OpenLaw}(hn:l.most=some n) 
  (hpre:l.row.toRowW.claim.pre args=true)(hwl:WellAll P h vals args) :
  ∃ a vs ns,vals=[Value.ref a]/\args=[WData.list (ns.map WData.int)]/\h.get? a=some { cls := .type "list",data := .seq vs.toArray }/\IntsAre vs ns/\ns.length<=n:=by
 have hsh:WShape.hasAll [] args [.list .int]=true:=(pre_splitW hpre).1
 have hc:l.pre.holds [] { args:=args }=true:=(pre_splitW hpre).2
 obtain⟨d,r,rfl,h1,h2⟩:=hasAllW_cons hsh
 obtain rfl:=hasAllW_nil h2
 obtain⟨xs,rfl,h3⟩:=hasW_list h1
 obtain⟨ns,rfl⟩:=items_int h3
 have hlen:ns.length<=n:=by
  unfold OpenLaw.pre at hc
  have h4:(WTm.not (.lt (.lit (.int (n:Int))) (.len (.arg 0)))).holds [] { args:=[.list (ns.map .int)] }=true:=by
   have h4:=(holds_andW hc).1
   rw[hn]at h4
   exact h4
  have h5:=condW_of h4 (w_not (w_lt w_lit (w_len_list (w_arg rfl))))
  rw[length_map]at h5
  refine Nat.le_of_not_lt λq=>?_
  have q':(n:Int)<((ns.length:Nat):Int):=by omega
  first
   | (rw[decide_eq_true q']at h5;exact absurd h5 (by decide))
   | (simp at h5;omega)
 cases hwl with
 | cons w1 w2 =>
  cases w2
  cases w1 with
  | list ho hall=>exact⟨_,_,ns,rfl,rfl,ho,Lx ns _ hall,hlen⟩
theorem yo(l:OpenLaw)(args:List WData):l.row.toRowW.claim.post args (.bool true) args=true :=
 postW_of (r:=l.row.toRowW) (X:=(true==true))
  (show WShape.has [] (.bool true) .bool=true by first | rfl | decide | simp[WShape.has,WShape.arms,WShape.armsAll])
  (show(WTm.eq .res (.lit (.bool true))).value [] { args:=args,res:=some (.bool true),after:=args }=some (.bool (true==true)) from w_eq_bool (w_res rfl) w_lit) rfl
theorem FX{l:OpenLaw}{d:DefRec}
  (hn:l.most=some n)(hdf:d.params.defaults=[])
  (call:∀ (w:World) (s₀ s₁:Shared) (mg mb:Str->Option Value) (fa:Addr) (o:Obj) (pm cd doc:Value) (a:Addr) (vs:List Value) (ns:List Int),
   Ground q loose [] XP w s₀ mg mb s₁.heap->YP w s₁.heap ->
   s₁.heap.get? fa=some o->o.data = .func (docDef d.name d.params d.body d.scope pm cd doc)->s₁.heap.CodeRec cd d.name->mg d.name=some (.ref fa) ->
   s₁.heap.get? a=some { cls := .type "list",data := .seq vs.toArray }->IntsAre vs ns->ns.length<=n->s₁.gens=#[] ->
   codeAny (model l.prog w) callerA (.call (.ref fa) ⟨[.ref a],[]⟩) (λr s'=>r = .ok (.ret (.bool true))/\OldK s₁.heap s'.heap/\s'.os=s₁.os/\AllBare s'.gens) s₁) :
  WalkO q loose XP YP l.row.toRowW d [] (λf vs=>PySem.call f vs):=by
 intro w s₀ s₁ mg mb G Y fa o pm cd doc dV kV ho hd hcd hD hmg hg args vals as hpre hlay hrd hwl hlo
 obtain rfl:dV = .none:=Dflts.none hD hdf
 obtain rfl:kV = .none:=Dflts.noKw hD
 obtain⟨a,vs,ns,rfl,rfl,hobj,hints,hlen⟩:=yn hn hpre hwl
 refine enter_call (codeAny_mono (call w s₀ s₁ mg mb fa o pm cd doc a vs ns G Y ho (fd_plain hd) hcd hmg hobj hints hlen hg) λr s' hq=>?_)
 obtain⟨rfl,h2,h3,h4⟩:=hq
 exact⟨.inl ⟨.bool true,.bool true,[],rfl,λ_=>rfl,.bool true,yo l _,λ_=>⟨List.Pairwise.nil,λ_ hm=>(nomatch hm)⟩⟩,h2,h3,h4⟩
section
variable {prog:Program}{w:World}{A:Around}{E:Value->Shared->Prop}{s:Shared}{K:Frag}
end
end Att
namespace L2
open PySem PySem.Spec PyProof.Rows
theorem Hm:∀ {vs:List Value}{ns:List Int},IntsAre vs ns->Vals (ns.map V.int) vs
 | _,_,.nil => .nil
 | _,_,.cons n t h => .cons ⟨t,rfl⟩ (Hm h)
noncomputable def Only(H:Hp):Prop:=∀ b,H b=none\/∃ o xs,H b=some (.frz o (.lst xs))
theorem vB{K:aa}{fa a:Addr}{fd:FuncData}{x:Str}{sp:Sp}{s₁:Shared}{vs:List Value}{ns:List Int}
  (KX:K.In s₁.heap)(hns:s₁.heap.Ns mainGlobals mg)(hb:s₁.heap.Ns builtinsNs mb)(hbb:∀ x:Str,x ≠ "__name__" -> mb x=bootBuiltins x)(hlim:s₁.heap.NoLimit)(hg:s₁.gens=#[])
  (ha:s₁.heap.get? a=some { cls := .type "list",data := .seq vs.toArray })(hi:IntsAre vs ns)(hl:ns.length<=az)(hr:XA k callerA)
  (F:∀ base:Heap,K.In base->base.Ns mainGlobals mg->ZL P w K mg base CX k fa fd [x] sp)(hbind:∀ (s:Shared) (u:Value),BindsTo s fd ⟨[u],[]⟩ [(x,u)])
  (hsp:∀ H:Hp,Only H->SqL K H a (ns.map V.int)->sp [.ref a] H (λv _=>v = .bl true) λ_ _ _=>False)
  (hCX:∀ H e s',CX [] H s₁ (λ_ _ _=>False) e s'->False) :
  codeAny (model P w) callerA (.call (.ref fa) ⟨[.ref a],[]⟩) (λr s'=>r = .ok (.ret (.bool true))/\OldK s₁.heap s'.heap/\s'.os=s₁.os/\AllBare s'.gens) s₁:=by
 have rv:=Hm hi
 have lenV:=hi.length
 -- from an abstract heap in which nothing but the script may be tracked
 have core:∀ H:Hp,Only H->SqL K H a (ns.map V.int)->HOk P w H s₁.heap->(∀ b,H b≠none->b=a)->(H a≠none->K.lookup a=none) ->
   codeAny (model P w) callerA (.call (.ref fa) ⟨[.ref a],[]⟩) (λr s'=>r = .ok (.ret (.bool true))/\OldK s₁.heap s'.heap/\s'.os=s₁.os/\AllBare s'.gens) s₁:=by
  intro H hO hS hok hA hK
  have base_of:∀ {b:Addr}{o:Obj},s₁.heap.get? b=some o->H b=none->(HP s₁.heap H).get? b=some o:=λe n=>wV e n
  have noA:∀ {b:Addr}{o:Obj}{es:Array DictEntry}{ep:Nat},s₁.heap.get? b=some o->o.data = .dict es ep->H b=none:=λ{b o es ep} e d=>by
   cases q:H b with
   | none=>rfl
   | some u =>
    have e':b=a:=hA b (by rw[q];simp)
    subst e'
    rw[ha]at e;cases e
    have d':Data.seq vs.toArray _=Data.dict es ep:=d
    cases d'
  have nsK:∀ {b:Addr}{m:Str->Option Value},s₁.heap.Ns b m->(HP s₁.heap H).Ns b m:=λ{b m} ⟨o,es,ep,e,d,r⟩=>⟨o,es,ep,base_of e (noA e d),d,r⟩
  have hKb:K.In (HP s₁.heap H):=λb o e=>base_of (KX b o e) (by
   cases q:H b with
   | none=>rfl
   | some u =>
    have e':b=a:=hA b (by rw[q];simp)
    subst e'
    rw[hK (by rw[q];simp)]at e;cases e)
  have hM:Mod K mg (HP s₁.heap H):=⟨hKb,nsK hns,⟨mb,nsK hb,hbb⟩,let ⟨mc,h1,h2⟩:=hlim;⟨mc,nsK h1,h2⟩⟩
  have e0:HU P w K mg (HP s₁.heap H) callerA [] s₁ H:=⟨rfl,hM,λb o e=>qz e,Nat.le_of_eq (zY _ _),trivial,λb hb=>absurd (show b∈([]:List Addr) from hb) (by simp),hok,.of_eq hg⟩
  refine codeAny_mono ((F _ hKb (nsK hns)).run callerA [] s₁ H ⟨[.ref a],[]⟩ [.ref a] [.ref a] _ _ hr e0 (hbind s₁ (.ref a)) (.cons rfl .nil) (hsp H hO hS)) λr s' h=>?_
  cases r with
  | error e=>exact(hCX H e s' h).elim
  | ok fl =>
   cases fl with
   | next=>exact False.elim h
   | brk=>exact False.elim h
   | cont=>exact False.elim h
   | ret u =>
    obtain⟨v,H',os,bare,un,hok',r',q⟩:=h
    have q':v = .bl true:=q
    subst q'
    obtain rfl:u=Value.bool true:=r'
    refine⟨rfl,OldK.of_keep λb o e=>?_,os,bare⟩
    cases q:H b with
    | none=>exact un.keep b o e q (by intro z;exact absurd (show b∈([]:List Addr) from z) (by simp)) (by simp)
    | some u =>
     rcases hO b with z|⟨ob,xs,z⟩
     ·rw[q]at z;cases z
     ·have z2:=un.frzs b ob _ z
      obtain⟨e1,_⟩:=hok b _ z
      obtain⟨e2,_⟩:=hok' b _ z2
      rw[e]at e1;cases e1
      exact e2
 cases hk:K.lookup a with
 | some o =>
  -- the script is one of the module's own objects
  have e:=KX a o hk
  rw[ha]at e
  cases e
  refine core (λ_=>none) (λ_ => .inl rfl) (.inr ⟨_,vs.toArray,_,hk,rfl,rfl,rfl,by rw[size_toArray,lenV];exact hl,by simpa using rv⟩) (λb u z=>by have z':(none:Option HO)=some u:=z;cases z') (λb z=>absurd rfl z) λz=>absurd rfl z
 | none =>
  refine core (λb=>if b=a then some (.frz { cls := .type "list",data := .seq vs.toArray } (.lst (ns.map V.int))) else none) (λb=>?_) (.inl (.inr ⟨{ cls := .type "list",data := .seq vs.toArray },if_pos rfl⟩)) (λb u z=>?_) (λb z=>?_) λ_=>hk
  ·by_cases hb:b=a
   ·exact .inr ⟨_,_,if_pos hb⟩
   ·exact .inl (if_neg hb)
  ·by_cases hb:b=a
   ·have z':=(if_pos hb).symm.trans z
    cases z'
    subst hb
    exact⟨ha,by rw[length_map];exact hl,vs,_,rv,ha⟩
   ·have z':=(if_neg hb).symm.trans z
    cases z'
  ·by_cases hb:b=a
   ·exact hb
   ·exact absurd (if_neg hb) z
theorem Av{l:PySem.W.OpenLaw}{d:DefRec}{K:Params->aa}{CX:World->CXT}{sp:World->Sp}{x:Str}
  (hn:l.most=some n)(hn2:n<=az)(hdf:d.params.defaults=[])(hr:XA k callerA)
  (hY:∀ (w:World) (h:Heap),YP w h->(K w.params).In h)
  (F:∀ (w:World) (mg:Str->Option Value) (fa:Addr) (h:Heap),(K w.params).In h->h.Ns mainGlobals mg->mg d.name=some (.ref fa) ->
   ∃ fd:FuncData,(∀ (s:Shared) (u:Value),BindsTo s fd ⟨[u],[]⟩ [(x,u)]) /\
    ∀ base:Heap,(K w.params).In base->base.Ns mainGlobals mg->ZL l.prog w (K w.params) mg base (CX w) k fa fd [x] (sp w))
  (hsp:∀ (w:World) (H:Hp) (a:Addr) (ns:List Int),ns.length<=n->Only H->SqL (K w.params) H a (ns.map V.int)->sp w [.ref a] H (λv _=>v = .bl true) λ_ _ _=>False)
  (hCX:∀ (w:World) (H:Hp) (s:Shared) (e:Value) (s':Shared),CX w [] H s (λ_ _ _=>False) e s'->False) :
  PySem.W.WalkO q loose XP YP l.row.toRowW d [] (λf vs=>PySem.call f vs):=by
 refine Att.FX hn hdf λw s₀ s₁ mg mb fa o pm cd doc a vs ns G Y ho hd hcd hmg hobj hints hlen hg=>?_
 have KX:=hY w _ Y
 obtain⟨fd,hb,hF⟩:=F w mg fa _ KX G.T.g hmg
 exact vB KX G.T.g G.T.b G.T.builtins G.T.nolimit hg hobj hints (Nat.le_trans hlen hn2) hr hF hb (λH hO hS=>hsp w H a ns hlen hO hS) λH e s'=>hCX w H s₁ e s'
end L2
/- THE LAST THEOREM (shape;LID,My.* are yours):
   My.Adr: a structure of the addresses that your layer names (classes,functions);My.Txt K t: a structure (Prop) of the equations over K;
   My.txt_mk:{K}{implicit addresses ..}(e1:nsIn K mainGlobals "law" = some (some (.ref f))) (e2:K.lookup f=some ⟨oc,od,.func (fnOf "law" "law" params body scope dV kV doc pm an cdv ct),sl⟩) (e3:codeIn K cdv "law" = true) ..:∃ t,My.Txt K t
set_option maxRecDepth 100000 in
set_option maxHeartbeats 0 in
theorem PySem.Challenge.cw_LID_holds:PySem.Challenge.rw_LID.Holds:=by
 w_on;o_law;k_head;(case hw=>w_witness2)
 k_fill
 refine L2.Av (l:=PySem.Challenge.rw_LID) (n:=63) (k:=40) (x := "script") (CX:=λw => ..) (sp:=λ_=>My.sp_law) rfl (by decide) rfl ⟨rfl,by decide,by decide⟩ (λw h Y=>PySem.W.kIn_of Y) ?F ?S ?C
 case F =>
  intro w mg fa h KX G hmg
  have T:∃ t,My.Txt (L2.KOf KX) t:=by
   dsimp only[L2.KOf]                          -- K must stand as «<heap const> w.params» for k_is
   refine' My.txt_mk ?e1 ?e2 ?e3 ..
   (case e1=>PySem.W.k_is)                    -- in the order: a name -> its address -> its object -> its parts
   (case e2=>PySem.W.k_is)
   ..
  obtain⟨t,T⟩:=T
  have e0:=hmg.symm.trans (mg_of KX G T.law)
  cases e0                                       -- fa is the law's own address
  exact⟨_,λs u => .of_eq rfl,λbase kb nb=>My.law_fn T kb nb⟩     -- if «.of_eq rfl» comes too early: refine'⟨_,?b,λbase kb nb=>My.law_fn T kb nb⟩;exactλs u => .of_eq rfl
 case S=>exactλw H a ns hl hO hS => ..
 case C=>exact ..
(the tactic k_is has no namespace: write k_is) -/
namespace L2
open PySem PySem.Spec PyProof.Rows
noncomputable def inClass(s:Stmt)(j:Nat):Stmt:=match s with
 | .ClassDef _ _ _ body _ _ _ _ _ _ _=>body.getD j (.Pass ⟨0,0,0,0⟩)
 | _ => .Pass ⟨0,0,0,0⟩
noncomputable def XI(s:Stmt):Arguments:=match s with
 | .FunctionDef _ a _ _ _ _ _ _ _ _=>a
 | _=>{ posonlyargs:=[],args:=[],vararg:=none,kwonlyargs:=[],kw_defaults:=[],kwarg:=none,defaults:=[] }
noncomputable def Ye(s:Stmt):List Stmt:=match s with
 | .FunctionDef _ _ b _ _ _ _ _ _ _=>b
 | _=>[]
noncomputable def Zf(s:Stmt):Scope:=match s with
 | .FunctionDef _ _ _ _ _ _ sc _ _ _=>sc
 | _=>{ kind := .function,names:=[],isGenerator:=false,isCoroutine:=false }
abbrev CX0:CXT:=λ_ _ _ _ _ _=>False
structure Fun (K:aa)(x qual:Str)(st:Stmt)(f:Addr)(fd:FuncData):Prop where
 ex:∃ (oc:Value) (od:Option Addr) (kV doc pm:Value) (an:Option Addr) (cdv ct:Value) (osl:Array (Option Value)),
  fd=PySem.W.fnOf x qual (XI st) (Ye st) (Zf st) .none kV doc pm an cdv ct/\K.lookup f=some ⟨oc,od,.func fd,osl⟩/\PySem.W.codeIn K cdv qual=true
 kp:keepIn K (.ref f)=true
section
variable {P:Program}{w:World}{K:aa}{mg:Str->Option Value}{base:Heap}
theorem Fun.ok{st:Stmt}{fd:FuncData}{sp:Sp}(F:Fun K x qual st f fd)(S:Zn N ps (Zf st))(len:∀ vs H Q E,sp vs H Q E->vs.length=ps.length)
  (hbody:∀ (cdv:Value) (A:Around) (outer:List Env) (s:Shared) (H:Hp) (vs:List V) (Q:VK) (E:XK),XA k (A.deeper (envOfC qual (Zf st) s.heap.objs.size f cdv))->sp vs H Q E ->
   ∃ t,PSs (ZS CX0 P w K mg base N qual (Zf st) f cdv A outer s H E).nox (Ye st) t/\t { nx:=λ_ H'=>Q .non H',rt:=Q } (start N vs) H):ZL P w K mg base CX0 (k+1) f fd ps sp:=by
 obtain⟨oc,od,kV,doc,pm,an,cdv,ct,osl,rfl,lk,hcd⟩:=F.ex
 refine vq lk hcd S len λA outer s H vs Q E hr hsp=>?_
 obtain⟨t,h,q⟩:=hbody cdv A outer s H vs Q E hr hsp
 exact⟨t,h.nox,q⟩
theorem Fun.binds{st:Stmt}(F:Fun K x qual st f fd)
  (h:∀ (kV doc pm:Value) (an:Option Addr) (cdv ct:Value) (us:List Value),us.length=ps.length->bindArgs (PySem.W.fnOf x qual (XI st) (Ye st) (Zf st) .none kV doc pm an cdv ct) ⟨us,[]⟩=pure (ps.zip us)):Binds K fd ps []:=by
 obtain⟨oc,od,kV,doc,pm,an,cdv,ct,osl,rfl,lk,hcd⟩:=F.ex
 exact .all (h kV doc pm an cdv ct)
theorem Mj{st:Stmt}{kV doc pm cdv ct:Value}(l:K.lookup f=some ⟨oc,od,.func (PySem.W.fnOf x qual (XI st) (Ye st) (Zf st) .none kV doc pm an cdv ct),osl⟩)
  (c:PySem.W.codeIn K cdv qual=true)(k:keepIn K (.ref f)=true):Fun K x qual st f (PySem.W.fnOf x qual (XI st) (Ye st) (Zf st) .none kV doc pm an cdv ct):=⟨⟨oc,od,kV,doc,pm,an,cdv,ct,osl,rfl,l,c⟩,k⟩
end
section
variable {X:Cx}
theorem pv(i:Nat)(hN:autoParam (X.N[i]?=some x) auR)(hv:Vis X.env.scope x:=by first | exact Or.inl rfl | exact Or.inr (Or.inl rfl) | exact Or.inr (Or.inr rfl))(hd:autoParam ((x==("__debug__" : Str))=false) auD)
  (hcd:autoParam ((x==("__classdict__" : Str))=false) auD):PE X (.Name x pos) (tVar i):=mK hN hv hd hcd
end
noncomputable def ZA(H H':Hp):Prop:=∀ b o,H b=some o->H' b=some o
theorem ZA.refl(H:Hp):ZA H H:=λ_ _ h=>h
theorem ZA.trans(a:ZA H H1)(b:ZA H1 H2):ZA H H2:=λc o h=>b c o (a c o h)
theorem ZA.free(e:ZA H H')(h:H' l=Option.none):H l=Option.none:=by
 cases q:H l with
 | none=>rfl
 | some o =>
  rw[e l o q]at h
  cases h
theorem ZA.seq{K:aa}(e:ZA H H')(h:SqL K H a xs):SqL K H' a xs:=by
 rcases h with (h|⟨o,h⟩)|h
 ·exact .inl (.inl (e _ _ h))
 ·exact .inl (.inr ⟨o,e _ _ h⟩)
 ·exact .inr h
section
variable {κ:Type} [DecidableEq κ]
noncomputable def putK(kvs:List (κ×V))(k:κ)(v:V):List (κ×V) :=
 if (kvs.any λkv=>decide (kv.1=k))=true then kvs.map (λkv=>if kv.1=k then (kv.1,v) else kv) else kvs++[(k,v)]
theorem KV.any(r:KV kvs vs)(k:κ):(kvs.any λkv=>decide (kv.1=k))=vs.any λkv=>decide (kv.1=k):=by
 unfold KV at r
 induction r with
 | nil=>rfl
 | cons h t ih=>rw[any_cons,any_cons,ih,h.1]
theorem KV.repl(r:KV kvs vs)(k:κ)(ry:RelV y u) :
  KV (kvs.map λkv=>if kv.1=k then (kv.1,y) else kv) (vs.map λkv=>if kv.1=k then (kv.1,u) else kv):=by
 unfold KV at r⊢
 induction r with
 | nil=>exact .nil
 | @cons p q ps qs h t ih =>
  rw[map_cons,map_cons]
  refine .cons ?_ ih
  obtain⟨h1,h2⟩:=h
  by_cases e:p.1=k
  ·rw[if_pos e,if_pos (h1.symm.trans e)];exact⟨h1,ry⟩
  ·rw[if_neg e,if_neg (λz=>e (h1.trans z))];exact⟨h1,h2⟩
theorem KV.put(r:KV kvs vs)(k:κ)(ry:RelV y u):KV (putK kvs k y) (stored vs k u):=by
 unfold putK stored
 rw[r.any k]
 by_cases e:(vs.any λkv=>decide (kv.1=k))=true
 ·rw[if_pos e,if_pos e];exact r.repl k ry
 ·rw[if_neg e,if_neg e];exact Paired.snoc r ⟨rfl,ry⟩
theorem KV.length(r:KV kvs vs):kvs.length=vs.length:=Paired.length r
end
section
end
section
variable {X:Cx}{pins:List (Addr×Obj)}{σ:St}{H:Hp}{s:Shared}{a:Addr}{y v:V}{u r:Value}{o:Option V}{A:Around}{E:Value->Shared->Prop}
theorem Inv.big(I:Inv X pins σ H s):sysModules<s.heap.objs.size:=by
 have h:mainGlobals<s.heap.objs.size:=(I.mod.glob.keeps I.bk).lt
 exact Nat.lt_trans (by decide) h
end
section
end
section
end
section
end
noncomputable def Ky(kvs more:List (Key×V)):List (Key×V):=more.foldl (λacc kv=>putK acc kv.1 kv.2) kvs
section
end
section
end
section
end
section
end
noncomputable def Bd(n:Nat)(i:Int):Prop:=i.natAbs<2^n
theorem Bd.mono(h:Bd n i)(k:n<=m):Bd m i:=Nat.lt_of_lt_of_le h (Nat.pow_le_pow_right (by decide) k)
theorem Bd.bits(h:Bd n i):Builtin.Int.intBits i<=n:=by
 unfold Builtin.Int.intBits
 split
 ·exact Nat.zero_le _
 ·rename_i h0
  have hn:i.natAbs≠0:=by
   intro z
   apply h0
   have:i=0:=by omega
   simp[this]
  have:i.natAbs.log2<n:=(Nat.log2_lt hn).mpr h
  omega
theorem Bd.log(h:Bd n i)(k:n<=9000):i.natAbs.log2<9000:=by
 rcases Nat.eq_zero_or_pos i.natAbs with h0|hp
 ·rw[h0];decide +kernel
 ·exact(Nat.log2_lt (by omega)).mpr (Nat.lt_of_lt_of_le h (Nat.pow_le_pow_right (by decide) k))
theorem Bd.of(a : -(2^n)<i)(b:i<2^n):Bd n i:=by
 unfold Bd
 have e:((2^n:Nat):Int)=2^n:=by norm_cast
 omega
theorem Bd.le(h:Bd n i)(k:j.natAbs<=i.natAbs):Bd n j:=Nat.lt_of_le_of_lt k h
section
noncomputable def CMulB(i j:Int):Prop:=Bd 100000 i/\Bd 100000 j
noncomputable def CDivB(i j:Int):Prop:=j≠0/\Bd 9000 j
theorem vC:OpR X (binaryOp .FloorDiv) (rI CDivB λi j => .int (i.fdiv j)):=opI λ_ _ _ _ _ _ _ hc q =>
 floordiv_int hc.1 q (.inl (PyProof.noPylong_of_log2 (hc.2.log (Nat.le_refl _))))
noncomputable def rCatL(K:aa):R2:=λx y H Q=>∃ l b xs zs,x = .ref l/\y = .ref b/\SqL K H l xs/\SqL K H b zs/\xs.length+zs.length<=az/\∀ p,H p=none->Q (.ref p) (upd H p (.lst (xs++zs)))
theorem qT:OpR X (binaryOp .Add) (rCatL X.K):=by
 intro pins s σ H x y v u Q I rx ry h
 obtain⟨l,b,xs,zs,rfl,rfl,hH,hB,hz,q⟩:=h
 cases rx
 cases ry
 obtain⟨its,r,p,z⟩:=I.list hH
 obtain⟨its2,r2,p2,z2⟩:=I.list hB
 obtain⟨⟨cls,dd,data,sl⟩,n,ho,hc,_,hd⟩:=id p
 obtain⟨⟨cls2,dd2,data2,sl2⟩,n2,ho2,hc2,_,hd2⟩:=id p2
 simp only at hc hd hc2 hd2
 subst hc hd hc2 hd2
 have hl1:=r.length
 have hl2:=r2.length
 refine concat_meets ⟨_,ho,rfl⟩ ⟨_,ho2,rfl⟩ noFill_list_add seq_list_add PySem.F.slot_list_add PySem.F.entry_list_add (PySem.F.args_list_add_2 _ _) (list_addW l b its.toArray its2.toArray n n2 dd dd2 sl sl2 (by rw[size_toArray,size_toArray];omega)) ⟨ho,ho2,?_⟩
 have ea:its.toArray++its2.toArray=(its++its2).toArray:=by simp
 rw[ea]
 exact⟨.ref _,_,I.lnew (t':=s.toks) (r.append r2) (by rw[length_append];omega),rfl,q _ I.fresh⟩
theorem vD(h:Tz x=true):eqV x x=true:=by
 cases x<;>simp_all [eqV,Tz]
noncomputable def rIsi(K:aa):List V->Hp->VK->Prop:=λxs H Q=>∃ x c cv t b,xs=[x,c]/\(∀ u,RelV c u->u=cv)/\OY K H x t/\kitOne K t cv=some b/\Q (.bl b) H
theorem vE:Xz X (.builtin "isinstance") (rIsi X.K):=by
 intro pins s σ H xs us Q I r h
 obtain⟨x,c,cv,t,b,rfl,hc,ty,e,q⟩:=h
 obtain⟨u,w',rfl,r1,r2⟩:=vals2 r
 cases hc _ r2
 exact yi I r1 ty e λtk=>⟨.bl b,H,I.tok tk,rfl,q⟩
end
section
end
section
noncomputable def Lq(i j:Int):Prop:=CMul i j\/CMulB i j
theorem qU:OpR X (binaryOp .Mult) (rI Lq λi j => .int (i*j)):=opI λ_ _ _ _ _ _ _ hc q=>by
 rcases hc with hc|hc
 ·exact mul_int q hc.ok
 ·exact mul_int q (IntMulOk.of_bits (Nat.le_trans hc.1.bits (by decide)) (Nat.le_trans hc.2.bits (by decide)))
theorem Lq.l(a : -(2^64)<i)(b:i<2^64):Lq i j := .inl (.inl ⟨a,b⟩)
theorem Lq.r(a : -(2^64)<j)(b:j<2^64):Lq i j := .inl (.inr ⟨a,b⟩)
end
theorem ZA.upd(h:H p=none):ZA H (upd H p o):=λb u e=>by rw[Zq (ZT e h)];exact e
structure MkP (K:aa)(C:Addr):Prop where
 makes:makesIn K C=true
 init:findIn K (.ref C) "__init__" = some (some (.builtin "object.__init__"))
 kp:keepIn K (.ref C)=true
section
noncomputable def lL(C:Addr):TE:=λ_ H Q=>∀ x dx,H x=none->H dx=none->dx≠x->Q (.ref x) (upd (upd H dx (.own x)) x (.ins C dx []))
theorem yp(M:MkP X.K C)(I:Inv X pins σ H s)
  (h:∀ x dx,H x=none->H dx=none->dx≠x->Q (.ref x) (upd (upd H dx (.own x)) x (.ins C dx []))) :
  wpAny (model X.prog X.w) X.A (call (.ref C) []) (EP X pins σ Q) X.xe s:=by
 have I2:=Inv.made (C:=C) I
 have hq:=h (s.heap.objs.size+1) s.heap.objs.size (I.hok.fresh (Nat.le_succ _)) (I.hok.fresh (Nat.le_refl _)) (Nat.ne_of_lt (Nat.lt_succ_self _))
 refine wpAny_call (yg I.kIn M.makes M.init (λself=>Looks.of_pure (PySem.W.oi_bind self)) ?_)
 obtain⟨hh,g,d,tk,os⟩:=s
 have Y:=makes_of (M:=model X.prog X.w) I.kIn M.makes
 have e2:((hh.push emptyDict).push (instObj C hh.objs.size)).get? (hh.objs.size+1)=some (instObj C hh.objs.size):=by
  have:=aq (hh.push emptyDict) (o:=instObj C hh.objs.size) rfl
  rwa [Heap.size_push]at this
 have t1:Looks (model X.prog X.w) ((hh.push emptyDict).push (instObj C hh.objs.size)) (typeOf (.ref (hh.objs.size+1))) (.ref C):=(Looks.ld e2).andThen .now
 have t2:Looks (model X.prog X.w) ((hh.push emptyDict).push (instObj C hh.objs.size)) (isInstance (.ref (hh.objs.size+1)) (.type "object")) true:=t1.andThen (Y.top.keeps λb o e=>ao _ (ao _ e))
 refine codeAny_call_builtin PySem.W.oi_plain PySem.W.entry_oi (@PySem.W.check_slot (model X.prog X.w) _ _ _ "object.__init__" "object" "__init__" (.ref (hh.objs.size+1)) [] [] _ PySem.W.oi_kind PySem.W.oi_split t2 (PySem.W.oi_args (.ref (hh.objs.size+1))) ?_)
 rw[PySem.W.oi_run]
 exact ak (And.intro rfl ⟨V.ref (hh.objs.size+1),_,I2,rfl,hq⟩)
theorem vF(M:MkP X.K C)(hg:Gl X x)(hm:X.mg x=some (.ref C))(hdb:autoParam ((x==("__debug__" : Str))=false) auD):PE X (.Call (.Name x p) [] [] pos) (lL C):=by
 intro pins s σ H Q I h
 refine wpAny_Call_Name_kw (Vs I hg hm ?_ hdb)
 exact PySem.W.callWith_K0 I.kIn M.kp (yp M I h)
structure InsTy (K:aa)(C:Addr):Prop where
 ha:findIn K (.ref C) "__class__" = some (some (.builtin "object.__class__"))
 hn:PySem.W.specialIn K (.builtin "object.__class__") "__get__" = some (some (.builtin "getset_descriptor.__get__"))
 htk:takesIn K (.builtin "object.__class__")=some true
 hm:mroIn K C (.type "object")=some true
end
theorem Aw{K:aa}(hd:hasDictIn K D=true)(ht:typeIn K (.ref D)=some (.type "type"))(hs:subIn K (.ref C) (.ref D)=some b)
  (hr:subIn K (.ref D) (.ref D)=some true):kitOne K (.ref C) (.ref D)=some b:=by
 obtain⟨cd,hc,_⟩:=PySem.W.any_some hd
 unfold kitOne
 by_cases q:(Value.ref C==Value.ref D)=true
 ·rw[if_pos q]
  have e:Value.ref C=Value.ref D:=beq_iff_eq.mp q
  rw[e,hr]at hs
  exact hs
 ·rw[if_neg q]
  unfold kitCls
  simp only
  rw[if_pos (by rw[hc,ht];rfl)]
  exact hs
theorem YC.get(x:YC P w H h a o):∃ ob,h.get? a=some ob:=by
 cases o with
 | lst xs=>obtain⟨_,_,_,_,e⟩:=x;exact⟨_,e⟩
 | tup xs=>obtain⟨_,_,_,ob,e,_⟩:=x;exact⟨_,e⟩
 | dK kvs=>obtain⟨_,_,_,_,o,_,_,e,_⟩:=x;exact⟨_,e⟩
 | dT kvs=>obtain⟨_,_,_,_,o,_,_,e,_⟩:=x;exact⟨_,e⟩
 | set S n=>obtain⟨o,_,_,_,e,_⟩:=x;exact⟨_,e⟩
 | ins C dx fs=>obtain⟨_,_,_,e,_⟩:=x;exact⟨_,e⟩
 | own y=>obtain⟨_,e⟩:=x;exact⟨_,e⟩
 | xd fs=>obtain⟨_,⟨_,_,_,e,_⟩,_⟩:=x;exact⟨_,e⟩
 | rng lo hi=>obtain⟨_,_,_,e⟩:=x;exact⟨_,e⟩
 | frz ob u=>obtain⟨e,_⟩:=x;exact⟨_,e⟩
 | tbl ps=>exact⟨_,(show h.get? a=some _ from x)⟩
 | met f y=>exact⟨_,(show h.get? a=some _ from x)⟩
 | ext φ=>obtain⟨_,⟨_,e⟩,_⟩:=x;exact⟨_,e⟩
noncomputable def Cov(fs:List Addr)(H':Hp)(h0 h B:Heap):Prop:=∀ b o,h.get? b=some o->b∉fs->(H' b≠none\/∃ u,h0.get? b=some u)->B.get? b=some o
theorem Nb(u:Un fs [] H0 H' h0 h)(cv:Cov fs H' h0 h B)(st:B.StaysIn h2)
  (sl:∀ b∈fs,∀ o,h.get? b=some o->∃ sl,h2.get? b=some { o with slots:=sl }):Un fs [] H0 H' h0 h2 where
 keep:=λb o e n hb hx=>st b o (cv b o (u.keep b o e n hb hx) hb (.inr ⟨o,e⟩))
 slot:=λb o e n hb hx=>by
  obtain⟨s1,e1⟩:=u.slot b o e n hb hx
  obtain⟨s2,e2⟩:=sl b hb _ e1
  exact⟨s2,e2⟩
 free:=u.free
 there:=λb o e hx=>by
  obtain⟨o1,e1⟩:=u.there b o e hx
  by_cases hb:b∈fs
  ·obtain⟨s2,e2⟩:=sl b hb _ e1
   exact⟨_,e2⟩
  ·exact⟨o1,st b o1 (cv b o1 e1 hb (.inr ⟨o,e⟩))⟩
 tups:=u.tups
 frzs:=u.frzs
 tbls:=u.tbls
theorem SD(ok:HOk P w H' h)(cv:Cov fs H' h0 h B)(st:B.StaysIn h2)(fr:∀ b∈fs,H' b=none):HOk P w H' h2:=λa o e =>
 (ok a o e).stay (λb v hb q=>st b v (cv b v q (λz=>by
   rcases hb with rfl|hb
   ·rw[fr _ z]at e;cases e
   ·rw[fr _ z]at hb;cases hb) (.inl (by
   rcases hb with rfl|hb
   ·rw[e];exactλz=>nomatch z
   ·rw[hb];exactλz=>nomatch z)))) (λ_ q=>q) λ_ _ q=>q
theorem Qp(u:Un fs [] H0 H' h0 h)(ok:HOk P w H' h)(cv:Cov fs H' h0 h B)(st:B.StaysIn h2):Cov fs H' h0 h2 B:=λb o e hb c=>by
 have key:∃ o1,h.get? b=some o1:=by
  rcases c with c|⟨v,c⟩
  ·cases q:H' b with
   | none=>exact absurd q c
   | some x=>exact(ok b x q).get
  ·exact u.there b v c (by simp)
 obtain⟨o1,e1⟩:=key
 have e2:=cv b o1 e1 hb c
 have e3:=st b o1 e2
 rw[e]at e3
 cases e3
 exact e2
noncomputable def CXE(P:Program)(w:World):CXT:=λouter H s E e s'=>∃ (ex t:Addr) (cls:Value) (H':Hp) (B:Heap),
 e = .ref ex/\s'.os=s.os/\AllBare s'.gens/\Un (frs outer) [] H H' s.heap s'.heap/\HOk P w H' s'.heap/\Heap.FlyingW B outer ex cls (.ref t) s'.heap/\Cov (frs outer) H' s.heap s'.heap B/\s.heap.get? ex=none/\H' ex=none/\E cls none H'
theorem VE{B h h2:Heap}(ff:h.FunFrames B l)(up:h.UpToSlots h2):∀ b∈frs l,∀ o,h.get? b=some o->∃ sl,h2.get? b=some { o with slots:=sl }:=λb hb o e=>by
 obtain⟨_,o',e',nf⟩:=ff.mem hb
 rw[e]at e'
 cases e'
 exact up b o e nf
section
theorem Ww(u:Un fs ex H0 H' h0 h)(hx:b∉ex)(e:h.get? b=none):h0.get? b=none:=by
 cases q:h0.get? b with
 | none=>rfl
 | some o =>
  obtain⟨o',e'⟩:=u.there b o q hx
  rw[e]at e'
  cases e'
theorem Inv.frf(I:Inv X pins σ H s):∀ b∈frs X.stack,H b=none:=I.env0.frf
end
section
variable {P:Program}{w:World}{K:aa}{mg:Str->Option Value}{base:Heap}{N:List Str}{qual:Str}{scope:Scope}{f:Addr}{cdv:Value}{A:Around}{outer:List Env}{s:Shared}{H:Hp}{E:XK}
 {pins:List (Addr×Obj)}{σ:St}{H1:Hp}{s1:Shared}
theorem qV{h2:Heap}(I:Inv (ZS (CXE P w) P w K mg base N qual scope f cdv A outer s H E) pins σ H1 s1)
  (hx:Heap.MadeExcOf s1.heap h2 ex (.ref C) args)(h:E (.ref C) none H1):(ZS (CXE P w) P w K mg base N qual scope f cdv A outer s H E).xe (.ref ex) { s1 with heap:=h2 }:=by
 have e0:=I.env0
 have stk:(ZS (CXE P w) P w K mg base N qual scope f cdv A outer s H E).stack=envOfC qual scope s.heap.objs.size f cdv::outer:=rfl
 have hin:∀ env∈(envOfC qual scope s.heap.objs.size f cdv::outer),∀ a,env.frame=some a->a∈frs (envOfC qual scope s.heap.objs.size f cdv::outer):=λenv he a ha=>mem_filterMap.mpr ⟨env,he,ha⟩
 have ff:s1.heap.FunFrames (hideAll s1.heap (frs (envOfC qual scope s.heap.objs.size f cdv::outer))) (envOfC qual scope s.heap.objs.size f cdv::outer):=funFrames_hide e0.Si hin
 have hkb:(hideAll s1.heap (frs (envOfC qual scope s.heap.objs.size f cdv::outer))).StaysIn s1.heap:=λb o q=>of_hideAll _ q
 show wpAny _ _ (leaving _ _) _ _ _
 refine wpAny_leaves_madeW (L:=s.heap.objs.size) (s:={ s1 with heap:=h2 }) e0.frames rfl hkb ff hx λh' t fl tup hBt up=>?_
 have ffo:s1.heap.FunFrames (hideAll s1.heap (frs (envOfC qual scope s.heap.objs.size f cdv::outer))) outer:=ff.2.2
 have u1:Un (frs outer) [] H H1 s.heap s1.heap:=I.base
 have hL:H1 s.heap.objs.size=none:=I.free
 have cv:Cov (frs outer) H1 s.heap s1.heap (hideAll s1.heap (frs (envOfC qual scope s.heap.objs.size f cdv::outer))):=λb o e hb c=>by
  refine hideAll_get _ e λhm=>?_
  have hm':b=s.heap.objs.size\/b∈frs outer:=by
   have:=hm
   unfold frs at this
   rw[filterMap_cons]at this
   exact mem_cons.mp this
  rcases hm' with rfl|hm'
  ·rcases c with c|⟨v,c⟩
   ·exact c hL
   ·exact absurd (au c) (Nat.lt_irrefl _)
  ·exact hb hm'
 have up2:s1.heap.UpToSlots h':=(Heap.UpToSlots.of_keeps hx.keeps).trans up
 have sl:=VE ffo up2
 have fr:∀ b∈frs outer,H1 b=none:=λb hb=>I.frf b (by
  show b∈frs (envOfC qual scope s.heap.objs.size f cdv::outer)
  unfold frs
  rw[filterMap_cons]
  exact mem_cons_of_mem _ hb)
 have hexn:H1 ex=none:=by
  cases q:H1 ex with
  | none=>rfl
  | some x =>
   obtain⟨ob,eo⟩:=(I.hok ex x q).get
   have:=hx.new
   rw[eo]at this
   cases this
 exact⟨ex,t,.ref C,H1,_,rfl,I.os,I.bare,Nb u1 cv fl.1 sl,SD I.hok cv fl.1 fr,fl,Qp u1 I.hok cv fl.1,Ww u1 (by simp) hx.new,hexn,h⟩
theorem xe_on{E':XK}(I:Inv (ZS (CXE P w) P w K mg base N qual scope f cdv A outer s H E) pins σ H1 s1)
  (h:CXE P w (ZS (CXE P w) P w K mg base N qual scope f cdv A outer s H E).stack H1 s1 E' e s')(k:∀ cls H',E' cls none H'->E cls none H') :
  (ZS (CXE P w) P w K mg base N qual scope f cdv A outer s H E).xe e s':=by
 obtain⟨ex,t,cls,H',B,rfl,ho,hg,u,ok,fl,cv,hn,hexn,hE⟩:=h
 have I':=I.call' (ch:=[]) ho u ok hg (λ_ z=>nomatch z)
 have e0:=I'.env0
 have u1:Un (frs outer) [] H H' s.heap s'.heap:=I'.base
 have hL:H' s.heap.objs.size=none:=I'.free
 show wpAny _ _ (leaving _ _) _ _ _
 refine wpAny_leaves_onW (L:=s.heap.objs.size) e0.frames rfl fl λh' fl' up=>?_
 have cv1:Cov (frs outer) H' s.heap s'.heap B:=λb o e hb c=>by
  have hb':b∉frs (envOfC qual scope s.heap.objs.size f cdv::outer):=λhm=>by
   have hm':b=s.heap.objs.size\/b∈frs outer:=by
    have:=hm
    unfold frs at this
    rw[filterMap_cons]at this
    exact mem_cons.mp this
   rcases hm' with rfl|hm'
   ·rcases c with c|⟨v,c⟩
    ·exact c hL
    ·exact absurd (au c) (Nat.lt_irrefl _)
   ·exact hb hm'
  refine cv b o e hb' ?_
  rcases c with c|⟨v,c⟩
  ·exact .inl c
  ·exact .inr (Un.there (show Un (frs outer) [] H H1 s.heap s1.heap from I.base) b v c (by simp))
 have ffo:s'.heap.FunFrames B outer:=fl.2.2.1.2.2
 have sl:=VE ffo up
 have fr:∀ b∈frs outer,H' b=none:=λb hb=>I'.frf b (by
  show b∈frs (envOfC qual scope s.heap.objs.size f cdv::outer)
  unfold frs
  rw[filterMap_cons]
  exact mem_cons_of_mem _ hb)
 exact⟨ex,t,cls,H',B,rfl,I'.os,I'.bare,Nb u1 cv1 fl'.1 sl,SD ok cv1 fl'.1 fr,fl',Qp u1 ok cv1 fl'.1,Ww (show Un (frs outer) [] H H1 s.heap s1.heap from I.base) (by simp) hn,hexn,k _ _ hE⟩
end
noncomputable def Nf(CX:CXT)(X:Cx)(XE:St->XK):Prop:=∀ (pins:List (Addr×Obj)) (σ:St) (H:Hp) (s:Shared) (e:Value) (s':Shared),Inv X pins σ H s->CX X.stack H s (XE σ) e s'->X.xe e s'
abbrev XZ(X:Cx)(XE:St->XK):Prop:=Nf (CXE X.prog X.w) X XE
theorem Kz{K:aa}{qual:Str}{scope:Scope}{f:Addr}{cdv:Value}{A:Around}{outer:List Env}{s:Shared}{H:Hp}{E:XK} :
  XZ (ZS (CXE P w) P w K mg base N qual scope f cdv A outer s H E) (λ_=>E):=λ_ _ _ _ _ _ I h=>xe_on I h λ_ _ z=>z
noncomputable def Ct(sp:Sp)(XE:St->XK)(t:TA):TE:=λσ H Q=>t σ H λvs H1=>sp vs H1 Q (XE σ)
section
theorem Ax(F:ZL X.prog X.w X.K X.mg X.base (CXE X.prog X.w) k f fd ps sp)(hr:XA k X.A)(hb:Binds X.K fd ps [])(hx:XZ X XE)
  (I:Inv X pins σ H s)(r:Vals vs us)(h:sp vs H Q (XE σ)):wpAny (model X.prog X.w) X.A (call (.ref f) us) (EP X pins σ Q) X.xe s:=by
 have hl:(us++[]).length=ps.length:=by rw[append_nil,<-r.length];exact F.len _ _ _ _ h
 have hb':=hb s us I.kIn hl
 rw[append_nil]at hb'
 refine wpAny_call (codeAny_mono (F.run X.A X.stack s H ⟨us,[]⟩ us vs Q (XE σ) hr I.env0 hb' r h) λr s' hq=>?_)
 cases r with
 | error e=>exact hx pins σ H s e s' I hq
 | ok fl =>
  cases fl with
  | ret u=>exact I.after hq
  | next=>exact False.elim hq
  | brk=>exact False.elim hq
  | cont=>exact False.elim hq
theorem vG(F:ZL X.prog X.w X.K X.mg X.base (CXE X.prog X.w) k f fd ps sp)(hr:XA k X.A)(hg:Gl X x)(hm:X.mg x=some (.ref f))(hk:keepIn X.K (.ref f)=true)(hb:Binds X.K fd ps [])(hx:XZ X XE)
  (ha:PA X (e::es) t)(hdb:autoParam ((x==("__debug__" : Str))=false) auD)(he:autoParam (starEach (e::es) X.env=(false,eval e X.env)::starEach es X.env) auR)(hpl:autoParam ((backTo pos (starEach es X.env)).any (·.1)=false) auR) :
  PE X (.Call (.Name x p) (e::es) [] pos) (Ct sp XE t):=by
 intro pins s σ H Q I h
 refine wpAny_Call_Name_kw (Vs I hg hm ?_ hdb)
 refine callWith_K (h₀:=X.base) I.ok.mod.kin hk (thn (ha pos pins s σ H _ I h) λus s1 ⟨vs,H1,I1,r,q⟩=>⟨I1.kIn,?_⟩) he hpl
 exact Ax F hr hb hx I1 r q
end
structure KA (K:aa)(C:Addr):Prop where
 ex:excIn K C [.type "ValueError",.type "Exception",.type "BaseException",.type "object"] "ValueError.__new__" = true
theorem KA.obj{K:aa}(c:KA K C):∃ nm q N bs bm hdct sn sub ab col dd k0 k1 k2 k3 k5,K.lookup C=some (excClassObj nm q C N bs bm hdct sn sub ab col dd k0 k1 k2 k3 k5 "ValueError.__new__") /\
  PySem.W.tailIn K [.type "ValueError",.type "Exception",.type "BaseException",.type "object"] bm=true/\nsOkIn K N=true/\PySem.W.nsIn K N "__init__" = some none:=by
 have q:=c.ex
 unfold excIn at q
 split at q
 ·rename_i dd cd sl ho
  split at q
  ·rename_i C' bm k0 k1 k2 k3 n k5 hm hs
   simp only[aD,beq_iff_eq,Bool.not_eq_true']at q
   obtain⟨⟨⟨⟨⟨rfl,rfl⟩,hdel⟩,ht⟩,hok⟩,hni⟩:=q
   obtain⟨nm,bs,mro,ns,qn,hd,sn,sub,ab,col,del⟩:=cd
   dsimp only at hm hdel hok hni
   subst hm hdel
   have hsl:sl=#[k0,k1,k2,k3,some (.builtin "ValueError.__new__"),k5]:=by
    obtain⟨l⟩:=sl
    simp only at hs
    rw[hs]
   subst hsl
   exact⟨nm,qn,ns,bs,bm,hd,sn,sub,ab,col,dd,k0,k1,k2,k3,k5,ho,ht,hok,hni⟩
  ·cases q
 ·cases q
section
variable {P:Program}{w:World}{K:aa}{mg:Str->Option Value}{base:Heap}{N:List Str}{qual:Str}{scope:Scope}{f C:Addr}{cdv:Value}{A:Around}{outer:List Env}{s:Shared}{H:Hp}{E:XK}
 {x:Str}{np cpos pos:Pos}{e₀:Expr}{rest:List Expr}{t:TA}
noncomputable def Cu(C:Addr)(E:XK)(t:TA):TS:=λ_ σ H=>t σ H λvs H1=>vs.length<=az/\E (.ref C) none H1
theorem vH(c:KA K C)(hm:mg x=some (.ref C))
  (ha:PA (ZS (CXE P w) P w K mg base N qual scope f cdv A outer s H E) (e₀::rest) t)
  (hg:autoParam (Gl (ZS (CXE P w) P w K mg base N qual scope f cdv A outer s H E) x) auR)(hdb:autoParam ((x==("__debug__" : Str))=false) auD)
  (he:autoParam (starEach (e₀::rest) (ZS (CXE P w) P w K mg base N qual scope f cdv A outer s H E).env=(false,eval e₀ (ZS (CXE P w) P w K mg base N qual scope f cdv A outer s H E).env)::starEach rest (ZS (CXE P w) P w K mg base N qual scope f cdv A outer s H E).env) auR)
  (hpl:autoParam ((backTo cpos (starEach rest (ZS (CXE P w) P w K mg base N qual scope f cdv A outer s H E).env)).any (·.1)=false) auR) :
  PS (ZS (CXE P w) P w K mg base N qual scope f cdv A outer s H E) (.Raise (some (.Call (.Name x np) (e₀::rest) [] cpos)) none pos) (Cu C E t):=by
 intro pins s1 σ H1 D I h
 obtain⟨nm,q,NN,bs,bm,hdct,sn,sub,ab,col,dd,k0,k1,k2,k3,k5,lk,ht,hok,hni⟩:=c.obj
 have hbase:bm.contains (.type "BaseException")=true:=(tail_of_in I.kIn ht).hasType (by decide +kernel)
 have hkk:K.In s1.heap:=I.kIn
 refine wpAny_Raise_call_subT (C:=C) (nm:=nm) (q:=q) (N:=NN) (bs:=bs) (bm:=bm) (hdct:=hdct) (sn:=sn) (sub:=sub) (ab:=ab) (col:=col) (dd:=dd) (k0:=k0) (k1:=k1) (k2:=k2) (k3:=k3) (k5:=k5) (mN:=s1.heap.nsMap NN)
  F.excBase_ValueError hbase (I.ok.hd rfl) (by rw[he];show(false||(backTo cpos (starEach rest _)).any (·.1))=false;rw[hpl];rfl) (PySem.W.nsMap_none_of_in hkk hok hni) ?_
 refine Vs I hg hm ?_ hdb
 refine⟨rfl,?_⟩
 have hargs:=ha cpos pins s1 σ H1 _ I h
 rw[he]at hargs⊢
 refine Calls.evalArgs_plain (thn hargs λus s2 zq=>?_)
 obtain⟨vs,H2,I2,r,hlen,q2⟩:=zq
 have k2':K.In s2.heap:=I2.kIn
 have keepN:s2.heap.Ns NN (s1.heap.nsMap NN):=by
  have n1:s1.heap.Ns NN (s1.heap.nsMap NN) := .of_isNs (isNs_of_in hkk hok)
  obtain⟨o,es,ep,e,r1⟩:=n1
  unfold nsOkIn at hok
  split at hok
  ·rename_i c0 d0 es0 n0 sl0 ho
   have e1:=hkk _ _ ho
   rw[e]at e1
   cases e1
   exact⟨_,es,ep,k2' _ _ ho,r1⟩
  ·cases hok
 refine⟨rfl,by show us.length<=az;rw[<-r.length];exact hlen,k2' _ _ lk,keepN,tail_of_in k2' ht,λh' ex hx=>?_⟩
 exact qV I2 hx q2
end
noncomputable def tryXe(X:Cx)(XE:St->XK):Value->Shared->Prop:=λe s'=>∃ pins σ H s,Inv X.nox pins σ H s/\CXE X.prog X.w X.stack H s (XE σ) e s'
abbrev KB(X:Cx)(pins:List (Addr×Obj))(XE:St->XK):Cx:={ X with pn:=X.pn++pins,xe:=tryXe { X with pn:=X.pn++pins } XE }
theorem yq:XZ (KB X pins XE) XE:=λpins' σ H s e s' I h=>⟨pins',σ,H,s,Inv.wish (X:=KB X pins XE) I _,h⟩
theorem Cx.Ok.pn{X:Cx}(ok:X.Ok)(p:List (Addr×Obj))(E:Value->Shared->Prop):Cx.Ok { X with pn:=p,xe:=E } :=
 ⟨ok.mod,ok.kind,ok.glob,ok.blt,ok.above,ok.inj,ok.has,ok.cab,ok.hd,ok.frames,ok.stk,ok.exf,ok.bs,ok.bsz,ok.noex,ok.exfs,ok.Si,ok.frf⟩
theorem Inv.vI(I:Inv X pins σ H s)(E:Value->Shared->Prop):Inv { X with pn:=X.pn++pins,xe:=E } [] σ H s :=
 ⟨I.ok.pn _ _,I.os,I.bare,I.base,I.loc,I.cell,I.free,I.freeC,(by rw[append_nil];exact I.pin),I.hok,I.len⟩
theorem Cx.Ok.unpn{X:Cx}(ok:Cx.Ok { X with pn:=p,xe:=E }):X.Ok :=
 ⟨ok.mod,ok.kind,ok.glob,ok.blt,ok.above,ok.inj,ok.has,ok.cab,ok.hd,ok.frames,ok.stk,ok.exf,ok.bs,ok.bsz,ok.noex,ok.exfs,ok.Si,ok.frf⟩
theorem Inv.PV{X:Cx}{E:Value->Shared->Prop}(I:Inv { X with pn:=X.pn++pins,xe:=E } pins' σ H s):Inv X pins σ H s :=
 ⟨I.ok.unpn,I.os,I.bare,I.base,I.loc,I.cell,I.free,I.freeC,λp hp=>I.pin p (mem_append_left _ hp),I.hok,I.len⟩
abbrev Cx.handling(X:Cx)(e:Value):Cx:={ X with A:=X.A.mark (some e),calm:=false,xe:=λ_ _=>False }
theorem Inv.handle(I:Inv X pins σ H s)(e:Value):Inv (X.handling e) pins σ H s :=
  ⟨⟨I.ok.mod,I.ok.kind,I.ok.glob,I.ok.blt,I.ok.above,I.ok.inj,I.ok.has,I.ok.cab,(λz=>nomatch z),I.ok.frames,I.ok.stk,I.ok.exf,I.ok.bs,I.ok.bsz,I.ok.noex,I.ok.exfs,I.ok.Si,I.ok.frf⟩,
   I.os,I.bare,I.base,I.loc,I.cell,I.free,I.freeC,I.pin,I.hok,I.len⟩
theorem Inv.FY(I:Inv (X.handling e) pins σ H s)(hd:X.calm=true->X.A.handled=none)(hf:X.A.frames=some X.stack):Inv X pins σ H s :=
  ⟨⟨I.ok.mod,I.ok.kind,I.ok.glob,I.ok.blt,I.ok.above,I.ok.inj,I.ok.has,I.ok.cab,hd,hf,I.ok.stk,I.ok.exf,I.ok.bs,I.ok.bsz,I.ok.noex,I.ok.exfs,I.ok.Si,I.ok.frf⟩,
   I.os,I.bare,I.base,I.loc,I.cell,I.free,I.freeC,I.pin,I.hok,I.len⟩
noncomputable def Cv(ex C:Addr):HO := .ext λh=>∃ o vs,h.get? ex=some o/\o.cls = .ref C/\o.data = .fields vs
section
theorem Inv.track(I:Inv X pins σ H s)(hn:H a=none)(h0:X.s₀.heap.get? a=none)(hl:a≠X.env.locals)(hc:∀ x c,X.env.cells.lookup x=some c->c≠a)(hp:∀ p∈X.pn++pins,p.1≠a)
    (ok:YC X.prog X.w (upd H a o) s.heap a o):Inv X pins σ (upd H a o) s :=
  ⟨I.ok,I.os,I.bare,⟨I.base.keep,I.base.slot,λb ob e n hx=>by
      have:b≠a:=λz=>by rw[z,h0]at e;cases e
      rw[Zq this]
      exact I.base.free b ob e n hx,I.base.there,λb xs e=>by
      have z:=I.base.tups b xs e
      rw[Zq (ZT z hn)]
      exact z,λb ob u e=>by
      have z:=I.base.frzs b ob u e
      rw[Zq (ZT z hn)]
      exact z,λb ps e=>by
      obtain⟨more,z⟩:=I.base.tbls b ps e
      exact⟨more,by rw[Zq (ZT z hn)];exact z⟩⟩,I.loc,I.cell,by rw[Zq (Ne.symm hl)];exact I.free,λx c e=>by rw[Zq (hc x c e)];exact I.freeC x c e,
   λp q=>by
     obtain⟨a1,a2,a3⟩:=I.pin p q
     exact⟨a1,by rw[Zq (hp p q)];exact a2,a3⟩,
   λb u e=>by
     by_cases hb:b=a
     · subst hb
       rw[Zx]at e
       cases e
       exact ok
     · rw[Zq hb]at e
       exact(I.hok b u e).stay (λ_ _ _ q=>q) (λc q=>by rw[Zq (ZT q hn)];exact q) λc xs q=>by rw[Zq (ZT q hn)];exact q,I.len⟩
theorem Inv.locals(I:Inv X pins σ H s)(hs:aF X.env.locals s.heap h')(hn':h'.Ns X.env.locals m')
  (hl:∀ (i:Nat) (x:Str) (v:V),X.N[i]?=some x->σ'[i]?=some (some v)->Vis X.env.scope x->∃ u,RelV v u/\Look X.env h' m' x u)(len:σ'.length=σ.length):Inv X pins σ' H { s with heap:=h',toks:=t' }:=by
 have cne:=I.cne
 obtain⟨m,⟨oL,_,_,hoL,_⟩,_⟩:=id I.loc
 refine⟨I.ok,I.os,I.bare,⟨λb o e n hb hx=>?_,λb o e n hb hx=>?_,I.base.free,λb o e hx=>?_,I.base.tups,I.base.frzs,I.base.tbls⟩,⟨_,hn',hl⟩,λy c e=>?_,I.free,I.freeC,λp hp=>?_,λb ob e=>?_,len.trans I.len⟩
 ·exact(hs.2 b (Nat.ne_of_lt (Nat.lt_of_lt_of_le (au e) I.ok.above))).trans (I.base.keep b o e n hb hx)
 ·obtain⟨sl,e1⟩:=I.base.slot b o e n hb hx
  exact⟨sl,(hs.2 b (Nat.ne_of_lt (Nat.lt_of_lt_of_le (au e) I.ok.above))).trans e1⟩
 ·obtain⟨o',e1⟩:=I.base.there b o e hx
  exact⟨o',(hs.2 b (Nat.ne_of_lt (Nat.lt_of_lt_of_le (au e) I.ok.above))).trans e1⟩
 ·obtain⟨w',z⟩:=I.cell y c e
  exact⟨w',z.sameBut hs (cne y c e)⟩
 ·obtain⟨e,n,ne,nf,d⟩:=I.pin p hp
  exact⟨(hs.2 p.1 ne).trans e,n,ne,nf,d⟩
 ·refine(I.hok b ob e).stay (λc w' hc q=>(hs.2 c ?_).trans q) (λ_ q=>q) λ_ _ q=>q
  rintro rfl
  rcases hc with rfl|hc
  ·rw[I.free]at e;cases e
  ·rw[I.free]at hc;cases hc
theorem Inv.move{H0:Hp}{h0 h2 B:Heap}{st:List Env}(I:Inv X pins σ H s)(hst:X.stack=st)(cv:Cov (frs st) H h0 s.heap B)(stay:B.StaysIn h2)(up:s.heap.UpToSlots h2)
  (ff:s.heap.FunFrames B st)(hpin:∀ p∈X.pn++pins,∃ u,h0.get? p.1=some u)(u0:∀ b o,X.s₀.heap.get? b=some o->∃ u,h0.get? b=some u)(hex:X.ex=[])(hsub:∀ b∈X.fs,b∈frs st):Inv X pins σ H { s with heap:=h2 }:=by
 subst hst
 have fr:=I.frf
 have sl:=VE ff up
 have hpn:∀ p∈X.pn++pins,p.1∉frs X.stack:=λp hp z=>by
  have:=I.pin p hp
  exact(mem_cons.mp (I.Oi p.1 z)).elim this.2.2.1 this.2.2.2.1
 refine⟨I.ok,I.os,I.bare,⟨λb o e n hb hx=>?_,λb o e n hb hx=>?_,I.base.free,λb o e hx=>?_,I.base.tups,I.base.frzs,I.base.tbls⟩,?_,λy c e=>?_,I.free,I.freeC,λp hp=>?_,SD I.hok cv stay fr,I.len⟩
 ·have e1:=I.base.keep b o e n hb hx
  refine stay b o (cv b o e1 (λz=>?_) (.inr (u0 b o e)))
  rcases mem_cons.mp (I.Oi b z) with z|z
  ·exact absurd z (Nat.ne_of_lt (Nat.lt_of_lt_of_le (au e) I.ok.above))
  ·exact hb z
 ·obtain⟨s1,e1⟩:=I.base.slot b o e n hb hx
  obtain⟨s2,e2⟩:=sl b (hsub b hb) _ e1
  exact⟨s2,e2⟩
 ·obtain⟨o1,e1⟩:=I.base.there b o e hx
  by_cases hb:b∈frs X.stack
  ·obtain⟨s2,e2⟩:=sl b hb _ e1
   exact⟨_,e2⟩
  ·exact⟨o1,stay b o1 (cv b o1 e1 hb (.inr (u0 b o e)))⟩
 ·obtain⟨m,hn,hl⟩:=I.loc
  refine⟨m,up.ns hn,λi x v a1 a2 a3=>?_⟩
  obtain⟨u,r,q⟩:=hl i x v a1 a2 a3
  refine⟨u,r,?_⟩
  rcases q with q|⟨k,c,e,z⟩
  ·exact .inl q
  ·refine .inr ⟨k,c,e,?_⟩
   obtain⟨oc,ho,hd⟩:=z
   obtain⟨sl2,e2⟩:=up c oc ho λvs q=>by rw[hd]at q;cases q
   exact⟨_,e2,hd⟩
 ·obtain⟨w',oc,ho,hd⟩:=I.cell y c e
  obtain⟨sl2,e2⟩:=up c oc ho λvs q=>by rw[hd]at q;cases q
  exact⟨w',_,e2,hd⟩
 ·obtain⟨e,n,ne,nf,d⟩:=I.pin p hp
  exact⟨stay p.1 p.2 (cv p.1 p.2 e (hpn p hp) (.inr (hpin p hp))),n,ne,nf,d⟩
end
theorem Qq{K:aa}{ex C W:Addr}{oe:Obj}{b:Bool}{Q:Bool->Shared->Prop}(X:K.In s.heap)(he:s.heap.get? ex=some oe)(hc:oe.cls = .ref C)
  (hT:typeIn K (.ref W)=some (.type "type"))(hcl:(clsIn K W).isSome=true)(hB:subIn K (.ref W) (.type "BaseException")=some true)(hs:subIn K (.ref C) (.ref W)=some b)(h:Q b s) :
  wpAny M A (excMatches (.ref ex) (.ref W)) Q E s:=by
 obtain⟨hp,g,d,tk,os⟩:=s
 have L1:Looks M hp (typeOf (.ref W)) (.type "type"):=PySem.W.looks_typeIn X hT
 have L2:Looks M hp (isInstance (.ref W) (.type "tuple")) false:=L1.andThen (Looks.of_pure tc_notTuple)
 have L3:Looks M hp (isType (.ref W)) true:=by
  unfold clsIn at hcl
  split at hcl
  ·rename_i c' d' cd' sl' ho
   intro A' Q' E' s' k q
   unfold isType loadHead
   exact aj (wpAny_loadPart (k _ _ (X _ _ ho)) (ak q))
  ·cases hcl
 have L4:Looks M hp (isSubtype (.ref W) (.type "BaseException")) true:=PySem.W.looks_subIn X hB
 have L5:Looks M hp (typeOf (.ref ex)) (.ref C):=by rw[<-hc];exact(Looks.ld he).andThen .now
 have L6:Looks M hp (isSubtype (.ref C) (.ref W)) b:=PySem.W.looks_subIn X hs
 unfold excMatches
 refine aj (L2.at ?_)
 simp only[Bool.false_eq_true,if_false]
 refine aj (ak ?_)
 simp only[forIn_cons,List.forIn_nil,bind_assoc,pure_bind]
 unfold isExcClass
 refine aj (aj (L3.at ?_))
 simp only[if_true]
 refine L4.at ?_
 simp only[Bool.not_true,Bool.false_eq_true,if_false,pure_bind]
 refine aj (L5.at ?_)
 refine aj (L6.at ?_)
 cases b<;>exact ak h
structure yr (K:aa)(W:Addr):Prop where
 ty:typeIn K (.ref W)=some (.type "type")
 cl:isClsIn K W=true
 base:subIn K (.ref W) (.type "BaseException")=some true
noncomputable def lM(K:aa)(W:Addr)(j:Nat)(tb:(St->XK)->TS)(ts:TS):TS:=λD σ H=>∃ XE:St->XK,tb XE D σ H /\
 ∀ σ' H' cls,XE σ' cls none H'->∃ C,cls = .ref C/\subIn K (.ref C) (.ref W)=some true/\∀ ex,H' ex=none ->
  ts { nx:=λσ2 H2=>D.nx (σ2.set j none) H2,rt:=D.rt,bk:=λσ2 H2=>D.bk (σ2.set j none) H2,ct:=λσ2 H2=>D.ct (σ2.set j none) H2 } (σ'.set j (some (.ref ex))) (upd H' ex (Cv ex C))
theorem vJ{b₀:Stmt}{np hpos pos:Pos}{tb:(St->XK)->TS}{ts:TS}(c:yr X.K W)(hg:Gl X x)(hm:X.mg x=some (.ref W))
  (hN:X.N.Nodup)(hj:X.N[j]?=some n)(hb:∀ pins XE,PSs (KB X pins XE) body (tb XE))(hs:∀ e,PSs (X.handling e) (b₀::suite) ts)
  (hcalm:autoParam (X.calm=true) auR)(hst:autoParam (X.stack=X.env::X.outer) auR)(hfr:autoParam (X.env.frame=some X.env.locals) auR)(hex:autoParam (X.ex=[]) auR)(hl:autoParam (X.env.scope.names.lookup n=some .local) auR)(hlk:autoParam (X.env.kindOf n=some .local) auR)
  (hfn:autoParam (X.fn n=true) auR)(hdb:autoParam ((x==("__debug__" : Str))=false) auD) :
  PS X (.Try body [.ExceptHandler (some (.Name x np)) (some n) (b₀::suite) hpos] [] [] pos) (lM X.K W j tb ts):=by
 intro pins s σ H D I hD
 obtain⟨XE,hbody,hcatch⟩:=hD
 refine wpAny_Try_except ?_
 have I0:Inv (KB X pins XE) [] σ H s:=I.vI _
 refine wpAny_mono (hb pins XE [] s σ H D I0 hbody) (λf s1 hs1=>?_) (λe s1 he=>?_)
 ·cases f with
  | next =>
   obtain⟨σ',H',I',q⟩:=hs1
   exact HQ (X:=X) pins s1 σ' H' D I'.PV q
  | brk =>
   obtain⟨σ',H',I',q⟩:=hs1
   exact⟨σ',H',I'.PV,q⟩
  | cont =>
   obtain⟨σ',H',I',q⟩:=hs1
   exact⟨σ',H',I'.PV,q⟩
  | ret u =>
   obtain⟨v,σ',H',I',r,q⟩:=hs1
   exact⟨v,σ',H',I'.PV,r,q⟩
 ·obtain⟨pins',σ',H1,s0,I1,ex,t,cls,H',B,rfl,ho,hgn,u,ok,fl,cv,hn,hexn,hE⟩:=he
  have I1X:Inv X pins σ' H1 s0:=Inv.PV (E:=λ_ _=>False) I1
  have I2:Inv X pins σ' H' s1:=I1X.call' (ch:=[]) ho u ok hgn (λ_ z=>nomatch z)
  obtain⟨C,rfl,hsub,hsuite⟩:=hcatch σ' H' cls hE
  have fl0:Heap.FlyingW B (X.env::X.outer) ex (.ref C) (.ref t) s1.heap:=by rw[<-hst];exact fl
  have cv0:Cov (frs (X.env::X.outer)) H' s0.heap s1.heap B:=by rw[<-hst];exact cv
  have hframes:X.A.frames=some (X.env::X.outer):=by rw[<-hst];exact I.ok.frames
  have hsubf:∀ b∈X.fs,b∈frs (X.env::X.outer):=λb hb=>by
   unfold frs
   rw[filterMap_cons,hfr]
   exact mem_cons_of_mem _ hb
  have hpin:∀ p∈X.pn++pins,∃ u,s0.heap.get? p.1=some u:=λp hp=>⟨_,(I1X.pin p hp).1⟩
  have u0:∀ b o,X.s₀.heap.get? b=some o->∃ u,s0.heap.get? b=some u:=λb o e=>I1X.base.there b o e (by rw[hex];simp)
  have mv:∀ {h2:Heap},B.StaysIn h2->s1.heap.UpToSlots h2->Inv X pins σ' H' { s1 with heap:=h2 }:=λst up=>Inv.move (H0:=H1) (h0:=s0.heap) I2 hst cv0 st up fl0.2.2.1 hpin u0 hex hsubf
  refine wpAny_looks_onW (L:=X.env.locals) hframes hfr fl0 λh4 held4 up4=>?_
  refine wpAny_landsW held4 λh5 fl5 up5=>?_
  have I5:Inv X pins σ' H' { s1 with heap:=h5 }:=mv fl5.1 (up4.trans up5)
  refine wpAny_handleBy_cons (codeAny_handlers_test (Vs (X:=X.handling (.ref ex)) (I5.handle _) hg hm ?_ hdb)) (by intro q;cases q)
  obtain⟨ob,hob,hobc⟩:=fl5.there
  have hcl:(clsIn X.K W).isSome=true:=c.cl
  refine Qq (s:={ s1 with heap:=h5 }) I5.kIn hob hobc c.ty hcl c.base hsub ?_
  refine codeAny_handlers_suite_as ?_
  refine lands_againW (s:={ s1 with heap:=h5 }) fl5 λh6 fl6 up6=>?_
  have I6:Inv X pins σ' H' { s1 with heap:=h6 }:=mv fl6.1 ((up4.trans up5).trans up6)
  obtain⟨oe,ws,hoe,hoec,hoed,_⟩:=fl6.first
  have ne_there:∀ b o,s0.heap.get? b=some o->b≠ex:=λb o e z=>by rw[z,hn]at e;cases e
  have I7:Inv X pins σ' (upd H' ex (Cv ex C)) { s1 with heap:=h6 }:=by
   refine I6.track hexn (Ww I1X.base (by rw[hex];simp) hn) ?_ (λy c' e=>?_) (λp hp=>?_) ⟨⟨oe,ws,hoe,hoec,hoed⟩,⟨_,hoe⟩,λh1 h2 ⟨o1,v1,a1,a2,a3⟩ k=>⟨o1,v1,k o1 a1,a2,a3⟩⟩
   ·obtain⟨m,⟨o,_,_,e,_⟩,_⟩:=I1X.loc
    exactλz=>ne_there _ o e z.symm
   ·obtain⟨v,o,e,_⟩:=I1X.cell y c' e
    exact ne_there _ o e
   ·exact ne_there _ _ (I1X.pin p hp).1
  refine WL (X:=X.handling (.ref ex)) (i:=j) (I7.handle (.ref ex)) hN hj (Or.inl hl) (v := .ref ex) rfl (λs8 I8=>?_) (.inl hfn)
  have run:=hs (.ref ex) pins s8 _ _ _ I8 (hsuite ex hexn)
  refine wpAny_mono run (λf s9 h9=>?_) (λ_ _ z=>z.elim)
  have gone:∀ {σ2:St}{H2:Hp},Inv (X.handling (.ref ex)) pins σ2 H2 s9->∀ {Q:Unit->Shared->Prop},(∀ s10,Inv X pins (σ2.set j none) H2 s10->Q () s10)->wpAny (model X.prog X.w) X.A (do bindName X.env n .none;unbindBehindTheSuite X.env n hpos) Q X.xe s9:=λ{σ2 H2} I9 {Q} k=>by
   have I9X:Inv X pins σ2 H2 s9:=I9.FY I.ok.hd I.ok.frames
   obtain⟨m,hn9,hl9⟩:=id I9X.loc
   have hp:(X.env.scope.kind == .class||(X.env.scope.kind == .module&&X.env.locals != X.env.globals))=false:=by rw[I.ok.kind];rfl
   refine wpAny_nameGoes_keeps hlk hn9 hp λh' v hn' hs'=>?_
   refine k _ (I9X.locals hs' hn' (λi y z a1 a2 a3=>?_) (by simp))
   have hij:i≠j:=λq=>by
    subst q
    rw[List.getElem?_set_self (by rw[I9X.len];exact(List.getElem?_eq_some_iff.mp hj).1)]at a2
    cases a2
   rw[getElem?_set_ne (Ne.symm hij)]at a2
   obtain⟨u9,r9,q9⟩:=hl9 i y z a1 a2 a3
   have hyn:y≠n:=λq=>hij (Kt hN a1 (q ▸ hj))
   refine⟨u9,r9,?_⟩
   rcases q9 with⟨q1,q2⟩|⟨q1,c9,q2,q3⟩
   ·exact .inl ⟨q1,by simp[hyn,q2]⟩
   ·exact .inr ⟨q1,c9,q2,q3.sameBut hs' (I9X.cne y c9 q2)⟩
  cases f with
  | next =>
   obtain⟨σ2,H2,I9,q⟩:=h9
   exact gone I9 λs10 I10=>⟨_,_,I10,q⟩
  | brk =>
   obtain⟨σ2,H2,I9,q⟩:=h9
   exact gone I9 λs10 I10=>⟨_,_,I10,q⟩
  | cont =>
   obtain⟨σ2,H2,I9,q⟩:=h9
   exact gone I9 λs10 I10=>⟨_,_,I10,q⟩
  | ret u9 =>
   obtain⟨v9,σ2,H2,I9,r9,q⟩:=h9
   exact gone I9 λs10 I10=>⟨v9,_,_,I10,r9,q⟩
structure XTy (K:aa)(C:Addr):Prop where
 ga:findIn K (.ref C) "__getattribute__" = some (some (.builtin "BaseException.__getattribute__"))
 gn:findIn K (.ref C) "__getattr__" = some none
 cl:findIn K (.ref C) "__class__" = some (some (.builtin "object.__class__"))
 ob:mroIn K C (.type "object")=some true
 be:mroIn K C (.type "BaseException")=some true
 ic:isClsIn K C=true
section
theorem exc_type(hx:h.get? a=some o)(hc:o.cls = .ref C):Looks M h (typeOf (.ref a)) (.ref C):=hc ▸ (Looks.ld hx).andThen .now
theorem Ir{K:aa}{d:Drawn}{t:Nat}{os:OsState}{a:Addr}{C:Addr}{o:Obj}{R:Result->Shared->Prop}{tp:Value}(X:K.In h)(T:XTy K C)(hx:h.get? a=some o)(hc:o.cls = .ref C)(hq:R (.ok (.ret (.ref C))) ⟨h,g,d,t,os⟩) :
  codeAny (model prog w) A (.call (.builtin "getset_descriptor.__get__") ⟨[.builtin "object.__class__",.ref a,tp],[]⟩) R ⟨h,g,d,t,os⟩:=by
 have L0:=exc_type (M:=model prog w) hx hc
 have L1:=PySem.W.looks_mroIn (M:=model prog w) X T.ob
 refine codeAny_call_builtin PySem.W.KF.slot_gs.plain PySem.W.KF.entry_gs (PySem.W.KF.slot_gs.check _ _ _ _ _ _ _ _ PySem.W.KF.type_class (PySem.W.KF.args_gs _ _ _) ?_)
 unfold Builtin.«getset_descriptor.__get__» Builtin.Getset_descriptor.descrGet
 rw[PySem.W.dga_obj]
 refine aj (ak ?_)
 unfold Builtin.Getset_descriptor.descrGetter Builtin.Getset_descriptor.descrCheckInstance Builtin.Getset_descriptor.descrNameAndClass isInstance
 simp only[PySem.W.KF.owner_class]
 repeat lk
 refine⟨Code.quiet_builtin _ (by decide +kernel),codeAny_builtin PySem.W.KF.entry_class ?_⟩
 unfold Builtin.«object.__class__» shownTypeOf
 repeat lk
 exact hq
theorem Ge{K:aa}{t:Nat}{os:OsState}{a:Addr}{C:Addr}{o:Obj}{M:Model}{nameV:Value}{Q:Unit->Shared->Prop}(X:K.In h)(T:XTy K C)(hx:h.get? a=some o)(hc:o.cls = .ref C)(hq:Q () ⟨h,g,d,t,os⟩) :
  wpAny M A (checkBuiltinCall "BaseException.__getattribute__" ⟨[.ref a,nameV],[]⟩) Q E ⟨h,g,d,t,os⟩:=by
 have hk:builtinKind "BaseException.__getattribute__" = some .slot:=by decide +kernel
 have hsplit:splitId "BaseException.__getattribute__" = some ("BaseException", "__getattribute__"):=by decide +kernel
 have ha:=F.args_bexc_ga (.ref a) nameV
 have L0:=exc_type (M:=M) hx hc
 have L1:=PySem.W.looks_mroIn (M:=M) X T.be
 have L2:Looks M h (isInstance (.ref a) (.type "BaseException")) true:=L0.andThen L1
 simp only[checkBuiltinCall,hk,hsplit]
 refine aj (L2.at ?_)
 repeat (any_goals (first | assumption | wp_step))
theorem Ly{K:aa}{g:Array GenState}{d:Drawn}{t:Nat}{os:OsState}{a:Addr}{C:Addr}{o:Obj}{tk:Tok}{Q:Fin->Shared->Prop}(X:K.In h)(T:XTy K C)(hx:h.get? a=some o)(hc:o.cls = .ref C)(hq:Q (.done (.ret (.ref C))) ⟨h,g,d,t,os⟩) :
  wpAny (model prog w) A (Builtin.«object.__getattribute__» ⟨[.ref a,.str "__class__" tk],[]⟩) Q E ⟨h,g,d,t,os⟩:=by
 have hT5:(⟨h,g,d,t,os⟩:Shared).TypeIs (.builtin "object.__class__") "getset_descriptor" := F.typeOf_object_class
 have f5:=F.typeOf_object_class
 have f6:=F.slot_gs_get.lookup
 have f7:=F.slot_gs_set.lookup
 have LC:=looks_findIn (M:=model prog w) X T.cl
 repeat (any_goals (first | assumption | (with_reducible refine wpAny_loadPart_at hx ?_;rw[hc]) | with_reducible refine Looks.at LC ?_ | wp_step))
 refine Ir X T hx hc ?_
 repeat (any_goals (first | assumption | wp_step))
theorem Gf{K:aa}{g:Array GenState}{d:Drawn}{t:Nat}{os:OsState}{a:Addr}{C:Addr}{o:Obj}{tk:Tok}{Q:Value->Shared->Prop}(X:K.In h)(T:XTy K C)(hx:h.get? a=some o)(hc:o.cls = .ref C)(hq:Q (.ref C) ⟨h,g,d,t,os⟩) :
  wpAny (model prog w) A (getAttrBy (.ref a) (.str "__class__" tk) false) Q E ⟨h,g,d,t,os⟩:=by
 have f3:=F.attr_ValueError.ga.bind (.ref a)
 have hx2:(Value.builtin "BaseException.__getattribute__" == Value.builtin "object.__getattribute__")=false:=by decide +kernel
 have hx1:(onTheHeap (Value.ref C)&&Value.builtin "BaseException.__getattribute__" == Value.builtin "object.__getattribute__")=false:=by rw[hx2];rfl
 have L1:=looks_findIn (M:=model prog w) X T.ga
 have L2:=looks_findIn (M:=model prog w) X T.gn
 repeat (any_goals (first | assumption | (with_reducible refine wpAny_loadPart_at hx ?_;rw[hc]) | with_reducible refine Looks.at L1 ?_ | with_reducible refine Looks.at L2 ?_ | wp_step))
 refine codeAny_call_builtin F.attr_ValueError.ga.plain F.entry_bexc_ga (Ge X T hx hc (Ly X T hx hc ?_))
 repeat (any_goals (first | assumption | wp_step))
theorem KC{K:aa}{g:Array GenState}{d:Drawn}{t:Nat}{os:OsState}{a:Addr}{C:Addr}{o:Obj}{Q:Option Value->Shared->Prop}(X:K.In h)(T:XTy K C)(hx:h.get? a=some o)(hc:o.cls = .ref C)(hq:Q (some (.ref C)) ⟨h,g,d,t+1,os⟩) :
  wpAny (model prog w) A (getAttr? (.ref a) "__class__") Q E ⟨h,g,d,t,os⟩:=by
 unfold getAttr? getAttrBy?
 repeat (any_goals (first | assumption | with_reducible apply Gf X T hx hc | wp_step))
end
theorem FZ{K:aa}(T:XTy K C):PySem.W.KitX K (.ref a) (.ref C) (λh=>∃ o vs,h.get? a=some o/\o.cls = .ref C/\o.data = .fields vs) where
 ty:=λ_ _ _ ⟨o,vs,e,c,_⟩=>exc_type e c
 it:=λ_ _ X _=>by
  have hcD:=T.ic
  unfold isClsIn clsIn at hcD
  split at hcD
  ·rename_i c' d' cd' sl' ho
   intro A' Q' E' s' k q
   unfold isType loadHead
   exact aj (wpAny_loadPart (k _ _ (X _ _ ho)) (ak q))
  ·cases hcD
 ne:=λh tp dd its n sl X htp=>by
  have hcD:=T.ic
  refine Bool.eq_false_iff.mpr λq=>?_
  have e:C=tp:=Value.ref.inj (beq_iff_eq.mp q)
  subst e
  unfold isClsIn clsIn at hcD
  split at hcD
  ·rename_i c' d' cd' sl' ho
   have z:=(X _ _ ho).symm.trans htp
   cases z
  ·cases hcD
 ca:=λ{_ _ _ _ _ s} X ⟨o,vs,e,c,_⟩ k=>by
  obtain⟨hh,g,d,t,os⟩:=s
  exact KC X T e c k
section
noncomputable def rIsiX(K:aa):List V->Hp->VK->Prop:=λxs H Q=>∃ a C,xs[0]?=some (.ref a)/\H a=some (Cv a C)/\XTy K C /\
  ((∃ (c:V) (cv:Value) (b:Bool),xs=[.ref a,c]/\(∀ u,RelV c u->u=cv)/\kitOne K (.ref C) cv=some b/\Q (.bl b) H) \/
   (∃ (tp:Addr) (cs:List Addr) (b:Bool),xs=[.ref a,.ref tp]/\H tp=some (.tup (cs.map V.ref))/\kitAny K (.ref C) (cs.map Value.ref)=some b/\Q (.bl b) H))
theorem Ml:∀ {cs:List Addr}{us:List Value},Vals (cs.map V.ref) us->us=cs.map Value.ref
 | [],_,.nil=>rfl
 | _::_,_,.cons r t=>by rw[map_cons,Ml t];rw[show _=Value.ref _ from r]
theorem yt:Xz X (.builtin "isinstance") (rIsiX X.K):=by
 intro pins s σ H xs us Q I r h
 obtain⟨a,C,_,hH,T,h⟩:=h
 obtain⟨p,_,_⟩:=(show YC X.prog X.w H s.heap a (Cv a C) from I.hok a _ hH)
 rcases h with⟨c,cv,b,rfl,hc,e,q⟩|⟨tp,cs,b,rfl,hT,e,q⟩
 ·obtain⟨u,w',rfl,r1,r2⟩:=vals2 r
  cases hc _ r2
  cases r1
  exact kia_one (FZ T) I.kIn p e (λz=>nomatch z) λtk=>⟨.bl b,H,I.tok tk,rfl,q⟩
 ·obtain⟨u,w',rfl,r1,r2⟩:=vals2 r
  cases r1
  cases r2
  obtain⟨_,its,rv,ob,ho,hcl,n,hd⟩:=(show YC X.prog X.w H s.heap tp (.tup (cs.map V.ref)) from I.hok tp _ hT)
  have ei:=Ml rv
  subst ei
  obtain⟨c0,dd,dt,sl⟩:=ob
  dsimp only at hcl hd
  subst hcl hd
  exact kia_tup (FZ T) I.kIn p ho e (λz=>nomatch z) λtk=>⟨.bl b,H,I.tok tk,rfl,q⟩
end
theorem vK{K:aa}(hk:PySem.W.kitMeta T=true)(hs:mroIn K C (.type T)=some b):kitOne K (.ref C) (.type T)=some b:=by
 unfold kitOne
 rw[if_neg (by simp)]
 unfold kitCls
 simp only
 rw[if_pos hk]
 exact hs
structure CZ where
 cl:List (Str×Addr)
 C:Addr
 s:Shared
 H:Hp
 fp:List Addr
abbrev Zv(X:Cx)(scope:Scope)(N:List Str)(z:CZ):Cx where
 prog:=X.prog
 w:=X.w
 K:=X.K
 mg:=X.mg
 base:=X.base
 A:=X.A
 N:=N
 s₀:=z.s
 H₀:=z.H
 env:=compEnvC scope z.cl z.C X.env
 outer:=X.stack
 stack:=X.stack
 ex:=z.fp
 fn:=λ_=>false
 calm:=X.calm
 pn:=[]
 xe:=λ_ _=>False
noncomputable def UF(own sc:Scope)(Nc:List Str):Bool :=
 (own.kind == .function)&&(own.names.all λy=>y.2 != .cell&&(y.2 != .free||sc.names.lookup y.1==some .cell||sc.names.lookup y.1==some .free)&&(y.2 != .local||own.names.lookup y.1==some .local)) &&
 (Nc.all λx=>own.names.lookup x==some .free)
structure Cw (own sc:Scope)(Nc:List Str):Prop where
 kind:own.kind = .function
 nocell:∀ y∈own.names,y.2 ≠ .cell
 free:∀ y∈own.names,y.2 = .free->sc.names.lookup y.1=some .cell\/sc.names.lookup y.1=some .free
 loc:∀ y∈own.names,y.2 = .local->own.names.lookup y.1=some .local
 cap:∀ x∈Nc,own.names.lookup x=some .free
theorem Mm(h:UF own sc Nc=true):Cw own sc Nc:=by
 unfold UF at h
 simp only[aD,all_eq_true,Bool.or_eq_true,bne_iff_ne,ne_eq,beq_iff_eq]at h
 obtain⟨⟨h1,h2⟩,h3⟩:=h
 refine⟨h1,λy hy=>(h2 y hy).1.1,λy hy e=>?_,λy hy e=>?_,h3⟩
 ·rcases (h2 y hy).1.2 with (z|z)|z
  ·exact absurd e z
  ·exact .inl z
  ·exact .inr z
 ·rcases (h2 y hy).2 with z|z
  ·exact absurd e z
  ·exact z
theorem Ol(h:∀ y∈scope.names,y.2 = .free->∃ c,env.cells.lookup y.1=some c) :
  ∃ cl,closureFor scope env=pure cl/\(∀ y∈scope.names,y.2 = .free->∃ c,cl.lookup y.1=some c)/\∀ x c,cl.lookup x=some c->env.cells.lookup x=some c:=by
 have key:∀ (l:List (Str×NameKind)) (cs:List (Str×Addr)),(∀ y∈l,y.2 = .free->∃ c,env.cells.lookup y.1=some c)->(∀ x c,cs.lookup x=some c->env.cells.lookup x=some c) ->
   ∃ cl,(forIn l cs λx r=>if (x.2==NameKind.free)=true then do let a <- cellOf env x.1;pure (ForInStep.yield ((x.1,a)::r)) else pure (ForInStep.yield r):Sem (List (Str×Addr)))=pure cl /\
    (∀ y∈l,y.2 = .free->∃ c,cl.lookup y.1=some c)/\(∀ x c,cs.lookup x=some c->∃ c',cl.lookup x=some c')/\∀ x c,cl.lookup x=some c->env.cells.lookup x=some c:=by
  intro l
  induction l with
  | nil=>intro cs _ hcs;exact⟨cs,rfl,λy hy=>(nomatch hy),λx c e=>⟨c,e⟩,hcs⟩
  | cons y r ih =>
   intro cs hl hcs
   obtain⟨n,k⟩:=y
   have hr:∀ y∈r,y.2 = .free->∃ c,env.cells.lookup y.1=some c:=λy hy=>hl y (mem_cons_of_mem _ hy)
   by_cases hk:k = .free
   ·subst hk
    obtain⟨c,hc⟩:=hl (n,.free) mem_cons_self rfl
    have hcs':∀ x c',((n,c)::cs).lookup x=some c'->env.cells.lookup x=some c':=λx c' e=>by
     rw[lookup_cons]at e
     cases hx:x==n with
     | true=>rw[hx]at e;cases e;rw[eq_of_beq hx];exact hc
     | false=>rw[hx]at e;exact hcs x c' e
    obtain⟨cl,e1,e2,e3,e4⟩:=ih ((n,c)::cs) hr hcs'
    refine⟨cl,?_,?_,?_,e4⟩
    ·have hcell:cellOf env n=pure c:=by unfold cellOf;rw[hc]
     rw[forIn_cons]
     simp only[beq_self_eq_true,if_true,hcell,pure_bind]
     exact e1
    ·intro y hy ey
     rcases mem_cons.mp hy with rfl|hy
     ·exact e3 n c (by rw[lookup_cons];simp)
     ·exact e2 y hy ey
    ·intro x c' e
     cases hx:x==n with
     | true=>exact e3 x c (by rw[lookup_cons,hx])
     | false=>exact e3 x c' (by rw[lookup_cons,hx];exact e)
   ·obtain⟨cl,e1,e2,e3,e4⟩:=ih cs hr hcs
    have hb:(k==NameKind.free)=false:=by simpa using hk
    refine⟨cl,?_,?_,e3,e4⟩
    ·rw[forIn_cons]
     simp only[hb,Bool.false_eq_true,if_false,pure_bind]
     exact e1
    ·intro y hy ey
     rcases mem_cons.mp hy with rfl|hy
     ·exact absurd ey hk
     ·exact e2 y hy ey
 obtain⟨cl,e1,e2,_,e4⟩:=key scope.names [] h (λx c e=>by cases e)
 refine⟨cl,?_,e2,e4⟩
 have e:closureFor scope env=(forIn scope.names ([]:List (Str×Addr)) (λx r=>if (x.2==NameKind.free)=true then do let a <- cellOf env x.1;pure (ForInStep.yield ((x.1,a)::r)) else pure (ForInStep.yield r)) >>= λr=>pure r:Sem (List (Str×Addr))):=rfl
 rw[e,e1,pure_bind]
theorem UG{env:Env}{x:Str}:∀ {names:List (Str×NameKind)}, 
  (names.map λ(n,k)=>if (k==NameKind.free&&env.scope.kind == .function&&env.kindOf n==some .cell) then (n,NameKind.cell) else (n,k)).lookup x =
   (names.lookup x).map λk=>if (k==NameKind.free&&env.scope.kind == .function&&env.kindOf x==some .cell) then NameKind.cell else k
 | []=>rfl
 | (n,k)::r=>by
  have ih:=@UG env x r
  show List.lookup x ((if (k==NameKind.free&&env.scope.kind == .function&&env.kindOf n==some .cell)=true then (n,NameKind.cell) else (n,k))::_)=_
  cases hx:x==n with
  | true =>
   have e:=eq_of_beq hx
   subst e
   by_cases hc:(k==NameKind.free&&env.scope.kind == .function&&env.kindOf x==some .cell)=true
   ·rw[if_pos hc,lookup_cons,lookup_cons];simp only[beq_self_eq_true,Option.map_some,hc,if_true]
   ·rw[if_neg hc,lookup_cons,lookup_cons];simp only[beq_self_eq_true,Option.map_some,if_neg hc]
  | false =>
   by_cases hc:(k==NameKind.free&&env.scope.kind == .function&&env.kindOf n==some .cell)=true
   ·rw[if_pos hc,lookup_cons,lookup_cons,hx];exact ih
   ·rw[if_neg hc,lookup_cons,lookup_cons,hx];exact ih
theorem Gg{env:Env}(h:own.names.lookup x=some .free):(relabel own env).names.lookup x=some .cell\/(relabel own env).names.lookup x=some .free:=by
 have e:(relabel own env).names.lookup x=_:=UG
 rw[e,h]
 by_cases hc:(NameKind.free==NameKind.free&&env.scope.kind == .function&&env.kindOf x==some .cell)=true
 ·left;simp only[Option.map_some,hc,if_true]
 ·right;simp only[Option.map_some,hc,if_false];rfl
theorem Ea{env:Env}(h:(relabel own env).names.lookup x=some .cell\/(relabel own env).names.lookup x=some .free):own.names.lookup x=some .free\/own.names.lookup x=some .cell:=by
 have e:(relabel own env).names.lookup x=_:=UG
 rw[e]at h
 cases hl:own.names.lookup x with
 | none=>rw[hl]at h;simp at h
 | some k =>
  rw[hl]at h
  simp only[Option.map_some,Option.some.injEq]at h
  by_cases hc:(k==NameKind.free&&env.scope.kind == .function&&env.kindOf x==some .cell)=true
  ·simp only[aD,beq_iff_eq]at hc
   exact .inl (by rw[hc.1.1])
  ·rw[if_neg hc]at h
   rcases h with h|h
   ·exact .inr (by rw[h])
   ·exact .inl (by rw[h])
section
noncomputable def pre(n:Nat)(fr:List Nat)(σ:St):St:=replicate n none++fr.map λj=>(σ[j]?).getD none
theorem KD 
  (I:Inv X pins σ H s)(hf:∀ b∈fp,Ql X pins H b)(hlt:∀ b∈fp,b<s.heap.objs.size)(c:Cw own X.env.scope Nc)(hc1:∀ y∈own.names,y.2 = .free->∃ c,cl.lookup y.1=some c)(hc2:∀ x c,cl.lookup x=some c->X.env.cells.lookup x=some c)
  (hN:fr.map (X.N[·]?)=Nc.map some)(hD:s.heap.objs.size<=D)(hC:s.heap.objs.size<=C)(hDC:D≠C)
  (k:∀ b o,s.heap.get? b=some o->s'.heap.get? b=some o)(ns:s'.heap.Ns C m)(nl:s'.heap.get? D=some { cls := .type "list",data := .seq #[] })(eo:s'.os=s.os)(eg:s'.gens=s.gens) :
  Inv (Zv X own (ts++Nc) ⟨cl,C,s,H,fp⟩) [] (pre ts.length fr σ) (upd H D (.lst [])) s':=by
 have fresh:∀ {b},s.heap.objs.size<=b->H b=none:=λh=>I.hok.fresh h
 have old:∀ {b:Addr}{o:Obj},s.heap.get? b=some o->b<s.heap.objs.size:=λe=>au e
 have cellLt:∀ x c,X.env.cells.lookup x=some c->c<s.heap.objs.size:=λx c e=>by
  obtain⟨v,o,ho,_⟩:=I.cell x c e
  exact old ho
 refine⟨⟨I.ok.mod,c.kind,I.ok.glob,I.ok.blt,hC,λx y a h1 h2=>I.ok.inj x y a (hc2 x a h1) (hc2 y a h2),λx hx=>?_,λx a z _=>(by cases z),I.ok.hd,I.ok.frames,.inl rfl,λb hb=>?_,I.bs,Nat.le_trans I.ok.bsz I.sz,λb o e hb=>?_,λb hb hb2=>?_,I.stack,I.Aj⟩,
  eo,by rw[eg];exact I.bare,?_,⟨m,ns,λi x v h1 h2 h3=>?_⟩,λx a h=>?_,?_,λx a h=>?_,λp hp=>absurd hp (by simp),?_,?_⟩
 ·have hx:(relabel own X.env).names.lookup x=some .cell\/(relabel own X.env).names.lookup x=some .free:=hx
  rcases Ea hx with h|h
  ·exact hc1 (x,.free) (PySem.mem_of_lookup h) rfl
  ·exact absurd rfl (c.nocell _ (PySem.mem_of_lookup h))
 ·obtain⟨_,f1,f2,f3,f4,f5⟩:=hf b hb
  refine⟨λz=>?_,λx a h=>f4 x a (hc2 x a h)⟩
  have z:b=C:=z
  subst z
  exact absurd (hlt _ hb) (Nat.not_lt.mpr hC)
 ·obtain⟨_,f1,f2,f3,f4,f5⟩:=hf b hb
  rcases f3 with f3|f3
  ·exact I.ok.noex b o e f3
  ·exact absurd (au (I.ok.bs b o e).1) (Nat.not_lt.mpr f3)
 ·obtain⟨_,f1,f2,f3,f4,f5⟩:=hf b hb
  rcases mem_cons.mp (I.Oi b hb2) with z|z
  ·exact f1 z
  ·exact f2 z
 ·exact Un.laid k hD (fresh hD)
 ·by_cases hi:i<ts.length
  ·unfold pre at h2
   rw[getElem?_append_left (by simpa using hi),getElem?_replicate]at h2
   split at h2<;>cases h2
  ·have h1:(ts++Nc)[i]?=some x:=h1
   unfold pre at h2
   rw[getElem?_append_right (by omega)]at h1
   rw[getElem?_append_right (by simpa using hi),length_replicate,getElem?_map]at h2
   have e1:(fr.map (X.N[·]?))[i-ts.length]?=some (some x):=by rw[hN,getElem?_map,h1];rfl
   rw[getElem?_map]at e1
   cases e:fr[i-ts.length]? with
   | none=>rw[e]at h2;cases h2
   | some j =>
    rw[e]at h2 e1
    simp only[Option.map_some,Option.some.injEq]at h2 e1
    have hj:σ[j]?=some (some v):=by
     cases e2:σ[j]? with
     | none=>rw[e2]at h2;cases h2
     | some w'=>rw[e2]at h2;exact congrArg some h2
    have hx:=c.cap x (mem_of_getElem? h1)
    have hv:=c.free _ (PySem.mem_of_lookup hx) rfl
    obtain⟨m0,hns0,hl0⟩:=I.loc
    obtain⟨u,ru,lk⟩:=hl0 j x v e1 hj (.inr hv)
    refine⟨u,ru,.inr ⟨Gg hx,?_⟩⟩
    rcases lk with⟨lk,_⟩|⟨_,a,ea,ha⟩
    ·have lk:X.env.scope.names.lookup x=some .local:=lk
     rw[lk]at hv
     rcases hv with hv|hv<;>cases hv
    ·obtain⟨a',ea'⟩:=hc1 _ (PySem.mem_of_lookup hx) rfl
     have:=hc2 x a' ea'
     rw[ea]at this
     cases this
     obtain⟨o,ho,hd⟩:=ha
     exact⟨a,ea',o,k _ _ ho,hd⟩
 ·obtain⟨v,o,ho,hd⟩:=I.cell x a (hc2 x a h)
  exact⟨v,o,k _ _ ho,hd⟩
 ·show upd H D (.lst []) C=none
  rw[Zq (Ne.symm hDC)]
  exact fresh hC
 ·have h:=hc2 x a h
  rw[Zq (Nat.ne_of_lt (Nat.lt_of_lt_of_le (cellLt x a h) hD))]
  exact I.freeC x a h
 ·exact I.hok.laid k hD ⟨Nat.zero_le _,[],0,.nil,nl⟩
 ·have:=congrArg length hN
  simp only[length_map]at this
  unfold pre
  simp only[length_append,length_replicate,length_map,this]
theorem comp_back 
  (I:Inv X pins σ H s)(hf:∀ b∈fp,Ql X pins H b)(J:Inv (Zv X own N ⟨cl,C,s,H,fp⟩) pl σ' H' s'):Inv X pins σ H' s' :=
 I.call' (ch:=fp) J.os J.base J.hok J.bare λb hb=>let ⟨_,f1,_,f3,f4,f5⟩:=hf b hb;⟨f3,f1,f4,f5⟩
theorem Om 
  (I:Inv X pins σ H s)(hC:s.heap.objs.size<=C)(J:Inv X pins σ2 H' s')(hn:H' C=none)(k:∀ b o,b≠C->s'.heap.get? b=some o->h'.get? b=some o):Inv X pins σ2 H' { s' with heap:=h' }:=by
 refine J.turned (t':=s'.toks) k hn (Nat.ne_of_gt (Nat.lt_of_lt_of_le I.lt hC)) (.inr (Nat.le_trans I.sz hC)) (λx c e z=>?_) (λp hp z=>?_)
 ·obtain⟨v,o,ho,_⟩:=I.cell x c e
  exact absurd (au ho) (Nat.not_lt.mpr (z ▸ hC))
 ·exact absurd (au (I.pin p hp).1) (Nat.not_lt.mpr (z ▸ hC))
noncomputable def PIf(X:Cx)(ifs:List Expr)(t:TT):Prop :=
 ∀ (pins:List (Addr×Obj)) (s:Shared) (σ:St) (H:Hp) (Q:Bool->Hp->Prop),Inv X pins σ H s->t σ H Q ->
  wpAny (model X.prog X.w) X.A (forIn ifs true λc r=>if r=true then do let ok <- isTrue c X.env (eval c X.env);pure (ForInStep.yield ok) else pure (ForInStep.yield r)) (TP X pins σ Q) X.xe s
noncomputable def tYes:TT:=λ_ H Q=>Q true H
theorem lN:PIf X [] tYes:=λpins s σ H Q I h=>wpAny_tests_nil ⟨H,I,h⟩
theorem lO(h:PT X c tc):PIf X [c] tc:=λpins s σ H Q I q=>wpAny_tests_one (h pins s σ H Q I q)
end
section
theorem yu(I:Nat->Shared->Prop)
  (turn:∀ n s,I n s->wpAny (model prog w) A (pyNext it) (λr s₁=>match r with
   | none=>R (.ok .next) s₁
   | some v=>wpAny (model prog w) A (letOwnedTupleGo target it v) (λ_ s₁=>wpAny (model prog w) A (assign target env v) (λ_ s₂ =>
     wpAny (model prog w) A (forIn ifs true λc r=>if r=true then do let ok <- isTrue c env (eval c env);pure (ForInStep.yield ok) else pure (ForInStep.yield r)) (λok s₃ =>
      if ok=true then wpAny (model prog w) A (eval elt env) (λx s₄ =>
       wpAny (model prog w) A (call (.builtin "list.append") [acc,x]) (λ_ s₅=>∃ m,m<n/\I m s₅) (λ_ _=>False) s₄) (λ_ _=>False) s₃
      else ∃ m,m<n/\I m s₃) (λ_ _=>False) s₂) (λ_ _=>False) s₁) (λ_ _=>False) s₁) (λ_ _=>False) s)
  (n:Nat)(h:I n s) :
  codeAny (model prog w) A (.compLoop (.ListComp elt [⟨target,iter,ifs,0⟩] scope pos) 0 it acc env) R s:=by
 refine codeAny_loop rfl I (λn s hI=>?_) n h
 show wpAny _ A ((compTurn (.ListComp elt [⟨target,iter,ifs,0⟩] scope pos) 0 it acc env).onRaise (λx=>do noteFrame x env;theTreesLotGoes x)) _ _ s
 refine wpAny_noted ?_
 rw[compTurn_list]
 refine aj (wpAny_standAt (aj (wpAny_mono (turn n s hI) (λr s₁ h₁=>?_) λ_ _ h'=>h'.elim)))
 cases r with
 | none=>exact ak h₁
 | some v =>
  refine aj (wpAny_mono h₁ (λ_ s₁ h₁=>?_) λ_ _ h'=>h'.elim)
  refine aj (wpAny_mono h₁ (λ_ s₂ h₂=>aj (wpAny_mono h₂ (λok s₃ h₃=>?_) λ_ _ h'=>h'.elim)) λ_ _ h'=>h'.elim)
  cases ok with
  | false=>exact ak ⟨rfl,h₃⟩
  | true =>
   exact aj (aj (wpAny_mono h₃ (λx s₄ h₄=>aj (wpAny_mono h₄ (λ_ s₅ h₅=>ak (ak ⟨rfl,h₅⟩)) λ_ _ h'=>h'.elim)) λ_ _ h'=>h'.elim))
end
section
noncomputable def Gh(J:It)(g:TG)(tf:TT)(te:TE)(D:Addr)(σ:St)(H:Hp)(Q:Hp->Prop):Prop :=
 ∃ W:Nat->Nat->St->Hp->Prop,(∃ m,W 0 m σ H)/\∀ i m σ H,W i m σ H ->
  (J.stop i H/\Q H)\/(J.go i H/\∃ N:St->Hp->Prop,(∀ σ' H',N σ' H'->∃ m',m'<m/\W (i+1) m' σ' H')/\∀ x H',J.yld i H x H'->g x σ H' λσ2 H2=>tf σ2 H2 λb H3 =>
   if b=true then te σ2 H3 λy H4=>∃ ys,H4 D=some (.lst ys)/\ys.length<az/\N σ2 (upd H4 D (.lst (ys++[y]))) else N σ2 H3)
noncomputable def Eb(n:Nat)(fr:List Nat)(wi:TI)(g:TG)(tf:TT)(te:TE):TE:=λσ H Q=>wi σ H λJ H1=>∀ D,H1 D=none->Gh J g tf te D (pre n fr σ) (upd H1 D (.lst [])) λH2=>Q (.ref D) H2
theorem yw 
  (hg:PG (Zv X own N z) tg g)(hf:PIf (Zv X own N z) ifs tf)(he:PE (Zv X own N z) elt te)(hc:X.calm=true)(T:Turn X.prog X.w X.K tg J z.fp it tn)(fo:∀ H':Hp,(∀ b∈z.fp,H' b=none)->∀ b∈z.fp,Ql (Zv X own N z) [] H' b)
  (I:Inv (Zv X own N z) [] σ H s)(st:tn 0 s.heap)(fr:∀ b∈z.fp,H b=none)(h:Gh J g tf te D σ H Q)(hR:∀ σ' H' s',Inv (Zv X own N z) [] σ' H' s'->Q H'->R (.ok .next) s') :
  codeAny (model X.prog X.w) X.A (.compLoop (.ListComp elt [⟨tg,iter,ifs,0⟩] sc pos) 0 (.ref it) (.ref D) (compEnvC own z.cl z.C X.env)) R s:=by
 obtain⟨W,⟨m0,w0⟩,turn⟩:=h
 refine yu (λn s'=>∃ i σ' H',Inv (Zv X own N z) [] σ' H' s'/\tn i s'.heap/\(∀ b∈z.fp,H' b=none)/\W i n σ' H') ?_ m0 ⟨0,σ,H,I,st,fr,w0⟩
 rintro n s3 ⟨i,σ3,H3,I3,st3,fr3,w3⟩
 rcases turn i n σ3 H3 w3 with⟨stop,qn⟩|⟨go,Nx,hN,step⟩
 ·refine thn (T.done (Zv X own N z) rfl rfl rfl hc i [] s3 σ3 H3 _ I3 (fo H3 fr3) st3 stop) λr s4 zq=>?_
  obtain⟨hr,I4⟩:=zq
  subst hr
  exact hR σ3 H3 s4 I4 qn
 ·refine thn (T.item (Zv X own N z) rfl rfl rfl hc i [] s3 σ3 H3 _ I3 (fo H3 fr3) st3 go) λr s4 zq=>?_
  obtain⟨u,hr,h4⟩:=zq
  subst hr
  refine thn h4 λ_ s5 zq=>?_
  obtain⟨x,H5,I5,r5,y5,st5,fr5⟩:=zq
  have I5':=I5.pinned (fo H5 fr5) (T.obj _ _ st5)
  refine thn (hg _ s5 σ3 H5 x u _ I5' r5 (step x H5 y5)) λ_ s6 zq=>?_
  obtain⟨σ6,H6,I6,q6⟩:=zq
  have again:∀ {σ7:St}{H7:Hp}{s7:Shared},Inv (Zv X own N z) ([]++Mg z.fp s5.heap) σ7 H7 s7->Nx σ7 H7->∃ m,m<n/\∃ i σ' H',Inv (Zv X own N z) [] σ' H' s7/\tn i s7.heap/\(∀ b∈z.fp,H' b=none)/\W i m σ' H':=λ{σ7 H7 s7} I7 n7=>by
   obtain⟨m',hm,w7⟩:=hN σ7 H7 n7
   refine⟨m',hm,i+1,σ7,H7,I7.Qm,T.keep _ _ _ st5 λb hb o e=>(I7.pin (b,o) (mem_append_right _ (mem_append_right _ (Vj hb e)))).1,λb hb=>?_,w7⟩
   obtain⟨o,e,d⟩:=T.obj _ _ st5 b hb
   exact(I7.pin (b,o) (mem_append_right _ (mem_append_right _ (Vj hb e)))).2.1
  refine thn (hf _ s6 σ6 H6 _ I6 q6) λb s7 zq=>?_
  obtain⟨H7,I7,q7⟩:=zq
  cases b with
  | false=>exact again I7 q7
  | true =>
   refine thn (he _ s7 σ6 H7 _ I7 q7) λy s8 zq=>?_
   obtain⟨yv,H8,I8,r8,ys,e8,z8,n8⟩:=zq
   exact thn (Mi _ s8 σ6 H8 (.ref D) [yv] (.ref D) [y] (λ_ H'=>Nx σ6 H') I8 rfl (.cons r8 .nil) ⟨D,ys,yv,rfl,rfl,e8,z8,n8⟩) λ_ s9 ⟨_,H9,I9,_,q9⟩=>again I9 q9
theorem Hn{fr:List Nat}{g:TG}{tf:TT}{te:TE}{J:It}{it:Addr}{fp:List Addr}{tn:Nat->Heap->Prop}{cl:List (Str×Addr)}
  {pins:List (Addr×Obj)}{σ:St}{H:Hp}{s:Shared}{Q:Addr->Hp->Prop}{RR:Value->Addr->Result->Shared->Prop}{E:Value->Shared->Prop}
  (hg:∀ z,PG (Zv X own (ts++Nc) z) tg g)(hf:∀ z,PIf (Zv X own (ts++Nc) z) ifs tf)(he:∀ z,PE (Zv X own (ts++Nc) z) elt te)(hc:X.calm=true)(c:Cw own X.env.scope Nc)(hN:fr.map (X.N[·]?)=Nc.map some)
  (hc1:∀ y∈own.names,y.2 = .free->∃ c,cl.lookup y.1=some c)(hc2:∀ x c,cl.lookup x=some c->X.env.cells.lookup x=some c)
  (I:Inv X pins σ H s)(T:Turn X.prog X.w X.K tg J fp it tn)(st:tn 0 s.heap)(fo:∀ b∈fp,Ql X pins H b)
  (h:∀ D,H D=none->Gh J g tf te D (pre ts.length fr σ) (upd H D (.lst [])) (Q D))
  (hR:∀ D C σ' H' s',s.heap.objs.size<=C->Inv (Zv X own (ts++Nc) ⟨cl,C,s,H,fp⟩) [] σ' H' s'->Q D H'->RR (.ref D) C (.ok .next) s') :
  wpAny (model X.prog X.w) X.A (newList []) (λacc s₃=>wpAny (model X.prog X.w) X.A (newFunctionEnv own X.env.globals cl [] X.env.qual none .none (some X.env)) (λcenv s₄ =>
   codeAny (model X.prog X.w) X.A (.compStart (.ListComp elt [⟨tg,iter,ifs,0⟩] sc pos) 0 (.ref it) acc { cenv with scope:=relabel own X.env }) (RR acc cenv.locals) s₄) E s₃) E s:=by
 refine wpAny_newObj_type (wpAny_newFunctionEnv c.nocell (by intro y hy;simp at hy) (λh₁ hns₁ hsb₁=>?_) c.kind)
 dsimp only at hns₁ hsb₁⊢
 have hlt:∀ b∈fp,b<s.heap.objs.size:=λb hb=>let ⟨o,e,_⟩:=T.obj 0 _ st b hb;au e
 generalize hH2:s.heap.push { cls := .type "list",dict:=none,data := .seq ([]:List Value).toArray }=H2 at hns₁ hsb₁⊢
 have hC:H2.objs.size=s.heap.objs.size+1:=by rw[<-hH2,Heap.size_push]
 have hDC:s.heap.objs.size≠H2.objs.size:=by rw[hC];exact Nat.ne_of_lt (Nat.lt_succ_self _)
 have hCle:s.heap.objs.size<=H2.objs.size:=by rw[hC];exact Nat.le_succ _
 have below:∀ b,b<s.heap.objs.size->b≠H2.objs.size:=λb hb=>by rw[hC];exact Nat.ne_of_lt (Nat.lt_succ_of_lt hb)
 have old:∀ b o,s.heap.get? b=some o->h₁.get? b=some o:=λb o e=>hsb₁.extBut b o (below b (au e)) (ao _ (hH2 ▸ ao _ e))
 have hacc:h₁.get? s.heap.objs.size=some { cls := .type "list",data := .seq #[] }:=hsb₁.extBut _ _ hDC (ao _ (hH2 ▸ aq _ rfl))
 have st1:tn 0 h₁:=T.keep _ _ _ st λb _ o e=>old b o e
 have hD0:H s.heap.objs.size=none:=I.fresh
 have I1:Inv (Zv X own (ts++Nc) ⟨cl,H2.objs.size,s,H,fp⟩) [] (pre ts.length fr σ) (upd H s.heap.objs.size (.lst [])) { s with heap:=h₁,toks:=s.toks+([]:List (Str×Value)).length } :=
  KD I fo hlt c hc1 hc2 hN (Nat.le_refl _) hCle hDC old hns₁ hacc rfl rfl
 have fo':∀ H':Hp,(∀ b∈fp,H' b=none)->∀ b∈fp,Ql (Zv X own (ts++Nc) ⟨cl,H2.objs.size,s,H,fp⟩) [] H' b:=λH' hn b hb=>by
  obtain⟨_,f1,f2,f3,f4,f5⟩:=fo b hb
  refine⟨hn b hb,below b (hlt b hb),λz=>?_,.inl hb,λx a e=>f4 x a (hc2 x a e),λp hp=>absurd hp (by simp)⟩
  rcases mem_cons.mp (I.Oi b z) with z|z
  ·exact f1 z
  ·exact f2 z
 have fr1:∀ b∈fp,upd H s.heap.objs.size (.lst []) b=none:=λb hb=>by
  rw[Zq (Nat.ne_of_lt (hlt b hb))]
  exact(fo b hb).1
 have loop:=yw (z:=⟨cl,H2.objs.size,s,H,fp⟩) (pos:=pos) (sc:=sc) (iter:=iter) (R:=RR (.ref s.heap.objs.size) H2.objs.size) (hg _) (hf _) (he _) hc T fo' I1 st1 fr1 (h _ hD0) λσ' H' s' J' q=>hR _ _ σ' H' s' hCle J' q
 exact codeAny_compStart_list loop (T.self _ 0 _ _ _ st1 loop)
theorem qW(ts Nc:List Str)(fr:List Nat){g:TG}{tf:TT}{te:TE}(hi:PI X tg iter wi)
  (hg:∀ z,PG (Zv X own (ts++Nc) z) tg g)(hf:∀ z,PIf (Zv X own (ts++Nc) z) ifs tf)(he:∀ z,PE (Zv X own (ts++Nc) z) elt te)(hc:autoParam (X.calm=true) auR)(c:autoParam (UF own X.env.scope Nc=true) auR)(hN:autoParam (fr.map (X.N[·]?)=Nc.map some) auR)
  (hs:∀ x,foldedSetIterable iter X.env x=pure x:=by intro _;rfl):PE X (.ListComp elt [⟨tg,iter,ifs,0⟩] own pos) (Eb ts.length fr wi g tf te):=by
 have c:=Mm c
 intro pins s σ H Q I h
 obtain⟨cl,e0,hc1,hc2⟩:=Ol (scope:=own) (env:=X.env) λy hy e=>I.ok.has y.1 (c.free y hy e)
 rw[eval_ListComp]
 refine wpAny_comprehension_free (use:=none) rfl hs e0 c.kind c.loc (thn (hi pins s σ H _ I h) λxv s₁ h₁=>thn h₁ λitv s₂ h₂=>?_)
 obtain⟨it,fp,tn,J,H2,e,I2,T,st2,f2,q⟩:=h₂
 subst e
 refine Hn (RR:=λacc C=>compPost (model X.prog X.w) X.A X.xe none (EP X pins σ Q) acc C) (Q:=λD H'=>Q (.ref D) H') hg hf he hc c hN hc1 hc2 I2 T st2 f2 q ?_
 intro D C σ' H' s' hC J' q'
 obtain⟨m,hns,_⟩:=J'.loc
 refine⟨m,hns,λh' sb=>⟨.ref D,H',Om I2 hC (comp_back I2 f2 J') J'.free λb o hb e=>sb.extBut b o hb e,rfl,q'⟩⟩
theorem qX{own:Scope}{pos:Pos}(ts Nc:List Str)(fr:List Nat){wi:TI}{g:TG}{tf:TT}{te:TE}(hnd:X.N.Nodup)(hi:X.N[i]?=some x)(hx:Loc X.env.scope x)
  (hit:PI X tg iter wi)(hg:∀ z,PG (Zv X own (ts++Nc) z) tg g)(hf:∀ z,PIf (Zv X own (ts++Nc) z) ifs tf)(he:∀ z,PE (Zv X own (ts++Nc) z) elt te)(hsw:autoParam (swapsWith (.ListComp elt [⟨tg,iter,ifs,0⟩] own pos) (some (.Name x px)) spos.line X.env=pure true) auR)
  (hc:autoParam (X.calm=true) auR)(c:autoParam (UF own X.env.scope Nc=true) auR)(hN:autoParam (fr.map (X.N[·]?)=Nc.map some) auR)
  (hs:∀ x,foldedSetIterable iter X.env x=pure x:=by intro _;rfl)(hfn:X.fn x=true\/X.env.scope.names.lookup x=some .local:=by first | exact .inl rfl | exact .inr rfl | assumption) :
  PS X (.Assign [.Name x px] (.ListComp elt [⟨tg,iter,ifs,0⟩] own pos) spos) (Io (Eb ts.length fr wi g tf te) (OX i)):=by
 have c:=Mm c
 intro pins s σ H D0 I h
 obtain⟨cl,e0,hc1,hc2⟩:=Ol (scope:=own) (env:=X.env) λy hy e=>I.ok.has y.1 (c.free y hy e)
 rw[exec_Assign_Name_used _ _ _ _ hsw]
 refine aj (wpAny_standAt (aj ?_))
 show wpAny _ _ (do let _ <- comprehension (.ListComp elt [⟨tg,iter,ifs,0⟩] own pos) own X.env _ (newList []) false (eval iter X.env) (some (assign (.Name x px) X.env))) _ _ s
 refine aj (wpAny_mono (wpAny_comprehension_free (use:=some (assign (.Name x px) X.env)) (Q:=λ_ s'=>SP X pins D0 .next s') rfl hs e0 c.kind c.loc
  (thn (hit pins s σ H _ I h) λxv s₁ h₁=>thn h₁ λitv s₂ h₂=>?_)) (λ_ s' hq=>ak (ak hq)) λ_ _ e=>e)
 obtain⟨it,fp,tn,J,H2,e,I2,T,st2,f2,q⟩:=h₂
 subst e
 refine Hn (RR:=λacc C=>compPost (model X.prog X.w) X.A X.xe (some (assign (.Name x px) X.env)) (λ_ s'=>SP X pins D0 .next s') acc C) (Q:=λD H'=>D0.nx (σ.set i (some (.ref D))) H') hg hf he hc c hN hc1 hc2 I2 T st2 f2 q ?_
 intro D C σ' H' s' hC J' q'
 show wpAny _ _ (assign (.Name x px) X.env (.ref D)) _ _ _
 have I3:=comp_back I2 f2 J'
 refine wpAny_assign_Name (Hg I3 hnd hi hx (v := .ref D) rfl (λs4 I4 zq=>?_) hfn)
 obtain⟨a,sb4,ha⟩:=zq
 obtain⟨m,hns,_⟩:=J'.loc
 have hCa:C≠a:=by
  rcases ha with rfl|ha
  ·exact Nat.ne_of_gt (Nat.lt_of_lt_of_le I2.lt hC)
  ·obtain⟨v,o,ho,_⟩:=I2.cell x a ha
   exact Nat.ne_of_gt (Nat.lt_of_lt_of_le (au ho) hC)
 refine⟨m,hns.sameBut sb4 hCa,λh' sb=>⟨_,H',Om I2 hC I4 J'.free λb o hb e=>sb.extBut b o hb e,q'⟩⟩
end
noncomputable def Its(x:Str):It:=⟨λi _=>i<x.cps.size,λi H v H'=>H'=H/\∃ c,x.cps[i]?=some c/\v = .str ⟨#[c]⟩,λi _=>x.cps.size<=i⟩
theorem vL{K:aa}(x:Str)(t:Tok)(it:Addr)(n:String)(hn:n = "str_ascii_iterator" \/ n = "str_iterator"):Turn P w K tg (Its x) [it] it (λi h=>h.IsStrIter it n x t i) where
 mem:=by simp
 obj:=λi h st b hb=>by
  have e:b=it:=by simpa using hb
  subst e
  obtain⟨o,e,c,d⟩:=st
  exact⟨o,e,λv z=>by rw[d]at z;cases z⟩
 keep:=λi h h' st k=>let ⟨o,ho,r⟩:=st;⟨o,k it (by simp) o ho,r⟩
 item:=by
  intro X hP hw hK hc i pins s σ H E I hf st hg
  subst hP hw hK
  obtain⟨f0,f1,f2,f3,f4,f5⟩:=hf it (by simp)
  have hi:i<x.cps.size:=hg
  have hx:x.cps[i]?=some x.cps[i]:=Array.getElem?_eq_getElem hi
  have fin:∀ h',h'.IsStrIter it n x t (i+1)->aF it s.heap h'->∃ u,some (Value.str ⟨#[x.cps[i]]⟩ s.toks)=some u/\wpAny (model X.prog X.w) X.A (letOwnedTupleGo tg (.ref it) u)
    (λ_ s2=>∃ y H',Inv X pins σ H' s2/\RelV y u/\(Its x).yld i H y H'/\s2.heap.IsStrIter it n x t (i+1)/\∀ b∈[it],H' b=none) E { s with heap:=h',toks:=s.toks+1 }:=λh' st' sb=>by
   have I1:Inv X pins σ H { s with heap:=h',toks:=s.toks+1 }:=I.turned (λb o hb e=>(sb.2 b hb).trans e) f0 f1 f3 f4 f5
   obtain⟨o,e,c,d⟩:=id st'
   exact⟨_,rfl,Al (s:={ s with heap:=h',toks:=s.toks+1 }) e c d (by rcases hn with rfl | rfl<;>decide) ⟨.str ⟨#[x.cps[i]]⟩,H,I1,⟨_,rfl⟩,⟨rfl,_,hx,rfl⟩,st',λb hb=>(hf b hb).1⟩⟩
  rcases hn with rfl|rfl
  ·exact wpAny_pyNext_ascii_item st hx λh' st' sb=>fin h' st' sb
  ·exact wpAny_pyNext_wide_item st hx λh' st' sb=>fin h' st' sb
 done:=by
  intro X hP hw hK hc i pins s σ H E I hf st hg
  subst hP hw hK
  obtain⟨f0,f1,f2,f3,f4,f5⟩:=hf it (by simp)
  have hx:x.cps[i]?=none:=by simpa using show x.cps.size<=i from hg
  rcases hn with rfl|rfl
  ·exact wpAny_pyNext_ascii_end (I.ok.hd hc) st hx λh' eb=>⟨rfl,I.turned (t':=s.toks) (λb o hb e=>eb b o hb e) f0 f1 f3 f4 f5⟩
  ·exact wpAny_pyNext_wide_end (I.ok.hd hc) st hx λh' eb=>⟨rfl,I.turned (t':=s.toks) (λb o hb e=>eb b o hb e) f0 f1 f3 f4 f5⟩
 self:=λ_ _ _ _ _ st h=>by
  rcases hn with rfl|rfl
  ·exact wpAny_pyIter_striter_ascii st h
  ·exact wpAny_pyIter_striter_wide st h
section
noncomputable def iStr(tl:TE):TI:=λσ H R=>tl σ H λx H1=>∃ y,x = .str y/\R (Its y) H1
theorem lP{l:Expr}(hl:PE X l tl):PI X tg l (iStr tl):=by
 intro pins s σ H R I h
 refine thn (hl pins s σ H _ I h) λv s1 zq=>?_
 obtain⟨x,H1,I1,r1,y,e,q⟩:=zq
 subst e
 obtain⟨t,rfl⟩:=r1
 have fin:∀ n:String,(n = "str_ascii_iterator" \/ n = "str_iterator")->PIE X pins σ tg R (.ref s1.heap.objs.size) { s1 with heap:=s1.heap.push { cls := .type n,data := .fields #[.str y t,.int 0 0] } }:=λn hn=>by
  refine⟨_,[s1.heap.objs.size],_,_,H1,rfl,I1.kept (t':=s1.toks) λb o e=>ao _ e,vL y t _ n hn,⟨_,aq _ rfl,rfl,rfl⟩,λb hb=>?_,q⟩
  have z:b=s1.heap.objs.size:=by simpa using hb
  subst z
  exact I1.vc (Nat.le_refl _) (I1.hok.fresh (Nat.le_refl _))
 cases ha:y.cps.all (· < 128)
 ·exact wpAny_pyIter_wide ha (fin _ (.inr rfl))
 ·exact wpAny_pyIter_ascii ha (fin _ (.inl rfl))
end
section
theorem lQ{bs:List Bool}:∀ {us:List Value},Vals (bs.map V.bl) us->∀ i,i<bs.length->us[i]?=some (.bool (bs.getD i false)):=by
 induction bs with
 | nil=>intro us _ i hi;simp at hi
 | cons b r ih =>
  intro us h i hi
  cases h with
  | cons h1 h2 =>
   cases h1
   cases i with
   | zero=>rfl
   | succ j=>simpa using ih h2 j (by simpa using hi)
theorem all_range(bs:List Bool):(List.range bs.length).all (λi=>bs.getD i false)=bs.all id:=by
 induction bs with
 | nil=>rfl
 | cons b r ih =>
  rw[length_cons,List.range_succ_eq_map,all_cons,all_map,all_cons,<-ih]
  rfl
theorem vM{X:Cx}(hc:X.calm=true):Xz X (.builtin "all") (λxs H Q=>∃ p,∃ bs:List Bool,xs=[.ref p]/\SqL X.K H p (bs.map V.bl)/\Q (.bl (bs.all id)) H):=by
 intro pins s σ H xs us Q I r h
 obtain⟨p,bs,rfl,hq,q⟩:=h
 obtain⟨u,rfl,ru⟩:=vals1 r
 cases ru
 obtain⟨its,rv,pl,hz⟩:=I.list hq
 have hlen:=rv.length
 rw[length_map]at hlen
 refine call_all_walk (wpAny_pyIter_list pl.isList ?_)
 have hne:p≠s.heap.objs.size:=by
  obtain⟨o,_,e,_⟩:=pl
  exact Nat.ne_of_lt (au e)
 have hl2:(s.heap.push { cls := .type "list_iterator",data := .fields #[.ref p,.int 0 0] }).IsList p its.toArray:=pl.isList.at λo e=>ao _ e
 refine⟨_,_,_,_,_,_,λi=>bs.getD i false,rfl,Walks.list (A:=X.A.in1) (show X.A.in1.handled=none from I.ok.hd hc) s.heap.objs.size p hne its.toArray,⟨⟨_,aq _ rfl,rfl,rfl⟩,hl2⟩,?_,?_⟩
 ·intro i v s' Q' E' hv hQ
  have hi:i<bs.length:=by
   have:=(Array.getElem?_eq_some_iff.mp hv).1
   simp only[size_toArray]at this
   omega
  have e:=lQ rv i hi
  rw[show its.toArray[i]?=its[i]? by simp,e]at hv
  cases hv
  exact wpAny_truthy_bool hQ
 ·intro h' tk k
  have I':Inv X pins σ H { s with heap:=h',toks:=tk }:=I.kept λb o e=>k b o (by simpa using Nat.ne_of_lt (au e)) (ao _ e)
  refine⟨.bl _,H,I',rfl,?_⟩
  rw[size_toArray,<-hlen,all_range]
  exact q
theorem Cy:∀ {us:List Value},Vals (ys.map V.str) us->StrsAre us ys:=by
 induction ys with
 | nil=>intro us h;cases h;exact .nil
 | cons y r ih =>
  intro us h
  cases h with
  | cons h1 h2 =>
   obtain⟨t,rfl⟩:=h1
   exact .cons _ _ (ih h2)
theorem qY:MtR X "str.join" (λx xs H Q=>∃ sep p,∃ ys:List Str,x = .str sep/\xs=[.ref p]/\SqL X.K H p (ys.map V.str)/\(ys.map (·.length)).sum+ys.length*sep.length<=16777216/\Q (.str (Txt.join sep ys)) H):=by
 intro pins s σ H x xs v us Q I rx r h
 obtain⟨sep,p,ys,rfl,rfl,hq,hok,q⟩:=h
 obtain⟨t,rfl⟩:=rx
 obtain⟨u,rfl,ru⟩:=vals1 r
 cases ru
 obtain⟨its,rv,pl,hz⟩:=I.list hq
 exact join_list pl.isList (by simpa using Cy rv) hok λt' k=>⟨.str _,H,I.tok k,⟨t',rfl⟩,q⟩
theorem lR:SlR X (λx lo hi H Q=>∃ y,x = .str y/\y.length<=az/\Q (.str (Txt.slice y lo hi)) H):=by
 intro pins s σ H x v vl vu lo hi sl Q I rx hs pl pu h
 obtain⟨y,rfl,hz,q⟩:=h
 obtain⟨t,rfl⟩:=rx
 refine⟨"str",_,F.slot_str_getitem.lookup,typeIs_str _ _ _,?_⟩
 have fin:∀ t' k,EP X pins σ Q (.str (Txt.slice y lo hi) t') { s with toks:=k }:=λt' k=>⟨.str _,H,I.tok k,⟨t',rfl⟩,q⟩
 cases pl with
 | none =>
  cases pu with
  | none=>exact wpAny_getItem_str_slice (l:=none) (u:=none) (st:=none) hs rfl (post_val_or_str ⟨Nat.le_trans (Txt.slice_le y _ _) hz,fin⟩)
  | int j uj=>exact wpAny_getItem_str_slice (l:=none) (u:=some (j,uj)) (st:=none) hs rfl (post_val_or_str ⟨Nat.le_trans (Txt.slice_le y _ _) hz,fin⟩)
 | int i ui =>
  cases pu with
  | none=>exact wpAny_getItem_str_slice (l:=some (i,ui)) (u:=none) (st:=none) hs rfl (post_val_or_str ⟨Nat.le_trans (Txt.slice_le y _ _) hz,fin⟩)
  | int j uj=>exact wpAny_getItem_str_slice (l:=some (i,ui)) (u:=some (j,uj)) (st:=none) hs rfl (post_val_or_str ⟨Nat.le_trans (Txt.slice_le y _ _) hz,fin⟩)
end
noncomputable def noStar:Expr->Bool
 | .Starred ..=>false
 | _=>true
noncomputable def ZO:List Expr->Bool
 | []=>true
 | e::es=>noStar e&&ZO es
theorem Wk(h:noStar e=true):starEach (e::es) env=(false,eval e env)::starEach es env:=by
 cases e<;>first | rfl | cases h
theorem WM:∀ {es:List Expr},ZO es=true->∀ pos,(backTo pos (starEach es env)).any (·.1)=false
 | [],_,_=>rfl
 | e::es,h,pos=>by
  unfold ZO at h
  rw[aD]at h
  rw[Wk h.1]
  show(false||(backTo pos (starEach es env)).any (·.1))=false
  rw[WM h.2 pos]
  rfl
section
theorem vN(ha:PE X e te)(hr:PA X es t)(h:autoParam (noStar e=true) auR):PA X (e::es) (vo te t):=qL ha hr (Wk h)
theorem pe_b{t:TA}{id:String}{r:List V->Hp->VK->Prop}(hc:Xz X (.builtin id) r)(hg:Gl X x)(hm:X.mg x=none)(hv:bootBuiltins x=some (.builtin id))(ha:PA X (e::es) t)(hst:autoParam (ZO (e::es)=true) auR)(hn:autoParam (x ≠ "__name__" ) auD)(hdb:autoParam ((x==("__debug__" : Str))=false) auD) :
  PE X (.Call (.Name x p) (e::es) [] pos) (tCB r t):=by
 have h:=hst
 unfold ZO at h
 rw[aD]at h
 exact vt hc hg hm hv ha hn hdb (Wk h.1) (WM h.2 pos)
theorem nT(hc:Xz X (.type T) r)(hg:Gl X x)(hm:X.mg x=none)(hv:bootBuiltins x=some (.type T))(ha:PA X (e::es) t)(hst:autoParam (ZO (e::es)=true) auR)(hn:autoParam (x ≠ "__name__" ) auD)(hdb:autoParam ((x==("__debug__" : Str))=false) auD) :
  PE X (.Call (.Name x p) (e::es) [] pos) (tCB r t):=by
 have h:=hst
 unfold ZO at h
 rw[aD]at h
 exact yj hc hg hm hv ha hn hdb (Wk h.1) (WM h.2 pos)
end
structure QE (X:Cx)(e:Expr)(t:TE):Prop where
 get:PE X e t
structure QA (X:Cx)(es:List Expr)(t:TA):Prop where
 get:PA X es t
structure QS (X:Cx)(st:Stmt)(t:TS):Prop where
 get:PS X st t
structure QSs (X:Cx)(st:List Stmt)(t:TS):Prop where
 get:PSs X st t
section
theorem Fun.okX{K:aa}{st:Stmt}{f:Addr}{fd:FuncData}{N ps:List Str}{k:Nat}{sp:Sp}(F:Fun K x qual st f fd)(S:Zn N ps (Zf st))(len:∀ vs H Q E,sp vs H Q E->vs.length=ps.length)
  (hbody:∀ (cdv:Value) (A:Around) (outer:List Env) (s:Shared) (H:Hp) (vs:List V) (Q:VK) (E:XK),XA k (A.deeper (envOfC qual (Zf st) s.heap.objs.size f cdv))->sp vs H Q E ->
   ∃ t,QSs (ZS CX P w K mg base N qual (Zf st) f cdv A outer s H E) (Ye st) t/\t { nx:=λ_ H'=>Q .non H',rt:=Q } (start N vs) H):ZL P w K mg base CX (k+1) f fd ps sp:=by
 obtain⟨oc,od,kV,doc,pm,an,cdv,ct,osl,rfl,lk,hcd⟩:=F.ex
 refine vq lk hcd S len λA outer s H vs Q E hr hsp=>?_
 obtain⟨t,h,q⟩:=hbody cdv A outer s H vs Q E hr hsp
 exact⟨t,h.get,q⟩
end
section
end
theorem vO{zs:List Str}(h:∀ z∈zs,z.length<=m):(zs.map (·.length)).sum<=zs.length*m:=by
 induction zs with
 | nil=>simp
 | cons z r ih =>
  have h1:=h z mem_cons_self
  have h2:=ih λz' hz=>h z' (mem_cons_of_mem _ hz)
  simp only[map_cons,List.sum_cons,length_cons,Nat.add_mul,Nat.one_mul]
  omega
theorem vP:XZ X (λ_ _ _ _=>False):=λ_ _ _ _ _ _ _ h=>by
 obtain⟨_,_,_,_,_,_,_,_,_,_,_,_,_,_,z⟩:=h
 exact z.elim
section
theorem Ay(F:ZL X.prog X.w X.K X.mg X.base (CXE X.prog X.w) k f fd ps sp)(hr:XA k X.A)(hg:Gl X x)(hm:X.mg x=some (.ref f))(hk:keepIn X.K (.ref f)=true)(hb:Binds X.K fd ps [])(hx:XZ X XE)
  (ha:QA X (e::es) t)(hst:autoParam (ZO (e::es)=true) auR)(hdb:autoParam ((x==("__debug__" : Str))=false) auD):QE X (.Call (.Name x p) (e::es) [] pos) (Ct sp XE t):=by
 have h:=hst
 unfold ZO at h
 rw[aD]at h
 exact⟨vG F hr hg hm hk hb hx ha.get hdb (Wk h.1) (WM h.2 pos)⟩
end
section
variable {P:Program}{w:World}{K:aa}{mg:Str->Option Value}{base:Heap}{N:List Str}{qual:Str}{scope:Scope}{f C:Addr}{cdv:Value}{A:Around}{outer:List Env}{s:Shared}{H:Hp}{E:XK}
 {x:Str}{np cpos pos:Pos}{e₀:Expr}{rest:List Expr}{t:TA}
theorem vQ(c:KA K C)(hm:mg x=some (.ref C))(ha:QA (ZS (CXE P w) P w K mg base N qual scope f cdv A outer s H E) (e₀::rest) t)
  (hg:autoParam (Gl (ZS (CXE P w) P w K mg base N qual scope f cdv A outer s H E) x) auR)(hst:autoParam (ZO (e₀::rest)=true) auR)(hdb:autoParam ((x==("__debug__" : Str))=false) auD) :
  QS (ZS (CXE P w) P w K mg base N qual scope f cdv A outer s H E) (.Raise (some (.Call (.Name x np) (e₀::rest) [] cpos)) none pos) (Cu C E t):=by
 have h:=hst
 unfold ZO at h
 rw[aD]at h
 exact⟨vH c hm ha.get hg hdb (Wk h.1) (WM h.2 cpos)⟩
end
section
end
inductive EqL (R:V->V->Bool->Prop):List V->List V->Bool->Prop
 | nil:EqL R [] [] true
 | left (y:V) (ys:List V):EqL R [] (y::ys) false
 | right (x:V) (xs:List V):EqL R (x::xs) [] false
 | cons {x y:V}{xs ys:List V}{b c:Bool}:R x y b->EqL R xs ys c->EqL R (x::xs) (y::ys) (b&&c)
noncomputable def EqN(K:aa)(H:Hp):Nat->V->V->Bool->Prop
 | 0,x,y,b=>(Tz x=true/\Tz y=true/\b=eqV x y)\/∃ a,x = .ref a/\y = .ref a/\b=true
 | n+1,x,y,b=>EqN K H n x y b\/∃ a c xs ys,x = .ref a/\y = .ref c/\((SqT K H a xs/\SqT K H c ys)\/(SqL K H a xs/\SqL K H c ys))/\EqL (EqN K H n) xs ys b
theorem EqL.ans(h:EqL R xs ys b) :
  ∃ e:Nat->Bool,(∀ (j:Nat) x y,xs[j]?=some x->ys[j]?=some y->R x y (e j))/\b=((List.range (min xs.length ys.length)).all e&&xs.length==ys.length):=by
 induction h with
 | nil=>exact⟨λ_=>true,λj x y e=>by simp at e,rfl⟩
 | left y ys=>exact⟨λ_=>true,λj x y e=>by simp at e,by simp⟩
 | right x xs=>exact⟨λ_=>true,λj x y _ e=>by simp at e,by simp⟩
 | @cons x y xs ys b c hr _ ih =>
  obtain⟨e,h1,h2⟩:=ih
  refine⟨λj=>match j with | 0=>b | j+1=>e j,λj x' y' ex ey=>?_,?_⟩
  ·cases j with
   | zero =>
    have e1:x=x':=by simpa using ex
    have e2:y=y':=by simpa using ey
    subst e1 e2
    exact hr
   | succ j=>exact h1 j x' y' (by simpa using ex) (by simpa using ey)
  ·have e1:min (x::xs).length (y::ys).length=min xs.length ys.length+1:=by simp[Nat.min_def];split<;>rfl
   have e3:((x::xs).length==(y::ys).length)=(xs.length==ys.length):=by simp
   rw[e1,e3,List.range_succ_eq_map,all_cons,all_map,h2,Bool.and_assoc]
   rfl
section
theorem lS(I:Inv X pins σ H s):∀ (n:Nat) {A:Around}{x y:V}{u v:Value}{b:Bool},EqN X.K H n x y b->RelV x u->RelV y v->A.units+n<cLine->SeqAt.EqAt A s u v b:=by
 intro n
 induction n with
 | zero =>
  intro A x y u v b h ru rv _
  rcases h with⟨fx,fy,rfl⟩|⟨a,rfl,rfl,rfl⟩
  ·exact vy ru rv fx fy
  ·cases ru
   cases rv
   exact SeqAt.EqAt.same _
 | succ n ih =>
  intro A x y u v b h ru rv hu
  rcases h with h|⟨a,c,xs,ys,rfl,rfl,hq,hl⟩
  ·exact ih h ru rv (by omega)
  ·cases ru
   cases rv
   by_cases hac:a=c
   ·subst hac
    have hb:b=true:=by
     have key:∀ {zs ws:List V}{b:Bool},zs=ws->EqL (EqN X.K H n) zs ws b->(∀ (j:Nat) z,zs[j]?=some z->∀ b',EqN X.K H n z z b'->b'=true)->b=true:=by
      intro zs ws b e hl hz
      induction hl with
      | nil=>rfl
      | left=>cases e
      | right=>cases e
      | cons h1 _ ih2 =>
       cases e
       rw[hz 0 _ rfl _ h1,ih2 rfl λj z hj b' hb=>hz (j+1) z (by simpa using hj) b' hb]
       rfl
     have refl_true:∀ (n:Nat) (z:V) (b':Bool),EqN X.K H n z z b'->b'=true:=by
      intro n
      induction n with
      | zero =>
       intro z b' h
       rcases h with⟨f,_,rfl⟩|⟨_,_,_,rfl⟩
       ·exact vD f
       ·rfl
      | succ n ihn =>
       intro z b' h
       rcases h with h|⟨a,c,xs,ys,rfl,e,hq,hl⟩
       ·exact ihn z b' h
       ·cases e
        have exy:xs=ys:=by
         rcases hq with⟨h1,h2⟩|⟨h1,h2⟩
         ·exact I.Ph h1 h2
         ·exact I.OW h1 h2
        have key2:∀ {zs ws:List V}{b:Bool},zs=ws->EqL (EqN X.K H n) zs ws b->b=true:=by
         intro zs ws b e hl
         induction hl with
         | nil=>rfl
         | left=>cases e
         | right=>cases e
         | cons h1 _ ih2 =>
          cases e
          rw[ihn _ _ h1,ih2 rfl]
          rfl
        exact key2 exy hl
     have exy:xs=ys:=by
      rcases hq with⟨h1,h2⟩|⟨h1,h2⟩
      ·exact I.Ph h1 h2
      ·exact I.OW h1 h2
     exact key exy hl λj z hj b' hb=>refl_true n z b' hb
    subst hb
    exact SeqAt.EqAt.same _
   ·obtain⟨e,he,rfl⟩:=hl.ans
    refine SeqAt.EqAt.of_refs hac ?_
    rcases hq with⟨h1,h2⟩|⟨h1,h2⟩
    ·obtain⟨us,r1,p1,_⟩:=I.tuple h1
     obtain⟨ws,r2,p2,_⟩:=I.tuple h2
     have l1:=r1.length
     have l2:=r2.length
     have z:=SeqAt.RcAt.tuples (A:=A) (e:=e) (show s.heap.IsTuple a us.toArray from p1) (show s.heap.IsTuple c ws.toArray from p2) (by omega) (λj j1 j2=>?_)
     ·rw[size_toArray,size_toArray,<-l1,<-l2]at z
      exact z
     ·simp only[size_toArray]at j1 j2
      obtain⟨u,hu',ru⟩:=r1.get (aA (show j<xs.length by omega))
      obtain⟨v,hv',rv⟩:=r2.get (aA (show j<ys.length by omega))
      have z1:us[j]=u:=by rw[aA j1]at hu';exact Option.some.inj hu'
      have z2:ws[j]=v:=by rw[aA j2]at hv';exact Option.some.inj hv'
      simp only[List.getElem_toArray]
      rw[z1,z2]
      exact ih (he j _ _ (aA (show j<xs.length by omega)) (aA (show j<ys.length by omega))) ru rv (by show A.units+1+n<cLine;omega)
    ·obtain⟨us,r1,p1,_⟩:=I.list h1
     obtain⟨ws,r2,p2,_⟩:=I.list h2
     have l1:=r1.length
     have l2:=r2.length
     by_cases hsz:xs.length=ys.length
     ·have z:=SeqAt.RcAt.lists (A:=A) (e:=e) p1.isList p2.isList (by simp only[size_toArray];omega) (by omega) (λj j1 j2=>?_)
      ·rw[size_toArray,<-l1]at z
       rw[<-hsz,Nat.min_self,beq_self_eq_true,Bool.and_true]
       exact z
      ·simp only[size_toArray]at j1 j2
       obtain⟨u,hu',ru⟩:=r1.get (aA (show j<xs.length by omega))
       obtain⟨v,hv',rv⟩:=r2.get (aA (show j<ys.length by omega))
       have z1:us[j]=u:=by rw[aA j1]at hu';exact Option.some.inj hu'
       have z2:ws[j]=v:=by rw[aA j2]at hv';exact Option.some.inj hv'
       simp only[List.getElem_toArray]
       rw[z1,z2]
       exact ih (he j _ _ (aA (show j<xs.length by omega)) (aA (show j<ys.length by omega))) ru rv (by show A.units+1+n<cLine;omega)
     ·rw[show(xs.length==ys.length)=false by simpa using hsz,Bool.and_false]
      exact SeqAt.RcAt.lists_lengths p1.isList p2.isList (by simp only[size_toArray,bne_iff_ne,ne_eq];omega) (by omega)
noncomputable def rEqD(K:aa)(neg:Bool):R2:=λx y H Q=>∃ n a c xs ys b,n<=90/\x = .ref a/\y = .ref c/\((SqT K H a xs/\SqT K H c ys)\/(SqL K H a xs/\SqL K H c ys))/\EqL (EqN K H n) xs ys b/\Q (.bl (if neg then !b else b)) H
theorem Pk(I:Inv X pins σ H s){A:Around}{xs ys:List V}{us ws:List Value}{e:Nat->Bool}(r1:Vals xs us)(r2:Vals ys ws)(he:∀ (j:Nat) x y,xs[j]?=some x->ys[j]?=some y->EqN X.K H n x y (e j))(hu:A.units+1+n<cLine) :
  ∀ j (h1:j<us.toArray.size) (h2:j<ws.toArray.size),SeqAt.EqAt A.in1 s us.toArray[j] ws.toArray[j] (e j):=by
 intro j j1 j2
 have l1:=r1.length
 have l2:=r2.length
 simp only[size_toArray]at j1 j2
 obtain⟨u,hu',ru⟩:=r1.get (aA (show j<xs.length by omega))
 obtain⟨v,hv',rv⟩:=r2.get (aA (show j<ys.length by omega))
 have z1:us[j]=u:=by rw[aA j1]at hu';exact Option.some.inj hu'
 have z2:ws[j]=v:=by rw[aA j2]at hv';exact Option.some.inj hv'
 simp only[List.getElem_toArray]
 rw[z1,z2]
 exact lS I n (he j _ _ (aA (show j<xs.length by omega)) (aA (show j<ys.length by omega))) ru rv hu
end
section
theorem lT(hu:X.A.units+100<cLine):OpR X (compareOp .Eq) (rEqD X.K false):=by
 intro pins s σ H x y v u Q I rx ry h
 obtain⟨n,a,c,xs,ys,b,hn,rfl,rfl,hq,hl,q⟩:=h
 cases rx
 cases ry
 obtain⟨e,he,rfl⟩:=hl.ans
 rcases hq with⟨h1,h2⟩|⟨h1,h2⟩
 ·obtain⟨us,r1,p1,_⟩:=I.tuple h1
  obtain⟨ws,r2,p2,_⟩:=I.tuple h2
  refine SeqAt.eq_tupleAt (show s.heap.IsTuple a us.toArray from p1) (show s.heap.IsTuple c ws.toArray from p2) (by omega) (Pk I r1 r2 he (by omega)) ?_
  rw[size_toArray,size_toArray,<-r1.length,<-r2.length]
  exact⟨.bl _,H,I,rfl,q⟩
 ·obtain⟨us,r1,p1,_⟩:=I.list h1
  obtain⟨ws,r2,p2,_⟩:=I.list h2
  have l1:=r1.length
  have l2:=r2.length
  by_cases hsz:xs.length=ys.length
  ·refine SeqAt.eq_listAt p1.isList p2.isList (by simp only[size_toArray];omega) (by omega) (Pk I r1 r2 he (by omega)) ?_
   rw[<-hsz,Nat.min_self,beq_self_eq_true,Bool.and_true]at q
   rw[size_toArray,<-l1]
   exact⟨.bl _,H,I,rfl,q⟩
  ·rw[show(xs.length==ys.length)=false by simpa using hsz,Bool.and_false]at q
   exact SeqAt.eq_list_lengthsAt p1.isList p2.isList (by simp only[size_toArray,bne_iff_ne,ne_eq];omega) (by omega) ⟨.bl false,H,I,rfl,q⟩
theorem lU(hu:X.A.units+100<cLine):OpR X (compareOp .NotEq) (rEqD X.K true):=by
 intro pins s σ H x y v u Q I rx ry h
 obtain⟨n,a,c,xs,ys,b,hn,rfl,rfl,hq,hl,q⟩:=h
 cases rx
 cases ry
 obtain⟨e,he,rfl⟩:=hl.ans
 rcases hq with⟨h1,h2⟩|⟨h1,h2⟩
 ·obtain⟨us,r1,p1,_⟩:=I.tuple h1
  obtain⟨ws,r2,p2,_⟩:=I.tuple h2
  refine SeqAt.RcNeAt.tuples (show s.heap.IsTuple a us.toArray from p1) (show s.heap.IsTuple c ws.toArray from p2) (by omega) (Pk I r1 r2 he (by omega)) _ _ _ _ ?_
  rw[size_toArray,size_toArray,<-r1.length,<-r2.length]
  exact⟨.bl _,H,I,rfl,q⟩
 ·obtain⟨us,r1,p1,_⟩:=I.list h1
  obtain⟨ws,r2,p2,_⟩:=I.list h2
  have l1:=r1.length
  have l2:=r2.length
  by_cases hsz:xs.length=ys.length
  ·refine SeqAt.RcNeAt.lists p1.isList p2.isList (by simp only[size_toArray];omega) (by omega) (Pk I r1 r2 he (by omega)) _ _ _ _ ?_
   rw[<-hsz,Nat.min_self,beq_self_eq_true,Bool.and_true]at q
   rw[size_toArray,<-l1]
   exact⟨.bl _,H,I,rfl,q⟩
  ·rw[show(xs.length==ys.length)=false by simpa using hsz,Bool.and_false]at q
   exact SeqAt.RcNeAt.lists_lengths p1.isList p2.isList (by simp only[size_toArray,bne_iff_ne,ne_eq];omega) (by omega) _ _ _ _ ⟨.bl true,H,I,rfl,q⟩
end
section
noncomputable def lV(C:Addr)(sp:Sp)(dvs:List V)(XE:St->XK)(t:TA):TE:=λσ H Q=>t σ H λvs H1=>∀ x dx,H1 x=none->H1 dx=none->dx≠x ->
 sp (.ref x::(vs++dvs)) (upd (upd H1 dx (.own x)) x (.ins C dx [])) (λv H2=>v = .non/\Q (.ref x) H2) (XE σ)
theorem yx(M:Mk X.K C f)(F:ZL X.prog X.w X.K X.mg X.base CX k f fd ps sp)(hr:XA (k+1) X.A)(hb:Binds X.K fd ps ds)(hd:Vals dvs ds)
  (hx:Nf CX X XE)(I:Inv X pins σ H s)(r:Vals vs us)
  (h:∀ x dx,H x=none->H dx=none->dx≠x->sp (.ref x::(vs++dvs)) (upd (upd H dx (.own x)) x (.ins C dx [])) (λv H2=>v = .non/\Q (.ref x) H2) (XE σ)) :
  wpAny (model X.prog X.w) X.A (call (.ref C) us) (EP X pins σ Q) X.xe s:=by
 have hq:=h (s.heap.objs.size+1) s.heap.objs.size (I.hok.fresh (Nat.le_succ _)) (I.hok.fresh (Nat.le_refl _)) (Nat.ne_of_lt (Nat.lt_succ_self _))
 have I2:=Inv.made (C:=C) I
 have r2:Vals (V.ref (s.heap.objs.size+1)::(vs++dvs)) (Value.ref (s.heap.objs.size+1)::(us++ds)) := .cons rfl (r.append hd)
 have hl:(Value.ref (s.heap.objs.size+1)::us++ds).length=ps.length:=by
  have e:=r2.length
  rw[F.len _ _ _ _ hq]at e
  exact e.symm
 refine wpAny_call (vn (f:=f) I.kIn M.makes M.init (beq_iff_eq.mp M.fn) (codeAny_mono (F.run _ X.stack _ _ ⟨Value.ref (s.heap.objs.size+1)::us,[]⟩ (Value.ref (s.heap.objs.size+1)::(us++ds)) _ _ (XE σ) (hr.make C us [])
  (I2.env0.make C us []) (hb _ (Value.ref (s.heap.objs.size+1)::us) I2.kIn hl) r2 hq) λr s' hq'=>?_))
 cases r with
 | error e=>exact hx pins σ _ _ e s' I2 hq'
 | ok fl =>
  cases fl with
  | ret u =>
   obtain⟨v,H',I3,rv,ev,q3⟩:=I2.after hq'
   subst ev
   exact⟨rv,⟨V.ref (s.heap.objs.size+1),H',I3,rfl,q3⟩⟩
  | next=>exact False.elim hq'
  | brk=>exact False.elim hq'
  | cont=>exact False.elim hq'
theorem qZ(M:Mk X.K C f)(F:ZL X.prog X.w X.K X.mg X.base CX k f fd ps sp)(hr:XA (k+1) X.A)(hg:Gl X x)(hm:X.mg x=some (.ref C))(hb:Binds X.K fd ps ds)(hd:Vals dvs ds)(hx:Nf CX X XE)
  (ha:QA X (e::es) t)(hst:autoParam (ZO (e::es)=true) auR)(hdb:autoParam ((x==("__debug__" : Str))=false) auD):QE X (.Call (.Name x p) (e::es) [] pos) (lV C sp dvs XE t):=by
 have h:=hst
 unfold ZO at h
 rw[aD]at h
 refine⟨?_⟩
 intro pins s σ H Q I h'
 refine wpAny_Call_Name_kw (Vs I hg hm ?_ hdb)
 refine callWith_K (h₀:=X.base) I.ok.mod.kin M.kp (thn (ha.get pos pins s σ H _ I h') λus s1 ⟨vs,H1,I1,r,q⟩=>⟨I1.kIn,?_⟩) (Wk h.1) (WM h.2 pos)
 exact yx M F hr hb hd hx I1 r q
end
theorem XA.Yd(r:XA k A):A.units+100<cLine:=by have:=r.un;omega
section
end
theorem Zy(x:Str):x.length=x.cps.toList.length:=by
 show x.cps.size=_
 simp
theorem Xk(x y:Str):(x++y).cps.toList=x.cps.toList++y.cps.toList:=by
 show(x.cps++y.cps).toList=_
 simp
theorem Gi(c:Nat):(⟨#[c]⟩:Str).cps.toList=[c]:=rfl
theorem Ec(h0:0<=j)(h:j<=x.cps.toList.length):(Txt.slice x none (some j)).cps.toList=x.cps.toList.take j.toNat:=by
 have:=eq_of_beq (slice_closes_to (x:=x) (j:=j) ⟨h0,h⟩)
 rw[this]
 simp
theorem sl_ft(h0:0<=i)(h1:i<=j)(h:j<=x.cps.toList.length):(Txt.slice x (some i) (some j)).cps.toList=(x.cps.toList.drop i.toNat).take (j-i).toNat:=by
 have:=eq_of_beq (slice_closes (x:=x) (i:=i) (j:=j) ⟨h0,h1,h⟩)
 rw[this]
theorem sl_fr(h0:0<=i)(h:i<=x.cps.toList.length):(Txt.slice x (some i) none).cps.toList=x.cps.toList.drop i.toNat:=by
 have e:=slice_from_eq (x:=x) (i:=i) (b:=(x.length:Int)) h0 (by rw[Zy];exact h) rfl
 rw[e]
 show(x.cps.toList.drop i.toNat).take ((x.length:Int)-i).toNat=_
 rw[take_of_length_le]
 rw[length_drop,Zy]
 omega
theorem pd(zs:List Str):(Txt.join "" zs).cps.toList=(zs.map λz=>z.cps.toList).flatten:=by
 show(Builtin.Str.glued "" zs).cps.toList=_
 rw[StrLaws.glued_eq_join]
 induction zs with
 | nil=>rfl
 | cons a l ih =>
  cases l with
  | nil=>simp[Str.join]
  | cons b r =>
   show((a++("" : Str))++Str.join "" (b::r)).cps.toList=_
   rw[Xk,Xk,ih]
   rw[show("" : Str).cps.toList=[] from rfl]
   simp
section
theorem Cz:MtR X "list.append" Gc:=Mi
theorem CA:MtR X "list.extend" Gd:=ym
section
end
end
section
variable {prog:Program}{w:World}{A:Around}{s:Shared}{R:Result->Shared->Prop}
variable {I:Addr}{fp wr:List Addr}{n:Nat}{P:Nat->Value->Prop}{St:Nat->Shared->Prop}{G:Array GenState->Array GenState->Prop}
end
section
variable {X:Cx}{e:Expr}{t:TE}{x y:Str}{p p' pos pos':Pos}
end
section
noncomputable def iSeq(K:aa)(tl:TE):TI:=λσ H R=>tl σ H λx H1=>∃ a,x = .ref a/\(((∃ xs,SqL K H1 a xs)/\R (Itl K a) H1)\/((∃ xs,SqT K H1 a xs)/\R (Itt K a) H1))
theorem lW(hl:PE X l tl):PI X tg l (iSeq X.K tl):=by
 intro pins s σ H R I h
 refine thn (hl pins s σ H _ I h) λv s1 zq=>?_
 obtain⟨x,H1,I1,r1,q1⟩:=zq
 obtain⟨a,e,q⟩:=q1
 subst e
 cases r1
 rcases q with⟨⟨xs,hq⟩,q⟩|⟨⟨xs,hq⟩,q⟩
 ·obtain⟨its,rv,p,hz⟩:=I1.list hq
  refine wpAny_pyIter_list p.isList ?_
  refine⟨s1.heap.objs.size,[s1.heap.objs.size],_,_,H1,rfl,I1.kept (t':=s1.toks) λb o e=>ao _ e,zZ a _,⟨_,aq _ rfl,rfl,rfl⟩,λb hb=>?_,q⟩
  have e:b=s1.heap.objs.size:=by simpa using hb
  subst e
  exact I1.vc (Nat.le_refl _) (I1.hok.fresh (Nat.le_refl _))
 ·obtain⟨its,rv,p,hz⟩:=I1.tuple hq
  refine wpAny_pyIter_tuple (show s1.heap.IsTuple a its.toArray from p) ?_
  refine⟨s1.heap.objs.size,[s1.heap.objs.size],_,_,H1,rfl,I1.kept (t':=s1.toks) λb o e=>ao _ e,DZ a _,⟨_,aq _ rfl,rfl,rfl⟩,λb hb=>?_,q⟩
  have e:b=s1.heap.objs.size:=by simpa using hb
  subst e
  exact I1.vc (Nat.le_refl _) (I1.hok.fresh (Nat.le_refl _))
theorem Ed:∀ {cs:List String}{us:List Value},Vals (cs.map V.ty) us->us=cs.map Value.type
 | [],_,.nil=>rfl
 | _::_,_,.cons r rs=>by rw[map_cons,Ed rs];cases r;rfl
noncomputable def rIsiS(K:aa):List V->Hp->VK->Prop:=λxs H Q=>∃ (a tp:Addr) (cs:List String) (b:Bool) (T:String),xs=[.ref a,.ref tp]/\(((∃ ys,H a=some (.lst ys))/\T = "list")\/((∃ ys,H a=some (.tup ys))/\T = "tuple")) /\
 H tp=some (.tup (cs.map V.ty))/\kitAny K (.type T) (cs.map Value.type)=some b/\Q (.bl b) H
theorem yy:Xz X (.builtin "isinstance") (rIsiS X.K):=by
 intro pins s σ H xs us Q I r h
 obtain⟨a,tp,cs,b,T,rfl,ht,hT,e,q⟩:=h
 obtain⟨u,w',rfl,r1,r2⟩:=vals2 r
 cases r1
 cases r2
 obtain⟨_,its,rv,ob,ho,hcl,n,hd⟩:=(show YC X.prog X.w H s.heap tp (.tup (cs.map V.ty)) from I.hok tp _ hT)
 have ei:=Ed rv
 subst ei
 obtain⟨c0,dd,dt,sl⟩:=ob
 dsimp only at hcl hd
 subst hcl hd
 rcases ht with⟨⟨ys,ea⟩,rfl⟩|⟨⟨ys,ea⟩,rfl⟩
 ·obtain⟨_,_,n',_,h1⟩:=(show YC X.prog X.w H s.heap a (.lst ys) from I.hok a _ ea)
  exact kia_tup kitx_list I.kIn ⟨_,h1,rfl⟩ ho e (λz=>nomatch z) λtk=>⟨.bl b,H,I.tok tk,rfl,q⟩
 ·obtain⟨_,_,_,p⟩:=(show YC X.prog X.w H s.heap a (.tup ys) from I.hok a _ ea)
  obtain⟨o,h1,h2,_⟩:=p
  exact kia_tup PySem.W.kitx_tuple I.kIn ⟨o,h1,h2⟩ ho e (λz=>nomatch z) λtk=>⟨.bl b,H,I.tok tk,rfl,q⟩
end
theorem vR:MtR X "str.lower" (λx xs H Q=>∃ y,x = .str y/\xs=[]/\y.length<=5592405/\Q (.str (Txt.lower y)) H):=by
 intro pins s σ H x xs v us Q I rx r h
 obtain⟨y,rfl,rfl,hl,q⟩:=h
 obtain⟨t,rfl⟩:=rx
 cases r.zero
 have hf:=fit_lower hl
 have h2:(Txt.lower y).length<=az:=by
  have:=len_lower y
  have e:az=16777216:=rfl
  omega
 exact call_gives F.slot_str_lower (typeIs_str _ _ _) F.entry_str_lower (F.args_str_lower_1 _) (gives_str_lower y t hf) ⟨h2,.str _,H,I.tok _,⟨_,rfl⟩,q⟩
structure Ee (K:aa)(x qual:Str)(st:Stmt)(f:Addr)(fd:FuncData)(ds:List Value):Prop where
 ex:∃ (oc:Value) (od:Option Addr) (kV doc pm:Value) (an:Option Addr) (cdv ct:Value) (osl:Array (Option Value)) (D:Addr) (o:Obj) (n:Nat),
  fd=PySem.W.fnOf x qual (XI st) (Ye st) (Zf st) (.ref D) kV doc pm an cdv ct/\K.lookup f=some ⟨oc,od,.func fd,osl⟩/\PySem.W.codeIn K cdv qual=true/\K.lookup D=some o/\o.data = .seq ds.toArray n
 kp:keepIn K (.ref f)=true
section
theorem Ee.okX{K:aa}{st:Stmt}{f:Addr}{fd:FuncData}{ds:List Value}{N ps:List Str}{k:Nat}{sp:Sp}(F:Ee K x qual st f fd ds)(S:Zn N ps (Zf st))(len:∀ vs H Q E,sp vs H Q E->vs.length=ps.length)
  (hbody:∀ (cdv:Value) (A:Around) (outer:List Env) (s:Shared) (H:Hp) (vs:List V) (Q:VK) (E:XK),XA k (A.deeper (envOfC qual (Zf st) s.heap.objs.size f cdv))->sp vs H Q E ->
   ∃ t,QSs (ZS CX P w K mg base N qual (Zf st) f cdv A outer s H E) (Ye st) t/\t { nx:=λ_ H'=>Q .non H',rt:=Q } (start N vs) H):ZL P w K mg base CX (k+1) f fd ps sp:=by
 obtain⟨oc,od,kV,doc,pm,an,cdv,ct,osl,D,o,n,rfl,lk,hcd,_,_⟩:=F.ex
 refine vq lk hcd S len λA outer s H vs Q E hr hsp=>?_
 obtain⟨t,h,q⟩:=hbody cdv A outer s H vs Q E hr hsp
 exact⟨t,h.get,q⟩
theorem Ee.binds{K:aa}{st:Stmt}{ps:List Str}(F:Ee K x qual st f fd ds)
  (h:∀ (D:Addr) (o:Obj) (n:Nat) (kV doc pm:Value) (an:Option Addr) (cdv ct:Value) (s:Shared) (us:List Value),s.heap.get? D=some o->o.data = .seq ds.toArray n->(us++ds').length=ps.length->BindsTo s (PySem.W.fnOf x qual (XI st) (Ye st) (Zf st) (.ref D) kV doc pm an cdv ct) ⟨us,[]⟩ (ps.zip (us++ds'))):Binds K fd ps ds':=by
 obtain⟨oc,od,kV,doc,pm,an,cdv,ct,osl,D,o,n,rfl,lk,hcd,hD,ho⟩:=F.ex
 intro s us KI hl
 exact h D o n kV doc pm an cdv ct s us (KI _ _ hD) ho hl
end
section
theorem Ef:fillsInplaceSlot (.type "list") "add" (Operator.Add == .Add)=pure false:=by
 unfold fillsInplaceSlot
 show(typeLookup (.type "list") (dunderI "add") >>= λfi=>pure (fi.isSome && !isSeqSlot fi))=pure false
 rw[PySem.F.slot_list_iadd.lookup]
 have:isSeqSlot (some (.builtin "list.__iadd__"))=true:=by decide +kernel
 simp only[pure_bind,this,Bool.not_true,Bool.and_false]
theorem yz:seqSlot? (.type "list") (dunderI "add")=pure (some (.builtin "list.__iadd__")):=PySem.seqSlot_of PySem.F.slot_list_iadd.lookup (by decide +kernel)
noncomputable def ipL:TIp:=λx y H Q=>∃ l b xs zs,x = .ref l/\y = .ref b/\H l=some (.lst xs)/\H b=some (.lst zs)/\xs.length+zs.length<=az/\Q (.ref l) (upd H l (.lst (xs++zs)))
theorem Eg:PIp X .Add ipL:=by
 intro pins s σ H x y v u Q I r1 r2 h
 obtain⟨l,b,xs,zs,rfl,rfl,hH,hB,hz,q⟩:=h
 cases r1
 cases r2
 obtain⟨z,its,n,r,hl,e⟩:=I.Cq hH
 obtain⟨z2,its2,n2,r2,hl2,e2⟩:=I.Cq hB
 have hsz:its.toArray.size+its2.toArray.size<=az:=by rw[size_toArray,size_toArray];omega
 have hlong:¬ (!its.toArray.isEmpty&&Builtin.List.listTooLong (its.toArray.size+its2.toArray.size))=true:=by
  rw[Qo hsz,Bool.and_false]
  exact aC
 unfold inplaceOp
 refine wpAny_holding ?_
 refine aj (wpAny_typeOf ⟨_,e,rfl⟩ (aj (wpAny_of_eq Ef ?_)))
 show wpAny _ _ (if false=true then _ else _) _ _ s
 rw[if_neg aC]
 refine aj (PySem.wpAny_binaryOp1_none (nm := "add") ⟨_,e,rfl⟩ ⟨_,e2,rfl⟩ PySem.noFill_list_add ?_)
 refine aj (wpAny_of_eq yz ?_)
 refine aj (wpAny_rule ?_)
 refine call_meets PySem.F.slot_list_iadd ⟨_,e,rfl⟩ PySem.F.entry_list_iadd (PySem.F.args_list_iadd_2 _ _)
  (AutoSeq1.list___iadd___list_list_0 l its.toArray n b its2.toArray n2 hlong (by rw[size_toArray];omega) (by omega)) ⟨e,e2,?_⟩
 refine⟨.ref l,_,I.lset (its':=its++its2) hH e (by simp) (r.append r2) ?_,rfl,q⟩
 rw[length_append]
 omega
end
end L2
namespace MA
theorem Eh(a b:Int):Int.gcd b (a.fmod b)=Int.gcd a b:=by
 rw[Int.fmod_def,Int.gcd_sub_mul_left_right,Int.gcd_comm]
theorem Az(a b:Int)(h:b≠0):(a.fmod b).natAbs<b.natAbs:=by
 rcases Int.lt_or_gt_of_ne h with hn|hp
 ·have h1:(-a).fmod (-b) = -(a.fmod b):=by rw[Int.neg_fmod_neg]
  have h2:=Int.fmod_lt_of_pos (-a) (show 0 < -b by omega)
  have h3:=Int.fmod_nonneg_of_pos (-a) (show 0 < -b by omega)
  omega
 ·have h2:=Int.fmod_lt_of_pos a hp
  have h3:=Int.fmod_nonneg_of_pos a hp
  omega
structure Low (p q:Int):Prop where
 pos:0<q
 cop:Int.gcd p q=1
theorem Ng(h:b≠0):(0:Int)<(Int.gcd a b:Int):=by
 have:Int.gcd a b≠0:=λz=>h (Int.gcd_eq_zero_iff.mp z).2
 omega
theorem vS(hb:b≠0)(hd:d=(Int.gcd a b:Int)\/d = -(Int.gcd a b:Int))(hs:0<b*d) :
  Low (a.fdiv d) (b.fdiv d)/\a.fdiv d*b=a*b.fdiv d/\(a.fdiv d).natAbs<=a.natAbs/\(b.fdiv d).natAbs<=b.natAbs:=by
 have gp:=Ng (a:=a) hb
 have hd0:d≠0:=by rcases hd with h|h<;>omega
 have na:d.natAbs=Int.gcd a b:=by rcases hd with h|h<;>omega
 have da:d ∣ a:=by
  rcases hd with h|h
  ·rw[h];exact Int.gcd_dvd_left a b
  ·rw[h];exact Int.neg_dvd.mpr (Int.gcd_dvd_left a b)
 have db:d ∣ b:=by
  rcases hd with h|h
  ·rw[h];exact Int.gcd_dvd_right a b
  ·rw[h];exact Int.neg_dvd.mpr (Int.gcd_dvd_right a b)
 have ea:=Int.fdiv_mul_cancel da
 have eb:=Int.fdiv_mul_cancel db
 refine⟨⟨?_,?_⟩,?_,Int.natAbs_fdiv_le_natAbs a d,Int.natAbs_fdiv_le_natAbs b d⟩
 ·rw[<-eb,Int.mul_assoc]at hs
  have hdd:0<d*d:=by
   rcases Int.lt_or_gt_of_ne hd0 with h|h
   ·exact Int.mul_pos_of_neg_of_neg h h
   ·exact Int.mul_pos h h
  exact Int.pos_of_mul_pos_left hs hdd
 ·have h:=Int.gcd_mul_right (a.fdiv d) d (b.fdiv d)
  rw[ea,eb,na]at h
  have g0:Int.gcd a b≠0:=by omega
  have h':1*Int.gcd a b=Int.gcd (a.fdiv d) (b.fdiv d)*Int.gcd a b:=by rw[Nat.one_mul];exact h
  exact(Nat.eq_of_mul_eq_mul_right (by omega) h').symm
 ·have:a.fdiv d*b=a.fdiv d*(b.fdiv d*d):=by rw[eb]
  rw[this]
  have h2:a*b.fdiv d=a.fdiv d*d*b.fdiv d:=by rw[ea]
  rw[h2,Int.mul_assoc,Int.mul_comm d]
theorem AA(h:Int.gcd p q=1)(k:q ∣ p*r):q ∣ r:=by
 have h1:Nat.Coprime q.natAbs p.natAbs:=by
  show Nat.gcd q.natAbs p.natAbs=1
  rw[Nat.gcd_comm]
  exact h
 have k1:q.natAbs ∣ p.natAbs*r.natAbs:=by
  rw[<-Int.natAbs_mul]
  exact Int.natAbs_dvd_natAbs.mpr k
 exact Int.natAbs_dvd_natAbs.mp (h1.dvd_of_dvd_mul_left k1)
theorem Low.uniq(h:Low p q)(h':Low p' q')(e:p*q'=p'*q):p=p'/\q=q':=by
 have d1:q ∣ q':=AA h.cop ⟨p',by rw[e,Int.mul_comm]⟩
 have d2:q' ∣ q:=AA h'.cop ⟨p,by rw[<-e,Int.mul_comm]⟩
 have l1:=Int.le_of_dvd h'.pos d1
 have l2:=Int.le_of_dvd h.pos d2
 have eq:q=q':=by omega
 subst eq
 exact⟨Int.eq_of_mul_eq_mul_right (by have:=h.pos;omega) e,rfl⟩
theorem Low.same(h:Low p q)(h':Low p' q')(hb:b≠0)(e:p*b=a*q)(e':p'*b=a*q'):p=p'/\q=q':=by
 refine h.uniq h' (Int.eq_of_mul_eq_mul_right hb ?_)
 rw[Int.mul_assoc,Int.mul_comm q',<-Int.mul_assoc,e,Int.mul_assoc p',Int.mul_comm q b,<-Int.mul_assoc,e',Int.mul_assoc,Int.mul_assoc,Int.mul_comm q]
end MA
namespace MA
open L2
end MA
namespace L2
open PySem
end L2
namespace MA
end MA
namespace MA
section
variable {α:Type} [DecidableEq α]
end
end MA
namespace MA
section
variable {κ:Type} [DecidableEq κ]
end
end MA
namespace L2
open PySem PySem.Spec PyProof.Rows
inductive D where
 | non | bl (b:Bool) | int (i:Int) | str (x:Str) | ty (n:String) | rf (a:Addr)
 | tup (xs:List D) | lst (xs:List D) | scr (xs:List D) | obj (C:Addr) (fs:List (Str×D)) | dic (kvs:List (Key×D)) | exc (C:Addr)
 deriving Inhabited
mutual
noncomputable def Rp(K:aa)(H:Hp):D->V->Prop
 | .non,v=>v = .non
 | .bl b,v=>v = .bl b
 | .int i,v=>v = .int i
 | .str x,v=>v = .str x
 | .ty n,v=>v = .ty n
 | .rf a,v=>v = .ref a
 | .tup xs,v=>∃ a vs,v = .ref a/\H a=some (.tup vs)/\Rps K H xs vs
 | .lst xs,v=>∃ a vs,v = .ref a/\H a=some (.lst vs)/\Rps K H xs vs
 | .scr xs,v=>∃ a vs,v = .ref a/\SqL K H a vs/\Rps K H xs vs
 | .obj C gs,v=>∃ a dx fs,v = .ref a/\H a=some (.ins C dx fs)/\Rfs K H gs fs
 | .dic gs,v=>∃ a kvs,v = .ref a/\H a=some (.dK kvs)/\Rks K H gs kvs
 | .exc C,v=>∃ a,v = .ref a/\H a=some (Cv a C)
noncomputable def Rps(K:aa)(H:Hp):List D->List V->Prop
 | [],vs=>vs=[]
 | d::ds,vs=>∃ v us,vs=v::us/\Rp K H d v/\Rps K H ds us
noncomputable def Rfs(K:aa)(H:Hp):List (Str×D)->List (Str×V)->Prop
 | [],fs=>fs=[]
 | (k,d)::gs,fs=>∃ v us,fs=(k,v)::us/\Rp K H d v/\Rfs K H gs us
noncomputable def Rks(K:aa)(H:Hp):List (Key×D)->List (Key×V)->Prop
 | [],fs=>fs=[]
 | (k,d)::gs,fs=>∃ v us,fs=(k,v)::us/\Rp K H d v/\Rks K H gs us
end
theorem SqT.same{K:aa}(e:ZA H H')(h:SqT K H a xs):SqT K H' a xs:=by
 rcases h with (h|⟨o,h⟩)|h
 ·exact .inl (.inl (e _ _ h))
 ·exact .inl (.inr ⟨o,e _ _ h⟩)
 ·exact .inr h
section
mutual
theorem Rp.same{K:aa}(s:ZA H H'):∀ (d:D) {v:V},Rp K H d v->Rp K H' d v
 | .non,_,h=>h
 | .bl _,_,h=>h
 | .int _,_,h=>h
 | .str _,_,h=>h
 | .ty _,_,h=>h
 | .rf _,_,h=>h
 | .tup xs,_,⟨a,vs,e,h1,h2⟩=>⟨a,vs,e,s _ _ h1,Rps.same s xs h2⟩
 | .lst xs,_,⟨a,vs,e,h1,h2⟩=>⟨a,vs,e,s _ _ h1,Rps.same s xs h2⟩
 | .scr xs,_,⟨a,vs,e,h1,h2⟩=>⟨a,vs,e,s.seq h1,Rps.same s xs h2⟩
 | .obj _ gs,_,⟨a,dx,fs,e,h1,h2⟩=>⟨a,dx,fs,e,s _ _ h1,Rfs.same s gs h2⟩
 | .dic gs,_,⟨a,fs,e,h1,h2⟩=>⟨a,fs,e,s _ _ h1,Rks.same s gs h2⟩
 | .exc _,_,⟨a,e,h1⟩=>⟨a,e,s _ _ h1⟩
theorem Rps.same{K:aa}(s:ZA H H'):∀ (ds:List D) {vs:List V},Rps K H ds vs->Rps K H' ds vs
 | [],_,h=>h
 | d::ds,_,⟨v,us,e,h1,h2⟩=>⟨v,us,e,Rp.same s d h1,Rps.same s ds h2⟩
theorem Rfs.same{K:aa}(s:ZA H H'):∀ (ds:List (Str×D)) {vs:List (Str×V)},Rfs K H ds vs->Rfs K H' ds vs
 | [],_,h=>h
 | (k,d)::ds,_,⟨v,us,e,h1,h2⟩=>⟨v,us,e,Rp.same s d h1,Rfs.same s ds h2⟩
theorem Rks.same{K:aa}(s:ZA H H'):∀ (ds:List (Key×D)) {vs:List (Key×V)},Rks K H ds vs->Rks K H' ds vs
 | [],_,h=>h
 | (k,d)::ds,_,⟨v,us,e,h1,h2⟩=>⟨v,us,e,Rp.same s d h1,Rks.same s ds h2⟩
end
end
structure Ext (H0 H H0' H':Hp):Prop where
 s:ZA H H'
 s0:ZA H0 H0'
 sub:ZA H0' H'
 new:∀ b,H0 b=none->H b≠none->H0' b=none
theorem Ext.refl(h:ZA H0 H):Ext H0 H H0 H:=⟨.refl _,.refl _,h,λ_ z _=>z⟩
theorem Ext.trans(a:Ext H0 H H1 H2)(b:Ext H1 H2 H3 H4):Ext H0 H H3 H4 :=
 ⟨a.s.trans b.s,a.s0.trans b.s0,b.sub,λc z n=>b.new c (a.new c z n) (λq=>n (a.s.free q))⟩
theorem Ext.grow(h:ZA H0 H)(s:ZA H H'):Ext H0 H H0 H':=⟨s,.refl _,h.trans s,λ_ z _=>z⟩
theorem Ext.put(h:ZA H0 H)(hp:H p=none):Ext H0 H (upd H0 p o) (upd H p o):=by
 refine⟨ZA.upd hp,ZA.upd (h.free hp),λb u e=>?_,λb z n=>?_⟩
 ·by_cases hb:b=p
  ·subst hb;rw[Zx]at e⊢;exact e
  ·rw[Zq hb]at e⊢;exact h _ _ e
 ·rw[Zq (λy=>n (by rw[y];exact hp))];exact z
inductive MO where
 | lst (xs:List D) | dic (kvs:List (Key×D)) | ins (C dx:Addr) (fs:List (Str×D))
abbrev Mu:=List (Addr×MO)
noncomputable def vT(K:aa)(H0:Hp):MO->HO->Prop
 | .lst xs,o=>∃ vs,o = .lst vs/\Rps K H0 xs vs
 | .dic gs,o=>∃ kvs,o = .dK kvs/\Rks K H0 gs kvs
 | .ins C dx gs,o=>∃ fs,o = .ins C dx fs/\Rfs K H0 gs fs
theorem vT.same{K:aa}(s:ZA H0 H0')(h:vT K H0 m o):vT K H0' m o:=by
 cases m with
 | lst xs=>obtain⟨vs,e,r⟩:=h;exact⟨vs,e,r.same s⟩
 | dic xs=>obtain⟨vs,e,r⟩:=h;exact⟨vs,e,r.same s⟩
 | ins C dx xs=>obtain⟨vs,e,r⟩:=h;exact⟨vs,e,r.same s⟩
inductive Slot where
 | un | v (d:D) | own (xs:List D) | ob (a dx C:Addr) (fs:List (Str×D)) | od (kvs:List (Key×D)) | st (a:Addr) (μ:Mu)
abbrev DSt:=List Slot
noncomputable def Slot.isOwn:Slot->Bool
 | .own _=>true
 | .ob _ _ _ _=>true
 | .od _=>true
 | .st _ _=>true
 | _=>false
noncomputable def Slot.foot:Slot->Option V->Addr->Prop
 | .own _,o,b=>o=some (.ref b)
 | .ob _ _ _ _,o,b=>o=some (.ref b)
 | .od _,o,b=>o=some (.ref b)
 | .st _ μ,_,b=>∃ m,μ.lookup b=some m
 | _,_,_=>False
theorem Slot.WN{s:Slot}(h:s.foot o b):s.isOwn=true:=by
 cases s with
 | un=>exact h.elim
 | v d=>exact h.elim
 | _=>rfl
noncomputable def Oo(K:aa)(H0 H:Hp):Slot->Option V->Prop
 | .un,_=>True
 | .v d,o=>∃ v,o=some v/\Rp K H0 d v
 | .own xs,o=>∃ a vs,o=some (.ref a)/\H0 a=none/\H a=some (.lst vs)/\Rps K H0 xs vs
 | .ob a dx C gs,o=>∃ fs,o=some (.ref a)/\H0 a=none/\H a=some (.ins C dx fs)/\Rfs K H0 gs fs
 | .od gs,o=>∃ a kvs,o=some (.ref a)/\H0 a=none/\H a=some (.dK kvs)/\Rks K H0 gs kvs
 | .st a μ,o=>o=some (.ref a)/\∀ b m,μ.lookup b=some m->H0 b=none/\∃ u,H b=some u/\vT K H0 m u
structure Cfg (K:aa)(B0 B H0 H:Hp)(σ:St)(ds:DSt):Prop where
 ext:Ext B0 B H0 H
 slot:∀ (i:Nat) s,ds[i]?=some s->Oo K H0 H s ((σ[i]?).getD none)
 young:∀ (i:Nat) s a,ds[i]?=some s->s.foot ((σ[i]?).getD none) a->B a=none
 sep:∀ (i j:Nat) s t a,i≠j->ds[i]?=some s->ds[j]?=some t->s.foot ((σ[i]?).getD none) a->t.foot ((σ[j]?).getD none) a->False
 len:σ.length=ds.length
section
variable {K:aa}{B0 B H0 H H0' H':Hp}{σ:St}{ds:DSt}
theorem Oo.ext(h:Oo K H0 H s o)(e:Ext H0 H H0' H'):Oo K H0' H' s o:=by
 cases s with
 | un=>trivial
 | v d=>obtain⟨v,e1,h1⟩:=h;exact⟨v,e1,h1.same e.s0⟩
 | own xs =>
  obtain⟨a,vs,e1,h1,h2,h3⟩:=h
  exact⟨a,vs,e1,e.new a h1 (by rw[h2];simp),e.s _ _ h2,h3.same e.s0⟩
 | ob a dx C gs =>
  obtain⟨fs,e1,h1,h2,h3⟩:=h
  exact⟨fs,e1,e.new a h1 (by rw[h2];simp),e.s _ _ h2,h3.same e.s0⟩
 | od gs =>
  obtain⟨a,fs,e1,h1,h2,h3⟩:=h
  exact⟨a,fs,e1,e.new a h1 (by rw[h2];simp),e.s _ _ h2,h3.same e.s0⟩
 | st a μ =>
  refine⟨h.1,λb m l=>?_⟩
  obtain⟨h1,u,h2,h3⟩:=h.2 b m l
  exact⟨e.new b h1 (by rw[h2];simp),u,e.s _ _ h2,h3.same e.s0⟩
theorem Cfg.sub(c:Cfg K B0 B H0 H σ ds):ZA H0 H:=c.ext.sub
theorem Cfg.go(c:Cfg K B0 B H0 H σ ds)(e:Ext H0 H H0' H'):Cfg K B0 B H0' H' σ ds :=
 ⟨c.ext.trans e,λi s q=>(c.slot i s q).ext e,c.young,c.sep,c.len⟩
theorem KG(h:i<σ.length)(j:Nat):((σ.set i o)[j]?).getD none=if j=i then o else (σ[j]?).getD none:=by
 by_cases e:j=i
 ·subst e;rw[if_pos rfl,List.getElem?_set_self h];rfl
 ·rw[if_neg e,getElem?_set_ne (λz=>e z.symm)]
theorem UH(h:i<ds.length)(j:Nat):(ds.set i s)[j]?=if j=i then some s else ds[j]?:=by
 by_cases e:j=i
 ·subst e;rw[if_pos rfl,List.getElem?_set_self h]
 ·rw[if_neg e,getElem?_set_ne (λz=>e z.symm)]
theorem Gj{l:List α}(h:¬ i<l.length):l.set i a=l:=List.set_eq_of_length_le (by omega)
theorem Cfg.CB(c:Cfg K B0 B H0 H σ ds){i:Nat}(q:ds[i]?=some s)(f:s.foot ((σ[i]?).getD none) a):H0 a=none/\H a≠none:=by
 have h:=c.slot i s q
 cases s with
 | own xs =>
  obtain⟨b,vs,e1,h1,h2,h3⟩:=h
  have f:_=_:=f
  rw[e1]at f
  cases f
  exact⟨h1,by rw[h2];simp⟩
 | ob b dx C gs =>
  obtain⟨fs,e1,h1,h2,h3⟩:=h
  have f:_=_:=f
  rw[e1]at f
  cases f
  exact⟨h1,by rw[h2];simp⟩
 | od gs =>
  obtain⟨b,fs,e1,h1,h2,h3⟩:=h
  have f:_=_:=f
  rw[e1]at f
  cases f
  exact⟨h1,by rw[h2];simp⟩
 | st b μ =>
  obtain⟨m,l⟩:=f
  obtain⟨h1,u,h2,h3⟩:=h.2 _ _ l
  exact⟨h1,by rw[h2];simp⟩
 | un=>exact f.elim
 | v d=>exact f.elim
theorem Cfg.lay(c:Cfg K B0 B H0 H σ ds)(i:Nat)(h:Oo K H0 H s o)(hy:∀ a,s.foot o a->B a=none)(hn:∀ a (j:Nat) t,j≠i->ds[j]?=some t->s.foot o a->t.foot ((σ[j]?).getD none) a->False):Cfg K B0 B H0 H (σ.set i o) (ds.set i s):=by
 by_cases hi:i<ds.length
 case neg =>
  rw[Gj hi,Gj (by rw[c.len];exact hi)]
  exact c
 have hi':i<σ.length:=by rw[c.len];exact hi
 refine⟨c.ext,λj t q=>?_,λj t a q w=>?_,λj k t u a ne q r w x=>?_,by rw[length_set,length_set];exact c.len⟩
 ·rw[UH hi]at q
  rw[KG hi']
  split at q
  ·cases q
   rw[if_pos (by assumption)]
   exact h
  ·rw[if_neg (by assumption)]
   exact c.slot j t q
 ·rw[UH hi]at q
  rw[KG hi']at w
  split at q
  ·cases q
   rw[if_pos (by assumption)]at w
   exact hy a w
  ·rw[if_neg (by assumption)]at w
   exact c.young j t a q w
 ·rw[UH hi]at q r
  rw[KG hi']at w x
  split at q
  ·rename_i z
   cases q
   rw[if_pos z]at w
   have kn:k≠i:=λy=>ne (z.trans y.symm)
   rw[if_neg kn]at r x
   exact hn a k u kn r w x
  ·rename_i z
   rw[if_neg z]at w
   split at r
   ·rename_i y
    cases r
    rw[if_pos y]at x
    exact hn a j t z q x w
   ·rename_i y
    rw[if_neg y]at x
    exact c.sep j k t u a ne q r w x
theorem Cfg.setN(c:Cfg K B0 B H0 H σ ds)(i:Nat){s:Slot}(hs:s.isOwn=false)(h:Oo K H0 H s o):Cfg K B0 B H0 H (σ.set i o) (ds.set i s) :=
 c.lay i h (λa f=>by rw[Slot.WN f]at hs;cases hs) λa j t _ _ f=>by rw[Slot.WN f]at hs;cases hs
theorem Cfg.setV(c:Cfg K B0 B H0 H σ ds)(i:Nat)(h:Rp K H0 d v):Cfg K B0 B H0 H (σ.set i (some v)) (ds.set i (.v d)):=c.setN i rfl ⟨v,rfl,h⟩
theorem Cfg.unset(c:Cfg K B0 B H0 H σ ds)(i:Nat):Cfg K B0 B H0 H (σ.set i none) (ds.set i .un):=c.setN i rfl trivial
theorem Cfg.newO(c:Cfg K B0 B H0 H σ ds)(i:Nat){a:Addr}(e:Ext H0 H H0' H')(n:H a=none)(n0:H0' a=none)(h:H' a=some (.lst vs))(r:Rps K H0' xs vs):Cfg K B0 B H0' H' (σ.set i (some (.ref a))) (ds.set i (.own xs)):=by
 refine(c.go e).lay i (s := .own xs) ⟨a,vs,rfl,n0,h,r⟩ (λb f=>?_) λb j t _ q f g=>?_
 ·have f:some (V.ref a)=some (V.ref b):=f
  cases f
  exact c.ext.s.free n
 ·have f:some (V.ref a)=some (V.ref b):=f
  cases f
  exact(c.CB q g).2 n
theorem Cfg.write(c:Cfg K B0 B H0 H σ ds){i:Nat}(q:ds[i]?=some s)(f:s.foot ((σ[i]?).getD none) a)(hf:∀ b,s'.foot ((σ[i]?).getD none) b->s.foot ((σ[i]?).getD none) b)
  (h:Oo K H0 (upd H a o) s' ((σ[i]?).getD none)):Cfg K B0 B H0 (upd H a o) σ (ds.set i s'):=by
 have hi:i<ds.length:=(List.getElem?_eq_some_iff.mp q).1
 obtain⟨h0,hn⟩:=c.CB q f
 have hB:=c.young i s a q f
 refine⟨⟨λb u z=>?_,c.ext.s0,λb u z=>?_,c.ext.new⟩,λj t r=>?_,λj t b r x=>?_,λj k t u b nj r y x z=>?_,by rw[length_set];exact c.len⟩
 ·rw[Zq (λy=>by rw[y,hB]at z;cases z)]
  exact c.ext.s _ _ z
 ·rw[Zq (λy=>by rw[y,h0]at z;cases z)]
  exact c.sub _ _ z
 ·rw[UH hi]at r
  split at r
  ·cases r
   rename_i z
   rw[z]
   exact h
  ·rename_i z
   have old:=c.slot j t r
   have na:∀ b,t.foot ((σ[j]?).getD none) b->b≠a:=λb x y=>c.sep j i t s a z r q (y ▸ x) f
   cases t with
   | un=>trivial
   | v d=>exact old
   | own xs =>
    obtain⟨b,vs,e1,h1,h2,h3⟩:=old
    exact⟨b,vs,e1,h1,by rw[Zq (na b e1)];exact h2,h3⟩
   | ob b dx C gs =>
    obtain⟨vs,e1,h1,h2,h3⟩:=old
    exact⟨vs,e1,h1,by rw[Zq (na b e1)];exact h2,h3⟩
   | od gs =>
    obtain⟨b,vs,e1,h1,h2,h3⟩:=old
    exact⟨b,vs,e1,h1,by rw[Zq (na b e1)];exact h2,h3⟩
   | st b μ =>
    refine⟨old.1,λb' m l=>?_⟩
    obtain⟨h1,u,h2,h3⟩:=old.2 b' m l
    exact⟨h1,u,by rw[Zq (na b' ⟨m,l⟩)];exact h2,h3⟩
 ·rw[UH hi]at r
  split at r
  ·rename_i z
   cases r
   rw[z]at x
   exact c.young i s b q (hf b x)
  ·exact c.young j t b r x
 ·rw[UH hi]at r y
  split at r
  ·rename_i jz
   cases r
   rw[if_neg (λkz=>nj (jz.trans kz.symm))]at y
   rw[jz]at x
   exact c.sep i k s u b (jz ▸ nj) q y (hf b x) z
  ·split at y
   ·rename_i kz
    cases y
    rw[kz]at z
    exact c.sep j i t s b (kz ▸ nj) r q x (hf b z)
   ·exact c.sep j k t u b nj r y x z
theorem Cfg.push(c:Cfg K B0 B H0 H σ ds)(q:ds[i]?=some (.own xs)):∃ a vs,(σ[i]?).getD none=some (.ref a)/\H a=some (.lst vs)/\Rps K H0 xs vs /\
  ∀ H0' H' us,Ext H0 H H0' H'->Rps K H0' ys us->Cfg K B0 B H0' (upd H' a (.lst us)) σ (ds.set i (.own ys)):=by
 obtain⟨a,vs,e1,h1,h2,h3⟩:=c.slot i _ q
 refine⟨a,vs,e1,h2,h3,λH0' H' us e r=>?_⟩
 exact(c.go e).write q e1 (λb f=>f) ⟨a,us,e1,e.new a h1 (by rw[h2];simp),Zx,r⟩
end
noncomputable def Slot.peek:Slot->Slot
 | .own xs => .v (.lst xs)
 | .od kvs => .v (.dic kvs)
 | s=>s
mutual
noncomputable def D.imm:D->Bool
 | .tup xs=>D.Lz xs
 | .obj _ fs=>D.CC fs
 | .lst _=>false
 | .scr _=>false
 | .dic _=>false
 | _=>true
noncomputable def D.Lz:List D->Bool
 | []=>true
 | d::ds=>d.imm&&D.Lz ds
noncomputable def D.CC:List (Str×D)->Bool
 | []=>true
 | (_,d)::ds=>d.imm&&D.CC ds
end
section
variable {K:aa}{H0 H1:Hp}
noncomputable def Gk(H0 H1:Hp):Prop:=∀ b o,H1 b=some o->H0 b=some o\/(H0 b=none/\((∃ vs,o = .lst vs)\/∃ kvs,o = .dK kvs))
mutual
theorem Rp.less(l:Gk H0 H1):∀ (d:D) {v:V},d.imm=true->Rp K H1 d v->Rp K H0 d v
 | .non,_,_,h=>h
 | .bl _,_,_,h=>h
 | .int _,_,_,h=>h
 | .str _,_,_,h=>h
 | .ty _,_,_,h=>h
 | .rf _,_,_,h=>h
 | .tup xs,_,z,⟨a,vs,e,h1,h2⟩=>⟨a,vs,e,(by
   rcases l _ _ h1 with y|⟨_,⟨us,y⟩|⟨us,y⟩⟩
   ·exact y
   ·cases y
   ·cases y),Rps.less l xs (by unfold D.imm at z;exact z) h2⟩
 | .lst xs,_,z,_=>by unfold D.imm at z;cases z
 | .scr xs,_,z,_=>by unfold D.imm at z;cases z
 | .obj _ gs,_,z,⟨a,dx,fs,e,h1,h2⟩=>⟨a,dx,fs,e,(by
   rcases l _ _ h1 with y|⟨_,⟨us,y⟩|⟨us,y⟩⟩
   ·exact y
   ·cases y
   ·cases y),Rfs.less l gs (by unfold D.imm at z;exact z) h2⟩
 | .dic gs,_,z,_=>by unfold D.imm at z;cases z
 | .exc _,_,_,⟨a,e,h1⟩=>⟨a,e,by
   rcases l _ _ h1 with y|⟨_,⟨us,y⟩|⟨us,y⟩⟩
   ·exact y
   ·cases y
   ·cases y⟩
theorem Rps.less(l:Gk H0 H1):∀ (ds:List D) {vs:List V},D.Lz ds=true->Rps K H1 ds vs->Rps K H0 ds vs
 | [],_,_,h=>h
 | d::ds,_,z,⟨v,us,e,h1,h2⟩=>by
  unfold D.Lz at z
  rw[aD]at z
  exact⟨v,us,e,Rp.less l d z.1 h1,Rps.less l ds z.2 h2⟩
theorem Rfs.less(l:Gk H0 H1):∀ (ds:List (Str×D)) {vs:List (Str×V)},D.CC ds=true->Rfs K H1 ds vs->Rfs K H0 ds vs
 | [],_,_,h=>h
 | (k,d)::ds,_,z,⟨v,us,e,h1,h2⟩=>by
  unfold D.CC at z
  rw[aD]at z
  exact⟨v,us,e,Rp.less l d z.1 h1,Rfs.less l ds z.2 h2⟩
end
end
noncomputable def peekAt(pk:List Nat)(ds:DSt):DSt:=pk.foldl (λds i=>ds.modify i Slot.peek) ds
section
variable {K:aa}{B0 B H0 H H0' H':Hp}{σ:St}{ds:DSt}
theorem Cfg.frz(c:Cfg K B0 B H0 H σ ds){i:Nat}(q:ds[i]?=some s)(e1:(σ[i]?).getD none=some (.ref a))(f:s.foot ((σ[i]?).getD none) a)(h2:H a=some o)(hr:Rp K (upd H0 a o) d (.ref a)) :
  Cfg K B0 B (upd H0 a o) H σ (ds.set i (.v d))/\ZA H0 (upd H0 a o):=by
 have hi:i<ds.length:=(List.getElem?_eq_some_iff.mp q).1
 obtain⟨h1,hn⟩:=c.CB q f
 have s01:ZA H0 (upd H0 a o):=ZA.upd h1
 have hB:=c.young i _ a q f
 have sub1:ZA (upd H0 a o) H:=λb o' z=>by
  by_cases hb:b=a
  ·subst hb;rw[Zx]at z;rw[h2];exact z
  ·rw[Zq hb]at z;exact c.sub _ _ z
 refine⟨⟨⟨c.ext.s,c.ext.s0.trans s01,sub1,λb z n=>?_⟩,λj t r=>?_,λj t b r x=>?_,λj k t u b nj r y x z=>?_,by rw[length_set];exact c.len⟩,s01⟩
 ·rw[Zq (λy=>n (by rw[y];exact hB))]
  exact c.ext.new b z n
 ·rw[UH hi]at r
  split at r
  ·rename_i z
   cases r
   rw[z,e1]
   exact⟨.ref a,rfl,hr⟩
  ·rename_i z
   have old:=c.slot j t r
   have na:∀ b,t.foot ((σ[j]?).getD none) b->b≠a:=λb x y=>c.sep j i t _ a z r q (y ▸ x) f
   cases t with
   | un=>trivial
   | v d=>obtain⟨v,z1,z2⟩:=old;exact⟨v,z1,z2.same s01⟩
   | own ys =>
    obtain⟨b,us,f1,f2,f3,f4⟩:=old
    exact⟨b,us,f1,by rw[Zq (na b f1)];exact f2,f3,f4.same s01⟩
   | ob b dx C gs =>
    obtain⟨us,f1,f2,f3,f4⟩:=old
    exact⟨us,f1,by rw[Zq (na b f1)];exact f2,f3,f4.same s01⟩
   | od gs =>
    obtain⟨b,us,f1,f2,f3,f4⟩:=old
    exact⟨b,us,f1,by rw[Zq (na b f1)];exact f2,f3,f4.same s01⟩
   | st b μ =>
    refine⟨old.1,λb' m l=>?_⟩
    obtain⟨g1,u,g2,g3⟩:=old.2 b' m l
    exact⟨by rw[Zq (na b' ⟨m,l⟩)];exact g1,u,g2,g3.same s01⟩
 ·rw[UH hi]at r
  split at r
  ·cases r
   exact x.elim
  ·exact c.young j t b r x
 ·rw[UH hi]at r y
  split at r
  ·cases r
   exact x.elim
  ·split at y
   ·cases y
    exact z.elim
   ·exact c.sep j k t u b nj r y x z
theorem Cfg.peek1(c:Cfg K B0 B H0 H σ ds)(i:Nat):∃ H1,Cfg K B0 B H1 H σ (ds.modify i Slot.peek)/\ZA H0 H1/\Gk H0 H1/\∀ b,H1 b≠none->H0 b=none->H b≠none:=by
 have triv:ds.modify i Slot.peek=ds->∃ H1,Cfg K B0 B H1 H σ (ds.modify i Slot.peek)/\ZA H0 H1/\Gk H0 H1/\∀ b,H1 b≠none->H0 b=none->H b≠none:=λe =>
  ⟨H0,by rw[e];exact c,.refl _,λb o z => .inl z,λb z y=>absurd y z⟩
 cases q:ds[i]? with
 | none=>exact triv (List.modify_eq_self (List.getElem?_eq_none_iff.mp q))
 | some s =>
  have em:ds.modify i Slot.peek=ds.set i s.peek:=by
   refine List.ext_getElem? λj=>?_
   rw[List.getElem?_modify,List.getElem?_set]
   have hi:i<ds.length:=(List.getElem?_eq_some_iff.mp q).1
   by_cases z:i=j
   ·subst z;simp[hi,(List.getElem?_eq_some_iff.mp q).2]
   ·simp[z]
  have hi:i<ds.length:=(List.getElem?_eq_some_iff.mp q).1
  have same:s.peek=s->ds.modify i Slot.peek=ds:=λe=>by
   rw[em,e]
   refine List.ext_getElem? λj=>?_
   rw[UH hi]
   split
   ·rename_i z;rw[z,q]
   ·rfl
  have fin:∀ {a:Addr}{o:HO},H a=some o->H0 a=none->((∃ vs,o = .lst vs)\/∃ kvs,o = .dK kvs)->Gk H0 (upd H0 a o)/\∀ b,(upd H0 a o) b≠none->H0 b=none->H b≠none:=by
   intro a o h2 h1 ho
   refine⟨λb u z=>?_,λb z y=>?_⟩
   ·by_cases hb:b=a
    ·subst hb
     rw[Zx]at z
     cases z
     exact .inr ⟨h1,ho⟩
    ·rw[Zq hb]at z
     exact .inl z
   ·by_cases hb:b=a
    ·subst hb
     rw[h2]
     simp
    ·rw[Zq hb]at z
     exact absurd y z
  cases s with
  | un=>exact triv (same rfl)
  | v d=>exact triv (same rfl)
  | ob a dx C gs=>exact triv (same rfl)
  | st a μ=>exact triv (same rfl)
  | own xs =>
   obtain⟨a,vs,e1,h1,h2,h3⟩:=c.slot i _ q
   obtain⟨c1,s1⟩:=c.frz (d := .lst xs) q e1 e1 h2 ⟨a,vs,rfl,Zx,h3.same (ZA.upd h1)⟩
   obtain⟨l1,n1⟩:=fin h2 h1 (.inl ⟨_,rfl⟩)
   exact⟨_,by rw[em];exact c1,s1,l1,n1⟩
  | od xs =>
   obtain⟨a,vs,e1,h1,h2,h3⟩:=c.slot i _ q
   obtain⟨c1,s1⟩:=c.frz (d := .dic xs) q e1 e1 h2 ⟨a,vs,rfl,Zx,h3.same (ZA.upd h1)⟩
   obtain⟨l1,n1⟩:=fin h2 h1 (.inr ⟨_,rfl⟩)
   exact⟨_,by rw[em];exact c1,s1,l1,n1⟩
theorem Cfg.peekAt(c:Cfg K B0 B H0 H σ ds)(pk:List Nat):∃ H1,Cfg K B0 B H1 H σ (peekAt pk ds)/\ZA H0 H1/\Gk H0 H1/\∀ b,H1 b≠none->H0 b=none->H b≠none:=by
 induction pk generalizing H0 ds with
 | nil=>exact⟨H0,c,.refl _,λb o z => .inl z,λb z y=>absurd y z⟩
 | cons i pk ih =>
  obtain⟨H1,c1,s1,l1,n1⟩:=c.peek1 i
  obtain⟨H2,c2,s2,l2,n2⟩:=ih c1
  refine⟨H2,c2,s1.trans s2,λb o z=>?_,λb z y=>?_⟩
  ·rcases l2 b o z with y|⟨y,e⟩
   ·exact l1 b o y
   ·exact .inr ⟨s1.free y,e⟩
  ·by_cases q:H1 b=none
   ·exact n2 b z q
   ·exact n1 b q y
theorem Ext.Ei(e:Ext H1 H H0' H')(s:ZA H0 H1)(sub:ZA H0 H)(l:Gk H0 H1)(n:∀ b,H1 b≠none->H0 b=none->H b≠none):∃ H0'',Ext H0 H H0'' H'/\Gk H0'' H0'/\ZA H0'' H0':=by
 classical
 refine⟨λb=>if H0 b=none/\H1 b≠none then none else H0' b,⟨e.s,λb o z=>?_,λb o z=>?_,λb z y=>?_⟩,λb o z=>?_,λb o z=>?_⟩
 ·show(if _ then none else H0' b)=_
  rw[if_neg (λy=>by rw[z]at y;cases y.1)]
  exact e.s0 _ _ (s _ _ z)
 ·have z:(if H0 b=none/\H1 b≠none then none else H0' b)=some o:=z
  split at z
  ·cases z
  ·exact e.sub _ _ z
 ·show(if _ then none else H0' b)=_
  split
  ·rfl
  ·rename_i q
   refine e.new b ?_ y
   cases r:H1 b with
   | none=>rfl
   | some o=>exact absurd ⟨z,by rw[r];simp⟩ q
 ·show(if _ then none else H0' b)=_\/(if _ then none else H0' b)=_/\_
  split
  ·rename_i q
   right
   refine⟨rfl,?_⟩
   cases r:H1 b with
   | none=>exact absurd r q.2
   | some u =>
    rcases l b u r with y|⟨_,y⟩
    ·rw[q.1]at y;cases y
    ·have:=e.s0 _ _ r
     rw[z]at this
     cases this
     exact y
  ·exact .inl z
 ·have z:(if H0 b=none/\H1 b≠none then none else H0' b)=some o:=z
  split at z
  ·cases z
  ·exact z
end
abbrev DE:=DSt->(D->Prop)->(Addr->Prop)->Prop
abbrev DT:=DSt->(Bool->Prop)->(Addr->Prop)->Prop
abbrev DA:=DSt->(List D->Prop)->(Addr->Prop)->Prop
abbrev DO:=DSt->(Option Int->Prop)->(Addr->Prop)->Prop
abbrev KE(K:aa)(H0 H:Hp)(q:D->Prop)(Q:VK):Prop:=∀ v d H0' H',Ext H0 H H0' H'->Rp K H0' d v->q d->Q v H'
abbrev KX(XE:St->XK)(σ:St)(H:Hp)(x:Addr->Prop):Prop:=∀ C H',ZA H H'->x C->XE σ (.ref C) none H'
theorem KX.go(k:KX XE σ H x)(s:ZA H H1):KX XE σ H1 x:=λC H' s' h=>k C H' (s.trans s') h
theorem KE.go{K:aa}(k:KE K H0 H q Q)(e:Ext H0 H H1 H2):KE K H1 H2 q Q:=λv d H0' H' e' r h=>k v d H0' H' (e.trans e') r h
noncomputable def Den(K:aa)(XE:St->XK)(te:TE)(de:DE):Prop:=∀ {B0 B H0 H:Hp}{σ:St}{ds:DSt}{q:D->Prop}{x:Addr->Prop}{Q:VK},Cfg K B0 B H0 H σ ds->de ds q x->KE K H0 H q Q->KX XE σ H x->te σ H Q
noncomputable def CD(K:aa)(XE:St->XK)(te:TT)(de:DT):Prop:=∀ {B0 B H0 H:Hp}{σ:St}{ds:DSt}{q:Bool->Prop}{x:Addr->Prop}{Q:Bool->Hp->Prop},Cfg K B0 B H0 H σ ds->de ds q x->(∀ b H0' H',Ext H0 H H0' H'->q b->Q b H')->KX XE σ H x->te σ H Q
noncomputable def DenA(K:aa)(XE:St->XK)(te:TA)(de:DA):Prop:=∀ {B0 B H0 H:Hp}{σ:St}{ds:DSt}{q:List D->Prop}{x:Addr->Prop}{Q:List V->Hp->Prop},Cfg K B0 B H0 H σ ds->de ds q x->(∀ vs xs H0' H',Ext H0 H H0' H'->Rps K H0' xs vs->q xs->Q vs H')->KX XE σ H x->te σ H Q
noncomputable def DenO(K:aa)(XE:St->XK)(te:TO)(de:DO):Prop:=∀ {B0 B H0 H:Hp}{σ:St}{ds:DSt}{q:Option Int->Prop}{x:Addr->Prop}{Q:Option Int->Hp->Prop},Cfg K B0 B H0 H σ ds->de ds q x->(∀ i H0' H',Ext H0 H H0' H'->q i->Q i H')->KX XE σ H x->te σ H Q
structure JE (X:Cx)(XE:St->XK)(e:Expr)(de:DE):Prop where
 ex:∃ te,PE X e te/\Den X.K XE te de
structure JT (X:Cx)(XE:St->XK)(e:Expr)(de:DT):Prop where
 ex:∃ te,PT X e te/\CD X.K XE te de
structure JW (X:Cx)(XE:St->XK)(e:Expr)(de:DT):Prop where
 ex:∃ te,PW X e te/\CD X.K XE te de
structure JAs (X:Cx)(XE:St->XK)(es:List Expr)(de:DA):Prop where
 ex:∃ te,PA X es te/\DenA X.K XE te de
structure JO (X:Cx)(XE:St->XK)(e:Option Expr)(de:DO):Prop where
 ex:∃ te,PO X e te/\DenO X.K XE te de
section
noncomputable def sV:Option Slot->(D->Prop)->Prop
 | some (.v d),q=>q d
 | _,_=>False
theorem sV_ex(h:sV s q):∃ d,s=some (.v d)/\q d:=by
 unfold sV at h;split at h
 ·exact⟨_,rfl,h⟩
 ·exact h.elim
noncomputable def sO:Option Slot->(List D->Prop)->Prop
 | some (.own d),q=>q d
 | _,_=>False
theorem vU(h:sO s q):∃ d,s=some (.own d)/\q d:=by
 unfold sO at h;split at h
 ·exact⟨_,rfl,h⟩
 ·exact h.elim
noncomputable def sS:Option Slot->(Addr->Mu->Prop)->Prop
 | some (.st a μ),q=>q a μ
 | _,_=>False
noncomputable def aB:D->(Bool->Prop)->Prop
 | .bl b,q=>q b
 | _,_=>False
theorem Ej(h:aB d q):∃ b,d = .bl b/\q b:=by
 unfold aB at h;split at h
 ·exact⟨_,rfl,h⟩
 ·exact h.elim
noncomputable def aI:D->(Int->Prop)->Prop
 | .int b,q=>q b
 | _,_=>False
theorem vV(h:aI d q):∃ b,d = .int b/\q b:=by
 unfold aI at h;split at h
 ·exact⟨_,rfl,h⟩
 ·exact h.elim
noncomputable def aT:D->(List D->Prop)->Prop
 | .tup b,q=>q b
 | _,_=>False
theorem aT_ex(h:aT d q):∃ b,d = .tup b/\q b:=by
 unfold aT at h;split at h
 ·exact⟨_,rfl,h⟩
 ·exact h.elim
noncomputable def lC:List D->(D->List D->Prop)->Prop
 | d::ds,q=>q d ds
 | _,_=>False
theorem vW(h:lC d q):∃ a as,d=a::as/\q a as:=by
 unfold lC at h;split at h
 ·exact⟨_,_,rfl,h⟩
 ·exact h.elim
noncomputable def lz:Nat->List D->Prop->Prop
 | 0,[],p=>p
 | n+1,_::xs,p=>lz n xs p
 | _,_,_=>False
theorem Ek:∀ {n:Nat}{xs:List D}{p:Prop},lz n xs p->xs.length=n/\p
 | 0,[],_,h=>⟨rfl,h⟩
 | n+1,_::xs,_,h=>⟨congrArg (· + 1) (Ek (n:=n) (xs:=xs) h).1,(Ek (n:=n) (xs:=xs) h).2⟩
 | 0,_::_,_,h=>h.elim
 | _+1,[],_,h=>h.elim
noncomputable def pkO:List Nat->D->Prop->Prop
 | [],_,p=>p
 | _,d,p=>d.imm=true/\p
theorem Qr(h:pkO pk d p):(pk=[]\/d.imm=true)/\p:=by
 cases pk with
 | nil=>exact⟨.inl rfl,h⟩
 | cons a as=>exact⟨.inr h.1,h.2⟩
theorem zm_c:(a::l).map f=f a::l.map f:=rfl
theorem zm_n:([]:List α).map f=[]:=rfl
theorem zn_t:(!true)=false:=rfl
theorem zn_f:(!false)=true:=rfl
theorem zi_t:(if true=true then p else q)=p:=rfl
theorem zi_f:(if false=true then p else q)=q:=rfl
theorem zh_c:(a::l).modifyHead f=f a::l:=rfl
theorem zf_c:(a::l).foldl f b=l.foldl f (f b a):=rfl
theorem zf_n:([]:List α).foldl f b=b:=rfl
theorem z_sV:sV (some (.v d)) q=q d:=rfl
theorem z_sO:sO (some (.own d)) q=q d:=rfl
theorem z_sS:sS (some (.st a μ)) q=q a μ:=rfl
theorem z_aB:aB (.bl b) q=q b:=rfl
theorem z_aI:aI (.int b) q=q b:=rfl
theorem z_aT:aT (.tup b) q=q b:=rfl
theorem z_lC:lC (d::ds) q=q d ds:=rfl
theorem z_lz:lz 0 [] p=p:=rfl
theorem z_lzS:lz (n+1) (d::xs) p=lz n xs p:=rfl
theorem z_pk:pkO [] d p=p:=rfl
theorem z_pkS:pkO (a::as) d p=(d.imm=true/\p):=rfl
noncomputable def dVar(i:Nat):DE:=λds q _=>sV ds[i]? q
noncomputable def dC(d:D):DE:=λ_ q _=>q d
theorem Pl(h:o.getD none=some v):o=some (some v):=by
 cases o with
 | none=>cases h
 | some o=>exact congrArg some h
theorem jv(i:Nat)(hN:autoParam (X.N[i]?=some x) auR)(hv:Vis X.env.scope x:=by first | exact Or.inl rfl | exact Or.inr (Or.inl rfl) | exact Or.inr (Or.inr rfl))(hd:autoParam ((x==("__debug__" : Str))=false) auD)
  (hcd:autoParam ((x==("__classdict__" : Str))=false) auD):JE X XE (.Name x pos) (dVar i) :=
 ⟨_,pv i hN hv hd hcd,λc h k _=>by
  obtain⟨d,e,h⟩:=sV_ex h
  obtain⟨v,e1,r⟩:=c.slot i _ e
  exact⟨v,Pl e1,k v d _ _ (.refl c.sub) r h⟩⟩
theorem Zd:JE X XE (.Constant (.int i) j pos) (dC (.int i)):=⟨_,mL,λc h k _=>k _ (.int i) _ _ (.refl c.sub) rfl h⟩
theorem KH:JE X XE (.Constant (.bool b) j pos) (dC (.bl b)):=⟨_,pe_bl,λc h k _=>k _ (.bl b) _ _ (.refl c.sub) rfl h⟩
theorem Zg:JE X XE (.Constant (.str x) j pos) (dC (.str x)):=⟨_,mO,λc h k _=>k _ (.str x) _ _ (.refl c.sub) rfl h⟩
theorem Qb:JE X XE (.Constant .none j pos) (dC .non):=⟨_,mM,λc h k _=>k _ .non _ _ (.refl c.sub) rfl h⟩
theorem Xn(d:D)(hg:Gl X x)(hm:X.mg x=some u)(r:RelV v u)(hr:∀ K H,Rp K H d v)(hd:autoParam ((x==("__debug__" : Str))=false) auD):JE X XE (.Name x pos) (dC d) :=
 ⟨_,qA hg hm r hd,λc h k _=>k _ _ _ _ (.refl c.sub) (hr _ _) h⟩
theorem SQ(hg:Gl X x)(hm:X.mg x=none)(hv:bootBuiltins x=some (.type n))(hn:autoParam (x≠("__name__" : Str)) auD)(hd:autoParam ((x==("__debug__" : Str))=false) auD):JE X XE (.Name x pos) (dC (.ty n)) :=
 ⟨_,qB (v := .ty n) hg hm hv rfl hn hd,λc h k _=>k _ (.ty n) _ _ (.refl c.sub) rfl h⟩
noncomputable def vX:DA:=λ_ q _=>q []
noncomputable def El(da:DE)(dr:DA):DA:=λds q x=>da ds (λa=>dr ds (λas=>q (a::as)) x) x
theorem Za:JAs X XE [] vX:=⟨_,Kw,λc h k _=>k _ [] _ _ (.refl c.sub) rfl h⟩
theorem Zc(ha:JE X XE e da)(hr:JAs X XE es dr)(h:autoParam (noStar e=true) auR):JAs X XE (e::es) (El da dr):=by
 obtain⟨ta,p1,d1⟩:=ha.ex
 obtain⟨tr,p2,d2⟩:=hr.ex
 refine⟨_,vN p1 p2 h,λc h k kx=>?_⟩
 refine d1 c h (λv a H1 H2 e r h=>?_) kx
 exact d2 (c.go e) h (λvs as H3 H4 e' r' h'=>k _ (a::as) _ _ (e.trans e') ⟨v,vs,rfl,r.same e'.s0,r'⟩ h') (kx.go e.s)
noncomputable def Em(K:aa)(r:R2)(g:D->D->(D->Prop)->Prop):Prop:=∀ {H0 H:Hp}{x y:V}{a b:D}{q:D->Prop}{Q:VK},ZA H0 H->Rp K H0 a x->Rp K H0 b y->g a b q->KE K H0 H q Q->r x y H Q
structure JOp (X:Cx)(f:Value->Value->Sem Value)(g:D->D->(D->Prop)->Prop):Prop where
 ex:∃ r,OpR X f r/\Em X.K r g
noncomputable def dOp(g:D->D->(D->Prop)->Prop)(da db:DE):DE:=λds q x=>da ds (λa=>db ds (λb=>g a b q) x) x
theorem Gm{K:aa}(d1:Den K XE ta da)(d2:Den K XE tb db)(l:Em K r g):Den K XE (tOp r ta tb) (dOp g da db):=λc h k kx =>
 d1 c h (λv a H1 H2 e r1 h=>d2 (c.go e) h (λu b H3 H4 e' r2 h'=>l (c.go (e.trans e')).sub (r1.same e'.s0) r2 h' (k.go (e.trans e'))) (kx.go e.s)) kx
theorem Zh(ho:JOp X (binaryOp op) g)(ha:JE X XE a da)(hb:JE X XE b db):JE X XE (.BinOp a op b pos) (dOp g da db):=by
 obtain⟨r,o,l⟩:=ho.ex
 obtain⟨ta,p1,d1⟩:=ha.ex
 obtain⟨tb,p2,d2⟩:=hb.ex
 exact⟨_,pe_op o p1 p2,Gm d1 d2 l⟩
theorem Xs(ho:JOp X (compareOp op) g)(ha:JE X XE a da)(hb:JE X XE b db)(hm:behindInMarks op b=false):JE X XE (.Compare a [op] [b] pos) (dOp g da db):=by
 obtain⟨r,o,l⟩:=ho.ex
 obtain⟨ta,p1,d1⟩:=ha.ex
 obtain⟨tb,p2,d2⟩:=hb.ex
 exact⟨_,qH o p1 p2 hm,Gm d1 d2 l⟩
noncomputable def CF(g g':D->D->(D->Prop)->Prop)(da db dc:DE):DE:=λds q x=>da ds (λa=>db ds (λb=>g a b λz=>aB z λk=>if k=true then dc ds (λc=>g' b c q) x else q (.bl false)) x) x
theorem AB(ho:JOp X (compareOp op) g)(ho':JOp X (compareOp op') g')(ha:JE X XE a da)(hb:JE X XE b db)(hc:JE X XE c dc)
  (hm:lastMarks [op,op'] [b,c]=false:=by with_unfolding_all rfl):JE X XE (.Compare a [op,op'] [b,c] pos) (CF g g' da db dc):=by
 obtain⟨r,o,l⟩:=ho.ex
 obtain⟨r',o',l'⟩:=ho'.ex
 obtain⟨ta,p1,d1⟩:=ha.ex
 obtain⟨tb,p2,d2⟩:=hb.ex
 obtain⟨tc,p3,d3⟩:=hc.ex
 refine⟨_,vh o o' p1 p2 p3 hm,λc h k kx=>?_⟩
 refine d1 c h (λv a H1 H2 e r1 h=>d2 (c.go e) h (λu b H3 H4 e' r2 h'=>?_) (kx.go e.s)) kx
 refine l (c.go (e.trans e')).sub (r1.same e'.s0) r2 h' λz d H5 H6 e2 r3 zq=>?_
 obtain⟨kk,ek,hk⟩:=Ej zq
 subst ek
 refine⟨kk,r3,?_⟩
 have e3:=(e.trans e').trans e2
 cases kk with
 | true =>
  rw[if_pos rfl]at hk⊢
  exact d3 (c.go e3) hk (λw' cc H7 H8 e4 r4 h4=>l' (c.go (e3.trans e4)).sub (r2.same (e2.trans e4).s0) r4 h4 (k.go (e3.trans e4))) (kx.go e3.s)
 | false =>
  rw[if_neg aC]at hk⊢
  exact k _ (.bl false) _ _ e3 rfl hk
noncomputable def dB(de:DE):DT:=λds q x=>de ds (λd=>aB d q) x
theorem En{K:aa}(d:Den K XE te de):CD K XE (vf te) (dB de):=λc h k kx =>
 d c h (λv a H1 H2 e r zq=>by obtain⟨b,z,hb⟩:=Ej zq;subst z;exact⟨b,r,k b _ _ e hb⟩) kx
theorem Zm(ho:JOp X (compareOp op) g)(ha:JE X XE a da)(hb:JE X XE b db)(hm:behindInMarks op b=false):JT X XE (.Compare a [op] [b] pos) (dB (dOp g da db)):=by
 obtain⟨r,o,l⟩:=ho.ex
 obtain⟨ta,p1,d1⟩:=ha.ex
 obtain⟨tb,p2,d2⟩:=hb.ex
 exact⟨_,qI o p1 p2 hm,En (Gm d1 d2 l)⟩
theorem Eo{XE:St->XK}{g g':D->D->(D->Prop)->Prop}(ho:JOp X (compareOp op) g)(ho':JOp X (compareOp op') g')(ha:JE X XE a da)(hb:JE X XE b db)(hc:JE X XE c dc)
  (hm:lastMarks [op,op'] [b,c]=false:=by with_unfolding_all rfl):JT X XE (.Compare a [op,op'] [b,c] pos) (dB (CF g g' da db dc)):=by
 obtain⟨r,o,l⟩:=ho.ex
 obtain⟨r',o',l'⟩:=ho'.ex
 obtain⟨ta,p1,d1⟩:=ha.ex
 obtain⟨tb,p2,d2⟩:=hb.ex
 obtain⟨tc,p3,d3⟩:=hc.ex
 refine⟨_,vi o o' p1 p2 p3 hm,En λc h k kx=>?_⟩
 refine d1 c h (λv a H1 H2 e r1 h=>d2 (c.go e) h (λu b H3 H4 e' r2 h'=>?_) (kx.go e.s)) kx
 refine l (c.go (e.trans e')).sub (r1.same e'.s0) r2 h' λz d H5 H6 e2 r3 zq=>?_
 obtain⟨kk,ek,hk⟩:=Ej zq
 subst ek
 refine⟨kk,r3,?_⟩
 have e3:=(e.trans e').trans e2
 cases kk with
 | true =>
  rw[if_pos rfl]at hk⊢
  exact d3 (c.go e3) hk (λw' cc H7 H8 e4 r4 h4=>l' (c.go (e3.trans e4)).sub (r2.same (e2.trans e4).s0) r4 h4 (k.go (e3.trans e4))) (kx.go e3.s)
 | false =>
  rw[if_neg aC]at hk⊢
  exact k _ (.bl false) _ _ e3 rfl hk
noncomputable def D.tru:D->(Bool->Prop)->Prop
 | .non,q=>q false
 | .bl b,q=>q b
 | .int i,q=>q (i != 0)
 | .str y,q=>y.length<=az/\q ((y.length:Int) != 0)
 | .lst xs,q=>q (!xs.isEmpty)
 | .scr xs,q=>q (!xs.isEmpty)
 | .tup xs,q=>q (!xs.isEmpty)
 | _,_=>False
theorem Rps.empty{K:aa}(h:Rps K H xs vs):vs.isEmpty=xs.isEmpty:=by
 cases xs with
 | nil=>rw[show vs=[] from h];rfl
 | cons d ds=>obtain⟨v,us,rfl,_⟩:=h;rfl
theorem Rps.length{K:aa}:∀ {xs:List D}{vs:List V},Rps K H xs vs->vs.length=xs.length
 | [],_,h=>by rw[show _=[] from h];rfl
 | d::ds,_,⟨v,us,e,_,h⟩=>by rw[e,length_cons,length_cons,Rps.length h]
noncomputable def dTru(de:DE):DT:=λds q x=>de ds (λd=>d.tru q) x
theorem vY{K:aa}(s:ZA H0 H)(r:Rp K H0 d v)(h:d.tru q):∃ b,TruV K v H b/\q b:=by
 cases d with
 | non=>rw[show v = .non from r];exact⟨false,rfl,h⟩
 | bl b=>rw[show v = .bl b from r];exact⟨b,rfl,h⟩
 | int i=>rw[show v = .int i from r];exact⟨_,rfl,h⟩
 | str y=>rw[show v = .str y from r];exact⟨_,⟨h.1,rfl⟩,h.2⟩
 | lst xs =>
  obtain⟨a,vs,rfl,h1,h2⟩:=r
  exact⟨_,.inl ⟨vs,SqL.of (s _ _ h1),rfl⟩,by rw[h2.empty];exact h⟩
 | scr xs =>
  obtain⟨a,vs,rfl,h1,h2⟩:=r
  exact⟨_,.inl ⟨vs,s.seq h1,rfl⟩,by rw[h2.empty];exact h⟩
 | tup xs =>
  obtain⟨a,vs,rfl,h1,h2⟩:=r
  exact⟨_,.inr (.inl ⟨vs,SqT.of (s _ _ h1),rfl⟩),by rw[h2.empty];exact h⟩
 | _=>exact h.elim
end
section
theorem Yn(h:JE X XE e de)(he:∀ whole,isTrue e X.env whole=(do let v <- whole;standAt e.pos;holding [v] (truthy v)):=by intro _;rfl):JT X XE e (dTru de):=by
 obtain⟨te,p,d⟩:=h.ex
 refine⟨_,vj p he,λc h k kx=>d c h (λv a H1 H2 e r h=>?_) kx⟩
 obtain⟨b,h1,h2⟩:=vY (c.go e).sub r h
 exact⟨b,h1,k b _ _ e h2⟩
noncomputable def dNot(d:DT):DT:=λds q x=>d ds (λb=>q (!b)) x
noncomputable def dAnd(d e:DT):DT:=λds q x=>d ds (λb=>if b=true then e ds q x else q false) x
noncomputable def dOr(d e:DT):DT:=λds q x=>d ds (λb=>if b=true then q true else e ds q x) x
theorem YR(h:JT X XE a d):JT X XE (.UnaryOp .Not a pos) (dNot d):=by
 obtain⟨te,p,d⟩:=h.ex
 exact⟨_,mP p,λc h k kx=>d c h (λb H1 H2 e hb=>k _ _ _ e hb) kx⟩
theorem Wl(h:JT X XE a d):JW X XE (.BoolOp .And [a] pos) d:=by
 obtain⟨te,p,d⟩:=h.ex
 exact⟨_,pw_and1 p,d⟩
theorem XM(h:JT X XE a d):JW X XE (.BoolOp .Or [a] pos) d:=by
 obtain⟨te,p,d⟩:=h.ex
 exact⟨_,pw_or1 p,d⟩
theorem Vk{rest:List Expr}(ha:JT X XE a d)(hb:JW X XE (.BoolOp .And (b::rest) pos) e):JW X XE (.BoolOp .And (a::b::rest) pos) (dAnd d e):=by
 obtain⟨ta,p1,d1⟩:=ha.ex
 obtain⟨tb,p2,d2⟩:=hb.ex
 refine⟨_,pw_and p1 p2,λc h k kx=>d1 c h (λb H1 H2 e hb=>?_) kx⟩
 cases b with
 | true =>
  rw[if_pos rfl]at hb⊢
  exact d2 (c.go e) hb (λb' H3 H4 e' h'=>k _ _ _ (e.trans e') h') (kx.go e.s)
 | false =>
  rw[if_neg aC]at hb⊢
  exact k _ _ _ e hb
theorem XJ{rest:List Expr}(ha:JT X XE a d)(hb:JW X XE (.BoolOp .Or (b::rest) pos) e):JW X XE (.BoolOp .Or (a::b::rest) pos) (dOr d e):=by
 obtain⟨ta,p1,d1⟩:=ha.ex
 obtain⟨tb,p2,d2⟩:=hb.ex
 refine⟨_,pw_or p1 p2,λc h k kx=>d1 c h (λb H1 H2 e hb=>?_) kx⟩
 cases b with
 | true =>
  rw[if_pos rfl]at hb⊢
  exact k _ _ _ e hb
 | false =>
  rw[if_neg aC]at hb⊢
  exact d2 (c.go e) hb (λb' H3 H4 e' h'=>k _ _ _ (e.trans e') h') (kx.go e.s)
theorem WO(h:JW X XE e d):JT X XE e d:=by
 obtain⟨te,p,d⟩:=h.ex
 exact⟨_,p.pt,d⟩
noncomputable def nU(da db:DE):DE:=λds q x=>da ds (λa=>aB a λk=>if k=true then db ds q x else q (.bl false)) x
noncomputable def dOrV(da db:DE):DE:=λds q x=>da ds (λa=>aB a λk=>if k=true then q (.bl true) else db ds q x) x
noncomputable def dNotV(da:DE):DE:=λds q x=>da ds (λa=>aB a λk=>q (.bl (!k))) x
theorem UI(h:JE X XE a d):JE X XE (.BoolOp op [a] pos) d:=by
 obtain⟨te,p,d⟩:=h.ex
 exact⟨_,mQ p,d⟩
theorem SR{rest:List Expr}(ha:JE X XE a da)(hb:JE X XE (.BoolOp .And (b::rest) pos) db):JE X XE (.BoolOp .And (a::b::rest) pos) (nU da db):=by
 obtain⟨ta,p1,d1⟩:=ha.ex
 obtain⟨tb,p2,d2⟩:=hb.ex
 refine⟨_,mR p1 p2,λc h k kx=>d1 c h (λv a H1 H2 e r zq=>?_) kx⟩
 obtain⟨b,z,hb⟩:=Ej zq
 subst z
 refine⟨b,r,?_⟩
 cases b with
 | true =>
  rw[if_pos rfl]at hb⊢
  exact d2 (c.go e) hb (k.go e) (kx.go e.s)
 | false =>
  rw[if_neg aC]at hb⊢
  exact k _ (.bl false) _ _ e rfl hb
theorem vZ{rest:List Expr}(ha:JE X XE a da)(hb:JE X XE (.BoolOp .Or (b::rest) pos) db):JE X XE (.BoolOp .Or (a::b::rest) pos) (dOrV da db):=by
 obtain⟨ta,p1,d1⟩:=ha.ex
 obtain⟨tb,p2,d2⟩:=hb.ex
 refine⟨_,pe_or p1 p2,λc h k kx=>d1 c h (λv a H1 H2 e r zq=>?_) kx⟩
 obtain⟨b,z,hb⟩:=Ej zq
 subst z
 refine⟨b,r,?_⟩
 cases b with
 | true =>
  rw[if_pos rfl]at hb⊢
  exact k _ (.bl true) _ _ e rfl hb
 | false =>
  rw[if_neg aC]at hb⊢
  exact d2 (c.go e) hb (k.go e) (kx.go e.s)
noncomputable def dIfE(c:DT)(da db:DE):DE:=λds q x=>c ds (λb=>if b=true then da ds q x else db ds q x) x
theorem je_if(hc:JT X XE c dc)(ha:JE X XE a da)(hb:JE X XE b db):JE X XE (.IfExp c a b pos) (dIfE dc da db):=by
 obtain⟨tc,p0,d0⟩:=hc.ex
 obtain⟨ta,p1,d1⟩:=ha.ex
 obtain⟨tb,p2,d2⟩:=hb.ex
 refine⟨_,wW p0 p1 p2,λc h k kx=>d0 c h (λb H1 H2 e hb=>?_) kx⟩
 cases b with
 | true =>
  rw[if_pos rfl]at hb⊢
  exact d1 (c.go e) hb (k.go e) (kx.go e.s)
 | false =>
  rw[if_neg aC]at hb⊢
  exact d2 (c.go e) hb (k.go e) (kx.go e.s)
noncomputable def dTup(da:DA):DE:=λds q x=>da ds (λxs=>xs.length<=az/\q (.tup xs)) x
noncomputable def dLst(da:DA):DE:=λds q x=>da ds (λxs=>xs.length<=az/\q (.lst xs)) x
theorem KJ{K:aa}(r:Rps K H0 xs vs)(h:H0 p=none):Rp K (upd H0 p (.tup vs)) (.tup xs) (.ref p):=⟨p,vs,rfl,Zx,r.same (ZA.upd h)⟩
theorem Vl{K:aa}(r:Rps K H0 xs vs)(h:H0 p=none):Rp K (upd H0 p (.lst vs)) (.lst xs) (.ref p):=⟨p,vs,rfl,Zx,r.same (ZA.upd h)⟩
theorem Yz(h:JAs X XE es da):JE X XE (.Tuple es x1 pos) (dTup da):=by
 obtain⟨ta,p1,d1⟩:=h.ex
 refine⟨_,lD p1,λc h k kx=>d1 c h (λvs xs H1 H2 e r hb=>⟨by rw[r.length];exact hb.1,λp hp=>?_⟩) kx⟩
 exact k _ (.tup xs) _ _ (e.trans (.put e.sub hp)) (KJ r (e.sub.free hp)) hb.2
theorem ZH(h:JAs X XE es da):JE X XE (.List es pos) (dLst da):=by
 obtain⟨ta,p1,d1⟩:=h.ex
 refine⟨_,vp p1,λc h k kx=>d1 c h (λvs xs H1 H2 e r hb=>⟨by rw[r.length];exact hb.1,λp hp=>?_⟩) kx⟩
 exact k _ (.lst xs) _ _ (e.trans (.put e.sub hp)) (Vl r (e.sub.free hp)) hb.2
theorem Rps.get{K:aa}:∀ {xs:List D}{vs:List V}{i:Nat}{d:D},Rps K H xs vs->xs[i]?=some d->∃ v,vs[i]?=some v/\Rp K H d v
 | [],_,_,_,_,e=>by simp at e
 | d::ds,_,0,_,⟨v,us,e,h,_⟩,q=>by
  simp at q
  subst q e
  exact⟨v,rfl,h⟩
 | d::ds,_,i+1,_,⟨v,us,e,_,h⟩,q=>by
  subst e
  obtain⟨w,h1,h2⟩:=Rps.get (i:=i) h (by simpa using q)
  exact⟨w,by simpa using h1,h2⟩
theorem Rps.app{K:aa}:∀ {xs ys:List D}{vs us:List V},Rps K H xs vs->Rps K H ys us->Rps K H (xs++ys) (vs++us)
 | [],_,_,_,e,h=>by rw[show _=[] from e];exact h
 | d::ds,_,_,_,⟨v,ws,e,h,h'⟩,k=>by
  subst e
  exact⟨v,_,rfl,h,Rps.app h' k⟩
theorem Rps.drop{K:aa}:∀ {xs:List D}{vs:List V}(n:Nat),Rps K H xs vs->Rps K H (xs.drop n) (vs.drop n)
 | _,_,0,h=>h
 | [],_,n+1,h=>by rw[show _=[] from h];rfl
 | d::ds,_,n+1,⟨v,ws,e,_,h⟩=>by
  subst e
  exact Rps.drop n h
theorem Rps.take{K:aa}:∀ {xs:List D}{vs:List V}(n:Nat),Rps K H xs vs->Rps K H (xs.take n) (vs.take n)
 | _,_,0,_=>rfl
 | [],_,n+1,h=>by rw[show _=[] from h];rfl
 | d::ds,_,n+1,⟨v,ws,e,h,h'⟩=>by
  subst e
  exact⟨v,_,rfl,h,Rps.take n h'⟩
theorem Rps.snoc{K:aa}(h:Rps K H xs vs)(r:Rp K H d v):Rps K H (xs++[d]) (vs++[v]):=h.app ⟨v,[],rfl,r,rfl⟩
noncomputable def D.flat:D->Bool
 | .non=>true
 | .bl _=>true
 | .int _=>true
 | .str _=>true
 | _=>false
noncomputable def D.toV:D->V
 | .bl b => .bl b
 | .int i => .int i
 | .str x => .str x
 | .ty n => .ty n
 | .rf a => .ref a
 | _ => .non
theorem SU{K:aa}(f:d.flat=true)(r:Rp K H d v):v=d.toV/\Tz v=true:=by
 cases d with
 | non=>rw[show v = .non from r];exact⟨rfl,rfl⟩
 | bl b=>rw[show v = .bl b from r];exact⟨rfl,rfl⟩
 | int i=>rw[show v = .int i from r];exact⟨rfl,rfl⟩
 | str x=>rw[show v = .str x from r];exact⟨rfl,rfl⟩
 | _=>cases f
theorem KL{K:aa}:∀ {xs:List D}{vs:List V},xs.all D.flat=true->Rps K H xs vs->vs=xs.map D.toV/\vs.all Tz=true
 | [],_,_,r=>by rw[show _=[] from r];exact⟨rfl,rfl⟩
 | d::ds,_,f,⟨v,us,e,h,h'⟩=>by
  rw[all_cons,aD]at f
  obtain⟨e1,f1⟩:=SU f.1 h
  obtain⟨e2,f2⟩:=KL f.2 h'
  subst e
  exact⟨by rw[e2,e1];rfl,by rw[all_cons,f1,f2];rfl⟩
noncomputable def CG:D->D->(D->Prop)->Prop
 | .int i,.int j=>λq=>q (.int (i+j))
 | .str i,.str j=>λq=>i.length+j.length<=az/\q (.str (i++j))
 | .lst xs,.lst ys=>λq=>xs.length+ys.length<=az/\q (.lst (xs++ys))
 | .scr xs,.lst ys=>λq=>xs.length+ys.length<=az/\q (.lst (xs++ys))
 | .tup xs,.tup ys=>λq=>xs≠[]/\xs.length+ys.length<=az/\q (.tup (xs++ys))
 | _,_=>λ_=>False
theorem Zi{X:Cx}:JOp X (binaryOp .Add) CG:=by
 refine⟨_,mZ.or (Cd.or (qT.or qQ)),λ{H0 H x y a b q Q} s ra rb h k=>?_⟩
 unfold CG at h
 split at h
 ·rename_i i j
  rw[show x = .int i from ra,show y = .int j from rb]
  exact .inl ⟨i,j,rfl,rfl,k _ (.int (i+j)) _ _ (.refl s) rfl h⟩
 ·rename_i i j
  rw[show x = .str i from ra,show y = .str j from rb]
  exact .inr (.inl ⟨i,j,rfl,rfl,h.1,k _ (.str (i++j)) _ _ (.refl s) rfl h.2⟩)
 ·obtain⟨a1,vs,rfl,h1,h2⟩:=ra
  obtain⟨b1,us,rfl,h3,h4⟩:=rb
  refine .inr (.inr (.inl ⟨a1,b1,vs,us,rfl,rfl,SqL.of (s _ _ h1),SqL.of (s _ _ h3),by rw[h2.length,h4.length];exact h.1,λp hp=>?_⟩))
  exact k _ (.lst _) _ _ (.put s hp) (Vl (h2.app h4) (s.free hp)) h.2
 ·obtain⟨a1,vs,rfl,h1,h2⟩:=ra
  obtain⟨b1,us,rfl,h3,h4⟩:=rb
  refine .inr (.inr (.inl ⟨a1,b1,vs,us,rfl,rfl,s.seq h1,SqL.of (s _ _ h3),by rw[h2.length,h4.length];exact h.1,λp hp=>?_⟩))
  exact k _ (.lst _) _ _ (.put s hp) (Vl (h2.app h4) (s.free hp)) h.2
 ·obtain⟨a1,vs,rfl,h1,h2⟩:=ra
  obtain⟨b1,us,rfl,h3,h4⟩:=rb
  refine .inr (.inr (.inr ⟨a1,b1,vs,us,rfl,rfl,SqT.of (s _ _ h1),SqT.of (s _ _ h3),?_,by rw[h2.length,h4.length];exact h.2.1,λz=>?_,λ_ p hp=>?_⟩))
  ·intro z
   have:=h2.length
   rw[z]at this
   exact h.1 (List.eq_nil_of_length_eq_zero this.symm)
  ·refine k _ (.tup _) _ _ (.refl s) ⟨a1,vs,rfl,h1,?_⟩ h.2.2
   have:=h2.app h4
   rw[z,append_nil]at this
   exact this
  ·exact k _ (.tup _) _ _ (.put s hp) (KJ (h2.app h4) (s.free hp)) h.2.2
 ·exact h.elim
noncomputable def dII(C:Int->Int->Prop)(g:Int->Int->D):D->D->(D->Prop)->Prop
 | .int i,.int j=>λq=>C i j/\q (g i j)
 | _,_=>λ_=>False
noncomputable def dI0(g:Int->Int->D):D->D->(D->Prop)->Prop
 | .int i,.int j=>λq=>q (g i j)
 | _,_=>λ_=>False
theorem ua(o:OpR X f (rI C g))(hC:∀ i j,C' i j->C i j)(hg:∀ K H i j,C' i j->Rp K H (g' i j) (g i j)):JOp X f (dII C' g'):=by
 refine⟨_,o,λ{H0 H x y a b q Q} s ra rb h k=>?_⟩
 unfold dII at h
 split at h
 ·rename_i i j
  rw[show x = .int i from ra,show y = .int j from rb]
  exact⟨i,j,rfl,rfl,hC _ _ h.1,k _ (g' i j) _ _ (.refl s) (hg _ _ i j h.1) h.2⟩
 ·exact h.elim
theorem AD(o:OpR X f (rI0 g))(hg:∀ K H i j,Rp K H (g' i j) (g i j)):JOp X f (dI0 g'):=by
 refine⟨_,o,λ{H0 H x y a b q Q} s ra rb h k=>?_⟩
 unfold dI0 at h
 split at h
 ·rename_i i j
  rw[show x = .int i from ra,show y = .int j from rb]
  exact⟨i,j,rfl,rfl,k _ (g' i j) _ _ (.refl s) (hg _ _ i j) h⟩
 ·exact h.elim
noncomputable def Nh(i j:Int):Int:=if 0<=j then i/j else i.fdiv j
noncomputable def Ni(i j:Int):Int:=if 0<=j then i%j else i.fmod j
theorem Nj(i j:Int):Nh i j=i.fdiv j:=by
 unfold Nh
 split
 ·rw[Int.fdiv_eq_ediv_of_nonneg _ (by assumption)]
 ·rfl
theorem Pm(i j:Int):Ni i j=i.fmod j:=by
 unfold Ni
 split
 ·rw[Int.fmod_eq_emod_of_nonneg _ (by assumption)]
 ·rfl
theorem lX:JOp X (binaryOp .Sub) (dI0 λi j => .int (i-j)):=AD lg λ_ _ _ _=>rfl
noncomputable def Small(j:Int):Prop:=j.natAbs<1073741824\/Bd 9000 j
theorem Small.bd(h:Small j):Bd 9000 j:=by
 rcases h with h|h
 ·exact Bd.mono (n:=30) (by unfold Bd;exact h) (by decide)
 ·exact h
theorem Zz:JOp X (binaryOp .FloorDiv) (dII (λ_ j=>j≠0/\Small j) λi j => .int (Nh i j)):=ua vC (λi j h=>⟨h.1,h.2.bd⟩) λ_ _ i j _=>by rw[Nj];rfl
theorem Zu:JOp X (binaryOp .Mod) (dII (λ_ j=>j≠0) λi j => .int (Ni i j)):=ua qF (λi j h=>h) λ_ _ i j _=>by rw[Pm];rfl
theorem CH:JOp X (binaryOp .Pow) (dII CPow λi j => .int (i^j.toNat)):=ua lj (λi j h=>h) λ_ _ _ _ _=>rfl
noncomputable def dMul:D->D->(D->Prop)->Prop
 | .int i,.int j=>λq=>Lq i j/\q (.int (i*j))
 | .lst xs,.int k=>λq => -(2^63)<=k/\k<2^63/\xs.length*k.toNat<=az/\q (.lst (replicate k.toNat xs).flatten)
 | _,_=>λ_=>False
theorem Rps.flatten{K:aa}(h:Rps K H xs vs):∀ n,Rps K H (replicate n xs).flatten (replicate n vs).flatten
 | 0=>rfl
 | n+1=>by
  rw[replicate_succ,replicate_succ,flatten_cons,flatten_cons]
  exact h.app (Rps.flatten h n)
theorem VN:JOp X (binaryOp .Mult) dMul:=by
 refine⟨_,qU.or lK,λ{H0 H x y a b q Q} s ra rb h k=>?_⟩
 unfold dMul at h
 split at h
 ·rename_i i j
  rw[show x = .int i from ra,show y = .int j from rb]
  exact .inl ⟨i,j,rfl,rfl,h.1,k _ (.int (i*j)) _ _ (.refl s) rfl h.2⟩
 ·rename_i ys j
  obtain⟨a1,vs,rfl,h1,h2⟩:=ra
  rw[show y = .int j from rb]
  refine .inr ⟨a1,j,vs,rfl,rfl,s _ _ h1,h.1,h.2.1,by rw[h2.length];exact h.2.2.1,λp hp=>?_⟩
  exact k _ (.lst _) _ _ (.put s hp) (Vl (h2.flatten _) (s.free hp)) h.2.2.2
 ·exact h.elim
noncomputable def dLe:D->D->(D->Prop)->Prop:=dI0 λi j => .bl (decide (i<=j))
noncomputable def dGt:D->D->(D->Prop)->Prop:=dI0 λi j => .bl (decide (j<i))
noncomputable def dGe:D->D->(D->Prop)->Prop:=dI0 λi j => .bl (decide (j<=i))
theorem PX:JOp X (compareOp .LtE) dLe:=AD op_le λ_ _ _ _=>rfl
theorem Ho:JOp X (compareOp .Gt) dGt:=AD op_gt λ_ _ _ _=>rfl
noncomputable def dLt:D->D->(D->Prop)->Prop:=dI0 λi j => .bl (decide (i<j))
theorem Hq:JOp X (compareOp .Lt) dLt:=AD op_lt λ_ _ _ _=>rfl
noncomputable def D.UJ:D->Bool
 | .non=>true
 | _=>false
noncomputable def dIsN:D->D->(D->Prop)->Prop
 | a,.non=>λq=>q (.bl a.UJ)
 | _,_=>λ_=>False
noncomputable def ub:D->D->(D->Prop)->Prop
 | a,.non=>λq=>q (.bl (!a.UJ))
 | _,_=>λ_=>False
theorem uc{K:aa}(r:Rp K H d v):decide (v = .non)=d.UJ:=by
 cases d with
 | non=>rw[show v = .non from r];rfl
 | bl b=>rw[show v = .bl b from r];rfl
 | int i=>rw[show v = .int i from r];rfl
 | str i=>rw[show v = .str i from r];rfl
 | ty i=>rw[show v = .ty i from r];rfl
 | rf i=>rw[show v = .ref i from r];rfl
 | tup xs=>obtain⟨a,vs,rfl,_⟩:=r;rfl
 | lst xs=>obtain⟨a,vs,rfl,_⟩:=r;rfl
 | obj C xs=>obtain⟨a,vs,_,rfl,_⟩:=r;rfl
 | dic xs=>obtain⟨a,vs,rfl,_⟩:=r;rfl
 | exc xs=>obtain⟨a,rfl,_⟩:=r;rfl
 | scr xs=>obtain⟨a,vs,rfl,_⟩:=r;rfl
theorem CI:JOp X (compareOp .Is) dIsN:=by
 refine⟨_,lu,λ{H0 H x y a b q Q} s ra rb h k=>?_⟩
 unfold dIsN at h
 split at h
 ·refine⟨rb,?_⟩
  rw[uc ra]
  exact k _ (.bl _) _ _ (.refl s) rfl h
 ·exact h.elim
theorem Nk:JOp X (compareOp .IsNot) ub:=by
 refine⟨_,qG,λ{H0 H x y a b q Q} s ra rb h k=>?_⟩
 unfold ub at h
 split at h
 ·refine⟨rb,?_⟩
  rw[uc ra]
  exact k _ (.bl _) _ _ (.refl s) rfl h
 ·exact h.elim
noncomputable def D.eqF(a b:D):Bool:=eqV a.toV b.toV
noncomputable def inD(x:D)(xs:List D):Bool:=xs.any λy=>y.eqF x
noncomputable def inS(i j:Str):Bool := !(Builtin.Str.occurrences j i 0 j.length 1).isEmpty
noncomputable def dIn(neg:Bool):D->D->(D->Prop)->Prop
 | a,.lst xs=>λq=>a.flat=true/\xs.all D.flat=true/\q (.bl (if neg then !inD a xs else inD a xs))
 | a,.tup xs=>λq=>a.flat=true/\xs.all D.flat=true/\q (.bl (if neg then !inD a xs else inD a xs))
 | .str i,.str j=>λq=>q (.bl (if neg then !inS i j else inS i j))
 | _,_=>λ_=>False
theorem AF(a:D)(xs:List D):inV a.toV (xs.map D.toV)=inD a xs:=by
 unfold inV inD D.eqF
 rw[any_map]
 rfl
theorem AG{K:aa}(neg:Bool):Em K (λx y H Q=>rIn K neg x y H Q\/∃ i j,x = .str i/\y = .str j/\Q (.bl (if neg then !inS i j else inS i j)) H) (dIn neg):=by
 intro H0 H x y a b q Q s ra rb h k
 unfold dIn at h
 split at h
 ·obtain⟨p,vs,rfl,h1,h2⟩:=rb
  obtain⟨e1,f1⟩:=SU h.1 ra
  obtain⟨e2,f2⟩:=KL h.2.1 h2
  refine .inl ⟨p,vs,rfl,.inl (SqL.of (s _ _ h1)),f1,f2,?_⟩
  rw[e1,e2,AF]
  exact k _ (.bl _) _ _ (.refl s) rfl h.2.2
 ·obtain⟨p,vs,rfl,h1,h2⟩:=rb
  obtain⟨e1,f1⟩:=SU h.1 ra
  obtain⟨e2,f2⟩:=KL h.2.1 h2
  refine .inl ⟨p,vs,rfl,.inr (SqT.of (s _ _ h1)),f1,f2,?_⟩
  rw[e1,e2,AF]
  exact k _ (.bl _) _ _ (.refl s) rfl h.2.2
 ·exact .inr ⟨_,_,ra,rb,k _ (.bl _) _ _ (.refl s) rfl h⟩
 ·exact h.elim
theorem VY:JOp X (compareOp .In) (dIn false):=⟨_,yl.or yd,AG false⟩
theorem Qs:JOp X (compareOp .NotIn) (dIn true):=⟨_,HY.or HR,AG true⟩
noncomputable def dIx:D->D->(D->Prop)->Prop
 | .lst xs,.int i=>λq=>∃ d,atI xs i=some d/\q d
 | .scr xs,.int i=>λq=>∃ d,atI xs i=some d/\q d
 | .tup xs,.int i=>λq=>∃ d,atI xs i=some d/\q d
 | .str z,.int i=>λq=>z.length<=az/\∃ c,atI z.cps.toList i=some c/\q (.str ⟨#[c]⟩)
 | _,_=>λ_=>False
theorem CJ{K:aa}(r:Rps K H xs vs)(h:atI xs i=some d):∃ v,atI vs i=some v/\Rp K H d v:=by
 unfold atI at h⊢
 rw[r.length]
 cases e:ixN xs.length i with
 | none=>rw[e]at h;cases h
 | some j =>
  rw[e]at h
  exact r.get h
theorem ph{K:aa}:Em K (rIx K) dIx:=by
 intro H0 H x y a b q Q s ra rb h k
 unfold dIx at h
 split at h
 ·obtain⟨p,vs,rfl,h1,h2⟩:=ra
  obtain⟨d,e,hq⟩:=h
  obtain⟨v,e',r⟩:=CJ h2 e
  exact .inl ⟨p,vs,_,v,rfl,rb,SqL.of (s _ _ h1),e',k _ d _ _ (.refl s) r hq⟩
 ·obtain⟨p,vs,rfl,h1,h2⟩:=ra
  obtain⟨d,e,hq⟩:=h
  obtain⟨v,e',r⟩:=CJ h2 e
  exact .inl ⟨p,vs,_,v,rfl,rb,s.seq h1,e',k _ d _ _ (.refl s) r hq⟩
 ·obtain⟨p,vs,rfl,h1,h2⟩:=ra
  obtain⟨d,e,hq⟩:=h
  obtain⟨v,e',r⟩:=CJ h2 e
  exact .inr (.inl ⟨p,vs,_,v,rfl,rb,SqT.of (s _ _ h1),e',k _ d _ _ (.refl s) r hq⟩)
 ·obtain⟨l,c,e,hq⟩:=h
  exact .inr (.inr ⟨_,_,c,ra,rb,l,e,k _ (.str _) _ _ (.refl s) rfl hq⟩)
 ·exact h.elim
theorem Zj(ha:JE X XE a da)(hb:JE X XE b db)(hs:Aq b:=by exactλ_ _=>rfl):JE X XE (.Subscript a b pos) (dOp dIx da db):=by
 obtain⟨ta,p1,d1⟩:=ha.ex
 obtain⟨tb,p2,d2⟩:=hb.ex
 exact⟨_,pe_ix lG p1 p2 hs,Gm d1 d2 ph⟩
noncomputable def cutD(xs:List D)(lo hi:Option Int):List D:=(xs.drop (HT.sIx xs.length 0 lo)).take (HT.sIx xs.length xs.length hi-HT.sIx xs.length 0 lo)
theorem AH{K:aa}{lo hi:Option Int}(r:Rps K H xs vs):Rps K H (cutD xs lo hi) (yk vs lo hi):=by
 unfold cutD yk
 rw[r.length]
 exact(r.drop _).take _
noncomputable def dSl:D->Option Int->Option Int->(D->Prop)->Prop
 | .lst xs,lo,hi=>λq=>q (.lst (cutD xs lo hi))
 | .scr xs,lo,hi=>λq=>q (.lst (cutD xs lo hi))
 | .str y,lo,hi=>λq=>y.length<=az/\q (.str (Txt.slice y lo hi))
 | _,_,_=>λ_=>False
noncomputable def AI:DO:=λ_ q _=>q none
noncomputable def nV(d:DE):DO:=λds q x=>d ds (λa=>aI a λi=>q (some i)) x
theorem Wm:JO X XE none AI:=⟨_,qO,λc h k _=>k none _ _ (.refl c.sub) h⟩
theorem Yx(h:JE X XE e de):JO X XE (some e) (nV de):=by
 obtain⟨te,p,d⟩:=h.ex
 exact⟨_,qP p,λc h k kx=>d c h (λv a H1 H2 e r zq=>by obtain⟨i,z,hb⟩:=vV zq;subst z;exact⟨i,r,k _ _ _ e hb⟩) kx⟩
noncomputable def ud(de:DE)(dl dh:DO):DE:=λds q x=>de ds (λa=>dl ds (λlo=>dh ds (λhi=>dSl a lo hi q) x) x) x
theorem YD{lo hi:Option Expr}{dl dh:DO}{pos p2:Pos}(he:JE X XE e de)(hl:JO X XE lo dl)(hh:JO X XE hi dh):JE X XE (.Subscript e (.Slice lo hi none p2) pos) (ud de dl dh):=by
 obtain⟨ta,p1,d1⟩:=he.ex
 obtain⟨tl,p3,d3⟩:=hl.ex
 obtain⟨th,p4,d4⟩:=hh.ex
 refine⟨_,vw (qS.or lR) p1 p3 p4,λc h k kx=>d1 c h (λv a H1 H2 e r h=>d3 (c.go e) h (λlo H3 H4 e' h'=>d4 (c.go (e.trans e')) h' (λhi H5 H6 e2 h2=>?_) (kx.go (e.trans e').s)) (kx.go e.s)) kx⟩
 have e3:=(e.trans e').trans e2
 have s3:=(c.go e3).sub
 have r3:=r.same (e'.trans e2).s0
 unfold dSl at h2
 split at h2
 ·obtain⟨p,vs,rfl,h5,h6⟩:=r3
  refine .inl ⟨p,vs,rfl,SqL.of (s3 _ _ h5),λl hl=>?_⟩
  exact k _ (.lst _) _ _ (e3.trans (.put s3 hl)) (Vl (AH h6) (s3.free hl)) h2
 ·obtain⟨p,vs,rfl,h5,h6⟩:=r3
  refine .inl ⟨p,vs,rfl,s3.seq h5,λl hl=>?_⟩
  exact k _ (.lst _) _ _ (e3.trans (.put s3 hl)) (Vl (AH h6) (s3.free hl)) h2
 ·exact .inr ⟨_,r3,h2.1,k _ (.str _) _ _ e3 rfl h2.2⟩
 ·exact h2.elim
noncomputable def dNeg(de:DE):DE:=λds q x=>de ds (λa=>aI a λi=>q (.int (-i))) x
theorem Mo(h:JE X XE a de):JE X XE (.UnaryOp .USub a pos) (dNeg de):=by
 obtain⟨te,p,d⟩:=h.ex
 exact⟨_,pe_un lq p,λc h k kx=>d c h (λv a H1 H2 e r zq=>by obtain⟨i,z,hb⟩:=vV zq;subst z;exact⟨i,r,k _ (.int (-i)) _ _ e rfl hb⟩) kx⟩
noncomputable def LiftC(K:aa)(r:List V->Hp->VK->Prop)(g:List D->(D->Prop)->Prop):Prop:=∀ {H0 H:Hp}{vs:List V}{xs:List D}{q:D->Prop}{Q:VK},ZA H0 H->Rps K H0 xs vs->g xs q->KE K H0 H q Q->r vs H Q
structure SE (X:Cx)(f:Value)(g:List D->(D->Prop)->Prop):Prop where
 ex:∃ r,Xz X f r/\LiftC X.K r g
noncomputable def dCB(g:List D->(D->Prop)->Prop)(da:DA):DE:=λds q x=>da ds (λxs=>g xs q) x
theorem Yl{da:DA}{id:String}{g:List D->(D->Prop)->Prop}(hc:SE X (.builtin id) g)(hg:Gl X x)(hm:X.mg x=none)(hv:bootBuiltins x=some (.builtin id))(ha:JAs X XE (e::es) da)
  (hst:autoParam (ZO (e::es)=true) auR)(hn:autoParam (x≠("__name__" : Str)) auD)(hdb:autoParam ((x==("__debug__" : Str))=false) auD):JE X XE (.Call (.Name x p) (e::es) [] pos) (dCB g da):=by
 obtain⟨r,o,l⟩:=hc.ex
 obtain⟨ta,p1,d1⟩:=ha.ex
 exact⟨_,pe_b o hg hm hv p1 hst hn hdb,λc h k kx=>d1 c h (λvs xs H1 H2 e r h=>l e.sub r h (k.go e)) kx⟩
theorem UK(hc:SE X (.type T) g)(hg:Gl X x)(hm:X.mg x=none)(hv:bootBuiltins x=some (.type T))(ha:JAs X XE (e::es) da)
  (hst:autoParam (ZO (e::es)=true) auR)(hn:autoParam (x≠("__name__" : Str)) auD)(hdb:autoParam ((x==("__debug__" : Str))=false) auD):JE X XE (.Call (.Name x p) (e::es) [] pos) (dCB g da):=by
 obtain⟨r,o,l⟩:=hc.ex
 obtain⟨ta,p1,d1⟩:=ha.ex
 exact⟨_,nT o hg hm hv p1 hst hn hdb,λc h k kx=>d1 c h (λvs xs H1 H2 e r h=>l e.sub r h (k.go e)) kx⟩
theorem VO{K:aa}(h:Rps K H [d] vs):∃ v,vs=[v]/\Rp K H d v:=by
 obtain⟨v,us,rfl,r,e⟩:=h
 exact⟨v,by rw[show us=[] from e],r⟩
theorem ue{K:aa}(h:Rps K H [d,e] vs):∃ v u,vs=[v,u]/\Rp K H d v/\Rp K H e u:=by
 obtain⟨v,us,rfl,r,h⟩:=h
 obtain⟨u,rfl,r'⟩:=VO h
 exact⟨v,u,rfl,r,r'⟩
noncomputable def yA:List D->(D->Prop)->Prop
 | [.lst xs]=>λq=>q (.int xs.length)
 | [.scr xs]=>λq=>q (.int xs.length)
 | [.tup xs]=>λq=>q (.int xs.length)
 | [.str z]=>λq=>z.length<=az/\q (.int z.length)
 | _=>λ_=>False
theorem ZY{X:Cx}:SE X (.builtin "len") yA:=by
 refine⟨_,HZ.or Ga,λ{H0 H vs xs q Q} s r h k=>?_⟩
 unfold yA at h
 split at h
 ·obtain⟨v,rfl,p,ws,rfl,h1,h2⟩:=VO r
  refine .inl ⟨p,ws,rfl,.inl (SqL.of (s _ _ h1)),?_⟩
  rw[h2.length]
  exact k _ (.int _) _ _ (.refl s) rfl h
 ·obtain⟨v,rfl,p,ws,rfl,h1,h2⟩:=VO r
  refine .inl ⟨p,ws,rfl,.inl (s.seq h1),?_⟩
  rw[h2.length]
  exact k _ (.int _) _ _ (.refl s) rfl h
 ·obtain⟨v,rfl,p,ws,rfl,h1,h2⟩:=VO r
  refine .inl ⟨p,ws,rfl,.inr (SqT.of (s _ _ h1)),?_⟩
  rw[h2.length]
  exact k _ (.int _) _ _ (.refl s) rfl h
 ·obtain⟨v,rfl,e⟩:=VO r
  rw[show v = .str _ from e]
  exact .inr ⟨_,rfl,h.1,k _ (.int _) _ _ (.refl s) rfl h.2⟩
 ·exact h.elim
noncomputable def dAbs:List D->(D->Prop)->Prop
 | [.int i]=>λq=>q (.int (if i<0 then -i else i))
 | _=>λ_=>False
theorem uf{X:Cx}:SE X (.builtin "abs") dAbs:=by
 refine⟨_,vk,λ{H0 H vs xs q Q} s r h k=>?_⟩
 unfold dAbs at h
 split at h
 ·obtain⟨v,rfl,e⟩:=VO r
  rw[show v = .int _ from e]
  exact⟨_,rfl,k _ (.int _) _ _ (.refl s) rfl h⟩
 ·exact h.elim
noncomputable def dMax2:List D->(D->Prop)->Prop
 | [.int i,.int j]=>λq=>q (.int (if j > i then j else i))
 | _=>λ_=>False
noncomputable def Ep:List D->(D->Prop)->Prop
 | [.int i]=>λq=>q (.int i)
 | [.bl b]=>λq=>q (.int (if b then 1 else 0))
 | _=>λ_=>False
theorem lY{X:Cx}:SE X (.type "int") Ep:=by
 refine⟨_,ye,λ{H0 H vs xs q Q} s r h k=>?_⟩
 unfold Ep at h
 split at h
 ·obtain⟨v,rfl,e⟩:=VO r
  rw[show v = .int _ from e]
  exact .inl ⟨_,rfl,k _ (.int _) _ _ (.refl s) rfl h⟩
 ·obtain⟨v,rfl,e⟩:=VO r
  rw[show v = .bl _ from e]
  exact .inr ⟨_,rfl,k _ (.int _) _ _ (.refl s) rfl h⟩
 ·exact h.elim
noncomputable def ug:List D->(D->Prop)->Prop
 | [.int i]=>λq=>i.natAbs.log2<1920/\q (.str (toString i))
 | _=>λ_=>False
theorem uh{X:Cx}:SE X (.type "str") ug:=by
 refine⟨_,HS,λ{H0 H vs xs q Q} s r h k=>?_⟩
 unfold ug at h
 split at h
 ·obtain⟨v,rfl,e⟩:=VO r
  rw[show v = .int _ from e]
  exact⟨_,rfl,h.1,k _ (.str _) _ _ (.refl s) rfl h.2⟩
 ·exact h.elim
noncomputable def KM:List D->(D->Prop)->Prop
 | [.lst xs]=>λq=>q (.lst xs)
 | [.scr xs]=>λq=>q (.lst xs)
 | [.tup xs]=>λq=>q (.lst xs)
 | _=>λ_=>False
theorem pj{X:Cx}:SE X (.type "list") KM:=by
 refine⟨_,Gb,λ{H0 H vs xs q Q} s r h k=>?_⟩
 unfold KM at h
 split at h
 ·obtain⟨v,rfl,p,ws,rfl,h1,h2⟩:=VO r
  exact⟨p,ws,rfl,.inl (SqL.of (s _ _ h1)),λl hl=>k _ (.lst _) _ _ (.put s hl) (Vl h2 (s.free hl)) h⟩
 ·obtain⟨v,rfl,p,ws,rfl,h1,h2⟩:=VO r
  exact⟨p,ws,rfl,.inl (s.seq h1),λl hl=>k _ (.lst _) _ _ (.put s hl) (Vl h2 (s.free hl)) h⟩
 ·obtain⟨v,rfl,p,ws,rfl,h1,h2⟩:=VO r
  exact⟨p,ws,rfl,.inr (SqT.of (s _ _ h1)),λl hl=>k _ (.lst _) _ _ (.put s hl) (Vl h2 (s.free hl)) h⟩
 ·exact h.elim
noncomputable def Hr:List D->(D->Prop)->Prop
 | [.lst xs]=>λq=>q (.tup xs)
 | [.tup xs]=>λq=>q (.tup xs)
 | _=>λ_=>False
theorem KN{X:Cx}:SE X (.type "tuple") Hr:=by
 refine⟨_,Iq,λ{H0 H vs xs q Q} s r h k=>?_⟩
 unfold Hr at h
 split at h
 ·obtain⟨v,rfl,p,ws,rfl,h1,h2⟩:=VO r
  exact⟨p,ws,rfl,.inl ⟨SqL.of (s _ _ h1),λl hl=>k _ (.tup _) _ _ (.put s hl) (KJ h2 (s.free hl)) h⟩⟩
 ·obtain⟨v,rfl,p,ws,rfl,h1,h2⟩:=VO r
  exact⟨p,ws,rfl,.inr ⟨SqT.of (s _ _ h1),k _ (.tup _) _ _ (.refl s) ⟨p,ws,rfl,h1,h2⟩ h⟩⟩
 ·exact h.elim
noncomputable def bools:List D->Option (List Bool)
 | []=>some []
 | .bl b::r=>(bools r).map (b :: ·)
 | _::_=>none
theorem Hs{K:aa}:∀ {xs:List D}{bs:List Bool}{vs:List V},bools xs=some bs->Rps K H xs vs->vs=bs.map V.bl
 | [],_,_,e,r=>by cases e;exact r
 | d::ds,bs,_,e,⟨v,us,z,h,h'⟩=>by
  cases d with
  | bl b =>
   unfold bools at e
   cases q:bools ds with
   | none=>rw[q]at e;cases e
   | some cs =>
    rw[q]at e
    cases e
    rw[z,Hs q h',show v = .bl b from h]
    rfl
  | _=>cases e
noncomputable def yB:List D->(D->Prop)->Prop
 | [.lst xs]=>λq=>∃ bs,bools xs=some bs/\q (.bl (bs.all id))
 | _=>λ_=>False
noncomputable def dAny:List D->(D->Prop)->Prop
 | [.lst xs]=>λq=>∃ bs,bools xs=some bs/\q (.bl (bs.any id))
 | _=>λ_=>False
theorem SV{X:Cx}(hc:autoParam (X.calm=true) auR):SE X (.builtin "all") yB:=by
 refine⟨_,vM hc,λ{H0 H vs xs q Q} s r h k=>?_⟩
 unfold yB at h
 split at h
 ·obtain⟨v,rfl,p,ws,rfl,h1,h2⟩:=VO r
  obtain⟨bs,e,hq⟩:=h
  rw[Hs e h2]at h1
  exact⟨p,bs,rfl,SqL.of (s _ _ h1),k _ (.bl _) _ _ (.refl s) rfl hq⟩
 ·exact h.elim
end
mutual
noncomputable def D.eqb:D->D->Bool
 | .tup xs,.tup ys=>D.WK xs ys
 | .lst xs,.lst ys=>D.WK xs ys
 | a,b=>eqV a.toV b.toV
noncomputable def D.WK:List D->List D->Bool
 | [],[]=>true
 | x::xs,y::ys=>D.eqb x y&&D.WK xs ys
 | _,_=>false
end
noncomputable def WB(R:D->D->Bool):List D->List D->Bool
 | x::xs,y::ys=>R x y&&WB R xs ys
 | _,_=>true
noncomputable def D.PN:Nat->D->D->Bool
 | 0=>λa b=>a.flat&&b.flat
 | n+1=>λa b=>match a,b with
  | .tup xs,.tup ys=>WB (D.PN n) xs ys
  | .lst xs,.lst ys=>WB (D.PN n) xs ys
  | a,b=>a.flat&&b.flat
theorem SF(h:a.flat=true):D.eqb a b=eqV a.toV b.toV:=by
 cases a with
 | tup _=>cases h
 | lst _=>cases h
 | non=>unfold D.eqb;rfl
 | bl _=>unfold D.eqb;rfl
 | int _=>unfold D.eqb;rfl
 | str _=>unfold D.eqb;rfl
 | _=>cases h
section
theorem KO{K:aa}(h:∀ {a b x y},R a b=true->Rp K H a x->Rp K H b y->R' x y (D.eqb a b)):∀ {xs ys:List D}{vs us:List V},WB R xs ys=true->Rps K H xs vs->Rps K H ys us->EqL R' vs us (D.WK xs ys)
 | [],[],_,_,_,r,r'=>by rw[show _=[] from r,show _=[] from r'];unfold D.WK;exact .nil
 | [],y::ys,_,_,_,r,⟨u,us,e,_,_⟩=>by rw[show _=[] from r,e];unfold D.WK;exact .left _ _
 | x::xs,[],_,_,_,⟨v,vs,e,_,_⟩,r=>by rw[show _=[] from r,e];unfold D.WK;exact .right _ _
 | x::xs,y::ys,_,_,o,⟨v,vs,e,r1,r2⟩,⟨u,us,e',r3,r4⟩=>by
  unfold WB at o
  rw[aD]at o
  rw[e,e']
  unfold D.WK
  exact .cons (h o.1 r1 r3) (KO h o.2 r2 r4)
theorem uk{K:aa}:∀ (n:Nat) {a b:D}{x y:V},D.PN n a b=true->Rp K H a x->Rp K H b y->EqN K H n x y (D.eqb a b):=by
 have fl:∀ (n:Nat) {a b:D}{x y:V},(a.flat&&b.flat)=true->Rp K H a x->Rp K H b y->EqN K H n x y (D.eqb a b):=by
  intro n a b x y o r r'
  rw[aD]at o
  obtain⟨e1,f1⟩:=SU o.1 r
  obtain⟨e2,f2⟩:=SU o.2 r'
  induction n with
  | zero=>exact .inl ⟨f1,f2,by rw[SF o.1,e1,e2]⟩
  | succ n ih=>exact .inl ih
 intro n
 induction n with
 | zero=>intro a b x y o r r';exact fl 0 (by unfold D.PN at o;exact o) r r'
 | succ n ih =>
  intro a b x y o r r'
  unfold D.PN at o
  split at o
  ·obtain⟨p,vs,rfl,h1,h2⟩:=r
   obtain⟨p',us,rfl,h3,h4⟩:=r'
   unfold D.eqb
   exact .inr ⟨p,p',vs,us,rfl,rfl,.inl ⟨SqT.of h1,SqT.of h3⟩,KO (λo r r'=>ih o r r') o h2 h4⟩
  ·obtain⟨p,vs,rfl,h1,h2⟩:=r
   obtain⟨p',us,rfl,h3,h4⟩:=r'
   unfold D.eqb
   exact .inr ⟨p,p',vs,us,rfl,rfl,.inr ⟨SqL.of h1,SqL.of h3⟩,KO (λo r r'=>ih o r r') o h2 h4⟩
  ·exact fl (n+1) o r r'
end
noncomputable def dEq(neg:Bool):D->D->(D->Prop)->Prop
 | .tup xs,.tup ys=>λq=>WB (D.PN 80) xs ys=true/\q (.bl (if neg then !D.WK xs ys else D.WK xs ys))
 | .lst xs,.lst ys=>λq=>WB (D.PN 80) xs ys=true/\q (.bl (if neg then !D.WK xs ys else D.WK xs ys))
 | a,b=>λq=>a.flat=true/\b.flat=true/\scal a.toV b.toV=true/\q (.bl (if neg then !decide (a.toV=b.toV) else decide (a.toV=b.toV)))
theorem AJ{K:aa}(neg:Bool):Em K (λx y H Q=>(scal x y=true/\Q (.bl (if neg then !decide (x=y) else decide (x=y))) H)\/rEqD K neg x y H Q) (dEq neg):=by
 intro H0 H x y a b q Q s ra rb h k
 unfold dEq at h
 split at h
 ·obtain⟨p,vs,rfl,h1,h2⟩:=ra
  obtain⟨p',us,rfl,h3,h4⟩:=rb
  exact .inr ⟨80,p,p',vs,us,_,by decide,rfl,rfl,.inl ⟨SqT.of (s _ _ h1),SqT.of (s _ _ h3)⟩,KO (λo r r'=>uk 80 o r r') h.1 (h2.same s) (h4.same s),k _ (.bl _) _ _ (.refl s) rfl h.2⟩
 ·obtain⟨p,vs,rfl,h1,h2⟩:=ra
  obtain⟨p',us,rfl,h3,h4⟩:=rb
  exact .inr ⟨80,p,p',vs,us,_,by decide,rfl,rfl,.inr ⟨SqL.of (s _ _ h1),SqL.of (s _ _ h3)⟩,KO (λo r r'=>uk 80 o r r') h.1 (h2.same s) (h4.same s),k _ (.bl _) _ _ (.refl s) rfl h.2⟩
 ·obtain⟨h1,h2,h3,h4⟩:=h
  obtain⟨e1,_⟩:=SU h1 ra
  obtain⟨e2,_⟩:=SU h2 rb
  rw[e1,e2]
  exact .inl ⟨h3,k _ (.bl _) _ _ (.refl s) rfl h4⟩
section
theorem Yk(hu:X.A.units+100<cLine):JOp X (compareOp .Eq) (dEq false):=⟨_,op_eq.or (lT hu),AJ false⟩
theorem XO(hu:X.A.units+100<cLine):JOp X (compareOp .NotEq) (dEq true):=⟨_,op_ne.or (lU hu),AJ true⟩
noncomputable def D.tyN:D->Option String
 | .non=>some "NoneType"
 | .bl _=>some "bool"
 | .int _=>some "int"
 | .str _=>some "str"
 | .lst _=>some "list"
 | .tup _=>some "tuple"
 | _=>none
noncomputable def um(t n:String):Bool:=t==n||(t == "bool" && n == "int")
theorem lZ{K:aa}(r:Rp K H d v)(e:d.tyN=some t):OY K H v (.type t):=by
 cases d with
 | non=>cases e;rw[show v = .non from r];exact .non
 | bl b=>cases e;rw[show v = .bl b from r];exact .bl b
 | int b=>cases e;rw[show v = .int b from r];exact .int b
 | str b=>cases e;rw[show v = .str b from r];exact .str b
 | lst xs=>cases e;obtain⟨a,vs,rfl,h,_⟩:=r;exact .lst h
 | tup xs=>cases e;obtain⟨a,vs,rfl,h,_⟩:=r;exact .tup h
 | _=>cases e
noncomputable def Mp:List String:=["int", "str", "bool", "list", "tuple"]
theorem yC{K:aa}{d:D}(e:d.tyN=some t)(hn:n∈Mp):kitOne K (.type t) (.type n)=some (um t n):=by
 unfold Mp at hn
 simp only[mem_cons,not_mem_nil,or_false]at hn
 cases d with
 | non=>cases e;rcases hn with rfl | rfl | rfl | rfl | rfl<;>with_unfolding_all rfl
 | bl b=>cases e;rcases hn with rfl | rfl | rfl | rfl | rfl<;>with_unfolding_all rfl
 | int b=>cases e;rcases hn with rfl | rfl | rfl | rfl | rfl<;>with_unfolding_all rfl
 | str b=>cases e;rcases hn with rfl | rfl | rfl | rfl | rfl<;>with_unfolding_all rfl
 | lst xs=>cases e;rcases hn with rfl | rfl | rfl | rfl | rfl<;>with_unfolding_all rfl
 | tup xs=>cases e;rcases hn with rfl | rfl | rfl | rfl | rfl<;>with_unfolding_all rfl
 | _=>cases e
noncomputable def refs:List D->Option (List Addr)
 | []=>some []
 | .rf a::r=>(refs r).map (a :: ·)
 | _::_=>none
noncomputable def tys:List D->Option (List String)
 | []=>some []
 | .ty a::r=>(tys r).map (a :: ·)
 | _::_=>none
theorem Er{K:aa}:∀ {xs:List D}{bs:List Addr}{vs:List V},refs xs=some bs->Rps K H xs vs->vs=bs.map V.ref
 | [],_,_,e,r=>by cases e;exact r
 | d::ds,bs,_,e,⟨v,us,z,h,h'⟩=>by
  cases d with
  | rf b =>
   unfold refs at e
   cases q:refs ds with
   | none=>rw[q]at e;cases e
   | some cs =>
    rw[q]at e
    cases e
    rw[z,Er q h',show v = .ref b from h]
    rfl
  | _=>cases e
theorem Gn{K:aa}:∀ {xs:List D}{bs:List String}{vs:List V},tys xs=some bs->Rps K H xs vs->vs=bs.map V.ty
 | [],_,_,e,r=>by cases e;exact r
 | d::ds,bs,_,e,⟨v,us,z,h,h'⟩=>by
  cases d with
  | ty b =>
   unfold tys at e
   cases q:tys ds with
   | none=>rw[q]at e;cases e
   | some cs =>
    rw[q]at e
    cases e
    rw[z,Gn q h',show v = .ty b from h]
    rfl
  | _=>cases e
noncomputable def isiT(K:aa)(n:String):D->(D->Prop)->Prop
 | .exc C=>λq=>∃ b,XTy K C/\kitOne K (.ref C) (.type n)=some b/\q (.bl b)
 | x=>λq=>∃ t,x.tyN=some t/\n∈Mp/\q (.bl (um t n))
noncomputable def isiF(K:aa)(B:Addr):D->(D->Prop)->Prop
 | .exc C=>λq=>∃ b,XTy K C/\kitOne K (.ref C) (.ref B)=some b/\q (.bl b)
 | .obj C _=>λq=>∃ b,Cls K C/\InsTy K C/\kitOne K (.ref C) (.ref B)=some b/\q (.bl b)
 | _=>λ_=>False
noncomputable def isiU(K:aa)(cs:List D):D->(D->Prop)->Prop
 | .exc C=>λq=>∃ as b,refs cs=some as/\XTy K C/\kitAny K (.ref C) (as.map Value.ref)=some b/\q (.bl b)
 | .lst _=>λq=>∃ as b,tys cs=some as/\kitAny K (.type "list") (as.map Value.type)=some b/\q (.bl b)
 | .tup _=>λq=>∃ as b,tys cs=some as/\kitAny K (.type "tuple") (as.map Value.type)=some b/\q (.bl b)
 | _=>λ_=>False
noncomputable def isiC(K:aa)(x:D):D->(D->Prop)->Prop
 | .ty n=>isiT K n x
 | .rf B=>isiF K B x
 | .tup cs=>isiU K cs x
 | _=>λ_=>False
noncomputable def SG(K:aa):List D->(D->Prop)->Prop
 | [x,c]=>isiC K x c
 | _=>λ_=>False
theorem pq{K:aa}(h:isiT K n x q):(∃ C b,x = .exc C/\XTy K C/\kitOne K (.ref C) (.type n)=some b/\q (.bl b))\/∃ t,x.tyN=some t/\n∈Mp/\q (.bl (um t n)):=by
 cases x
 case exc C=>obtain⟨b,h⟩:=h;exact .inl ⟨C,b,rfl,h⟩
 all_goals exact .inr h
theorem Wx{X:Cx}{K:aa}(hK:X.K=K):SE X (.builtin "isinstance") (SG K):=by
 subst hK
 refine⟨_,vE.or (yt.or yy),λ{H0 H vs xs q Q} s r h k=>?_⟩
 rcases xs with _|⟨x,_|⟨c,_|⟨z,zs⟩⟩⟩
 ·exact(show False from h).elim
 ·exact(show False from h).elim
 ·obtain⟨v,u,rfl,h1,h2⟩:=ue r
  cases c
  case ty n =>
   rw[show u = .ty _ from h2]
   rcases pq h with⟨C,b,rfl,ty,kk,hq⟩|⟨t,e,hn,hq⟩
   ·obtain⟨a,rfl,h1⟩:=h1
    exact .inr (.inl ⟨a,_,rfl,s _ _ h1,ty,.inl ⟨_,_,b,rfl,λu h=>h,kk,k _ (.bl _) _ _ (.refl s) rfl hq⟩⟩)
   ·exact .inl ⟨_,_,_,_,_,rfl,λu h=>h,lZ (h1.same s) e,yC e hn,k _ (.bl _) _ _ (.refl s) rfl hq⟩
  case rf B =>
   rw[show u = .ref _ from h2]
   cases x
   case exc C =>
    obtain⟨a,rfl,h1⟩:=h1
    obtain⟨b,ty,kk,hq⟩:=h
    exact .inr (.inl ⟨a,_,rfl,s _ _ h1,ty,.inl ⟨_,_,b,rfl,λu h=>h,kk,k _ (.bl _) _ _ (.refl s) rfl hq⟩⟩)
   case obj C fs =>
    obtain⟨a,dx,fs,rfl,h1,_⟩:=h1
    obtain⟨b,cl,ty,kk,hq⟩:=h
    exact .inl ⟨_,_,_,_,b,rfl,λu h=>h,.ins (s _ _ h1) cl ty.ha ty.hn ty.htk ty.hm,kk,k _ (.bl _) _ _ (.refl s) rfl hq⟩
   all_goals exact(show False from h).elim
  case tup cs =>
   obtain⟨tp,ws,rfl,h2,h3⟩:=h2
   cases x
   case exc C =>
    obtain⟨a,rfl,h1⟩:=h1
    obtain⟨as,b,e,ty,kk,hq⟩:=h
    rw[Er e h3]at h2
    exact .inr (.inl ⟨a,_,rfl,s _ _ h1,ty,.inr ⟨tp,as,b,rfl,s _ _ h2,kk,k _ (.bl _) _ _ (.refl s) rfl hq⟩⟩)
   case lst xs =>
    obtain⟨a,us,rfl,h1,_⟩:=h1
    obtain⟨as,b,e,kk,hq⟩:=h
    rw[Gn e h3]at h2
    exact .inr (.inr ⟨a,tp,as,b, "list",rfl,.inl ⟨⟨_,s _ _ h1⟩,rfl⟩,s _ _ h2,kk,k _ (.bl _) _ _ (.refl s) rfl hq⟩)
   case tup xs =>
    obtain⟨a,us,rfl,h1,_⟩:=h1
    obtain⟨as,b,e,kk,hq⟩:=h
    rw[Gn e h3]at h2
    exact .inr (.inr ⟨a,tp,as,b, "tuple",rfl,.inr ⟨⟨_,s _ _ h1⟩,rfl⟩,s _ _ h2,kk,k _ (.bl _) _ _ (.refl s) rfl hq⟩)
   all_goals exact(show False from h).elim
  all_goals exact(show False from h).elim
 ·exact(show False from h).elim
noncomputable def LiftM(K:aa)(T:String)(r:V->List V->Hp->VK->Prop)(g:D->List D->(D->Prop)->Prop):Prop:=∀ {H0 H:Hp}{v:V}{vs:List V}{d:D}{xs:List D}{q:D->Prop}{Q:VK},ZA H0 H->Rp K H0 d v->Rps K H0 xs vs->g d xs q->KE K H0 H q Q->r v vs H Q
noncomputable def tyD(T:String):D->Prop
 | .str _=>T = "str"
 | .lst _=>T = "list"
 | .scr _=>T = "list"
 | _=>False
theorem CK{K:aa}(r:Rp K H d v)(h:tyD T d):tyV K T v H:=by
 cases d with
 | str x=>rw[show v = .str x from r];exact h
 | lst xs=>obtain⟨a,vs,rfl,e,_⟩:=r;exact .inl ⟨h,vs,SqL.of e⟩
 | scr xs=>obtain⟨a,vs,rfl,e,_⟩:=r;exact .inl ⟨h,vs,e⟩
 | _=>exact h.elim
structure JMt (X:Cx)(T id:String)(g:D->List D->(D->Prop)->Prop):Prop where
 ex:∃ r,MtR X id r/\LiftM X.K T r g
noncomputable def dBM(T:String)(g:D->List D->(D->Prop)->Prop)(dO:DE)(da:DA):DE:=λds q x=>dO ds (λo=>tyD T o/\da ds (λxs=>g o xs q) x) x
theorem TC{name:Str}{apos cpos:Pos}{T id:String}{g:D->List D->(D->Prop)->Prop}(pa:PlainAttrs T)(slot:PySem.Slot T name id)(hty:typeOf (.builtin id)=pure (.type "method_descriptor"))(hm:JMt X T id g)(ho:JE X XE o dO)(ha:JAs X XE (e::es) da)
  (hbase:autoParam (attributeBase o name X.env (eval o X.env)=eval o X.env) auR)
  (hfew:autoParam (((backTo cpos (starEach (e::es) X.env)).all (λx => !x.1)&&(backToKw cpos (keywordEach [] X.env)).all (λx=>x.1.isSome)
   && decide ((e::es).length+([]:List Keyword).length+(if ([]:List Keyword).isEmpty then 0 else 1)<30))=true) auR)
  (hline:autoParam ((apos.endLine==cpos.line)=true) auR)(hs:autoParam (starEach (e::es) X.env=(false,eval e X.env)::starEach es X.env) auR)(hplain:autoParam ((backTo cpos (starEach es X.env)).any (·.1)=false) auR) :
  JE X XE (.Call (.Attribute o name apos) (e::es) [] cpos) (dBM T g dO da):=by
 obtain⟨r,m,l⟩:=hm.ex
 obtain⟨to,p1,d1⟩:=ho.ex
 obtain⟨ta,p2,d2⟩:=ha.ex
 refine⟨_,Au pa slot hty m p1 p2 hbase hfew hline hs hplain,λc h k kx=>d1 c h (λv o H1 H2 e r h=>?_) kx⟩
 exact⟨CK (r.same e.sub) h.1,d2 (c.go e) h.2 (λvs xs H3 H4 e' r' h'=>l (c.go (e.trans e')).sub (r.same e'.s0) r' h' (k.go (e.trans e'))) (kx.go e.s)⟩
theorem uo{T id:String}{g:D->List D->(D->Prop)->Prop}(pa:PlainAttrs T)(slot:PySem.Slot T name id)(hty:typeOf (.builtin id)=pure (.type "method_descriptor"))(hm:JMt X T id g)(ho:JE X XE o dO)
  (hbase:autoParam (attributeBase o name X.env (eval o X.env)=eval o X.env) auR)(hline:autoParam ((apos.endLine==cpos.line)=true) auR) :
  JE X XE (.Call (.Attribute o name apos) [] [] cpos) (dBM T g dO vX):=by
 obtain⟨r,m,l⟩:=hm.ex
 obtain⟨to,p1,d1⟩:=ho.ex
 refine⟨_,lJ pa slot hty m p1 hbase hline,λc h k kx=>d1 c h (λv o H1 H2 e r h=>?_) kx⟩
 exact⟨CK (r.same e.sub) h.1,l (c.go e).sub r (show Rps X.K H1 [] [] from rfl) h.2 (k.go e)⟩
noncomputable def texts:List D->Option (List Str)
 | []=>some []
 | .str a::r=>(texts r).map (a :: ·)
 | _::_=>none
theorem KP{K:aa}:∀ {xs:List D}{bs:List Str}{vs:List V},texts xs=some bs->Rps K H xs vs->vs=bs.map V.str
 | [],_,_,e,r=>by cases e;exact r
 | d::ds,bs,_,e,⟨v,us,z,h,h'⟩=>by
  cases d with
  | str b =>
   unfold texts at e
   cases q:texts ds with
   | none=>rw[q]at e;cases e
   | some cs =>
    rw[q]at e
    cases e
    rw[z,KP q h',show v = .str b from h]
    rfl
  | _=>cases e
noncomputable def AK:D->List D->(D->Prop)->Prop
 | .str sep,[.lst xs]=>λq=>∃ ys,texts xs=some ys/\(ys.map (·.length)).sum+ys.length*sep.length<=16777216/\q (.str (Txt.join sep ys))
 | _,_=>λ_=>False
theorem Nm:JMt X "str" "str.join" AK:=by
 refine⟨_,qY,λ{H0 H v vs d xs q Q} s r rs h k=>?_⟩
 unfold AK at h
 split at h
 ·obtain⟨u,rfl,p,ws,rfl,h1,h2⟩:=VO rs
  obtain⟨ys,e,l,hq⟩:=h
  rw[KP e h2]at h1
  exact⟨_,p,ys,r,rfl,SqL.of (s _ _ h1),l,k _ (.str _) _ _ (.refl s) rfl hq⟩
 ·exact h.elim
noncomputable def kc:D->List D->(D->Prop)->Prop
 | .str y,[]=>λq=>y.length<=5592405/\q (.str (Txt.upper y))
 | _,_=>λ_=>False
noncomputable def CL:D->List D->(D->Prop)->Prop
 | .str y,[]=>λq=>y.length<=5592405/\q (.str (Txt.lower y))
 | _,_=>λ_=>False
theorem Es:JMt X "str" "str.lower" CL:=by
 refine⟨_,vR,λ{H0 H v vs d xs q Q} s r rs h k=>?_⟩
 unfold CL at h
 split at h
 ·exact⟨_,r,rs,h.1,k _ (.str _) _ _ (.refl s) rfl h.2⟩
 ·exact h.elim
end
structure AO where
 nx:DSt->Prop
 rt:D->Prop
 xc:DSt->Addr->Prop
 bk:DSt->Prop:=λ_=>False
 ct:DSt->Prop:=λ_=>False
 rb:D->DSt->Prop:=λ_ _=>False
 ro:List D->DSt->Prop:=λ_ _=>False
abbrev DS:=DSt->AO->Prop
abbrev DG:=D->DSt->(DSt->Prop)->Prop
abbrev DGs:=List D->DSt->(DSt->Prop)->Prop
structure Gp (K:aa)(XE:St->XK)(B0 B:Hp)(e:AO)(T:Ends):Prop where
 nx:∀ H0 H σ ds,Cfg K B0 B H0 H σ ds->e.nx ds->T.nx σ H
 rt:∀ v d H0 H,Ext B0 B H0 H->Rp K H0 d v->e.rt d->T.rt v H
 xc:∀ H0 H σ ds C,Cfg K B0 B H0 H σ ds->e.xc ds C->XE σ (.ref C) none H
 bk:∀ H0 H σ ds,Cfg K B0 B H0 H σ ds->e.bk ds->T.bk σ H
 ct:∀ H0 H σ ds,Cfg K B0 B H0 H σ ds->e.ct ds->T.ct σ H
 rb:∀ v d H0 H σ ds,Cfg K B0 B H0 H σ ds->Rp K H0 d v->e.rb d ds->T.rt v H
 ro:∀ a vs ys H0 H σ ds,Cfg K B0 B H0 H σ ds->B a=none->H0 a=none->H a=some (.lst vs)->Rps K H0 ys vs->(∀ (i:Nat) s,ds[i]?=some s->s.foot ((σ[i]?).getD none) a->False)->e.ro ys ds->T.rt (.ref a) H
theorem Gp.kx{K:aa}{ds:DSt}(o:Gp K XE B0 B e T)(c:Cfg K B0 B H0 H σ ds):KX XE σ H (e.xc ds):=λC H' s h=>o.xc H0 H' σ ds C (c.go (Ext.grow c.sub s)) h
noncomputable def Oq(K:aa)(XE:St->XK)(ts:TS)(s:DS):Prop:=∀ {B0 B H0 H:Hp}{σ:St}{ds:DSt}{e:AO}{T:Ends},Cfg K B0 B H0 H σ ds->s ds e->Gp K XE B0 B e T->ts T σ H
noncomputable def Keeps(ds ds':DSt):Prop:=∀ (i:Nat) s,ds'[i]?=some s->s.isOwn=true->ds[i]?=some s
noncomputable def CM(K:aa)(g:TG)(dg:DG):Prop:=∀ {B0 B H0 H:Hp}{σ:St}{ds:DSt}{v:V}{d:D}{q:DSt->Prop}{Q:St->Hp->Prop},Cfg K B0 B H0 H σ ds->Rp K H0 d v->dg d ds q->(∀ σ' ds',Cfg K B0 B H0 H σ' ds'->Keeps ds ds'->q ds'->Q σ' H)->g v σ H Q
noncomputable def DenGs(K:aa)(g:TGs)(dg:DGs):Prop:=∀ {B0 B H0 H:Hp}{σ:St}{ds:DSt}{vs:List V}{xs:List D}{q:DSt->Prop}{Q:St->Hp->Prop},Cfg K B0 B H0 H σ ds->Rps K H0 xs vs->dg xs ds q->(∀ σ' ds',Cfg K B0 B H0 H σ' ds'->Keeps ds ds'->q ds'->Q σ' H)->g vs σ H Q
structure JS (X:Cx)(XE:St->XK)(st:Stmt)(s:DS):Prop where
 ex:∃ ts,PS X st ts/\Oq X.K XE ts s
structure JSs (X:Cx)(XE:St->XK)(st:List Stmt)(s:DS):Prop where
 ex:∃ ts,PSs X st ts/\Oq X.K XE ts s
structure JG (X:Cx)(tg:Expr)(g:DG):Prop where
 ex:∃ t,PG X tg t/\CM X.K t g
structure JGs (X:Cx)(tg:List Expr)(g:DGs):Prop where
 ex:∃ t,PGs X tg t/\DenGs X.K t g
section
noncomputable def Xu(i:Nat):DG:=λd ds q=>q (ds.set i (.v d))
noncomputable def AQ:DGs:=λxs ds q=>lz 0 xs (q ds)
noncomputable def Mq(g:DG)(r:DGs):DGs:=λxs ds q=>lC xs λd ys=>g d ds λds'=>r ys ds' q
noncomputable def AR(n:Nat)(g:DGs):DG:=λd ds q=>aT d λxs=>lz n xs (g xs ds q)
theorem yD:Keeps ds (ds.set i (.v d)):=λj s e w=>by
 by_cases hi:i<ds.length
 ·rw[UH hi]at e
  split at e
  ·cases e;cases w
  ·exact e
 ·rw[Gj hi]at e;exact e
theorem Keeps.trans(h:Keeps a b)(k:Keeps b c):Keeps a c:=λi s e w=>h i s (k i s e w) w
theorem Keeps.refl:Keeps a a:=λi s e w=>e
theorem Qt{K:aa}(i:Nat):CM K (OX i) (Xu i):=λc r h k=>k _ _ (c.setV i r) yD h
theorem pw(hN:X.N.Nodup)(hi:X.N[i]?=some x)(hx:Loc X.env.scope x)(hf:X.fn x=true\/X.env.scope.names.lookup x=some .local:=by first | exact .inl rfl | exact .inr rfl | assumption):JG X (.Name x pos) (Xu i) :=
 ⟨_,qD hN hi hx hf,Qt i⟩
theorem Pn:JGs X [] AQ:=⟨_,qE,λc r h k=>by
 obtain⟨e,h⟩:=Ek h
 cases List.eq_nil_of_length_eq_zero e
 exact⟨r,k _ _ c .refl h⟩⟩
theorem YZ(h1:JG X e g)(h2:JGs X es r)(hs:autoParam ((assignEach (e::es) X.env).map (·.2)=assign e X.env::(assignEach es X.env).map (·.2)) auR):JGs X (e::es) (Mq g r):=by
 obtain⟨t1,p1,d1⟩:=h1.ex
 obtain⟨t2,p2,d2⟩:=h2.ex
 refine⟨_,wY p1 p2 hs,λc r h k=>?_⟩
 obtain⟨d,ys,e,h⟩:=vW h
 subst e
 obtain⟨v,us,rfl,r1,r2⟩:=r
 exact⟨v,us,rfl,d1 c r1 h λσ' ds' c' kp h'=>d2 c' r2 h' λσ2 ds2 c2 kp2 h2=>k σ2 ds2 c2 (kp.trans kp2) h2⟩
theorem Mr(h:JGs X es g)(hc:autoParam (X.calm=true) auR)(hn:autoParam ((assignEach es X.env).length=n) auR)(hst:autoParam ((assignEach es X.env).findIdx? (·.1)=none) auR):JG X (.Tuple es k pos) (AR n g):=by
 obtain⟨t1,p1,d1⟩:=h.ex
 refine⟨_,mU hc p1 hn hst,λc r h k=>?_⟩
 obtain⟨xs,e,h0⟩:=aT_ex h
 obtain⟨l,hq⟩:=Ek h0
 subst e
 obtain⟨a,vs,rfl,h1,h2⟩:=r
 exact⟨a,vs,rfl,SqT.of (c.sub _ _ h1),by rw[h2.length];exact l,d1 c h2 hq k⟩
noncomputable def nW:DS:=λds e=>e.nx ds
noncomputable def dSeq(s t:DS):DS:=λds e=>s ds { e with nx:=λds'=>t ds' e }
theorem Zo:JSs X XE [] nW:=⟨_,HQ,λc h o=>o.nx _ _ _ _ c h⟩
theorem Ze{st:Stmt}(h:JS X XE st s):JSs X XE [st] s:=by
 obtain⟨t,p,d⟩:=h.ex
 exact⟨_,qC p,d⟩
theorem Zb{st:Stmt}{rest:List Stmt}(h:JS X XE st s)(h2:JSs X XE rest t):JSs X XE (st::rest) (dSeq s t):=by
 obtain⟨t1,p1,d1⟩:=h.ex
 obtain⟨t2,p2,d2⟩:=h2.ex
 exact⟨_,wX p1 p2,λc h o=>d1 c h ⟨λH0 H σ ds c' h'=>d2 c' h' o,o.rt,o.xc,o.bk,o.ct,o.rb,o.ro⟩⟩
noncomputable def CN(de:DE)(g:DG):DS:=λds e=>de ds (λd=>g d ds e.nx) (e.xc ds)
theorem Kl{K:aa}(d:Den K XE te de)(dg:CM K t g):Oq K XE (Io te t) (CN de g):=λc h o =>
 d c h (λv a H1 H2 e r h=>dg (c.go e) r h λσ' ds' c' _ h'=>o.nx _ _ _ _ c' h') (o.kx c)
theorem kh(hN:X.N.Nodup)(hi:X.N[i]?=some x)(hx:Loc X.env.scope x)(he:JE X XE e de)(hs:autoParam (swapsWith e (some (.Name x pos')) pos.line X.env=pure false) auR)
  (hf:X.fn x=true\/X.env.scope.names.lookup x=some .local:=by first | exact .inl rfl | exact .inr rfl | assumption):JS X XE (.Assign [.Name x pos'] e pos) (CN de (Xu i)):=by
 obtain⟨te,p,d⟩:=he.ex
 exact⟨_,DX hN hi hx p hs hf,Kl d (Qt i)⟩
theorem Gq(he:JE X XE e de)(hg:JG X tg g)(hs:autoParam (swapsWithSole [tg] e pos.line X.env=pure false) auR)(hw:autoParam (swappedStores [tg] e X.env=pure none) auR)
  (h1:autoParam ((assignEach [tg] X.env).map (·.2)=[assign tg X.env]) auR):JS X XE (.Assign [tg] e pos) (CN de g):=by
 obtain⟨te,p,d⟩:=he.ex
 obtain⟨t,p2,d2⟩:=hg.ex
 exact⟨_,wZ p p2 hs hw h1,Kl d d2⟩
noncomputable def dPar(i j:Nat)(da:DA):DS:=λds e=>da ds (λxs=>lC xs λa xs=>lC xs λb xs=>lz 0 xs (e.nx ((ds.set i (.v a)).set j (.v b)))) (e.xc ds)
theorem CO{X:Cx}{px py pt pos:Pos}{kt k2:Nat}{pt2:Pos}(hN:X.N.Nodup)(hi:X.N[i]?=some x)(hj:X.N[j]?=some y)(hij:i≠j)(hx:X.env.scope.names.lookup x=some .local)(hy:X.env.scope.names.lookup y=some .local)
  (ha:JAs X XE [a,b] da)(h:∀ ta,PA X [a,b] ta->PS X (.Assign [.Tuple [.Name x px,.Name y py] kt pt] (.Tuple [a,b] k2 pt2) pos) (tPar i j ta)):JS X XE (.Assign [.Tuple [.Name x px,.Name y py] kt pt] (.Tuple [a,b] k2 pt2) pos) (dPar i j da):=by
 obtain⟨ta,p,d⟩:=ha.ex
 refine⟨_,h ta p,λc h o=>d c h (λvs xs H1 H2 e r zq=>?_) (o.kx c)⟩
 obtain⟨a,ys,rfl,z1⟩:=vW zq
 obtain⟨b,zs,rfl,z2⟩:=vW z1
 obtain⟨z,h⟩:=Ek z2
 cases List.eq_nil_of_length_eq_zero z
 obtain⟨v,u,rfl,r1,r2⟩:=ue r
 exact⟨v,u,rfl,o.nx _ _ _ _ (((c.go e).setV i r1).setV j r2) h⟩
noncomputable def nX(de:DE):DS:=λds e=>de ds (λ_=>e.nx ds) (e.xc ds)
theorem Km{X:Cx}(he:JE X XE e de)(hs:autoParam (swapsWith e none pos.line X.env=pure false) auR):JS X XE (.Expr e pos) (nX de):=by
 obtain⟨te,p,d⟩:=he.ex
 exact⟨_,Kj p hs,λc h o=>d c h (λv a H1 H2 e r h=>o.nx _ _ _ _ (c.go e) h) (o.kx c)⟩
noncomputable def dRet(pk:List Nat)(de:DE):DS:=λds e=>de (peekAt pk ds) e.rt (e.xc ds)
theorem Zr{X:Cx}(pk:List Nat)(he:JE X XE e de):JS X XE (.Return (some e) pos) (dRet pk de):=by
 obtain⟨te,p,d⟩:=he.ex
 refine⟨_,mS p,λc h o=>?_⟩
 obtain⟨H1,c1,_⟩:=c.peekAt pk
 exact d c1 h (λv a H1 H2 e r h=>o.rt _ _ _ _ (c1.ext.trans e) r h) (o.kx c)
noncomputable def dIf(pk:List Nat)(c:DT)(s t:DS):DS:=λds e=>c (peekAt pk ds) (λb=>if b=true then s ds e else t ds e) (e.xc ds)
theorem ZC{X:Cx}(pk:List Nat){s t:DS}(hc:JT X XE c dc)(ha:JSs X XE a s)(hb:JSs X XE b t):JS X XE (.If c a b pos) (dIf pk dc s t):=by
 obtain⟨tc,p0,d0⟩:=hc.ex
 obtain⟨t1,p1,d1⟩:=ha.ex
 obtain⟨t2,p2,d2⟩:=hb.ex
 refine⟨_,ps_if p0 p1 p2,λc h o=>?_⟩
 obtain⟨H1,c1,s1,l1,n1⟩:=c.peekAt pk
 refine d0 c1 h (λb H2 H3 e h=>?_) (o.kx c)
 obtain⟨H4,e4,_⟩:=e.Ei s1 c.sub l1 n1
 cases b with
 | true =>
  rw[if_pos rfl]at h⊢
  exact d1 (c.go e4) h o
 | false =>
  rw[if_neg aC]at h⊢
  exact d2 (c.go e4) h o
noncomputable def dCut(s:DS):DS:=λds e=>∃ M:DSt->Prop,s ds { e with nx:=M }/\∀ ds',M ds'->e.nx ds'
theorem Xl{st:Stmt}(h:JS X XE st s):JS X XE st (dCut s):=by
 obtain⟨t,p,d⟩:=h.ex
 refine⟨_,p,λc h o=>?_⟩
 obtain⟨M,h,k⟩:=h
 exact d c h ⟨λH0 H σ ds c' h'=>o.nx _ _ _ _ c' (k ds h'),o.rt,o.xc,o.bk,o.ct,o.rb,o.ro⟩
noncomputable def Walks(K:aa)(J:It)(xs:List D)(W0:Hp):Prop:=∀ (i:Nat) (H0 H:Hp),ZA W0 H0->ZA H0 H ->
 (i<xs.length->J.go i H/\∀ x H',J.yld i H x H'->∃ H0',Ext H0 H H0' H'/\∃ d,xs[i]?=some d/\Rp K H0' d x)/\(xs.length<=i->J.stop i H)
abbrev DI:=DSt->(List D->Prop)->(Addr->Prop)->Prop
noncomputable def DenI(K:aa)(XE:St->XK)(wi:TI)(di:DI):Prop:=∀ {B0 B H0 H:Hp}{σ:St}{ds:DSt}{q:List D->Prop}{x:Addr->Prop}{R:It->Hp->Prop},Cfg K B0 B H0 H σ ds->di ds q x->(∀ J xs H0' H',Ext H0 H H0' H'->Walks K J xs H0'->q xs->R J H')->KX XE σ H x->wi σ H R
structure JI (X:Cx)(XE:St->XK)(tg iter:Expr)(di:DI):Prop where
 ex:∃ wi,PI X tg iter wi/\DenI X.K XE wi di
theorem Ht{K:aa}(h:SqL K W0 a vs)(r:Rps K W0 xs vs):Walks K (Itl K a) xs W0:=by
 intro i H0 H s0 s
 have hs:SqL K H a vs:=(s0.trans s).seq h
 refine⟨λhi=>?_,λhi=>⟨vs,hs,by rw[r.length];exact hi⟩⟩
 obtain⟨v,e,rv⟩:=r.get (aA hi)
 refine⟨⟨vs,v,hs,e⟩,λx H' y=>?_⟩
 obtain⟨rfl,y⟩:=y
 have:=y vs hs
 rw[e]at this
 cases this
 exact⟨H0,.refl s,_,aA hi,rv.same s0⟩
theorem uq{K:aa}(h:SqT K W0 a vs)(r:Rps K W0 xs vs):Walks K (Itt K a) xs W0:=by
 intro i H0 H s0 s
 have hs:SqT K H a vs:=h.same (s0.trans s)
 refine⟨λhi=>?_,λhi=>⟨vs,hs,by rw[r.length];exact hi⟩⟩
 obtain⟨v,e,rv⟩:=r.get (aA hi)
 refine⟨⟨vs,v,hs,e⟩,λx H' y=>?_⟩
 obtain⟨rfl,y⟩:=y
 have:=y vs hs
 rw[e]at this
 cases this
 exact⟨H0,.refl s,_,aA hi,rv.same s0⟩
noncomputable def intsFrom(lo:Int)(n:Nat):List D:=(List.range n).map λi:Nat => .int (lo+i)
theorem CP{K:aa}{lo:Int}:Walks K (Itr lo n) (intsFrom lo n) W0:=by
 intro i H0 H s0 s
 have hl:(intsFrom lo n).length=n:=by unfold intsFrom;simp
 refine⟨λhi=>?_,λhi=>by rw[hl]at hi;exact hi⟩
 rw[hl]at hi
 refine⟨hi,λx H' y=>?_⟩
 obtain⟨rfl,rfl⟩:=y
 refine⟨H0,.refl s,.int (lo+i),?_,rfl⟩
 unfold intsFrom
 rw[getElem?_map,List.getElem?_range hi]
 rfl
noncomputable def signs(x:Str):List D:=x.cps.toList.map λc => .str ⟨#[c]⟩
theorem ur{K:aa}:Walks K (Its x) (signs x) W0:=by
 intro i H0 H s0 s
 have hl:(signs x).length=x.cps.size:=by unfold signs;simp
 refine⟨λhi=>?_,λhi=>by rw[hl]at hi;exact hi⟩
 rw[hl]at hi
 refine⟨hi,λv H' y=>?_⟩
 obtain⟨rfl,c,e,rfl⟩:=y
 refine⟨H0,.refl s,.str ⟨#[c]⟩,?_,rfl⟩
 unfold signs
 rw[getElem?_map,Array.getElem?_toList,e]
 rfl
noncomputable def nY(xs:List D):List D:=xs.mapIdx λi x => .tup [.int i,x]
theorem CQ(h:JE X XE l de):JI X XE tg l (λds q x=>de ds (λd=>match d with | .str y=>q (signs y) | _=>False) x):=by
 obtain⟨te,p,d⟩:=h.ex
 refine⟨_,lP p,λc h k kx=>d c h (λv a H1 H2 e r h=>?_) kx⟩
 split at h
 ·exact⟨_,r,k _ _ _ _ e ur h⟩
 ·exact h.elim
noncomputable def nZ(de:DE):DI:=λds q x=>de ds (λd=>match d with | .lst xs=>q xs | .scr xs=>q xs | .tup xs=>q xs | _=>False) x
theorem ZZ(h:JE X XE l de):JI X XE tg l (nZ de):=by
 obtain⟨te,p,d⟩:=h.ex
 refine⟨_,lW p,λc h k kx=>d c h (λv a H1 H2 e r h=>?_) kx⟩
 split at h
 ·obtain⟨a,vs,rfl,h1,h2⟩:=r
  exact⟨a,rfl,.inl ⟨⟨vs,SqL.of (e.sub _ _ h1)⟩,k _ _ _ _ e (Ht (SqL.of h1) h2) h⟩⟩
 ·obtain⟨a,vs,rfl,h1,h2⟩:=r
  exact⟨a,rfl,.inl ⟨⟨vs,e.sub.seq h1⟩,k _ _ _ _ e (Ht h1 h2) h⟩⟩
 ·obtain⟨a,vs,rfl,h1,h2⟩:=r
  exact⟨a,rfl,.inr ⟨⟨vs,SqT.of (e.sub _ _ h1)⟩,k _ _ _ _ e (uq (SqT.of h1) h2) h⟩⟩
 ·exact h.elim
noncomputable def me(da:DA):DI:=λds q x=>da ds (λxs=>∃ j:Int,xs=[.int j] /\ -(2^62)<=j/\j<2^62/\q (intsFrom 0 j.toNat)) x
noncomputable def dRng2(da:DA):DI:=λds q x=>da ds (λxs=>∃ i j:Int,xs=[.int i,.int j]/\(-(2^62)<=i/\i<2^62 /\ -(2^62)<=j/\j<2^62)/\q (intsFrom i (j-i).toNat)) x
theorem Xo(hg:Gl X "range")(hm:X.mg "range" = none)(ha:JAs X XE [a] da)(hs:autoParam (starEach [a] X.env=[(false,eval a X.env)]) auR):JI X XE tg (.Call (.Name "range" p) [a] [] pos) (me da):=by
 obtain⟨ta,p,d⟩:=ha.ex
 refine⟨_,ya hg hm p hs,λc h k kx=>d c h (λvs xs H1 H2 e r zq=>?_) kx⟩
 obtain⟨j,z,h1,h2,h3⟩:=zq
 subst z
 obtain⟨v,rfl,rv⟩:=VO r
 exact⟨j,by rw[show v = .int j from rv],h1,h2,k _ _ _ _ e CP h3⟩
noncomputable def dEnum(da:DA):DI:=λds q x=>da ds (λxs=>match xs with | [.lst ys]=>q (nY ys) | [.scr ys]=>q (nY ys) | _=>False) x
theorem Ext.SW(e:Ext W B H0 H)(h:ZA B0 W)(n:∀ b,B0 b=none->B b≠none->W b=none):Ext B0 B H0 H:=⟨e.s,h.trans e.s0,e.sub,λb z y=>e.new b (n b z y) y⟩
theorem Cfg.SW{K:aa}(c:Cfg K W B H0 H σ ds)(h:ZA B0 W)(n:∀ b,B0 b=none->B b≠none->W b=none):Cfg K B0 B H0 H σ ds:=⟨c.ext.SW h n,c.slot,c.young,c.sep,c.len⟩
theorem Cfg.rebase{K:aa}(c:Cfg K B0 B H0 H σ ds)(h:ZA B0 W)(h2:ZA W H0):Cfg K W B H0 H σ ds :=
 ⟨⟨c.ext.s,h2,c.ext.sub,λb z y=>c.ext.new b (h.free z) y⟩,c.slot,c.young,c.sep,c.len⟩
noncomputable def SH(g:DG)(b:DS)(e:AO):List D->DSt->Prop
 | [],ds=>e.nx ds
 | x::xs,ds=>g x ds λds'=>b ds' { e with nx:=SH g b e xs,ct:=SH g b e xs,bk:=e.nx }
noncomputable def dFor(di:DI)(g:DG)(b:DS):DS:=λds e=>∃ fz:List Nat,di (peekAt fz ds) (λxs=>SH g b e xs (peekAt fz ds)) (e.xc ds)
theorem UL{X:Cx}{b:DS}{pos:Pos}(hp:PassesOwn (model X.prog X.w) X.A X.env X.xe)(hi:JI X XE tg iter di)(hg:JG X tg g)(hb:JSs X XE body b)(hc:autoParam (X.calm=true) auR)
  (hs:∀ x,foldedSetIterable iter X.env x=pure x:=by intro _;rfl):JS X XE (.For tg iter body [] pos) (dFor di g b):=by
 obtain⟨wi,p0,d0⟩:=hi.ex
 obtain⟨t,p1,d1⟩:=hg.ex
 obtain⟨tb,p2,d2⟩:=hb.ex
 refine⟨_,mY hp hc p0 p1 p2 hs,λ{B0 B H0 H σ ds e T} c h o=>?_⟩
 obtain⟨fz,h⟩:=h
 obtain⟨H1,c1,_⟩:=c.peekAt fz
 refine d0 c1 h (λJ xs H2 H3 e1 w h=>?_) (o.kx c)
 have hB2:ZA B0 H2:=c1.ext.s0.trans e1.s0
 have hN2:∀ b,B0 b=none->B b≠none->H2 b=none:=(c1.ext.trans e1).new
 refine⟨λi m σ' H'=>m=xs.length-i/\i<=xs.length/\∃ H0' ds',Cfg X.K B0 B H0' H' σ' ds'/\ZA H2 H0'/\SH g b e (xs.drop i) ds',⟨_,rfl,Nat.zero_le _,H2,_,c1.go e1,.refl _,h⟩,?_⟩
 rintro i m σ' H' ⟨rfl,hi,H0',ds',c',s',hl⟩
 obtain⟨w1,w2⟩:=w i H0' H' s' c'.sub
 by_cases hi2:i<xs.length
 ·right
  obtain⟨go,yld⟩:=w1 hi2
  rw[drop_eq_getElem_cons hi2]at hl
  unfold SH at hl
  refine⟨go,λσ2 H4=>∃ H0'' ds2,Cfg X.K B0 B H0'' H4 σ2 ds2/\ZA H2 H0''/\SH g b e (xs.drop (i+1)) ds2,λσ2 H4 ⟨H5,ds2,c2,s2,l2⟩=>⟨_,by omega,rfl,hi2,H5,ds2,c2,s2,l2⟩,λx H4 y=>?_⟩
  obtain⟨H5,e5,d,ed,rd⟩:=yld x H4 y
  rw[aA hi2]at ed
  cases ed
  refine d1 (c'.go e5) rd hl λσ2 ds2 c2 _ h2=>?_
  refine d2 (e:={ e with nx:=λds4=>SH g b e (xs.drop (i+1)) ds4,ct:=λds4=>SH g b e (xs.drop (i+1)) ds4,bk:=e.nx }) (c2.rebase hB2 (s'.trans e5.s0)) h2 ⟨λH6 H7 σ3 ds3 c3 l3=>?_,λv d' H6 H7 x3=>o.rt v d' H6 H7 (x3.SW hB2 hN2),λH6 H7 σ3 ds3 C c3=>o.xc H6 H7 σ3 ds3 C (c3.SW hB2 hN2),λH6 H7 σ3 ds3 c3=>o.nx H6 H7 σ3 ds3 (c3.SW hB2 hN2),λH6 H7 σ3 ds3 c3 l3=>?_,λv d' H6 H7 σ3 ds3 c3=>o.rb v d' H6 H7 σ3 ds3 (c3.SW hB2 hN2),λa vs ys H6 H7 σ3 ds3 c3=>o.ro a vs ys H6 H7 σ3 ds3 (c3.SW hB2 hN2)⟩
  ·exact⟨H6,ds3,c3.SW hB2 hN2,c3.ext.s0,l3⟩
  ·exact⟨H6,ds3,c3.SW hB2 hN2,c3.ext.s0,l3⟩
 ·left
  have hx:xs.drop i=[]:=List.drop_eq_nil_of_le (by omega)
  rw[hx]at hl
  exact⟨w2 (by omega),o.nx _ _ _ _ c' hl⟩
end
section
noncomputable def kj(pk:List Nat)(c:DT)(b:DS):DS:=λds e=>∃ W:Nat->DSt->Prop,(∃ m,W m ds)/\∀ m ds,W m ds ->
 c (peekAt pk ds) (λk=>if k=true then b ds { e with nx:=λds'=>∃ m',m'<m/\W m' ds',ct:=λds'=>∃ m',m'<m/\W m' ds',bk:=e.nx } else e.nx ds) (e.xc ds)
theorem KQ(pk:List Nat)(hp:PassesOwn (model X.prog X.w) X.A X.env X.xe)(hc:JT X XE c dc)(hb:JSs X XE body b):JS X XE (.While c body [] pos) (kj pk dc b):=by
 obtain⟨tc,p0,d0⟩:=hc.ex
 obtain⟨tb,p1,d1⟩:=hb.ex
 refine⟨_,vb hp p0 p1,λ{B0 B H0 H σ ds e T} c h o=>?_⟩
 obtain⟨W,⟨m,w⟩,h⟩:=h
 refine⟨λm σ' H'=>∃ H0' ds',Cfg X.K B0 B H0' H' σ' ds'/\W m ds',⟨m,H0,ds,c,w⟩,?_⟩
 rintro m σ' H' ⟨H0',ds',c',w'⟩
 obtain⟨H1,c1,s1,l1,n1⟩:=c'.peekAt pk
 refine d0 c1 (h m ds' w') (λk H2 H3 e h=>?_) (o.kx c')
 obtain⟨H4,e4,_⟩:=e.Ei s1 c'.sub l1 n1
 cases k with
 | true =>
  rw[if_pos rfl]at h⊢
  refine⟨λσ2 H5=>∃ m',m'<m/\∃ H6 ds2,Cfg X.K B0 B H6 H5 σ2 ds2/\W m' ds2,λσ2 H5 z=>z,?_⟩
  exact d1 (c'.go e4) h ⟨λH6 H7 σ2 ds2 c2 ⟨m',l,w2⟩=>⟨m',l,H6,ds2,c2,w2⟩,o.rt,o.xc,o.nx,λH6 H7 σ2 ds2 c2 ⟨m',l,w2⟩=>⟨m',l,H6,ds2,c2,w2⟩,o.rb,o.ro⟩
 | false =>
  rw[if_neg aC]at h⊢
  exact o.nx _ _ _ _ (c'.go e4) h
noncomputable def CT(K:aa)(XE:St->XK)(te:TE)(df:DA):Prop:=∀ {B0 B H0 H:Hp}{σ:St}{ds:DSt}{q:List D->Prop}{x:Addr->Prop}{Q:VK},Cfg K B0 B H0 H σ ds->df ds q x ->
 (∀ a vs xs H0' H',Ext H0 H H0' H'->H a=none->H0' a=none->H' a=some (.lst vs)->Rps K H0' xs vs->q xs->Q (.ref a) H')->KX XE σ H x->te σ H Q
structure JF (X:Cx)(XE:St->XK)(e:Expr)(df:DA):Prop where
 ex:∃ te,PE X e te/\CT X.K XE te df
noncomputable def dFz(df:DA):DE:=λds q x=>df ds (λxs=>q (.lst xs)) x
theorem km(e:Ext H0 H H0' H')(n:H a=none)(n0:H0' a=none)(h:H' a=some o):Ext H0 H (upd H0' a o) H':=by
 refine⟨e.s,e.s0.trans (ZA.upd n0),λb u z=>?_,λb z y=>?_⟩
 ·by_cases hb:b=a
  ·subst hb;rw[Zx]at z;rw[h];exact z
  ·rw[Zq hb]at z;exact e.sub _ _ z
 ·rw[Zq (λw=>y (by rw[w];exact n))]
  exact e.new b z y
theorem uv{K:aa}(d:CT K XE te df):Den K XE te (dFz df):=λc h k kx =>
 d c h (λa vs xs H0' H' e n n0 ha r hq=>k _ (.lst xs) _ _ (km e n n0 ha) (Vl r n0) hq) kx
theorem JF.je(h:JF X XE e df):JE X XE e (dFz df):=by
 obtain⟨te,p,d⟩:=h.ex
 exact⟨_,p,uv d⟩
theorem Sn(h:JAs X XE es da):JF X XE (.List es pos) (λds q x=>da ds (λxs=>xs.length<=az/\q xs) x):=by
 obtain⟨ta,p1,d1⟩:=h.ex
 refine⟨_,vp p1,λc h k kx=>d1 c h (λvs xs H1 H2 e r hb=>⟨by rw[r.length];exact hb.1,λp hp=>?_⟩) kx⟩
 exact k p vs xs H1 _ (e.trans (.grow e.sub (ZA.upd hp))) (e.s.free hp) (e.sub.free hp) Zx r hb.2
noncomputable def XN:St->XK:=λ_ _ _ _=>False
noncomputable def dpre(n:Nat)(fr:List Nat)(ds:DSt):DSt:=replicate n .un++fr.map λj=>match ds[j]? with
 | some (.v d) => .v d
 | _ => .un
noncomputable def VF(g:DG)(f:DT)(e:DE)(q:List D->Prop):List D->DSt->List D->Prop
 | [],_,acc=>q acc
 | x::xs,ds,acc=>g x ds λds1=>f ds1 (λb=>if b=true then e ds1 (λy=>acc.length<az/\VF g f e q xs ds1 (acc++[y])) (λ_=>False) else VF g f e q xs ds1 acc) (λ_=>False)
noncomputable def KR(n:Nat)(fr:List Nat)(di:DI)(g:DG)(f:DT)(e:DE):DA:=λds q x=>di ds (λxs=>VF g f e q xs (dpre n fr ds) []) x
noncomputable def CU:DT:=λ_ q _=>q true
noncomputable def PY(ds:DSt):Prop:=∀ (i:Nat) s,ds[i]?=some s->s.isOwn=false
theorem PY.keeps(h:PY ds)(k:Keeps ds ds'):PY ds':=λi s e=>by
 cases w:s.isOwn with
 | false=>rfl
 | true=>rw[h i s (k i s e w)]at w;cases w
theorem kr(n:Nat)(fr:List Nat)(σ:St)(i:Nat):((pre n fr σ)[i]?).getD none=if i<n then none else ((fr[i-n]?).map λj=>(σ[j]?).getD none).getD none:=by
 unfold pre
 by_cases h:i<n
 ·rw[if_pos h,getElem?_append_left (by rw[length_replicate];exact h),getElem?_replicate,if_pos h];rfl
 ·rw[if_neg h,getElem?_append_right (by rw[length_replicate];omega),length_replicate,getElem?_map]
theorem AU{K:aa}(c:Cfg K B0 B H0 H σ ds)(s:ZA H H')(n:Nat)(fr:List Nat):Cfg K H0 H H0 H' (pre n fr σ) (dpre n fr ds)/\PY (dpre n fr ds):=by
 have no:PY (dpre n fr ds):=λi s e=>by
  unfold dpre at e
  by_cases h:i<n
  ·rw[getElem?_append_left (by rw[length_replicate];exact h),getElem?_replicate,if_pos h]at e
   cases e;rfl
  ·rw[getElem?_append_right (by rw[length_replicate];omega),length_replicate,getElem?_map]at e
   cases q:fr[i-n]? with
   | none=>rw[q]at e;cases e
   | some j =>
    rw[q]at e
    cases e
    dsimp only
    split<;>rfl
 refine⟨⟨.grow c.sub s,λi t e=>?_,λi t a e w=>?_,λi j t u a _ e _ w=>?_,?_⟩,no⟩
 ·rw[kr]
  unfold dpre at e
  by_cases h:i<n
  ·rw[getElem?_append_left (by rw[length_replicate];exact h),getElem?_replicate,if_pos h]at e
   cases e;trivial
  ·rw[if_neg h]
   rw[getElem?_append_right (by rw[length_replicate];omega),length_replicate,getElem?_map]at e
   cases q:fr[i-n]? with
   | none=>rw[q]at e;cases e
   | some j =>
    rw[q]at e
    cases e
    dsimp only[Option.map_some,Option.getD_some]
    split
    ·rename_i d qd
     obtain⟨v,e1,r⟩:=c.slot j _ qd
     exact⟨v,e1,r⟩
    ·trivial
 ·have:=no i t e;rw[Slot.WN w]at this;cases this
 ·have:=no i t e;rw[Slot.WN w]at this;cases this
 ·unfold pre dpre
  simp
theorem Cfg.aside{K:aa}(c:Cfg K B0 B H0 H σ ds)(n:PY ds)(hb:B a=none)(h0:H0 a=none):Cfg K B0 B H0 (upd H a o) σ ds:=by
 refine⟨⟨λb u z=>?_,c.ext.s0,λb u z=>?_,c.ext.new⟩,λj t r=>?_,c.young,c.sep,c.len⟩
 ·rw[Zq (λy=>by rw[y,hb]at z;cases z)]
  exact c.ext.s _ _ z
 ·rw[Zq (λy=>by rw[y,h0]at z;cases z)]
  exact c.sub _ _ z
 ·have old:=c.slot j t r
  have w:=n j t r
  cases t with
  | un=>trivial
  | v d=>exact old
  | own _=>cases w
  | ob _ _ _ _=>cases w
  | od _=>cases w
  | st _ _=>cases w
theorem Et{XE:St->XK}{K:aa}{di:DI}{g:DG}{f:DT}{e:DE}(n:Nat)(fr:List Nat)(d0:DenI K XE wi di)(d1:CM K t g)(d2:CD K XN tf f)(d3:Den K XN te e):CT K XE (Eb n fr wi t tf te) (KR n fr di g f e):=by
 intro B0 B H0 H σ ds q x Q c h k kx
 refine d0 c h (λJ xs H1 H2 e1 w h=>λDd hD=>?_) kx
 obtain⟨c1,no1⟩:=AU (c.go e1) (ZA.upd (o := .lst []) hD) n fr
 have hD1:H1 Dd=none:=e1.sub.free hD
 refine⟨λi m σ' H'=>m=xs.length-i/\i<=xs.length/\∃ H0' ds' acc vs,Cfg K H1 H2 H0' H' σ' ds'/\PY ds'/\H0' Dd=none/\H' Dd=some (.lst vs)/\Rps K H0' acc vs/\VF g f e q (xs.drop i) ds' acc,⟨_,rfl,Nat.zero_le _,H1,_,[],[],c1,no1,hD1,Zx,rfl,h⟩,?_⟩
 rintro i m σ' H' ⟨rfl,hi,H0',ds',acc,vs,c',no',n',hv,r',hl⟩
 obtain⟨w1,w2⟩:=w i H0' H' c'.ext.s0 c'.sub
 by_cases hi2:i<xs.length
 ·right
  obtain⟨go,yld⟩:=w1 hi2
  rw[drop_eq_getElem_cons hi2]at hl
  unfold VF at hl
  refine⟨go,λσ2 H4=>∃ H0'' ds2 acc2 vs2,Cfg K H1 H2 H0'' H4 σ2 ds2/\PY ds2/\H0'' Dd=none/\H4 Dd=some (.lst vs2)/\Rps K H0'' acc2 vs2/\VF g f e q (xs.drop (i+1)) ds2 acc2,λσ2 H4 ⟨a1,a2,a3,a4,a5⟩=>⟨_,by omega,rfl,hi2,a1,a2,a3,a4,a5⟩,λy H4 z=>?_⟩
  obtain⟨H5,e5,d,ed,rd⟩:=yld y H4 z
  rw[aA hi2]at ed
  cases ed
  have hne:H' Dd≠none:=by rw[hv];simp
  refine d1 (c'.go e5) rd hl λσ2 ds2 c2 kp h2=>?_
  have no2:=no'.keeps kp
  have n5:H5 Dd=none:=e5.new Dd n' hne
  have v5:H4 Dd=some (.lst vs):=e5.s _ _ hv
  refine d2 c2 h2 (λb H6 H7 e6 h6=>?_) (λ_ _ _ h=>h.elim)
  have n6:H6 Dd=none:=e6.new Dd n5 (by rw[v5];simp)
  have v6:H7 Dd=some (.lst vs):=e6.s _ _ v5
  cases b with
  | false =>
   rw[if_neg aC]at h6⊢
   exact⟨H6,ds2,acc,vs,c2.go e6,no2,n6,v6,r'.same (e5.trans e6).s0,h6⟩
  | true =>
   rw[if_pos rfl]at h6⊢
   refine d3 (c2.go e6) h6 (λu y' H8 H9 e8 r8 h8=>?_) (λ_ _ _ h=>h.elim)
   have n8:H8 Dd=none:=e8.new Dd n6 (by rw[v6];simp)
   have v8:H9 Dd=some (.lst vs):=e8.s _ _ v6
   have ra:=r'.same (e5.trans (e6.trans e8)).s0
   refine⟨vs,v8,by rw[ra.length];exact h8.1,H8,ds2,acc++[y'],vs++[u],((c2.go e6).go e8).aside no2 hD n8,no2,n8,Zx,ra.snoc r8,h8.2⟩
 ·left
  have hx:xs.drop i=[]:=List.drop_eq_nil_of_le (by omega)
  rw[hx]at hl
  refine⟨w2 (by omega),k Dd vs acc H0' H' (e1.trans c'.ext) (e1.s.free hD) n' hv r' hl⟩
structure JIf (X:Cx)(XE:St->XK)(ifs:List Expr)(d:DT):Prop where
 ex:∃ t,PIf X ifs t/\CD X.K XE t d
theorem ZW:JIf X XE [] CU:=⟨_,lN,λc h k kx=>k _ _ _ (.refl c.sub) h⟩
theorem Sq(h:JT X XE c d):JIf X XE [c] d:=by
 obtain⟨t,p,d⟩:=h.ex
 exact⟨_,lO p,d⟩
end
theorem uw(k:KX XN σ H x):x=λ_=>False:=funext λC=>propext ⟨λh=>k C H (.refl _) h,λh=>h.elim⟩
theorem mh{Xf:ι->Cx}{K:aa}(hK:∀ z,(Xf z).K=K)(h:∀ z,JE (Xf z) XN e de):∃ te,(∀ z,PE (Xf z) e te)/\Den K XN te de:=by
 refine⟨λσ H Q=>∃ B0 B H0 ds q,Cfg K B0 B H0 H σ ds/\de ds q (λ_=>False)/\KE K H0 H q Q,λz=>?_,λc hd k kx=>?_⟩
 ·intro pins s σ H Q I ⟨B0,B,H0,ds,q,c,hd,k⟩
  obtain⟨te,p,d⟩:=(h z).ex
  have kk:=hK z
  subst kk
  exact p pins s σ H Q I (d c hd k λ_ _ _ h=>h.elim)
 ·rw[uw kx]at hd
  exact⟨_,_,_,_,_,c,hd,k⟩
theorem ux{Xf:ι->Cx}{K:aa}(hK:∀ z,(Xf z).K=K)(h:∀ z,JIf (Xf z) XN ifs de):∃ te,(∀ z,PIf (Xf z) ifs te)/\CD K XN te de:=by
 refine⟨λσ H Q=>∃ B0 B H0 ds q,Cfg K B0 B H0 H σ ds/\de ds q (λ_=>False)/\∀ b H0' H',Ext H0 H H0' H'->q b->Q b H',λz=>?_,λc hd k kx=>?_⟩
 ·intro pins s σ H Q I ⟨B0,B,H0,ds,q,c,hd,k⟩
  obtain⟨te,p,d⟩:=(h z).ex
  have kk:=hK z
  subst kk
  exact p pins s σ H Q I (d c hd k λ_ _ _ h=>h.elim)
 ·rw[uw kx]at hd
  exact⟨_,_,_,_,_,c,hd,k⟩
theorem uy{Xf:ι->Cx}{K:aa}(hK:∀ z,(Xf z).K=K)(h:∀ z,JG (Xf z) tg g):∃ t,(∀ z,PG (Xf z) tg t)/\CM K t g:=by
 refine⟨λv σ H Q=>∃ B0 B H0 ds d q,Cfg K B0 B H0 H σ ds/\Rp K H0 d v/\g d ds q/\∀ σ' ds',Cfg K B0 B H0 H σ' ds'->Keeps ds ds'->q ds'->Q σ' H,λz=>?_,λc r hd k=>⟨_,_,_,_,_,_,c,r,hd,k⟩⟩
 intro pins s σ H v u Q I rv ⟨B0,B,H0,ds,d,q,c,r,hd,k⟩
 obtain⟨te,p,dd⟩:=(h z).ex
 have kk:=hK z
 subst kk
 exact p pins s σ H v u Q I rv (dd c r hd k)
section
theorem pz{XE:St->XK}{elt tg iter:Expr}(ts Nc:List Str)(fr:List Nat){di:DI}{g:DG}{f:DT}{e:DE}(hi:JI X XE tg iter di)
  (hg:∀ z,JG (Zv X own (ts++Nc) z) tg g)(hf:∀ z,JIf (Zv X own (ts++Nc) z) XN ifs f)(he:∀ z,JE (Zv X own (ts++Nc) z) XN elt e)(hc:autoParam (X.calm=true) auR)(c:autoParam (UF own X.env.scope Nc=true) auR)(hN:autoParam (fr.map (X.N[·]?)=Nc.map some) auR)
  (hs:∀ x,foldedSetIterable iter X.env x=pure x:=by intro _;rfl):JF X XE (.ListComp elt [⟨tg,iter,ifs,0⟩] own pos) (KR ts.length fr di g f e):=by
 obtain⟨wi,p0,d0⟩:=hi.ex
 obtain⟨t,p1,d1⟩:=uy (Xf:=λz=>Zv X own (ts++Nc) z) (K:=X.K) (λ_=>rfl) hg
 obtain⟨tf,p2,d2⟩:=ux (Xf:=λz=>Zv X own (ts++Nc) z) (K:=X.K) (λ_=>rfl) hf
 obtain⟨te,p3,d3⟩:=mh (Xf:=λz=>Zv X own (ts++Nc) z) (K:=X.K) (λ_=>rfl) he
 exact⟨_,qW ts Nc fr p0 p1 p2 p3 hc c hN hs,Et _ fr d0 d1 d2 d3⟩
theorem ZU(ts Nc:List Str)(fr:List Nat)(hi:JI X XE tg iter di)
  (hg:∀ z,JG (Zv X own (ts++Nc) z) tg g)(hf:∀ z,JIf (Zv X own (ts++Nc) z) XN ifs f)(he:∀ z,JE (Zv X own (ts++Nc) z) XN elt e)(hc:autoParam (X.calm=true) auR)(c:autoParam (UF own X.env.scope Nc=true) auR)(hN:autoParam (fr.map (X.N[·]?)=Nc.map some) auR)
  (hs:∀ x,foldedSetIterable iter X.env x=pure x:=by intro _;rfl):JE X XE (.ListComp elt [⟨tg,iter,ifs,0⟩] own pos) (dFz (KR ts.length fr di g f e)):=(pz ts Nc fr hi hg hf he hc c hN hs).je
noncomputable def AV(i:Nat)(df:DA):DS:=λds e=>df ds (λxs=>e.nx (ds.set i (.own xs))) (e.xc ds)
theorem Eu{K:aa}(i:Nat)(d:CT K XE te df):Oq K XE (Io te (OX i)) (AV i df):=λc h o =>
 d c h (λa vs xs H0' H' e n n0 ha r hq=>o.nx _ _ _ _ (c.newO i e n n0 ha r) hq) (o.kx c)
noncomputable def uz(pk:List Nat)(de:DE)(g:DG):DS:=λds e=>de (peekAt pk ds) (λd=>g d (if d.imm=true then ds else peekAt pk ds) e.nx) (e.xc ds)
theorem uA{K:aa}(pk:List Nat)(d:Den K XE te de)(dg:CM K t g):Oq K XE (Io te t) (uz pk de g):=λc h o=>by
 obtain⟨H1,c1,s1,l1,n1⟩:=c.peekAt pk
 refine d c1 h (λv a H2 H3 e r h=>?_) (o.kx c)
 by_cases hi:a.imm=true
 ·rw[if_pos hi]at h
  obtain⟨H4,e4,l4,_⟩:=e.Ei s1 c.sub l1 n1
  exact dg (c.go e4) (Rp.less l4 a hi r) h λσ' ds' c' _ h'=>o.nx _ _ _ _ c' h'
 ·rw[if_neg hi]at h
  exact dg (c1.go e) r h λσ' ds' c' _ h'=>o.nx _ _ _ _ c' h'
theorem Vt(hN:X.N.Nodup)(hi:X.N[i]?=some x)(hx:Loc X.env.scope x)(he:JF X XE e df)(hs:autoParam (swapsWith e (some (.Name x pos')) pos.line X.env=pure false) auR)
  (hf:X.fn x=true\/X.env.scope.names.lookup x=some .local:=by first | exact .inl rfl | exact .inr rfl | assumption):JS X XE (.Assign [.Name x pos'] e pos) (AV i df):=by
 obtain⟨te,p,d⟩:=he.ex
 exact⟨_,DX hN hi hx p hs hf,Eu i d⟩
theorem AW(pk:List Nat)(hN:X.N.Nodup)(hi:X.N[i]?=some x)(hx:Loc X.env.scope x)(he:JE X XE e de)(hs:autoParam (swapsWith e (some (.Name x pos')) pos.line X.env=pure false) auR)
  (hf:X.fn x=true\/X.env.scope.names.lookup x=some .local:=by first | exact .inl rfl | exact .inr rfl | assumption):JS X XE (.Assign [.Name x pos'] e pos) (uz pk de (Xu i)):=by
 obtain⟨te,p,d⟩:=he.ex
 exact⟨_,DX hN hi hx p hs hf,uA pk d (Qt i)⟩
noncomputable def CV(pk:List Nat)(i:Nat)(df:DA):DS:=λds e=>df (peekAt pk ds) (λxs=>e.nx ((if D.Lz xs=true then ds else peekAt pk ds).set i (.own xs))) (e.xc ds)
theorem yE{K:aa}(pk:List Nat)(i:Nat)(d:CT K XE te df):Oq K XE (Io te (OX i)) (CV pk i df):=λ{B0 B H0 H σ ds e T} c h o=>by
 obtain⟨H1,c1,s1,l1,n1⟩:=c.peekAt pk
 refine d c1 h (λa vs xs H2 H3 ee n n0 ha r hq=>?_) (o.kx c)
 by_cases hi:D.Lz xs=true
 ·rw[if_pos hi]at hq
  obtain⟨H4,e4,l4,s4⟩:=ee.Ei s1 c.sub l1 n1
  exact o.nx _ _ _ _ (c.newO i e4 n (s4.free n0) ha (Rps.less l4 xs hi r)) hq
 ·rw[if_neg hi]at hq
  exact o.nx _ _ _ _ (c1.newO i ee n n0 ha r) hq
theorem Ew{XE:St->XK}{elt tg iter:Expr}{i:Nat}{x:Str}{px spos:Pos}{S:DS}(ts Nc:List Str)(fr:List Nat){di:DI}{g:DG}{f:DT}{e:DE}(hnd:X.N.Nodup)(hix:X.N[i]?=some x)(hx:Loc X.env.scope x)(hi:JI X XE tg iter di)
  (hg:∀ z,JG (Zv X own (ts++Nc) z) tg g)(hf:∀ z,JIf (Zv X own (ts++Nc) z) XN ifs f)(he:∀ z,JE (Zv X own (ts++Nc) z) XN elt e)(hsw:swapsWith (.ListComp elt [⟨tg,iter,ifs,0⟩] own pos) (some (.Name x px)) spos.line X.env=pure true)
  (hc:X.calm=true)(c:UF own X.env.scope Nc=true)(hN:fr.map (X.N[·]?)=Nc.map some)
  (hs:∀ x,foldedSetIterable iter X.env x=pure x)(hfn:X.fn x=true\/X.env.scope.names.lookup x=some .local)
  (hS:∀ te,CT X.K XE te (KR ts.length fr di g f e)->Oq X.K XE (Io te (OX i)) S) :
  JS X XE (.Assign [.Name x px] (.ListComp elt [⟨tg,iter,ifs,0⟩] own pos) spos) S:=by
 obtain⟨wi,p0,d0⟩:=hi.ex
 obtain⟨t,p1,d1⟩:=uy (Xf:=λz=>Zv X own (ts++Nc) z) (K:=X.K) (λ_=>rfl) hg
 obtain⟨tf,p2,d2⟩:=ux (Xf:=λz=>Zv X own (ts++Nc) z) (K:=X.K) (λ_=>rfl) hf
 obtain⟨te,p3,d3⟩:=mh (Xf:=λz=>Zv X own (ts++Nc) z) (K:=X.K) (λ_=>rfl) he
 exact⟨_,qX ts Nc fr hnd hix hx p0 p1 p2 p3 hsw hc c hN hs hfn,hS _ (Et _ fr d0 d1 d2 d3)⟩
theorem SX(ts Nc:List Str)(fr:List Nat)(hnd:X.N.Nodup)(hix:X.N[i]?=some x)(hx:Loc X.env.scope x)(hi:JI X XE tg iter di)
  (hg:∀ z,JG (Zv X own (ts++Nc) z) tg g)(hf:∀ z,JIf (Zv X own (ts++Nc) z) XN ifs f)(he:∀ z,JE (Zv X own (ts++Nc) z) XN elt e)(hsw:autoParam (swapsWith (.ListComp elt [⟨tg,iter,ifs,0⟩] own pos) (some (.Name x px)) spos.line X.env=pure true) auR)
  (hc:autoParam (X.calm=true) auR)(c:autoParam (UF own X.env.scope Nc=true) auR)(hN:autoParam (fr.map (X.N[·]?)=Nc.map some) auR)
  (hs:∀ x,foldedSetIterable iter X.env x=pure x:=by intro _;rfl)(hfn:X.fn x=true\/X.env.scope.names.lookup x=some .local:=by first | exact .inl rfl | exact .inr rfl | assumption) :
  JS X XE (.Assign [.Name x px] (.ListComp elt [⟨tg,iter,ifs,0⟩] own pos) spos) (CN (dFz (KR ts.length fr di g f e)) (Xu i)) :=
 Ew ts Nc fr hnd hix hx hi hg hf he hsw hc c hN hs hfn λte d=>Kl (uv d) (Qt i)
theorem uB(pk:List Nat)(ts Nc:List Str)(fr:List Nat)(hnd:X.N.Nodup)(hix:X.N[i]?=some x)(hx:Loc X.env.scope x)(hi:JI X XE tg iter di)
  (hg:∀ z,JG (Zv X own (ts++Nc) z) tg g)(hf:∀ z,JIf (Zv X own (ts++Nc) z) XN ifs f)(he:∀ z,JE (Zv X own (ts++Nc) z) XN elt e)(hsw:autoParam (swapsWith (.ListComp elt [⟨tg,iter,ifs,0⟩] own pos) (some (.Name x px)) spos.line X.env=pure true) auR)
  (hc:autoParam (X.calm=true) auR)(c:autoParam (UF own X.env.scope Nc=true) auR)(hN:autoParam (fr.map (X.N[·]?)=Nc.map some) auR)
  (hs:∀ x,foldedSetIterable iter X.env x=pure x:=by intro _;rfl)(hfn:X.fn x=true\/X.env.scope.names.lookup x=some .local:=by first | exact .inl rfl | exact .inr rfl | assumption) :
  JS X XE (.Assign [.Name x px] (.ListComp elt [⟨tg,iter,ifs,0⟩] own pos) spos) (CV pk i (KR ts.length fr di g f e)) :=
 Ew ts Nc fr hnd hix hx hi hg hf he hsw hc c hN hs hfn λte d=>yE pk i d
end
section
noncomputable def CW(pk:List Nat)(i:Nat)(de:DE)(w:List D->D->(List D->Prop)->Prop):DS:=λds e=>sO ds[i]? λxs=>de (peekAt pk ds) (λd=>pkO pk d (w xs d λys=>e.nx (ds.set i (.own ys)))) (e.xc ds)
theorem AX{K:aa}{R:Ends->St->Addr->VK}(pk:List Nat)(i:Nat)(d:Den K XE te de)
  (hr:∀ {σ:St}{T:Ends}{l:Addr}{us:List V}{H0 H2:Hp}{xs:List D}{a:D}{y:V}{q:List D->Prop},H2 l=some (.lst us)->ZA H0 H2->Rps K H0 xs us->Rp K H0 a y->w xs a q->(∀ ys vs,Rps K H0 ys vs->q ys->T.nx σ (upd H2 l (.lst vs)))->R T σ l y H2)
  (hw:∀ {σ:St}{H:Hp}{T:Ends}{l:Addr}{us:List V},σ[i]?=some (some (.ref l))->H l=some (.lst us)->te σ H (R T σ l)->ts T σ H):Oq K XE ts (CW pk i de w):=by
 intro B0 B H0 H σ ds e T c h o
 obtain⟨xs,hi,h⟩:=vU h
 obtain⟨l,us,e1,h1,h2,h3⟩:=c.slot i _ hi
 refine hw (Pl e1) h2 ?_
 by_cases hpk:pk=[]
 ·subst hpk
  refine d c h (λv a H1 H2 e' r h=>?_) (o.kx c)
  refine hr (e'.s _ _ h2) e'.sub (h3.same e'.s0) r (Qr h).2 λys vs rv hq=>?_
  obtain⟨a',us',f1,f2,f3,f4⟩:=c.push (ys:=ys) hi
  rw[e1]at f1
  cases f1
  exact o.nx _ _ _ _ (f4 H1 H2 vs e' rv) hq
 ·obtain⟨H1,c1,s1,l1,n1⟩:=c.peekAt pk
  refine d c1 h (λv a H2 H3 e' r h=>?_) (o.kx c)
  obtain⟨H4,e4,l4,_⟩:=e'.Ei s1 c.sub l1 n1
  have h:=Qr h
  have im:a.imm=true:=h.1.resolve_left hpk
  refine hr (e4.s _ _ h2) e4.sub (h3.same e4.s0) (Rp.less l4 a im r) h.2 λys vs rv hq=>?_
  obtain⟨a',us',f1,f2,f3,f4⟩:=c.push (ys:=ys) hi
  rw[e1]at f1
  cases f1
  exact o.nx _ _ _ _ (f4 H4 H3 vs e4 rv) hq
noncomputable def wApp:List D->D->(List D->Prop)->Prop:=λxs d q=>xs.length<az/\q (xs++[d])
noncomputable def Ex:List D->D->(List D->Prop)->Prop:=λxs d q=>match d with
 | .lst ys=>xs.length+ys.length<=az/\q (xs++ys)
 | _=>False
theorem KS{XE:St->XK}(pk:List Nat)(i:Nat)(he:JE X XE e de)(hN:autoParam (X.N[i]?=some x) auR)(hv:Vis X.env.scope x:=by first | exact Or.inl rfl | exact Or.inr (Or.inl rfl) | exact Or.inr (Or.inr rfl))
  (hst:autoParam (noStar e=true) auR)(hbase:autoParam (attributeBase (.Name x p) "append" X.env (eval (.Name x p) X.env)=eval (.Name x p) X.env) auR)
  (hfew:autoParam (((backTo cpos (starEach [e] X.env)).all (λx => !x.1)&&(backToKw cpos (keywordEach [] X.env)).all (λx=>x.1.isSome)
   && decide ([e].length+([]:List Keyword).length+(if ([]:List Keyword).isEmpty then 0 else 1)<30))=true) auR)
  (hline:autoParam ((apos.endLine==cpos.line)=true) auR)(hs:autoParam (starEach [e] X.env=(false,eval e X.env)::starEach [] X.env) auR)(hplain:autoParam ((backTo cpos (starEach [] X.env)).any (·.1)=false) auR)
  (hsw:autoParam (swapsWith (.Call (.Attribute (.Name x p) "append" apos) [e] [] cpos) none pos.line X.env=pure false) auR)(hd:autoParam ((x==("__debug__" : Str))=false) auD)(hcd:autoParam ((x==("__classdict__" : Str))=false) auD) :
  JS X XE (.Expr (.Call (.Attribute (.Name x p) "append" apos) [e] [] cpos) pos) (CW pk i de wApp):=by
 obtain⟨te,p1,d1⟩:=he.ex
 refine⟨_,Kj (Au PySem.F.plainAttrs_list PySem.F.slot_list_append PySem.F.type_list_append Cz (pv i hN hv hd hcd) (vN p1 Kw hst) hbase hfew hline hs hplain) hsw,AX (R:=λT σ l y H2=>Gc (.ref l) [y] H2 λ_ H3=>T.nx σ H3) pk i d1 ?_ ?_⟩
 ·intro σ T l us H0 H2 xs a y q h1 s r ra hq k
  exact⟨l,us,y,rfl,rfl,h1,by rw[r.length];exact hq.1,k _ _ (r.snoc ra) hq.2⟩
 ·intro σ H T l us hl hH h
  exact⟨.ref l,hl,.inl ⟨rfl,us,SqL.of hH⟩,h⟩
theorem ky{XE:St->XK}(pk:List Nat)(i:Nat)(he:JE X XE e de)(hN:autoParam (X.N[i]?=some x) auR)(hv:Vis X.env.scope x:=by first | exact Or.inl rfl | exact Or.inr (Or.inl rfl) | exact Or.inr (Or.inr rfl))
  (hst:autoParam (noStar e=true) auR)(hbase:autoParam (attributeBase (.Name x p) "extend" X.env (eval (.Name x p) X.env)=eval (.Name x p) X.env) auR)
  (hfew:autoParam (((backTo cpos (starEach [e] X.env)).all (λx => !x.1)&&(backToKw cpos (keywordEach [] X.env)).all (λx=>x.1.isSome)
   && decide ([e].length+([]:List Keyword).length+(if ([]:List Keyword).isEmpty then 0 else 1)<30))=true) auR)
  (hline:autoParam ((apos.endLine==cpos.line)=true) auR)(hs:autoParam (starEach [e] X.env=(false,eval e X.env)::starEach [] X.env) auR)(hplain:autoParam ((backTo cpos (starEach [] X.env)).any (·.1)=false) auR)
  (hsw:autoParam (swapsWith (.Call (.Attribute (.Name x p) "extend" apos) [e] [] cpos) none pos.line X.env=pure false) auR)(hd:autoParam ((x==("__debug__" : Str))=false) auD)(hcd:autoParam ((x==("__classdict__" : Str))=false) auD) :
  JS X XE (.Expr (.Call (.Attribute (.Name x p) "extend" apos) [e] [] cpos) pos) (CW pk i de Ex):=by
 obtain⟨te,p1,d1⟩:=he.ex
 refine⟨_,Kj (Au PySem.F.plainAttrs_list PySem.F.slot_list_extend PySem.F.type_list_extend CA (pv i hN hv hd hcd) (vN p1 Kw hst) hbase hfew hline hs hplain) hsw,AX (R:=λT σ l y H2=>Gd (.ref l) [y] H2 λ_ H3=>T.nx σ H3) pk i d1 ?_ ?_⟩
 ·intro σ T l us H0 H2 xs a y q h1 s r ra hq k
  unfold Ex at hq
  split at hq
  ·obtain⟨b,vs,rfl,h2,h3⟩:=ra
   exact⟨l,b,us,vs,rfl,rfl,h1,s _ _ h2,by rw[r.length,h3.length];exact hq.1,k _ _ (r.app h3) hq.2⟩
  ·exact hq.elim
 ·intro σ H T l us hl hH h
  exact⟨.ref l,hl,.inl ⟨rfl,us,SqL.of hH⟩,h⟩
noncomputable def mi(pk:List Nat)(i:Nat)(dk de:DE):DS:=λds e=>sO ds[i]? λxs=>de (peekAt pk ds) (λd=>pkO pk d (dk ds (λk=>aI k λn=>∃ j,ixN xs.length n=some j/\e.nx (ds.set i (.own (xs.set j d)))) (e.xc ds))) (e.xc ds)
theorem Rps.set{K:aa}(r:Rp K H d v):∀ {xs:List D}{vs:List V}(j:Nat),Rps K H xs vs->Rps K H (xs.set j d) (vs.set j v)
 | [],_,_,h=>by rw[show _=[] from h];rfl
 | x::xs,_,0,⟨u,us,e,_,h⟩=>by subst e;exact⟨v,us,rfl,r,h⟩
 | x::xs,_,j+1,⟨u,us,e,h1,h⟩=>by subst e;exact⟨u,_,rfl,h1,Rps.set r j h⟩
theorem pA(pk:List Nat)(i:Nat)(hk:JE X XE k dk)(he:JE X XE e de)(hN:autoParam (X.N[i]?=some x) auR)(hv:Vis X.env.scope x:=by first | exact Or.inl rfl | exact Or.inr (Or.inl rfl) | exact Or.inr (Or.inr rfl))
  (ha:∀ v,assign (.Subscript (.Name x p) k ipos) X.env v=(do
   let ov <- holding [v] (eval (.Name x p) X.env)
   let iv <- holding [v,ov] (eval k X.env)
   standAt ipos
   holding [v,ov,iv] (setItem ov iv v)
   release [v,ov,iv] []):=by intro _;rfl)
  (hs:autoParam (swapsWithSole [.Subscript (.Name x p) k ipos] e pos.line X.env=pure false) auR)(hw:autoParam (swappedStores [.Subscript (.Name x p) k ipos] e X.env=pure none) auR)
  (h1:autoParam ((assignEach [.Subscript (.Name x p) k ipos] X.env).map (·.2)=[assign (.Subscript (.Name x p) k ipos) X.env]) auR)(hd:autoParam ((x==("__debug__" : Str))=false) auD)(hcd:autoParam ((x==("__classdict__" : Str))=false) auD) :
  JS X XE (.Assign [.Subscript (.Name x p) k ipos] e pos) (mi pk i dk de):=by
 obtain⟨tk,p2,d2⟩:=hk.ex
 obtain⟨te,p1,d1⟩:=he.ex
 refine⟨_,wZ p1 (mV (pv i hN hv hd hcd) p2 set_list ha) hs hw h1,λ{B0 B H0 H σ ds e T} c h o=>?_⟩
 obtain⟨xs,hi,h⟩:=vU h
 obtain⟨l,us,e1,f1,f2,f3⟩:=c.slot i _ hi
 have fin:∀ {H1 H2:Hp}{a:D}{v:V},Ext H0 H H1 H2->Rp X.K H1 a v->dk ds (λk=>aI k λn=>∃ j,ixN xs.length n=some j/\e.nx (ds.set i (.own (xs.set j a)))) (e.xc ds)->gSub (tVar i) tk nS v σ H2 T.nx:=by
  intro H1 H2 a v e' r h
  refine⟨.ref l,Pl e1,d2 (c.go e') h (λkv kd H3 H4 e2 rk zq=>?_) ((o.kx c).go e'.s)⟩
  obtain⟨n,z,j,ij,hq⟩:=vV zq
  subst z
  have e3:=e'.trans e2
  refine⟨l,us,n,j,rfl,rk,e3.s _ _ f2,by rw[f3.length];exact ij,?_⟩
  obtain⟨a',us',g1,g2,g3,g4⟩:=c.push (ys:=xs.set j a) hi
  rw[e1]at g1
  cases g1
  exact o.nx _ _ _ _ (g4 H3 H4 _ e3 (Rps.set (r.same e2.s0) j (f3.same e3.s0))) hq
 by_cases hpk:pk=[]
 ·subst hpk
  exact d1 c h (λv a H1 H2 e' r h=>fin e' r (Qr h).2) (o.kx c)
 ·obtain⟨H1,c1,s1,l1,n1⟩:=c.peekAt pk
  refine d1 c1 h (λv a H2 H3 e' r h=>?_) (o.kx c)
  obtain⟨H4,e4,l4,_⟩:=e'.Ei s1 c.sub l1 n1
  exact fin e4 (Rp.less l4 a ((Qr h).1.resolve_left hpk) r) (Qr h).2
noncomputable def dPop(i:Nat)(g:DG):DS:=λds e=>sO ds[i]? λzs=>∃ xs d,zs=xs++[d]/\g d (ds.set i (.own xs)) e.nx
theorem Rfs.lookup{K:aa}:∀ {gs:List (Str×D)}{fs:List (Str×V)},Rfs K H gs fs->gs.lookup f=some d->∃ v,fs.lookup f=some v/\Rp K H d v
 | [],_,_,e=>by cases e
 | (k,d')::gs,_,⟨v,us,e,r,h⟩,q=>by
  subst e
  rw[lookup_cons]at q⊢
  cases z:f==k with
  | true=>rw[z]at q;cases q;exact⟨v,rfl,r⟩
  | false=>rw[z]at q;exact Rfs.lookup h q
theorem Rfs.AY{K:aa}:∀ {gs:List (Str×D)}{fs:List (Str×V)},Rfs K H gs fs->gs.lookup f=none->fs.lookup f=none
 | [],_,h,_=>by rw[show _=[] from h];rfl
 | (k,d')::gs,_,⟨v,us,e,r,h⟩,q=>by
  subst e
  rw[lookup_cons]at q⊢
  cases z:f==k with
  | true=>rw[z]at q;cases q
  | false=>rw[z]at q;exact Rfs.AY h q
noncomputable def dFld(K:aa)(f:Str)(de:DE):DE:=λds q x=>de ds (λd=>∃ C gs v,d = .obj C gs/\Cls K C/\Xt K C f/\gs.lookup f=some v/\q v) x
theorem Ya{X:Cx}{K:aa}{de:DE}(hK:X.K=K)(h:JE X XE e de)(hb:autoParam (attributeBase e f X.env (eval e X.env)=eval e X.env) auR):JE X XE (.Attribute e f pos) (dFld K f de):=by
 subst hK
 obtain⟨te,p,d⟩:=h.ex
 refine⟨_,lA p hb,λc h k kx=>d c h (λv a H1 H2 e r zq=>?_) kx⟩
 obtain⟨C,gs,w,z,h1,h2,h3,h4⟩:=zq
 subst z
 obtain⟨a,dx,fs,rfl,h5,h6⟩:=r
 obtain⟨u,h7,h8⟩:=h6.lookup h3
 exact⟨a,C,dx,fs,u,rfl,e.sub _ _ h5,h1,h2,h7,k _ w _ _ e h8 h4⟩
noncomputable def putD(f:Str)(v:D):List (Str×D)->List (Str×D)
 | []=>[(f,v)]
 | (g,w)::r=>if g=f then (g,v)::r else (g,w)::putD f v r
end
abbrev DSp:=List D->(D->Prop)->(Addr->Prop)->Prop
noncomputable def spD(K:aa)(g:DSp):Sp:=λvs H Q E=>∃ H0 xs q x,ZA H0 H/\Rps K H0 xs vs/\g xs q x/\KE K H0 H q Q/\∀ C H',ZA H H'->x C->E (.ref C) none H'
theorem AZ:XZ X XN:=vP
section
noncomputable def dCall(g:DSp)(da:DA):DE:=λds q x=>da ds (λxs=>g xs q x) x
theorem pB(F:ZL X.prog X.w X.K X.mg X.base (CXE X.prog X.w) k f fd ps (spD X.K g))(hr:XA k X.A)(hg:Gl X x)(hm:X.mg x=some (.ref f))(hk:keepIn X.K (.ref f)=true)(hb:Binds X.K fd ps [])(hx:XZ X XE)
  (ha:JAs X XE (e::es) da)(hst:autoParam (ZO (e::es)=true) auR)(hdb:autoParam ((x==("__debug__" : Str))=false) auD):JE X XE (.Call (.Name x p) (e::es) [] pos) (dCall g da):=by
 obtain⟨ta,p1,d1⟩:=ha.ex
 refine⟨_,(Ay F hr hg hm hk hb hx ⟨p1⟩ hst hdb).get,λc h k kx=>d1 c h (λvs xs H1 H2 e r h=>?_) kx⟩
 exact⟨H1,xs,_,_,e.sub,r,h,k.go e,(kx.go e.s)⟩
structure MOkD (P:Program)(w:World)(K:aa)(mg:Str->Option Value)(base:Heap)(k:Nat)(C:Addr)(m:Str)(g:DSp):Prop where
 cl:Cls K C
 ok:∃ f fd ps,Meth K C m f/\ZL P w K mg base (CXE P w) k f fd ps (spD K g)/\Binds K fd ps []
noncomputable def uC(P:Program)(w:World)(K:aa)(mg:Str->Option Value)(base:Heap)(k:Nat)(m:Str)(dO:DE)(da:DA):DE:=λds q x=>dO ds (λo=>∃ C gs g,o = .obj C gs/\MOkD P w K mg base k C m g/\gs.lookup m=none/\da ds (λxs=>g (o::xs) q x) x) x
noncomputable def uD(X:Cx)(XE:St->XK)(k:Nat)(m:Str)(ta:TE)(t:TA):TE:=λσ H Q=>ta σ H λx H1=>∃ a C dx fs sp,x = .ref a/\H1 a=some (.ins C dx fs)/\(Cls X.K C/\∃ f fd ps,Meth X.K C m f/\ZL X.prog X.w X.K X.mg X.base (CXE X.prog X.w) k f fd ps sp/\Binds X.K fd ps [])/\fs.lookup m=none /\
 t σ H1 λvs H2=>sp (x::vs) H2 Q (XE σ)
theorem uE(hr:XA k X.A)(hx:XZ X XE)(he:PE X o ta)(ha:PA X (e::es) t)
  (hst:starEach (e::es) X.env=(false,eval e X.env)::starEach es X.env)(hpl:(backTo pos (starEach es X.env)).any (·.1)=false)
  (ht:eval (.Call (.Attribute o m apos) (e::es) [] pos) X.env=(do
   let ov <- eval o X.env
   standAt apos.atName
   let (f,first) <- holding [ov] (getMethod ov m pl)
   callWith pos f first (backTo pos (starEach (e::es) X.env)) (backToKw pos (keywordEach [] X.env)))) :
  PE X (.Call (.Attribute o m apos) (e::es) [] pos) (uD X XE k m ta t):=by
 intro pins s σ H Q I h
 refine PySem.W.methodCall_KW (pl:=pl) (thn (he pins s σ H _ I h) λu s1 zq=>?_) ht
 obtain⟨x,H1,I1,rx,a,C,dx,fs,sp,ex,ea,mo,l,q⟩:=zq
 obtain⟨c,f,fd,ps,hm,F,hb⟩:=mo
 subst ex
 obtain rfl:u=Value.ref a:=rx
 refine Ci I1 ea c hm l ?_
 refine callWith_K (first:=[.ref a]) (h₀:=X.base) I.ok.mod.kin hm.kp (thn (ha pos pins s1 σ H1 _ I1 q) λus s2 ⟨vs,H2,I2,r,q2⟩=>⟨I2.kIn,?_⟩) hst hpl
 exact Ax (us := .ref a::us) (vs := .ref a::vs) F hr hb hx I2 (.cons rfl r) q2
theorem uG{k:Nat}{m:Str}{P:Program}{w:World}{K:aa}{mg:Str->Option Value}{base:Heap}(e1:X.prog=P)(e2:X.w=w)(e3:X.K=K)(e4:X.mg=mg)(e5:X.base=base)(d1:Den X.K XE ta dO)(d2:DenA X.K XE t da):Den X.K XE (uD X XE k m ta t) (uC P w K mg base k m dO da):=by
 subst e1 e2 e3 e4 e5
 intro B0 B H0 H σ ds q x Q c h kq kx
 refine d1 c h (λv o H1 H2 e r zq=>?_) kx
 obtain⟨C,gs,g,z,mo,l,h⟩:=zq
 subst z
 obtain⟨a,dx,fs,rfl,h1,h2⟩:=r
 obtain⟨cl,f,fd,ps,hm,F,hb⟩:=mo
 refine⟨a,C,dx,fs,_,rfl,e.sub _ _ h1,⟨cl,f,fd,ps,hm,F,hb⟩,h2.AY l,d2 (c.go e) h (λvs xs H3 H4 e' r' h'=>?_) (kx.go e.s)⟩
 exact⟨H3,.obj C gs::xs,_,_,(e.trans e').sub,⟨_,vs,rfl,⟨a,dx,fs,rfl,e'.s0 _ _ h1,h2.same e'.s0⟩,r'⟩,h',kq.go (e.trans e'),kx.go (e.trans e').s⟩
theorem pC{K:aa}{base:Heap}{k:Nat}{m:Str}{pos apos:Pos}{e o:Expr}{es:List Expr}{dO:DE}{da:DA}{pl:Sem Bool}(hr:XA k X.A)(hx:XZ X XE)(ho:JE X XE o dO)(ha:JAs X XE (e::es) da)
  (e1:autoParam (X.prog=P) auR)(e2:autoParam (X.w=w) auR)(e3:autoParam (X.K=K) auR)(e4:autoParam (X.mg=mg) auR)(e5:autoParam (X.base=base) auR)
  (hst:autoParam (starEach (e::es) X.env=(false,eval e X.env)::starEach es X.env) auR)(hpl:autoParam ((backTo pos (starEach es X.env)).any (·.1)=false) auR)
  (ht:autoParam (eval (.Call (.Attribute o m apos) (e::es) [] pos) X.env=(do
   let ov <- eval o X.env
   standAt apos.atName
   let (f,first) <- holding [ov] (getMethod ov m pl)
   callWith pos f first (backTo pos (starEach (e::es) X.env)) (backToKw pos (keywordEach [] X.env)))) auR):JE X XE (.Call (.Attribute o m apos) (e::es) [] pos) (uC P w K mg base k m dO da):=by
 obtain⟨to,p1,d1⟩:=ho.ex
 obtain⟨ta,p2,d2⟩:=ha.ex
 exact⟨_,uE (pl:=pl) hr hx p1 p2 hst hpl ht,uG e1 e2 e3 e4 e5 d1 d2⟩
theorem Ey(M:MkP X.K C)(hg:Gl X x)(hm:X.mg x=some (.ref C))(hdb:autoParam ((x==("__debug__" : Str))=false) auD):JE X XE (.Call (.Name x p) [] [] pos) (dC (.obj C [])) :=
 ⟨_,vF M hg hm hdb,λ{B0 B H0 H σ ds q x Q} c h k kx=>λa dx ha hd ne=>by
  have s0:=c.sub
  have e1:Ext H0 H H0 (upd H dx (.own a)) := .grow s0 (ZA.upd hd)
  have ha2:upd H dx (.own a) a=none:=by rw[Zq ne.symm];exact ha
  exact k _ (.obj C []) _ _ (e1.trans (.put e1.sub ha2)) ⟨a,dx,[],rfl,Zx,rfl⟩ h⟩
abbrev CY:=List D->(List (Str×D)->Prop)->(Addr->Prop)->Prop
noncomputable def uH(a:Addr)(H H':Hp):Prop:=∀ b o,b≠a->H b=some o->H' b=some o
noncomputable def spI(K:aa)(C:Addr)(g:CY):Sp:=λvs H Q E=>∃ a dx us H0 xs q x,vs = .ref a::us/\H a=some (.ins C dx [])/\H0 a=none/\ZA H0 H/\Rps K H0 xs us/\g xs q x /\
 (∀ gs fs H0' H',uH a H H'->ZA H0 H0'->ZA H0' H'->(∀ b,H0 b=none->H b≠none->H0' b=none)->H' a=some (.ins C dx fs)->Rfs K H0' gs fs->q gs->Q .non H')/\∀ C' H',uH a H H'->x C'->E (.ref C') none H'
noncomputable def mj(C:Addr)(g:CY)(dvs:List D)(da:DA):DE:=λds q x=>da ds (λxs=>g (xs++dvs) (λgs=>q (.obj C gs)) x) x
theorem za(M:Mk X.K C f)(F:ZL X.prog X.w X.K X.mg X.base CX k f fd ps (spI X.K C g))(hr:XA (k+1) X.A)(hg:Gl X x)(hm:X.mg x=some (.ref C))(hb:Binds X.K fd ps ds)(hd:Vals dvs ds)(hdd:∀ H,Rps X.K H dds dvs)(hx:Nf CX X XE)
  (ha:JAs X XE (e::es) da)(hst:autoParam (ZO (e::es)=true) auR)(hdb:autoParam ((x==("__debug__" : Str))=false) auD):JE X XE (.Call (.Name x p) (e::es) [] pos) (mj C g dds da):=by
 obtain⟨ta,p1,d1⟩:=ha.ex
 refine⟨_,(qZ M F hr hg hm hb hd hx ⟨p1⟩ hst hdb).get,λ{B0 B H0 H σ ds q x Q} c h kq kx=>d1 c h (λvs xs H1 H2 ee r h=>λa dx hna hnd ne=>?_) kx⟩
 have s2:ZA H1 H2:=ee.sub
 have na2:upd H2 dx (.own a) a=none:=by rw[Zq ne.symm];exact hna
 have s3:ZA H2 (upd (upd H2 dx (.own a)) a (.ins C dx [])):=(ZA.upd hnd).trans (ZA.upd na2)
 have h1a:H1 a=none:=s2.free hna
 have h1d:H1 dx=none:=s2.free hnd
 refine⟨a,dx,vs++dvs,H1,xs++dds,λgs=>q (.obj C gs),x,rfl,Zx,h1a,s2.trans s3,r.app (hdd H1),h,λgs fs H0' H' so s0 sub nw hfa rf hq=>⟨rfl,?_⟩,λC' H' so hx'=>?_⟩
 ·have up:ZA H2 H':=λb o z=>so b o (λy=>by rw[y,hna]at z;cases z) (s3 _ _ z)
  have n0a:H0' a=none:=nw a h1a (by rw[Zx];simp)
  have ext:Ext H1 H2 (upd H0' a (.ins C dx fs)) H':=by
   refine⟨up,s0.trans (ZA.upd n0a),λb o z=>?_,λb z y=>?_⟩
   ·by_cases hb:b=a
    ·subst hb;rw[Zx]at z;rw[hfa];exact z
    ·rw[Zq hb]at z;exact sub _ _ z
   ·rw[Zq (λw=>y (by rw[w];exact hna))]
    refine nw b z λw=>y ?_
    exact s3.free w
  exact kq _ (.obj C gs) _ _ (ee.trans ext) ⟨a,dx,fs,rfl,Zx,rf.same (ZA.upd n0a)⟩ hq
 ·refine kx C' H' (ee.s.trans λb o z=>so b o (λy=>by rw[y,hna]at z;cases z) (s3 _ _ z)) hx'
theorem Rfs.put{K:aa}(r:Rp K H d v):∀ {gs:List (Str×D)}{fs:List (Str×V)},Rfs K H gs fs->Rfs K H (putD f d gs) (Qh f v fs)
 | [],_,h=>by rw[show _=[] from h];exact⟨v,[],rfl,r,rfl⟩
 | (k,d')::gs,_,⟨u,us,e,r',h⟩=>by
  subst e
  unfold putD Qh
  split
  ·exact⟨v,us,rfl,r,h⟩
  ·exact⟨u,_,rfl,r',Rfs.put r h⟩
theorem Rfs.length{K:aa}:∀ {gs:List (Str×D)}{fs:List (Str×V)},Rfs K H gs fs->fs.length=gs.length
 | [],_,h=>by rw[show _=[] from h];rfl
 | (k,d')::gs,_,⟨u,us,e,r',h⟩=>by subst e;rw[length_cons,length_cons,Rfs.length h]
noncomputable def ml(K:aa)(pk:List Nat)(i:Nat)(f:Str)(de:DE):DS:=λds e=>∃ a dx C gs,ds[i]?=some (.ob a dx C gs)/\Cls K C/\Xt K C f/\gs.length<1000/\de (peekAt pk ds) (λd=>e.nx ((peekAt pk ds).set i (.ob a dx C (putD f d gs)))) (e.xc ds)
theorem pD{i:Nat}(h:ds[i]?=some (.ob a dx C gs)):(peekAt pk ds)[i]?=some (.ob a dx C gs):=by
 unfold peekAt
 induction pk generalizing ds with
 | nil=>exact h
 | cons j pk ih =>
  refine ih ?_
  rw[List.getElem?_modify,h]
  by_cases z:j=i
  ·simp[z,Slot.peek]
  ·simp[z]
theorem SY{X:Cx}{K:aa}(pk:List Nat)(i:Nat){de:DE}(hK:X.K=K)(he:JE X XE e de)(hN:autoParam (X.N[i]?=some x) auR)(hv:Vis X.env.scope x:=by first | exact Or.inl rfl | exact Or.inr (Or.inl rfl) | exact Or.inr (Or.inr rfl))
  (hs:autoParam (swapsWith e (some (.Attribute (.Name x p) f apos)) pos.line X.env=pure false) auR)(hd:autoParam ((x==("__debug__" : Str))=false) auD)(hcd:autoParam ((x==("__classdict__" : Str))=false) auD):JS X XE (.Assign [.Attribute (.Name x p) f apos] e pos) (ml K pk i f de):=by
 subst hK
 obtain⟨te,p1,d1⟩:=he.ex
 refine⟨_,lB (pv i hN hv hd hcd) p1 hs,λ{B0 B H0 H σ ds e T} c h o=>?_⟩
 obtain⟨a,dx,C,gs,hi,h1,h2,h3,h⟩:=h
 obtain⟨Hp,cp,_⟩:=c.peekAt pk
 have hip:=pD (pk:=pk) hi
 obtain⟨fs,e1,f1,f2,f3⟩:=cp.slot i _ hip
 refine d1 cp h (λv d H1 H2 ee r hq=>⟨.ref a,Pl e1,a,C,dx,fs,rfl,ee.s _ _ f2,h1,h2,by rw[f3.length];exact h3,?_⟩) (o.kx c)
 have c':=cp.go ee
 refine o.nx _ _ _ _ (c'.write hip e1 (λb z=>z) (s' := .ob a dx C (putD f d gs)) ⟨_,e1,ee.new a f1 (by rw[f2];simp),Zx,(f3.same ee.s0).put r⟩) hq
end
section
variable {P:Program}{w:World}{K:aa}{mg:Str->Option Value}{base:Heap}{N:List Str}{qual:Str}{scope:Scope}{f C:Addr}{cdv:Value}{A:Around}{outer:List Env}{s:Shared}{H:Hp}{E:XK}
 {x:Str}{np cpos pos:Pos}{e₀:Expr}{rest:List Expr}{da:DA}
noncomputable def Ba(C:Addr)(pk:List Nat)(da:DA):DS:=λds e=>da (peekAt pk ds) (λxs=>xs.length<=az/\e.xc ds C) (e.xc ds)
theorem Xa(pk:List Nat)(c:KA K C)(hm:mg x=some (.ref C))(ha:JAs (ZS (CXE P w) P w K mg base N qual scope f cdv A outer s H E) (λ_=>E) (e₀::rest) da)
  (hg:autoParam (Gl (ZS (CXE P w) P w K mg base N qual scope f cdv A outer s H E) x) auR)(hst:autoParam (ZO (e₀::rest)=true) auR)(hdb:autoParam ((x==("__debug__" : Str))=false) auD) :
  JS (ZS (CXE P w) P w K mg base N qual scope f cdv A outer s H E) (λ_=>E) (.Raise (some (.Call (.Name x np) (e₀::rest) [] cpos)) none pos) (Ba C pk da):=by
 obtain⟨ta,p1,d1⟩:=ha.ex
 refine⟨_,(vQ c hm ⟨p1⟩ hg hst hdb).get,λ{B0 B H0 H σ ds e T} c h o=>?_⟩
 obtain⟨H1,c1,_⟩:=c.peekAt pk
 exact d1 c1 h (λvs xs H2 H3 ee r hb=>⟨by rw[r.length];exact hb.1,o.kx c C H3 ee.s hb.2⟩) (o.kx c)
end
section
theorem uI{Xf:ι->Cx}{K:aa}{st:List Stmt}(hK:∀ z,(Xf z).K=K)(h:∀ z,JSs (Xf z) XE' st s):∃ t,(∀ z,PSs (Xf z) st t)/\Oq K XE' t s:=by
 refine⟨λT σ H=>∃ B0 B H0 ds e,Cfg K B0 B H0 H σ ds/\s ds e/\Gp K XE' B0 B e T,λz=>?_,λc hs o=>⟨_,_,_,_,_,c,hs,o⟩⟩
 intro pins sh σ H T I ⟨B0,B,H0,ds,e,c,hs,o⟩
 obtain⟨t,p,d⟩:=(h z).ex
 have kk:=hK z
 subst kk
 exact p pins sh σ H T I (d c hs o)
noncomputable def kH(K:aa)(W:Addr)(j:Nat)(b s:DS):DS:=λds e=>∃ x:DSt->Addr->Prop,b ds { e with xc:=x }/\∀ ds' C,x ds' C->subIn K (.ref C) (.ref W)=some true /\
 s (ds'.set j (.v (.exc C))) { e with nx:=λd2=>e.nx (d2.set j .un),bk:=λd2=>e.bk (d2.set j .un),ct:=λd2=>e.ct (d2.set j .un),xc:=λ_ _=>False }
theorem uJ{XE:St->XK}{K:aa}{body suite:List Stmt}{b₀:Stmt}{np hpos pos:Pos}{b s:DS}(hK:X.K=K)(c:yr X.K W)(hg:Gl X x)(hm:X.mg x=some (.ref W))
  (hN:X.N.Nodup)(hj:X.N[j]?=some n)(hb:∀ XE',∀ pins,JSs (KB X pins XE') XE' body b)(hs:∀ e,JSs (X.handling e) XN (b₀::suite) s)
  (hcalm:autoParam (X.calm=true) auR)(hst:autoParam (X.stack=X.env::X.outer) auR)(hfr:autoParam (X.env.frame=some X.env.locals) auR)(hex:autoParam (X.ex=[]) auR)(hl:autoParam (X.env.scope.names.lookup n=some .local) auR)(hlk:autoParam (X.env.kindOf n=some .local) auR)
  (hfn:autoParam (X.fn n=true) auR)(hdb:autoParam ((x==("__debug__" : Str))=false) auD) :
  JS X XE (.Try body [.ExceptHandler (some (.Name x np)) (some n) (b₀::suite) hpos] [] [] pos) (kH K W j b s):=by
 subst hK
 have hb':∀ XE',∃ t,(∀ pins,PSs (KB X pins XE') body t)/\Oq X.K XE' t b:=λXE'=>uI (Xf:=λpins=>KB X pins XE') (λ_=>rfl) (hb XE')
 obtain⟨ts,p2,d2⟩:=uI (Xf:=λe=>X.handling e) (K:=X.K) (λ_=>rfl) hs
 refine⟨_,vJ (tb:=λXE'=>(hb' XE').choose) c hg hm hN hj (λpins XE'=>(hb' XE').choose_spec.1 pins) p2 hcalm hst hfr hex hl hlk hfn hdb,λ{B0 B H0 H σ ds e T} c h o=>?_⟩
 obtain⟨xx,h1,h2⟩:=h
 refine⟨λσ' cls _ H'=>∃ H0' ds' C,cls = .ref C/\Cfg X.K B0 B H0' H' σ' ds'/\xx ds' C,?_,?_⟩
 ·exact(hb' _).choose_spec.2 c h1 ⟨o.nx,o.rt,λH0 H σ ds C c' h'=>⟨H0,ds,C,rfl,c',h'⟩,o.bk,o.ct,o.rb,o.ro⟩
 ·rintro σ' H' cls ⟨H0',ds',C,rfl,c',hx⟩
  obtain⟨sb,hh⟩:=h2 ds' C hx
  refine⟨C,rfl,sb,λex hexn=>?_⟩
  have ee:Ext H0' H' (upd H0' ex (Cv ex C)) (upd H' ex (Cv ex C)) := .put c'.sub hexn
  have c3:=(c'.go ee).setV j (d := .exc C) (v := .ref ex) ⟨ex,rfl,Zx⟩
  exact d2 c3 hh ⟨λH0 H σ ds c4 h4=>o.nx _ _ _ _ (c4.unset j) h4,o.rt,λ_ _ _ _ _ _ h=>h.elim,λH0 H σ ds c4 h4=>o.bk _ _ _ _ (c4.unset j) h4,λH0 H σ ds c4 h4=>o.ct _ _ _ _ (c4.unset j) h4,o.rb,o.ro⟩
end
section
noncomputable def Qu(N:List Str)(xs:List D):DSt:=xs.map .v++replicate (N.length-xs.length) .un
theorem Hu{K:aa}(s:ZA H0 H)(r:Rps K H0 xs vs)(hl:xs.length<=N.length):Cfg K H0 H H0 H (start N vs) (Qu N xs):=by
 have no:∀ (i:Nat) t,(Qu N xs)[i]?=some t->t.isOwn=false:=λi t e=>by
  unfold Qu at e
  by_cases h:i<xs.length
  ·rw[getElem?_append_left (by rw[length_map];exact h),getElem?_map,aA h]at e
   cases e;rfl
  ·rw[getElem?_append_right (by rw[length_map];omega),length_map,getElem?_replicate]at e
   split at e
   ·cases e;rfl
   ·cases e
 refine⟨.refl s,λi t e=>?_,λi t a e q=>?_,λi j t u a _ e _ q=>?_,?_⟩
 ·unfold Qu at e
  unfold start
  by_cases h:i<xs.length
  ·rw[getElem?_append_left (by rw[length_map];exact h),getElem?_map,aA h]at e
   cases e
   obtain⟨v,e1,r1⟩:=r.get (aA h)
   rw[getElem?_append_left (by rw[length_map,r.length];exact h),getElem?_map,e1]
   exact⟨v,rfl,r1⟩
  ·rw[getElem?_append_right (by rw[length_map];omega),length_map,getElem?_replicate]at e
   split at e
   ·cases e;trivial
   ·cases e
 ·have:=no i t e;rw[Slot.WN q]at this;cases this
 ·have:=no i t e;rw[Slot.WN q]at this;cases this
 ·unfold start Qu
  simp only[length_append,length_map,length_replicate,r.length]
theorem Fun.okJ{P:Program}{K:aa}{st:Stmt}{f:Addr}{fd:FuncData}{N ps:List Str}{k:Nat}{g:DSp}(F:Fun K x qual st f fd)(S:Zn N ps (Zf st))(len:∀ xs q x,g xs q x->xs.length=ps.length)
  (hbody:∀ (cdv:Value) (A:Around) (outer:List Env) (s:Shared) (H:Hp) (E:XK),XA k (A.deeper (envOfC qual (Zf st) s.heap.objs.size f cdv)) ->
   ∃ b,JSs (ZS (CXE P w) P w K mg base N qual (Zf st) f cdv A outer s H E) (λ_=>E) (Ye st) b/\∀ xs q x,g xs q x->b (Qu N xs) { nx:=λ_=>q .non,rt:=q,xc:=λ_=>x }):ZL P w K mg base (CXE P w) (k+1) f fd ps (spD K g):=by
 have hpl:ps.length<=N.length:=by have:=congrArg length S.pre;rw[length_take]at this;omega
 refine F.okX S (λvs H Q E zq=>by obtain⟨H0,xs,q,x,s,r,h,_⟩:=zq;rw[r.length];exact len xs q x h) λcdv A outer s H vs Q E hr hsp=>?_
 obtain⟨H0,xs,q,x,s0,r,h,kq,kx⟩:=hsp
 obtain⟨b,j,hb⟩:=hbody cdv A outer s H E hr
 obtain⟨t,p,d⟩:=j.ex
 refine⟨t,⟨p⟩,d (Hu s0 r (by rw[len xs q x h];exact hpl)) (hb xs q x h) ⟨λH0' H' σ ds c hq=>kq _ .non _ _ c.ext rfl hq,λv d H0' H' e rv hq=>kq _ _ _ _ e rv hq,λH0' H' σ ds C c hx=>kx C H' c.ext.s hx,λ_ _ _ _ _ h=>h.elim,λ_ _ _ _ _ h=>h.elim,λ_ _ _ _ _ _ _ _ h=>h.elim,λ_ _ _ _ _ _ _ _ _ _ _ _ _ h=>h.elim⟩⟩
theorem zb{K:aa}{st:Stmt}{f C:Addr}{N ps:List Str}{g:CY}{cdv:Value}{A:Around}{outer:List Env}{s:Shared}{H:Hp}{vs:List V}{Q:VK}{E:XK}(hpl:ps.length<=N.length)(len:∀ xs q x,g xs q x->xs.length+1=ps.length)
  (hbody:∃ b,JSs (ZS CX P w K mg base N qual (Zf st) f cdv A outer s H E) (λ_=>E) (Ye st) b/\∀ a dx xs q x,g xs q x->b (.ob a dx C []::(xs.map .v++replicate (N.length-(xs.length+1)) .un)) { nx:=λds=>∃ gs,ds[0]?=some (.ob a dx C gs)/\q gs,rt:=λ_=>False,xc:=λ_=>x })
  (hsp:spI K C g vs H Q E):∃ t,QSs (ZS CX P w K mg base N qual (Zf st) f cdv A outer s H E) (Ye st) t/\t { nx:=λ_ H'=>Q .non H',rt:=Q } (start N vs) H:=by
 classical
 obtain⟨a,dx,us,H0,xs,q,x,rfl,ha,h0,s0,r,h,kq,kx⟩:=hsp
 obtain⟨b,j,hb⟩:=hbody
 obtain⟨t,p,d⟩:=j.ex
 have hl:=len xs q x h
 -- the heap without the new object
 let B:Hp:=λc=>if c=a then none else H c
 have sB:ZA H0 B:=λc o z=>by
  show(if c=a then none else H c)=_
  rw[if_neg (λy=>by rw[y,h0]at z;cases z)]
  exact s0 _ _ z
 have sBH:ZA B H:=λc o z=>by
  have z:(if c=a then none else H c)=some o:=z
  split at z
  ·cases z
  ·exact z
 have hBa:B a=none:=if_pos rfl
 have len1:(start N (.ref a::us)).length=(Slot.ob a dx C []::(xs.map Slot.v++replicate (N.length-(xs.length+1)) Slot.un)).length:=by
  unfold start
  simp only[length_append,length_map,length_replicate,length_cons,r.length]
  omega
 have at0:∀ i,(start N (.ref a::us))[i+1]?=(us.map some++replicate (N.length-(us.length+1)) none)[i]?:=λi=>by
  unfold start
  rw[map_cons,cons_append,List.getElem?_cons_succ,length_cons]
 have own0:∀ (i:Nat) t,(Slot.ob a dx C []::(xs.map Slot.v++replicate (N.length-(xs.length+1)) Slot.un))[i]?=some t->t.isOwn=true->i=0:=λi t e w=>by
  cases i with
  | zero=>rfl
  | succ i =>
   rw[List.getElem?_cons_succ]at e
   by_cases hi:i<xs.length
   ·rw[getElem?_append_left (by rw[length_map];exact hi),getElem?_map,aA hi]at e
    cases e;cases w
   ·rw[getElem?_append_right (by rw[length_map];omega),length_map,getElem?_replicate]at e
    split at e
    ·cases e;cases w
    ·cases e
 have c:Cfg K H0 B H0 H (start N (.ref a::us)) (.ob a dx C []::(xs.map .v++replicate (N.length-(xs.length+1)) .un)):=by
  refine⟨⟨sBH,.refl _,s0,λb z _=>z⟩,λi t e=>?_,λi t b e w=>?_,λi j t u b ne e e' w w'=>ne ((own0 i t e (Slot.WN w)).trans (own0 j u e' (Slot.WN w')).symm),len1⟩
  ·cases i with
   | zero =>
    cases e
    exact⟨[],rfl,h0,ha,rfl⟩
   | succ i =>
    rw[List.getElem?_cons_succ]at e
    rw[at0]
    by_cases hi:i<xs.length
    ·rw[getElem?_append_left (by rw[length_map];exact hi),getElem?_map,aA hi]at e
     cases e
     obtain⟨v,e1,r1⟩:=r.get (aA hi)
     rw[getElem?_append_left (by rw[length_map,r.length];exact hi),getElem?_map,e1]
     exact⟨v,rfl,r1⟩
    ·rw[getElem?_append_right (by rw[length_map];omega),length_map,getElem?_replicate]at e
     split at e
     ·cases e;trivial
     ·cases e
  ·have:=own0 i t e (Slot.WN w)
   subst this
   cases e
   have z:some (V.ref a)=some (V.ref b):=w
   cases z
   exact hBa
 have so:∀ {H':Hp},ZA B H'->uH a H H':=λsh b o ne z=>sh b o (by show(if b=a then none else H b)=_;rw[if_neg ne];exact z)
 refine⟨t,⟨p⟩,d c (hb a dx xs q x h) ⟨λH0' H' σ ds c' ⟨gs,e,hq⟩=>?_,λ_ _ _ _ _ _ h=>h.elim,λH0' H' σ ds C' c' hx=>kx C' H' (so c'.ext.s) hx,λ_ _ _ _ _ h=>h.elim,λ_ _ _ _ _ h=>h.elim,λ_ _ _ _ _ _ _ _ h=>h.elim,λ_ _ _ _ _ _ _ _ _ _ _ _ _ h=>h.elim⟩⟩
 obtain⟨fs,f0,f1,f2,f3⟩:=c'.slot 0 _ e
 refine kq gs fs H0' H' (so c'.ext.s) c'.ext.s0 c'.sub (λb z y=>?_) f2 f3 hq
 by_cases hb:b=a
 ·rw[hb];exact f1
 ·refine c'.ext.new b z ?_
  show(if b=a then none else H b)≠none
  rw[if_neg hb]
  exact y
theorem Fun.okI{K:aa}{st:Stmt}{f C:Addr}{fd:FuncData}{N ps:List Str}{k:Nat}{g:CY}(F:Fun K x qual st f fd)(S:Zn N ps (Zf st))(len:∀ xs q x,g xs q x->xs.length+1=ps.length)
  (hbody:∀ (cdv:Value) (A:Around) (outer:List Env) (s:Shared) (H:Hp) (E:XK),XA k (A.deeper (envOfC qual (Zf st) s.heap.objs.size f cdv)) ->
   ∃ b,JSs (ZS CX P w K mg base N qual (Zf st) f cdv A outer s H E) (λ_=>E) (Ye st) b/\∀ a dx xs q x,g xs q x->b (.ob a dx C []::(xs.map .v++replicate (N.length-(xs.length+1)) .un)) { nx:=λds=>∃ gs,ds[0]?=some (.ob a dx C gs)/\q gs,rt:=λ_=>False,xc:=λ_=>x }):ZL P w K mg base CX (k+1) f fd ps (spI K C g):=by
 have hpl:ps.length<=N.length:=by have:=congrArg length S.pre;rw[length_take]at this;omega
 refine F.okX S (λvs H Q E zq=>by obtain⟨a,dx,us,H0,xs,q,x,e,_,_,_,r,h,_⟩:=zq;rw[e,length_cons,r.length];exact len xs q x h) λcdv A outer s H vs Q E hr hsp=>?_
 exact zb hpl len (hbody cdv A outer s H E hr) hsp
theorem Ee.okI{K:aa}{st:Stmt}{f C:Addr}{fd:FuncData}{ds:List Value}{N ps:List Str}{k:Nat}{g:CY}(F:Ee K x qual st f fd ds)(S:Zn N ps (Zf st))(len:∀ xs q x,g xs q x->xs.length+1=ps.length)
  (hbody:∀ (cdv:Value) (A:Around) (outer:List Env) (s:Shared) (H:Hp) (E:XK),XA k (A.deeper (envOfC qual (Zf st) s.heap.objs.size f cdv)) ->
   ∃ b,JSs (ZS CX P w K mg base N qual (Zf st) f cdv A outer s H E) (λ_=>E) (Ye st) b/\∀ a dx xs q x,g xs q x->b (.ob a dx C []::(xs.map .v++replicate (N.length-(xs.length+1)) .un)) { nx:=λds=>∃ gs,ds[0]?=some (.ob a dx C gs)/\q gs,rt:=λ_=>False,xc:=λ_=>x }):ZL P w K mg base CX (k+1) f fd ps (spI K C g):=by
 have hpl:ps.length<=N.length:=by have:=congrArg length S.pre;rw[length_take]at this;omega
 refine F.okX S (λvs H Q E zq=>by obtain⟨a,dx,us,H0,xs,q,x,e,_,_,_,r,h,_⟩:=zq;rw[e,length_cons,r.length];exact len xs q x h) λcdv A outer s H vs Q E hr hsp=>?_
 exact zb hpl len (hbody cdv A outer s H E hr) hsp
end
section
noncomputable def dAug(i:Nat)(de:DE)(g:Int->Int->Int):DS:=λds e=>sV ds[i]? λz=>aI z λa=>de ds (λd=>aI d λb=>e.nx (ds.set i (.v (.int (g a b))))) (e.xc ds)
end
theorem ZL.noX{K:aa}{f:Addr}{fd:FuncData}{ps:List Str}{sp sp':Sp}(F:ZL P w K mg base (CXE P w) k f fd ps sp)
  (h:∀ vs H Q E,sp' vs H Q E->sp vs H Q (λ_ _ _=>False)):ZL P w K mg base CX0 k f fd ps sp':=by
 refine⟨λvs H Q E q=>F.len vs H Q _ (h _ _ _ _ q),λA outer s H args us vs Q E hr he hb hv hs=>?_⟩
 refine codeAny_mono (F.run A outer s H args us vs Q _ hr he hb hv (h _ _ _ _ hs)) λr s' hq=>?_
 cases r with
 | ok fl=>cases fl<;>exact hq
 | error e =>
  obtain⟨_,_,_,_,_,_,_,_,_,_,_,_,_,_,z⟩:=hq
  exact z.elim
noncomputable def zc(K:aa):Sp:=λvs H Q _=>∃ (a:Addr) (ns:List Int),vs=[.ref a]/\SqL K H a (ns.map V.int)/\ns.length<=63/\∀ H',Q (.bl true) H'
noncomputable def gLaw:DSp:=λxs q _=>∃ ns:List Int,xs=[.scr (ns.map .int)]/\ns.length<=63/\q (.bl true)
theorem Ez{K:aa}:∀ ns:List Int,Rps K H (ns.map .int) (ns.map V.int)
 | []=>rfl
 | n::ns=>⟨.int n,_,rfl,rfl,Ez ns⟩
theorem ZL.law{K:aa}{f:Addr}{fd:FuncData}{ps:List Str}(F:ZL P w K mg base (CXE P w) k f fd ps (spD K gLaw)):ZL P w K mg base CX0 k f fd ps (zc K) :=
 F.noX λvs H Q E ⟨a,ns,e,hS,hl,kq⟩=>⟨H,[.scr (ns.map .int)],λd=>d = .bl true,λ_=>False,.refl _,by subst e;exact⟨_,[],rfl,⟨a,_,rfl,hS,Ez ns⟩,rfl⟩,⟨ns,rfl,hl,rfl⟩,λv d H0' H' e r z=>by subst z;rw[show v = .bl true from r];exact kq H',λ_ _ _ h=>h.elim⟩
section
theorem pE:CG (.int i) (.int j) q=q (.int (i+j)):=rfl
theorem pF:CG (.str i) (.str j) q=(i.length+j.length<=az/\q (.str (i++j))):=rfl
theorem pG:CG (.lst i) (.lst j) q=(i.length+j.length<=az/\q (.lst (i++j))):=rfl
theorem pH:CG (.scr i) (.lst j) q=(i.length+j.length<=az/\q (.lst (i++j))):=rfl
theorem pI:CG (.tup i) (.tup j) q=(i≠[]/\i.length+j.length<=az/\q (.tup (i++j))):=rfl
theorem z_ii:dII C g (.int i) (.int j) q=(C i j/\q (g i j)):=rfl
theorem z_i0:dI0 g (.int i) (.int j) q=q (g i j):=rfl
theorem z_mul:dMul (.int i) (.int j) q=(Lq i j/\q (.int (i*j))):=rfl
theorem z_rep:dMul (.lst xs) (.int k) q=(-(2^63)<=k/\k<2^63/\xs.length*k.toNat<=az/\q (.lst (replicate k.toNat xs).flatten)):=rfl
theorem z_lt:dLt (.int i) (.int j) q=q (.bl (decide (i<j))):=rfl
theorem z_le:dLe (.int i) (.int j) q=q (.bl (decide (i<=j))):=rfl
theorem z_gt:dGt (.int i) (.int j) q=q (.bl (decide (j<i))):=rfl
theorem z_ge:dGe (.int i) (.int j) q=q (.bl (decide (j<=i))):=rfl
theorem z_isN:dIsN a .non q=q (.bl a.UJ):=rfl
theorem kI:ub a .non q=q (.bl (!a.UJ)):=rfl
theorem kJ:dIx (.lst xs) (.int i) q=∃ d,atI xs i=some d/\q d:=rfl
theorem kL:dIx (.scr xs) (.int i) q=∃ d,atI xs i=some d/\q d:=rfl
theorem kO:dIx (.tup xs) (.int i) q=∃ d,atI xs i=some d/\q d:=rfl
theorem kU:dIx (.str z) (.int i) q=(z.length<=az/\∃ c,atI z.cps.toList i=some c/\q (.str ⟨#[c]⟩)):=rfl
theorem kW{lo hi:Option Int}:dSl (.lst xs) lo hi q=q (.lst (cutD xs lo hi)):=rfl
theorem kY{lo hi:Option Int}:dSl (.scr xs) lo hi q=q (.lst (cutD xs lo hi)):=rfl
theorem kZ{lo hi:Option Int}:dSl (.str y) lo hi q=(y.length<=az/\q (.str (Txt.slice y lo hi))):=rfl
theorem pJ:yA [.lst xs] q=q (.int xs.length):=rfl
theorem pK:yA [.scr xs] q=q (.int xs.length):=rfl
theorem pL:yA [.tup xs] q=q (.int xs.length):=rfl
theorem pM:yA [.str z] q=(z.length<=az/\q (.int z.length)):=rfl
theorem uK:dAbs [.int i] q=q (.int (if i<0 then -i else i)):=rfl
theorem z_max:dMax2 [.int i,.int j] q=q (.int (if j > i then j else i)):=rfl
theorem uL:Ep [.int i] q=q (.int i):=rfl
theorem pN:Ep [.bl b] q=q (.int (if b then 1 else 0)):=rfl
theorem uM:ug [.int i] q=(i.natAbs.log2<1920/\q (.str (toString i))):=rfl
theorem uN:KM [.lst xs] q=q (.lst xs):=rfl
theorem uO:KM [.scr xs] q=q (.lst xs):=rfl
theorem uQ:KM [.tup xs] q=q (.lst xs):=rfl
theorem pO:Hr [.lst xs] q=q (.tup xs):=rfl
theorem pP:Hr [.tup xs] q=q (.tup xs):=rfl
theorem ja:dEq b (.int i) (.int j) q=q (.bl (if b then !decide (i=j) else decide (i=j))):=by
 show(true=true/\true=true/\true=true/\_)=_
 simp only[D.toV,true_and,V.int.injEq]
theorem jb:dEq b (.str i) (.str j) q=q (.bl (if b then !decide (i=j) else decide (i=j))):=by
 show(true=true/\true=true/\true=true/\_)=_
 simp only[D.toV,true_and,V.str.injEq]
theorem jc:dEq b (.bl i) (.bl j) q=q (.bl (if b then !decide (i=j) else decide (i=j))):=by
 show(true=true/\true=true/\true=true/\_)=_
 simp only[D.toV,true_and,V.bl.injEq]
theorem jd:dEq b (.tup xs) (.tup ys) q=(WB (D.PN 80) xs ys=true/\q (.bl (if b then !D.WK xs ys else D.WK xs ys))):=rfl
theorem jf:dEq b (.lst xs) (.lst ys) q=(WB (D.PN 80) xs ys=true/\q (.bl (if b then !D.WK xs ys else D.WK xs ys))):=rfl
theorem jg:dIn b (.str i) (.str j) q=q (.bl (if b then !inS i j else inS i j)):=rfl
theorem Hv(zs:List Str):(zs.map D.str).all D.flat=true:=by rw[all_map,all_eq_true];intro _ _;rfl
theorem yF(zs:List Int):(zs.map D.int).all D.flat=true:=by rw[all_map,all_eq_true];intro _ _;rfl
theorem EA(a:Str)(zs:List Str):inD (.str a) (zs.map .str)=decide (a∈zs):=by
 unfold inD
 rw[any_map]
 induction zs with
 | nil=>rfl
 | cons z zs ih =>
  rw[any_cons,ih]
  have:((λy=>D.eqF y (.str a)) ∘ D.str) z=decide (z=a):=by
   show(z==a)=_
   rw[Bool.eq_iff_iff];simp only[beq_iff_eq,decide_eq_true_eq]
  rw[this,Bool.eq_iff_iff]
  simp only[Bool.or_eq_true,decide_eq_true_eq,mem_cons]
  exact or_congr eq_comm Iff.rfl
theorem uR(a:Int)(zs:List Int):inD (.int a) (zs.map .int)=decide (a∈zs):=by
 unfold inD
 rw[any_map]
 induction zs with
 | nil=>rfl
 | cons z zs ih =>
  rw[any_cons,ih]
  have:((λy=>D.eqF y (.int a)) ∘ D.int) z=decide (z=a):=by
   show(z==a)=_
   rw[Bool.eq_iff_iff];simp only[beq_iff_eq,decide_eq_true_eq]
  rw[this,Bool.eq_iff_iff]
  simp only[Bool.or_eq_true,decide_eq_true_eq,mem_cons]
  exact or_congr eq_comm Iff.rfl
theorem pQ{zs:List Str}:dIn b (.str a) (.lst (zs.map .str)) q=q (.bl (if b then !decide (a∈zs) else decide (a∈zs))):=by
 show(true=true/\_/\_)=_
 rw[Hv,EA]
 simp only[true_and]
theorem pR{zs:List Str}:dIn b (.str a) (.tup (zs.map .str)) q=q (.bl (if b then !decide (a∈zs) else decide (a∈zs))):=by
 show(true=true/\_/\_)=_
 rw[Hv,EA]
 simp only[true_and]
theorem pS{zs:List Int}:dIn b (.int a) (.lst (zs.map .int)) q=q (.bl (if b then !decide (a∈zs) else decide (a∈zs))):=by
 show(true=true/\_/\_)=_
 rw[yF,uR]
 simp only[true_and]
theorem Hw(bs:List Bool):bools (bs.map .bl)=some bs:=by
 induction bs with
 | nil=>rfl
 | cons b bs ih=>rw[map_cons];unfold bools;rw[ih];rfl
theorem Hx(bs:List Str):texts (bs.map .str)=some bs:=by
 induction bs with
 | nil=>rfl
 | cons b bs ih=>rw[map_cons];unfold texts;rw[ih];rfl
theorem zf{bs:List Bool}:yB [.lst (bs.map .bl)] q=q (.bl (bs.all id)):=by
 show(∃ cs,bools _=some cs/\_)=_
 rw[Hw]
 simp only[Option.some.injEq,exists_eq_left']
theorem mn{bs:List Bool}:dAny [.lst (bs.map .bl)] q=q (.bl (bs.any id)):=by
 show(∃ cs,bools _=some cs/\_)=_
 rw[Hw]
 simp only[Option.some.injEq,exists_eq_left']
theorem Bb:AK (.str sep) [.lst (ys.map .str)] q=((ys.map (·.length)).sum+ys.length*sep.length<=16777216/\q (.str (Txt.join sep ys))):=by
 show(∃ cs,texts _=some cs/\_)=_
 rw[Hx]
 simp only[Option.some.injEq,exists_eq_left']
theorem Ms{xs:List α}:yB [.lst (xs.map λx => .bl (f x))] q=q (.bl (xs.all f)):=by
 have:=zf (q:=q) (bs:=xs.map f)
 rw[map_map,all_map]at this
 exact this
theorem jh{xs:List α}:dAny [.lst (xs.map λx => .bl (f x))] q=q (.bl (xs.any f)):=by
 have:=mn (q:=q) (bs:=xs.map f)
 rw[map_map,any_map]at this
 exact this
theorem pT{xs:List α}:AK (.str sep) [.lst (xs.map λx => .str (f x))] q=((xs.map λx=>(f x).length).sum+xs.length*sep.length<=16777216/\q (.str (Txt.join sep (xs.map f)))):=by
 have:=Bb (q:=q) (sep:=sep) (ys:=xs.map f)
 rw[map_map,map_map,length_map]at this
 exact this
theorem pU:CL (.str y) [] q=(y.length<=5592405/\q (.str (Txt.lower y))):=rfl
theorem pV:kc (.str y) [] q=(y.length<=5592405/\q (.str (Txt.upper y))):=rfl
theorem UM{K:aa}(ht:d.tyN=some t)(hn:n∈Mp)(he:SG K [d,.ty n] q=∃ t,d.tyN=some t/\n∈Mp/\q (.bl (um t n))):SG K [d,.ty n] q=q (.bl (um t n)):=by
 rw[he,ht]
 simp only[Option.some.injEq,exists_eq_left',hn,true_and]
theorem uS{K:aa}:SG K [.int i,.ty "int"] q=q (.bl true):=UM (t := "int") rfl (by decide) rfl
theorem uT{K:aa}:SG K [.int i,.ty "bool"] q=q (.bl false):=UM (t := "int") rfl (by decide) rfl
theorem uU{K:aa}:SG K [.int i,.ty "str"] q=q (.bl false):=UM (t := "int") rfl (by decide) rfl
theorem uV{K:aa}:SG K [.int i,.ty "tuple"] q=q (.bl false):=UM (t := "int") rfl (by decide) rfl
theorem uW{K:aa}:SG K [.int i,.ty "list"] q=q (.bl false):=UM (t := "int") rfl (by decide) rfl
theorem uX{K:aa}:SG K [.bl i,.ty "bool"] q=q (.bl true):=UM (t := "bool") rfl (by decide) rfl
theorem uY{K:aa}:SG K [.bl i,.ty "int"] q=q (.bl true):=UM (t := "bool") rfl (by decide) rfl
theorem uZ{K:aa}:SG K [.str i,.ty "str"] q=q (.bl true):=UM (t := "str") rfl (by decide) rfl
theorem td{K:aa}:SG K [.str i,.ty "int"] q=q (.bl false):=UM (t := "str") rfl (by decide) rfl
theorem tj{K:aa}:SG K [.str i,.ty "tuple"] q=q (.bl false):=UM (t := "str") rfl (by decide) rfl
theorem tq{K:aa}:SG K [.tup i,.ty "tuple"] q=q (.bl true):=UM (t := "tuple") rfl (by decide) rfl
theorem tx{K:aa}:SG K [.tup i,.ty "int"] q=q (.bl false):=UM (t := "tuple") rfl (by decide) rfl
theorem tB{K:aa}:SG K [.tup i,.ty "str"] q=q (.bl false):=UM (t := "tuple") rfl (by decide) rfl
theorem tD{K:aa}:SG K [.lst i,.ty "list"] q=q (.bl true):=UM (t := "list") rfl (by decide) rfl
theorem tE{K:aa}:SG K [.lst i,.ty "tuple"] q=q (.bl false):=UM (t := "list") rfl (by decide) rfl
theorem tG{K:aa}:SG K [.lst i,.tup [.ty "list",.ty "tuple"]] q=q (.bl true):=by
 show(∃ as b,tys _=some as/\_)=_
 refine propext ⟨?_,λh=>⟨_,true,rfl,by with_unfolding_all rfl,h⟩⟩
 rintro⟨as,b,e,k,h⟩
 cases e
 have:kitAny K (.type "list") (["list", "tuple"].map Value.type)=some true:=by with_unfolding_all rfl
 rw[this]at k
 cases k
 exact h
theorem tH{K:aa}:SG K [.tup i,.tup [.ty "list",.ty "tuple"]] q=q (.bl true):=by
 show(∃ as b,tys _=some as/\_)=_
 refine propext ⟨?_,λh=>⟨_,true,rfl,by with_unfolding_all rfl,h⟩⟩
 rintro⟨as,b,e,k,h⟩
 cases e
 have:kitAny K (.type "tuple") (["list", "tuple"].map Value.type)=some true:=by with_unfolding_all rfl
 rw[this]at k
 cases k
 exact h
theorem pW:D.tru .non k=k false:=rfl
theorem pX:D.tru (.bl b) k=k b:=rfl
theorem pY:D.tru (.int i) k=k (i != 0):=rfl
theorem pZ:D.tru (.str y) k=(y.length<=az/\k ((y.length:Int) != 0)):=rfl
theorem og:D.tru (.lst xs) k=k (!xs.isEmpty):=rfl
theorem oh:D.tru (.tup xs) k=k (!xs.isEmpty):=rfl
theorem oi:D.UJ .non=true:=rfl
theorem om:D.UJ (.int i)=false:=rfl
theorem oo:D.UJ (.bl i)=false:=rfl
theorem oq:D.UJ (.str i)=false:=rfl
theorem ot:D.UJ (.tup i)=false:=rfl
theorem ou:D.UJ (.lst i)=false:=rfl
theorem ox:D.UJ (.obj C i)=false:=rfl
theorem oy:D.UJ (.exc C)=false:=rfl
theorem tI:Ni i (no_index (@OfNat.ofNat Int n instOfNat))=i%(@OfNat.ofNat Int n instOfNat):=by
 unfold Ni
 rw[if_pos]
 exact Int.natCast_nonneg n
theorem tJ:Nh i (no_index (@OfNat.ofNat Int n instOfNat))=i/(@OfNat.ofNat Int n instOfNat):=by
 unfold Nh
 rw[if_pos]
 exact Int.natCast_nonneg n
theorem XQ(h:0<j):Ni i j=i%j:=by unfold Ni;rw[if_pos (by omega)]
end
theorem tK(I:Nat->DSt->Prop)(h0:I 0 ds)
  (hs:∀ i x ds N,xs[i]?=some x->I i ds->(∀ ds',I (i+1) ds'->N ds')->g x ds λds'=>b ds' { e with nx:=N,ct:=N,bk:=e.nx })
  (he:∀ ds,I xs.length ds->e.nx ds):SH g b e xs ds:=by
 have key:∀ (k:Nat) (ys:List D) (i:Nat) (ds:DSt),ys.length=k->xs.drop i=ys->i<=xs.length->I i ds->SH g b e ys ds:=by
  intro k
  induction k with
  | zero =>
   intro ys i ds hl hd hi h
   have:ys=[]:=List.eq_nil_of_length_eq_zero hl
   subst this
   have:i=xs.length:=by have:=List.drop_eq_nil_iff.mp hd;omega
   subst this
   exact he ds h
  | succ k ih =>
   intro ys i ds hl hd hi h
   cases ys with
   | nil=>cases hl
   | cons y ys =>
    have hi2:i<xs.length:=by
     rcases Nat.lt_or_ge i xs.length with z|z
     ·exact z
     ·rw[List.drop_eq_nil_of_le z]at hd;cases hd
    rw[drop_eq_getElem_cons hi2]at hd
    cases hd
    unfold SH
    exact hs i _ ds _ (aA hi2) h λds' h'=>ih _ (i+1) ds' (by simp at hl⊢;omega) rfl hi2 h'
 exact key xs.length xs 0 ds rfl rfl (Nat.zero_le _) h0
theorem VG{xs:List α}{ds:DSt}(I:Nat->DSt->Prop)(h0:I 0 ds)
  (hs:∀ i x ds N,xs[i]?=some x->I i ds->(∀ ds',I (i+1) ds'->N ds')->g (c x) ds λds'=>b ds' { e with nx:=N,ct:=N,bk:=e.nx })
  (he:∀ ds,I xs.length ds->e.nx ds):SH g b e (xs.map c) ds:=by
 refine tK I h0 (λi x ds N hx hi hn=>?_) (by rw[length_map];exact he)
 rw[getElem?_map]at hx
 cases q:xs[i]? with
 | none=>rw[q]at hx;cases hx
 | some y=>rw[q]at hx;cases hx;exact hs i y ds N q hi hn
theorem SZ{lo:Int}{ds:DSt}(I:Nat->DSt->Prop)(h0:I 0 ds)
  (hs:∀ i ds N,i<n->I i ds->(∀ ds',I (i+1) ds'->N ds')->g (.int (lo+i)) ds λds'=>b ds' { e with nx:=N,ct:=N,bk:=e.nx })
  (he:∀ ds,I n ds->e.nx ds):SH g b e (intsFrom lo n) ds:=by
 refine VG (xs:=List.range n) I h0 (λi x ds N hx hi hn=>?_) (by rw[length_range];exact he)
 obtain⟨h1,h2⟩:=List.getElem?_eq_some_iff.mp hx
 rw[length_range]at h1
 rw[List.getElem_range]at h2
 subst h2
 exact hs i ds N h1 hi hn
theorem KU{xs:List α}{ds:DSt}{acc:List D}(C:DSt->Prop)(p:α->Bool)(h:α->D)(h0:C ds)
  (hs:∀ x∈xs,∀ ds (N0:DSt->Prop) (N1:DSt->D->Prop),C ds->(p x=false->∀ ds',C ds'->N0 ds')->(p x=true->∀ ds',C ds'->N1 ds' (h x))->g (c x) ds λds1=>f ds1 (λb=>if b=true then e ds1 (λy=>N1 ds1 y) (λ_=>False) else N0 ds1) (λ_=>False))
  (hl:acc.length+xs.length<=az)(hq:q (acc++(xs.filter p).map h)):VF g f e q (xs.map c) ds acc:=by
 induction xs generalizing ds acc with
 | nil =>
  unfold VF
  simpa using hq
 | cons x xs ih =>
  rw[map_cons]
  unfold VF
  refine hs x (mem_cons_self ..) ds _ (λds1 y=>acc.length<az/\VF g f e q (xs.map c) ds1 (acc++[y])) h0 (λhp ds' h'=>?_) (λhp ds' h'=>?_)
  ·refine ih h' (λy hy=>hs y (mem_cons_of_mem _ hy)) (by simp at hl⊢;omega) ?_
   rw[filter_cons,hp]at hq
   exact hq
  ·refine⟨by simp at hl;omega,ih h' (λy hy=>hs y (mem_cons_of_mem _ hy)) (by simp at hl⊢;omega) ?_⟩
   rw[filter_cons,hp,if_pos rfl,map_cons]at hq
   simpa using hq
theorem KW(xs:List α):xs.filter (λ_=>true)=xs:=filter_eq_self.mpr λ_ _=>rfl
theorem Yu{xs:List α}{caps:DSt}(h:α->D)(hl:xs.length<=az)
  (hs:∀ x∈xs,∀ N:D->Prop,N (h x)->e (.v (c x)::caps) N (λ_=>False))(hq:q (xs.map h)):VF (Xu 0) CU e q (xs.map c) (s::caps) []:=by
 refine KU (λds=>∃ s,ds=s::caps) (λ_=>true) h ⟨s,rfl⟩ (λx hx ds N0 N1 hc _ h1=>?_) (by simpa using hl) (by rw[KW];exact hq)
 obtain⟨s,rfl⟩:=hc
 have z:=hs x hx (λy=>N1 (.v (c x)::caps) y) (h1 rfl _ ⟨_,rfl⟩)
 show(if true=true then e (.v (c x)::caps) (λy=>N1 (.v (c x)::caps) y) (λ_=>False) else N0 (.v (c x)::caps))
 rw[if_pos rfl]
 exact z
theorem VZ{xs:List α}{s:Slot}{caps:DSt}(p:α->Bool)(h:α->D)(hl:xs.length<=az)
  (hf:∀ x∈xs,∀ N:Bool->Prop,N (p x)->f (.v (c x)::caps) N (λ_=>False))
  (hs:∀ x∈xs,p x=true->∀ N:D->Prop,N (h x)->e (.v (c x)::caps) N (λ_=>False))(hq:q ((xs.filter p).map h)):VF (Xu 0) f e q (xs.map c) (s::caps) []:=by
 refine KU (λds=>∃ s,ds=s::caps) p h ⟨s,rfl⟩ (λx hx ds N0 N1 hc h0 h1=>?_) (by simpa using hl) (by simpa using hq)
 obtain⟨s,rfl⟩:=hc
 refine hf x hx _ ?_
 cases hp:p x with
 | true=>rw[if_pos rfl];exact hs x hx hp _ (h1 hp _ ⟨_,rfl⟩)
 | false=>rw[if_neg aC];exact h0 hp _ ⟨_,rfl⟩
theorem EB{c c':α->D}{xs:List α}{s s':Slot}{caps:DSt}(p:α->Bool)(h:α->D)(hl:xs.length<=az)
  (hf:∀ x∈xs,∀ N:Bool->Prop,N (p x)->f (.v (c x) :: .v (c' x)::caps) N (λ_=>False))
  (hs:∀ x∈xs,p x=true->∀ N:D->Prop,N (h x)->e (.v (c x) :: .v (c' x)::caps) N (λ_=>False))(hq:q ((xs.filter p).map h)) :
  VF (AR 2 (Mq (Xu 0) (Mq (Xu 1) AQ))) f e q (xs.map λx => .tup [c x,c' x]) (s::s'::caps) []:=by
 refine KU (c:=λx => .tup [c x,c' x]) (λds=>∃ s s',ds=s::s'::caps) p h ⟨s,s',rfl⟩ (λx hx ds N0 N1 hc h0 h1=>?_) (by simpa using hl) (by simpa using hq)
 obtain⟨s,s',rfl⟩:=hc
 refine hf x hx _ ?_
 cases hp:p x with
 | true=>rw[if_pos rfl];exact hs x hx hp _ (h1 hp _ ⟨_,_,rfl⟩)
 | false=>rw[if_neg aC];exact h0 hp _ ⟨_,_,rfl⟩
theorem yG{c c':α->D}{xs:List α}{s s':Slot}{caps:DSt}(h:α->D)(hl:xs.length<=az)
  (hs:∀ x∈xs,∀ N:D->Prop,N (h x)->e (.v (c x) :: .v (c' x)::caps) N (λ_=>False))(hq:q (xs.map h)) :
  VF (AR 2 (Mq (Xu 0) (Mq (Xu 1) AQ))) CU e q (xs.map λx => .tup [c x,c' x]) (s::s'::caps) [] :=
 EB (λ_=>true) h hl (λ_ _ _ hn=>hn) (λx hx _=>hs x hx) (by rw[KW];exact hq)
abbrev TP2:=Str->St->Hp->(Str->Hp->Prop)->Prop
noncomputable def PP(X:Cx)(n:Nat)(es:List Expr)(t:TP2):Prop :=
 ∀ (acc:Str) (pins:List (Addr×Obj)) (s:Shared) (σ:St) (H:Hp) (Q:Str->Hp->Prop),acc.length+n<=az->Inv X pins σ H s->t acc σ H Q ->
  wpAny (model X.prog X.w) X.A (joinParts acc (evalEach es X.env)) (EP X pins σ λv H'=>∃ z,v = .str z/\Q z H') X.xe s
noncomputable def D.fmt:D->(Str->Prop)->Prop
 | .str y,q=>y.length<=100000/\q y
 | .int i,q=>i.natAbs.log2<1920/\(toString i:Str).length<=100000/\q (toString i)
 | _,_=>False
noncomputable def vFmt(K:aa)(v:V)(q:Str->Prop):Prop:=(∃ y:Str,v = .str y/\y.length<=100000/\q y)\/(∃ i:Int,v = .int i/\i.natAbs.log2<1920/\(toString i:Str).length<=100000/\q (toString i))
section
theorem ji:PP X 0 [] λacc σ H Q=>Q acc H:=λacc pins s σ H Q hn I h=>joinParts_nil ⟨.str acc,H,I.tok _,⟨_,rfl⟩,acc,rfl,h⟩ (by omega)
theorem oz(hr:PP X n es t)(hx:x.length<=100000):PP X (n+100000) (.Constant (.str x) j pos::es) λacc σ H Q=>t (acc++x) σ H Q :=
 λacc pins s σ H Q hn I h=>by
  have e:=strLen_append acc x
  exact joinParts_cons (Calls.Constant_str ⟨by omega,hr _ _ _ _ _ _ (by omega) (I.tok _) h⟩)
theorem jj(he:PE X e te)(hr:PP X n es t):PP X (n+100000) (.FormattedValue e (-1) none pos::es) λacc σ H Q=>te σ H λv H1=>vFmt X.K v λy=>t (acc++y) σ H1 Q :=
 λacc pins s σ H Q hn I h=>by
  refine joinParts_cons (FormattedValue_plain (thn (he pins s σ H _ I h) λu s1 zq=>?_))
  obtain⟨v,H1,I1,r1,q1⟩:=zq
  rcases q1 with⟨y,rfl,hy,q⟩|⟨i,rfl,hi,hy,q⟩
  ·obtain⟨tk,rfl⟩:=r1
   have e:=strLen_append acc y
   exact formatField_str (λt' tk=>⟨by omega,hr _ _ _ _ _ _ (by omega) (I1.tok _) q⟩) (by omega)
  ·obtain⟨tk,rfl⟩:=r1
   have e:=strLen_append acc (toString i)
   exact formatField_int_small hi ⟨by omega,hr _ _ _ _ _ _ (by omega) (I1.tok _) q⟩
theorem oA(hr:PP X n (a::b::es) t)(hn:n<=az):PE X (.JoinedStr (a::b::es) pos) λσ H Q=>t Str.empty σ H λz H'=>Q (.str z) H' :=
 λpins s σ H Q I h=>JoinedStr_many (thn (hr Str.empty pins s σ H _ (by rw[show Str.empty.length=0 from rfl];omega) I h) λu s1 ⟨v,H1,I1,r1,z,e,q⟩=>⟨v,H1,I1,r1,by rw[e];exact q⟩)
abbrev DP:=Str->DSt->(Str->Prop)->(Addr->Prop)->Prop
noncomputable def DenP(K:aa)(XE:St->XK)(te:TP2)(de:DP):Prop:=∀ {acc:Str}{B0 B H0 H:Hp}{σ:St}{ds:DSt}{q:Str->Prop}{x:Addr->Prop}{Q:Str->Hp->Prop},Cfg K B0 B H0 H σ ds->de acc ds q x->(∀ z H0' H',Ext H0 H H0' H'->q z->Q z H')->KX XE σ H x->te acc σ H Q
structure JP (X:Cx)(XE:St->XK)(n:Nat)(es:List Expr)(de:DP):Prop where
 ex:∃ te,PP X n es te/\DenP X.K XE te de
noncomputable def mq:DP:=λacc _ q _=>q acc
noncomputable def tL(x:Str)(dr:DP):DP:=λacc ds q y=>dr (acc++x) ds q y
noncomputable def mr(de:DE)(dr:DP):DP:=λacc ds q x=>de ds (λd=>d.fmt λy=>dr (acc++y) ds q x) x
noncomputable def mw(dr:DP):DE:=λds q x=>dr Str.empty ds (λz=>q (.str z)) x
theorem Gs:JP X XE 0 [] mq:=⟨_,ji,λc h k _=>k _ _ _ (.refl c.sub) h⟩
theorem Ra(hr:JP X XE n es dr)(hx:autoParam (x.length<=100000) auD):JP X XE (n+100000) (.Constant (.str x) j pos::es) (tL x dr):=by
 obtain⟨t,p,d⟩:=hr.ex
 exact⟨_,oz p hx,λc h k kx=>d c h k kx⟩
theorem Gu(he:JE X XE e de)(hr:JP X XE n es dr):JP X XE (n+100000) (.FormattedValue e (-1) none pos::es) (mr de dr):=by
 obtain⟨te,p1,d1⟩:=he.ex
 obtain⟨t,p,d⟩:=hr.ex
 refine⟨_,jj p1 p,λ{acc _ _ _ _ σ ds q x Q} c h k kx=>d1 c h (λv a H1 H2 e r h=>?_) kx⟩
 have go:∀ {y:Str},dr (acc++y) ds q x->t (acc++y) σ H2 Q:=λh=>d (c.go e) h (λz H0' H' e' hq=>k z _ _ (e.trans e') hq) (kx.go e.s)
 cases a with
 | str y=>rw[show v = .str y from r];exact .inl ⟨y,rfl,h.1,go h.2⟩
 | int i=>rw[show v = .int i from r];exact .inr ⟨i,rfl,h.1,h.2.1,go h.2.2⟩
 | _=>exact h.elim
theorem Kn(hr:JP X XE n (a::b::es) dr)(hn:autoParam (n<=az) auD):JE X XE (.JoinedStr (a::b::es) pos) (mw dr):=by
 obtain⟨t,p,d⟩:=hr.ex
 exact⟨_,oA p hn,λc h k kx=>d c h (λz H0' H' e hq=>k (.str z) (.str z) _ _ e rfl hq) kx⟩
end
theorem tM(h:SA k v=true):v.scannable=true:=by
 rcases Yt h with⟨i,t,rfl,rfl⟩|⟨x,t,rfl,rfl⟩<;>rfl
instance lawKey:LawfulBEq Key where
 eq_of_beq {a b} h:=by
  cases a<;>cases b
  ·exact congrArg _ (eq_of_beq h)
  ·cases h
  ·cases h
  ·exact congrArg _ (eq_of_beq h)
 rfl {a}:=by
  cases a with
  | inl i=>exact(beq_self_eq_true i:(i==i)=true)
  | inr i=>exact(beq_self_eq_true i:(i==i)=true)
instance memKey (k:Key) (a:List Key):Decidable (k∈a):=@List.instDecidableMemOfLawfulBEq Key instBEqOfDecidableEq inferInstance k a
noncomputable def VP(a:List Key)(k:Key):List Key:=if k∈a then a else a++[k]
noncomputable def dedup(ks:List Key):List Key:=ks.foldl VP []
theorem KY(ks:List Key)(k:Key):dedup (ks++[k])=VP (dedup ks) k:=by unfold dedup;rw[List.foldl_append];rfl
theorem Bc(a:List Key)(k j:Key):j∈VP a k↔j∈a\/j=k:=by
 unfold VP
 split
 ·rename_i h
  exact⟨.inl,λz=>z.elim id λe=>e ▸ h⟩
 ·simp
theorem KZ(a:List Key)(k:Key):(VP a k).length=if k∈a then a.length else a.length+1:=by
 unfold VP
 split<;>simp
theorem Ja(ks:List Key):(dedup ks).length<=ks.length:=by
 have go:∀ (ks a:List Key),(ks.foldl VP a).length<=a.length+ks.length:=by
  intro ks
  induction ks with
  | nil=>intro a;exact Nat.le_refl _
  | cons k ks ih =>
   intro a
   rw[foldl_cons]
   have h1:=ih (VP a k)
   have h2:=KZ a k
   rw[length_cons]
   split at h2<;>omega
 have:=go ks []
 simpa [dedup] using this
section
theorem SetOf.eq'{h:Heap}(z:h.SetOf (Yq P w) a S n)(e:∀ k,S k=S' k)(m:n=n'):h.SetOf (Yq P w) a S' n':=by
 rw[<-m,<-(funext e:S=S')]
 exact z
theorem tN{A:Around}{G:Array GenState->Array GenState->Prop}{ks:List Key}{Pv:Nat->Value->Prop}{St:Nat->Shared->Prop}
  (W:WalksS P w A.in1 I fp wr G ks.length Pv St)(out:Z∉fp)(hv:∀ i v,Pv i v->∃ k,ks[i]?=some k/\SA k v=true)(hb:ks.length+1<scanBound) :
  ∀ (m i:Nat) (s:Shared),i+m=ks.length->St i s->s.heap.SetOf (Yq P w) Z (λk=>decide (k∈dedup (ks.take i))) (dedup (ks.take i)).length ->
   (∀ s',Moved (Z::wr) G s s'->s'.heap.SetOf (Yq P w) Z (λk=>decide (k∈dedup ks)) (dedup ks).length->R (.ok (.ret .none)) s') ->
   codeAny (model P w) A (.builtin "set.update.loop" ⟨[.ref Z,.ref I],[]⟩) R s:=by
 have outw:Z∉wr:=λh=>out (W.sub _ h)
 intro m
 induction m with
 | zero =>
  intro i s hi st hS k
  have ei:i=ks.length:=by omega
  subst ei
  rw[take_length]at hS
  refine codeAny_builtin F.entry_set_update_loop ?_
  rw[Around.under_plainId F.plain_set_update_loop _]
  refine aj (m:=pyNext (.ref I)) (W.done s _ _ st λs' mv=>ak (k s' (mv.mono λb h=>mem_cons_of_mem _ h) ?_))
  obtain⟨o,es,ep,t,ho,r⟩:=hS
  exact⟨o,es,ep,t,mv.heap Z _ outw ho,r⟩
 | succ m ih =>
  intro i s hi st hS k
  have lt:i<ks.length:=by omega
  refine codeAny_builtin F.entry_set_update_loop ?_
  rw[Around.under_plainId F.plain_set_update_loop _]
  refine aj (m:=pyNext (.ref I)) (W.item i s _ _ lt st λv s' pv st' mv=>?_)
  obtain⟨c,hc,hcv⟩:=hv i v pv
  have hS':s'.heap.SetOf (Yq P w) Z (λk=>decide (k∈dedup (ks.take i))) (dedup (ks.take i)).length:=by
   obtain⟨o,es,ep,t,ho,r⟩:=hS
   exact⟨o,es,ep,t,mv.heap Z _ outw ho,r⟩
  have et:ks.take (i+1)=ks.take i++[c]:=by rw[take_add_one,hc];rfl
  have room:(dedup (ks.take i)).length+1<scanBound:=by
   have:=Ja (ks.take i)
   rw[length_take]at this
   omega
  refine aj (m:=holding [v] (setAdd Z v)) (wpAny_holding ?_)
  unfold setAdd
  refine wpAny_holding (aj ((Yq P w).pyHash (k:=c) hcv (wpAny_setAddHashed_of (knd:=Yq P w) (s:={ s' with toks:=s'.toks+1 }) hcv (tM hcv) hS' room λh' sb hS2=>?_)))
  have hS3:h'.SetOf (Yq P w) Z (λk=>decide (k∈dedup (ks.take (i+1)))) (dedup (ks.take (i+1))).length:=by
   refine SetOf.eq' hS2 (λj=>?_) ?_
   ·rw[et,KY]
    simp[Bc]
   ·rw[et,KY,KZ]
    simp
  refine ak ⟨plainId_quiet F.plain_set_update_loop _,ih (i+1) _ (by omega) (W.frame _ s' _ _ st' (Nat.le_succ _) λb hb o e=>?_) hS3 λs'' mv' hS4=>k s'' (Moved.trans W.gtrans ((mv.mono λb h=>mem_cons_of_mem _ h).then_heap (Nat.le_succ _) λb o nb e=>?_) mv') hS4⟩
  ·exact(sb.2 b (λy=>out (y ▸ hb))).trans e
  ·exact(sb.2 b (λy=>nb (y ▸ mem_cons_self))).trans e
noncomputable def Qv(led:Bool):Obj:={ cls := .type "set",dict:=none,data := .set #[] 0 (.fresh 0 0 led) }
theorem tP{A:Around}{us:Array Value}{ks:List Key}{Q:Value->Shared->Prop}(hh:A.handled=none)(hl:s.heap.IsList l us)(en:us.size=ks.length)
  (hk:∀ (i:Nat) v,us[i]?=some v->∃ k,ks[i]?=some k/\SA k v=true)(hb:ks.length+1<scanBound)
  (h:∀ (h':Heap) (tk:Nat),h'.SetOf (Yq P w) s.heap.objs.size (λk=>decide (k∈dedup ks)) (dedup ks).length->(∀ b o,s.heap.get? b=some o->h'.get? b=some o)->Q (.ref s.heap.objs.size) { s with heap:=h',toks:=tk }) :
  wpAny (model P w) A (call (.type "set") [.ref l]) Q E s:=by
 obtain⟨cc,tl,hmro⟩:=PySem.F.called_set.mro
 have made:=PySem.F.called_set.made
 have sub:=PySem.F.called_set.sub
 have h1:=PySem.F.called_set.notType
 have h2:=PySem.F.called_set.canCreate
 have ct:=PySem.F.typeCall_set_1 (.ref l)
 refine wpAny_call (codeAny_of_tree (show wpAny _ _ (callAny (.type "set") _) _ _ _ from ak ⟨Code.quiet_builtin _ (by decide +kernel),codeAny_builtin PySem.F.entry_type_call ?_⟩))
 rw[Around.under_plain (weight_type_call_type "set" [.ref l] []) rfl]
 repeat (any_goals (first | assumption | wp_step))
 refine codeAny_mono (PySem.code_set_new_1 (.ref l) (E:=E) (Q₁:=λob s1=>∃ led:Bool,ob = .ref s.heap.objs.size/\s1={ s with heap:=s.heap.push (Qv led) }) λled=>⟨led,rfl,rfl⟩) λr s1 hr=>?_
 rcases r with e|fl
 ·exact hr
 cases fl with
 | ret ob =>
  obtain⟨led,rfl,rfl⟩:=hr
  have at0:(s.heap.push (Qv led)).get? s.heap.objs.size=some (Qv led):=aq _ rfl
  have ty:Shared.TypeIs { s with heap:=s.heap.push (Qv led) } (.ref s.heap.objs.size) "set" := ⟨_,at0,rfl⟩
  have look:=PySem.F.called_set.init.lookup
  have bnd:=PySem.F.called_set.init.bind (.ref s.heap.objs.size)
  repeat (any_goals (first | assumption | wp_step))
  refine codeAny_mono (codeAny_call_builtin (R:=wants (λr s2=>r = .none/\Q (.ref s.heap.objs.size) s2) E) PySem.F.called_set.init.plain PySem.F.entry_set_init (PySem.check_set_init_1 ty ?_)) λr2 s2 hr2=>?_
  ·obtain⟨⟨c0,d0,x0,sl0⟩,hol,hcl,nl,hdl⟩:=id hl
   simp only at hcl hdl
   subst hcl
   subst hdl
   have hol':(s.heap.push (Qv led)).get? l=some { cls := .type "list",dict:=d0,data := .seq us nl,slots:=sl0 }:=ao _ hol
   have l1:(s.heap.push (Qv led)).IsList l us:=⟨_,hol',rfl,nl,rfl⟩
   have n1:=PySem.F.sub_list_set
   have n2:=PySem.F.sub_list_frozenset
   have n3:(Value.type "list" == Value.type "dict")=false:=by decide
   have lts:l<s.heap.objs.size:=au hol
   unfold Builtin.«set.__init__» noKeywords Builtin.Frozenset.updateFrom
   generalize gi:pyIter=PI
   wp_walk
   subst gi
   refine wpAny_pyIter_list l1 (aj (wpAny_runValue ?_))
   have ne1:l≠(s.heap.push (Qv led)).objs.size:=by rw[Heap.size_push];exact Nat.ne_of_lt (Nat.lt_succ_of_lt lts)
   have out:s.heap.objs.size∉[(s.heap.push (Qv led)).objs.size,l]:=by
    rw[Heap.size_push]
    intro z
    rcases mem_cons.mp z with z|z
    ·exact absurd z (Nat.ne_of_lt (Nat.lt_succ_self _))
    ·exact absurd (mem_singleton.mp z) (Nat.ne_of_gt lts)
   have at1:((s.heap.push (Qv led)).push { cls := .type "list_iterator",data := .fields #[.ref l,.int 0 0] }).get? s.heap.objs.size=some (Qv led):=ao _ at0
   have W:=(Walks.list (prog:=P) (w:=w) (A:=A.in1.in1.in1) (by simp[hh]) (s.heap.push (Qv led)).objs.size l ne1 us).toS
   rw[en]at W
   refine tN W out hk hb ks.length 0 _ (by omega) ⟨⟨_,aq _ rfl,rfl,rfl⟩,l1.push _⟩ (SetOf.eq' ((setObjOf_fresh (knd:=Yq P w) led).setOf at1 (by unfold scanBound;omega)) (λ_=>rfl) rfl) λs' mv hS=>?_
   obtain⟨h',g',dr',tk',os'⟩:=s'
   have e1:g'=s.gens:=mv.gens
   have e2:dr'=s.drawn:=mv.drawn
   have e3:os'=s.os:=mv.os
   subst e1
   subst e2
   subst e3
   refine ak (show wpAny _ _ (ret Value.none) _ _ _ from ak ⟨rfl,h h' tk' hS λb o e=>?_⟩)
   have lb:=au e
   refine mv.heap b o ?_ (ao _ (ao _ e))
   rw[Heap.size_push]
   intro z
   rcases mem_cons.mp z with z|z
   ·exact absurd z (Nat.ne_of_lt lb)
   ·exact absurd (mem_singleton.mp z) (Nat.ne_of_lt (Nat.lt_succ_of_lt lb))
  ·rcases r2 with e|f2
   ·exact hr2
   cases f2 with
   | ret r =>
    obtain⟨rfl,hq⟩:=hr2
    repeat (any_goals (first | assumption | wp_step))
   | _=>exact hr2.elim
 | _=>exact hr.elim
end
theorem Gv(hx:s.heap.get? a=some { cls := .type "list",data := .seq xs n })(hA:A.handled=none)
  (h:∀ h' tk,(∀ b o,s.heap.get? b=some o->h'.get? b=some o)->Q none { s with heap:=h',toks:=tk }):wpAny (model P w) A (getAttr? (.ref a) "keys") Q E s:=by
 have miss:typeLookup (.type "list") "keys" = pure none:=by rw[typeLookup_type,builtinLookup_eq_fast];kernel_rfl
 have nm:(["__module__", "__name__", "__qualname__", "__doc__", "__annotations__"]:List Str).contains "keys" = false:=by decide
 obtain⟨hp,g,d,tk,os⟩:=s
 have ty:∀ tk',(⟨hp,g,d,tk',os⟩:Shared).TypeIs (.ref a) "list" := λ_=>⟨_,hx,rfl⟩
 have f1:=sub_AttributeError
 have f3:=PySem.F.slot_list_getattribute.lookup
 have f4:=PySem.F.slot_list_getattribute.bind (.ref a)
 have f5:=am_list_getattr_none
 unfold getAttr? getAttrBy? getAttrBy
 repeat (any_goals (first | assumption | exact ty _ | ((with_reducible show wpAny _ _ (call (Value.builtin "list.__getattribute__") _ _) _ _ _);refine call_meets PySem.F.slot_list_getattribute (ty _) am_entry_list_getattribute (PySem.F.args_list_getattribute_2 _ _) (meets_getattribute_miss_list a xs n _ "keys" _ miss nm) ⟨hx,hA,λh' tk' e hn=>?_⟩) | wp_step))
 obtain⟨t',u',he⟩:=hn.there
 show wpAny _ _ (getattributeRaised _ _ _ _ _ _ _) _ _ _
 unfold getattributeRaised
 repeat (any_goals (first | assumption | wp_step))
 exact h _ _ hn.keeps
theorem Hy:entryFor table "dict.update.loop" = some Builtin.«dict.update.loop»:=entryFor_of_tree (by kernel_rfl)
theorem Pp:plainId "dict.update.loop" = true:=by decide +kernel
structure Pr where
 p:Addr
 k:Key
 kv:Value
 vv:Value
noncomputable def Pr.ok(h:Heap)(r:Pr):Prop:=IsTup h r.p #[r.kv,r.vv]/\SA r.k r.kv=true
noncomputable def putAll(xs:List Pr):List (Key×Value):=xs.foldl (λa r=>stored a r.k r.vv) []
theorem putAll_snoc(xs:List Pr)(r:Pr):putAll (xs++[r])=stored (putAll xs) r.k r.vv:=by unfold putAll;rw[List.foldl_append];rfl
theorem yH{K:Type}[DecidableEq K](kvs:List (K×Value))(k:K)(v:Value):(stored kvs k v).length<=kvs.length+1:=by
 unfold stored
 split<;>simp
theorem Hz(xs:List Pr):(putAll xs).length<=xs.length:=by
 have go:∀ (xs:List Pr) (a:List (Key×Value)),(xs.foldl (λa r=>stored a r.k r.vv) a).length<=a.length+xs.length:=by
  intro xs
  induction xs with
  | nil=>intro a;exact Nat.le_refl _
  | cons r xs ih =>
   intro a
   have h1:=ih (stored a r.k r.vv)
   have h2:=yH a r.k r.vv
   rw[foldl_cons,length_cons]
   omega
 have:=go xs []
 simpa [putAll] using this
section
theorem pair_items(h:IsTup s.heap p us)(q:Q us.toList s):wpAny (model P w) A (Builtin.Dict.pairItems (.ref p)) Q E s:=by
 obtain⟨o,ho,hc,n,hd⟩:=h
 have ty:s.TypeIs (.ref p) "tuple" := ⟨o,ho,hc⟩
 unfold Builtin.Dict.pairItems
 refine aj (wpAny_typeOf ty ?_)
 rw[if_pos (by decide)]
 unfold seqItems?
 refine aj (aj (wpAny_load ho ?_))
 rw[hd]
 exact ak (ak q)
theorem tQ{G:Array GenState->Array GenState->Prop}{xs:List Pr}{Pv:Nat->Value->Prop}{St:Nat->Shared->Prop}
  (W:WalksS P w A.in1 I fp wr G xs.length Pv St)(out:Z∉fp)(hv:∀ i v,Pv i v->∃ r,xs[i]?=some r/\v = .ref r.p)(hz:xs.length<=az)(away:∀ r∈xs,r.p∉Z::wr) :
  ∀ (m i:Nat) (t:Tok) (s:Shared),i+m=xs.length->St i s->(∀ r∈xs,r.ok s.heap)->s.heap.DictOf (Yq P w) Z (putAll (xs.take i)) ->
   (∀ s',Moved (Z::wr) G s s'->s'.heap.DictOf (Yq P w) Z (putAll xs)->R (.ok (.ret .none)) s') ->
   codeAny (model P w) A (.builtin "dict.update.loop" ⟨[.ref Z,.ref I,.int i t,.none],[]⟩) R s:=by
 have outw:Z∉wr:=λh=>out (W.sub _ h)
 intro m
 induction m with
 | zero =>
  intro i t s hi st ok hS k
  have ei:i=xs.length:=by omega
  subst ei
  rw[take_length]at hS
  refine codeAny_builtin Hy ?_
  rw[Around.under_plainId Pp _]
  refine aj (m:=pyNext (.ref I)) (W.done s _ _ st λs' mv=>?_)
  refine aj (m:=Builtin.Dict.addKeywords Z []) (ak (ak (k s' (mv.mono λb h=>mem_cons_of_mem _ h) ?_)))
  obtain⟨o,es,ep,ho,r⟩:=hS
  exact⟨o,es,ep,mv.heap Z _ outw ho,r⟩
 | succ m ih =>
  intro i t s hi st ok hS k
  have lt:i<xs.length:=by omega
  refine codeAny_builtin Hy ?_
  rw[Around.under_plainId Pp _]
  refine aj (m:=pyNext (.ref I)) (W.item i s _ _ lt st λv s' pv st' mv=>?_)
  obtain⟨r,hr,rfl⟩:=hv i v pv
  have rm:r∈xs:=mem_of_getElem? hr
  have ok':∀ r∈xs,r.ok s'.heap:=λr h=>by
   obtain⟨⟨o,ho,z⟩,y⟩:=ok r h
   exact⟨⟨o,mv.heap _ _ (λq=>away r h (mem_cons_of_mem _ q)) ho,z⟩,y⟩
  have hS':s'.heap.DictOf (Yq P w) Z (putAll (xs.take i)):=by
   obtain⟨o,es,ep,ho,r⟩:=hS
   exact⟨o,es,ep,mv.heap Z _ outw ho,r⟩
  have et:xs.take (i+1)=xs.take i++[r]:=by rw[take_add_one,hr];rfl
  have fits:(putAll (xs.take i)).length<=az:=by
   have:=Hz (xs.take i)
   rw[length_take]at this
   omega
  refine aj (wpAny_holding (aj (wpAny_tryCatch (pair_items (ok' r rm).1 (wpAny_holding ?_)))))
  unfold dictSet
  refine wpAny_holding (aj ((Yq P w).pyHash (k:=r.k) (ok' r rm).2 (wpAny_dictSetHashed_pairs (s:={ s' with toks:=s'.toks+1 }) (ok' r rm).2 hS' (λh' hS2 sb=>?_) fits)))
  rw[<-putAll_snoc,<-et]at hS2
  refine ak ⟨plainId_quiet Pp _,ih (i+1) _ _ (by omega) (W.frame _ s' _ _ st' (Nat.le_succ _) λb hb o e=>?_) (λr h=>?_) hS2 λs'' mv' hS4=>k s'' (Moved.trans W.gtrans ((mv.mono λb h=>mem_cons_of_mem _ h).then_heap (Nat.le_succ _) λb o nb e=>?_) mv') hS4⟩
  ·exact(sb.2 b (λy=>out (y ▸ hb))).trans e
  ·obtain⟨⟨o,ho,z⟩,y⟩:=ok' r h
   exact⟨⟨o,(sb.2 _ (λy=>away r h (y ▸ mem_cons_self))).trans ho,z⟩,y⟩
  ·exact(sb.2 b (λy=>nb (y ▸ mem_cons_self))).trans e
noncomputable def Gw:Obj:={ cls := .type "dict",data := .dict #[] }
theorem yI(hh:A.handled=none)(hl:s.heap.get? l=some { cls := .type "list",data := .seq us.toArray n })(en:us=xs.map λr => .ref r.p)
  (ok:∀ r∈xs,r.ok s.heap)(hz:xs.length<=az)
  (h:∀ (h':Heap) (tk:Nat),h'.DictOf (Yq P w) s.heap.objs.size (putAll xs)->(∀ b o,s.heap.get? b=some o->h'.get? b=some o)->Q (.ref s.heap.objs.size) { s with heap:=h',toks:=tk }) :
  wpAny (model P w) A (call (.type "dict") [.ref l]) Q E s:=by
 refine callType_codes (Q₁:=λob s1=>ob = .ref s.heap.objs.size/\s1={ s with heap:=s.heap.push Gw }) PySem.F.kt_called_dict (PySem.F.kt_typeCall_dict_1 _) PySem.F.entry_dict_init (kt_code_dict_new _ ⟨rfl,rfl⟩) ?_
 rintro ob s1 ⟨rfl,rfl⟩
 have new:(s.heap.push Gw).DictOf (Yq P w) s.heap.objs.size []:=Heap.DictOf.new s.heap
 have lts:l<s.heap.objs.size:=au hl
 have hl1:(s.heap.push Gw).get? l=some { cls := .type "list",data := .seq us.toArray n }:=ao _ hl
 have ty:Shared.TypeIs { s with heap:=s.heap.push Gw } (.ref l) "list" := ⟨_,hl1,rfl⟩
 refine⟨new.typeIs,PySem.F.args_dict_init_2 _ _,?_⟩
 unfold Builtin.«dict.__init__»
 refine aj ?_
 unfold Builtin.Dict.selfAndRest
 refine aj (wpAny_notOrdered_dict new.typeIs (show wpAny _ _ (pure (s.heap.objs.size,[Value.ref l])) _ _ _ from ak ?_))
 show wpAny _ _ (Builtin.Dict.updateFrom "dict.__init__" s.heap.objs.size (.ref l) [] .none) _ _ _
 unfold Builtin.Dict.updateFrom
 refine aj (wpAny_typeOf ty ?_)
 rw[if_pos (by decide)]
 refine aj (Gv hl1 (by simp[hh]) λh1 tk1 k1=>?_)
 have l1:h1.IsList l us.toArray:=⟨_,k1 _ _ hl1,rfl,n,rfl⟩
 have new1:h1.DictOf (Yq P w) s.heap.objs.size []:=by
  obtain⟨o,es,ep,ho,r⟩:=new
  exact⟨o,es,ep,k1 _ _ ho,r⟩
 have lt1:l<h1.objs.size:=au (k1 _ _ hl1)
 have ltn:s.heap.objs.size<h1.objs.size:=by
  obtain⟨o,es,ep,ho,r⟩:=new1
  exact au ho
 refine aj (wpAny_rule (aj (wpAny_pyIter_list l1 ?_)))
 have W:=(Walks.list (prog:=P) (w:=w) (A:=A.in1.in1) (by simp[hh]) h1.objs.size l (Nat.ne_of_lt lt1) us.toArray).toS
 have out:s.heap.objs.size∉[h1.objs.size,l]:=λz=>by
  rcases mem_cons.mp z with z|z
  ·exact absurd z (Nat.ne_of_lt ltn)
  ·exact absurd (mem_singleton.mp z) (Nat.ne_of_gt lts)
 have el:us.toArray.size=xs.length:=by rw[en];simp
 rw[el]at W
 have keep:∀ b o,s.heap.get? b=some o->h1.get? b=some o:=λb o e=>k1 _ _ (ao _ e)
 refine ak ⟨plainId_quiet Pp _,tQ W out (λi v hv=>?_) hz (λr hr z=>?_) xs.length 0 0 _ (by omega) ⟨⟨_,aq _ rfl,rfl,rfl⟩,l1.push _⟩ (λr hr=>?_) ?_ λs' mv hS=>?_⟩
 ·have hv:us.toArray[i]?=some v:=hv
  rw[en]at hv
  simp at hv
  obtain⟨r,h1,h2⟩:=hv
  exact⟨r,h1,h2.symm⟩
 ·obtain⟨⟨o,ho,_⟩,_⟩:=ok r hr
  have lb:=au ho
  rcases mem_cons.mp z with z|z
  ·exact absurd z (Nat.ne_of_lt lb)
  ·exact absurd (mem_singleton.mp z) (Nat.ne_of_lt (Nat.lt_trans lb ltn))
 ·obtain⟨⟨o,ho,z⟩,y⟩:=ok r hr
  exact⟨⟨o,ao _ (keep _ _ ho),z⟩,y⟩
 ·obtain⟨o,es,ep,ho,r⟩:=new1
  exact⟨o,es,ep,ao _ ho,r⟩
 ·obtain⟨h',g',dr',tk',os'⟩:=s'
  have e1:g'=s.gens:=mv.gens
  have e2:dr'=s.drawn:=mv.drawn
  have e3:os'=s.os:=mv.os
  subst e1
  subst e2
  subst e3
  refine⟨rfl,h h' tk' hS λb o e=>?_⟩
  have lb:=au e
  refine mv.heap b o (λz=>?_) (ao _ (keep _ _ e))
  rcases mem_cons.mp z with z|z
  ·exact absurd z (Nat.ne_of_lt lb)
  ·exact absurd (mem_singleton.mp z) (Nat.ne_of_lt (Nat.lt_trans lb ltn))
end
noncomputable def Jb(h:Heap)(a:Addr)(n:Nat):Prop:=∃ o es ep t,h.get? a=some o/\o.ExactSet/\o.data = .set es ep t/\t.fits es.size=true/\es.size=n
theorem yJ(z:Jb h a n):YC P w H h a (.ext λh=>Jb h a n):=by
 refine⟨z,?_,λh1 h2 z k=>?_⟩
 ·obtain⟨o,es,ep,t,ho,_⟩:=z
  exact⟨o,ho⟩
 ·obtain⟨o,es,ep,t,ho,r⟩:=z
  exact⟨o,es,ep,t,k _ ho,r⟩
theorem oB{ks:List Key}:∀ {us:List Value},Vals (ks.map kV) us->us.length=ks.length/\∀ (i:Nat) v,us[i]?=some v->∃ k,ks[i]?=some k/\SA k v=true:=by
 induction ks with
 | nil=>intro us r;cases r;exact⟨rfl,λi v h=>by simp at h⟩
 | cons k ks ih =>
  intro us r
  cases r with
  | @cons _ u _ us r1 r2 =>
   obtain⟨e,h⟩:=ih r2
   refine⟨by rw[length_cons,length_cons,e],λi v hv=>?_⟩
   cases i with
   | zero =>
    simp at hv
    subst hv
    refine⟨k,rfl,?_⟩
    cases k with
    | inl i=>obtain⟨t,rfl⟩:=r1;exact He i t
    | inr x=>obtain⟨t,rfl⟩:=r1;exact Hf x t
   | succ i=>exact h i v (by simpa using hv)
section
theorem yK{X:Cx}(hc:X.calm=true):Xz X (.type "set") (λxs H Q=>∃ p ks,xs=[.ref p]/\SqL X.K H p (ks.map kV)/\ks.length+1<scanBound/\∀ l,H l=none->Q (.ref l) (upd H l (.ext λh=>Jb h l (dedup ks).length))):=by
 intro pins s σ H xs us Q I r h
 obtain⟨p,ks,rfl,hq,hb,q⟩:=h
 obtain⟨u,rfl,rx⟩:=vals1 r
 cases rx
 obtain⟨its,r',pl,hz⟩:=I.list hq
 obtain⟨e,hk⟩:=oB r'
 refine tP (I.ok.hd hc) pl.isList (by simpa using e) (λi v hv=>hk i v (by simpa using hv)) hb λh' tk hS kp=>?_
 have z:Jb h' s.heap.objs.size (dedup ks).length:=by
  obtain⟨o,es,ep,t,ho,hex,hd,_,_,_,hf,hn⟩:=hS
  exact⟨o,es,ep,t,ho,hex,hd,hf,hn⟩
 exact⟨.ref s.heap.objs.size,_,I.laid (t':=tk) kp (Nat.le_refl _) (yJ z),rfl,q _ (I.hok.fresh (Nat.le_refl _))⟩
theorem EC:Xz X (.builtin "len") (λxs H Q=>∃ p n,xs=[.ref p]/\H p=some (.ext λh=>Jb h p n)/\(n:Int)<2^63/\Q (.int n) H):=by
 intro pins s σ H xs us Q I r h
 obtain⟨p,n,rfl,hq,hb,q⟩:=h
 obtain⟨u,rfl,rx⟩:=vals1 r
 cases rx
 obtain⟨z,_⟩:=I.hok p _ hq
 obtain⟨o,es,ep,t,ho,hex,hd,hf,hn⟩:=z
 exact call_len_set ho hex hd hf (by rw[hn];exact hb) ⟨.int n,H,I.tok _,⟨_,by rw[hn]⟩,q⟩
noncomputable def Gx(H:Hp):List Addr->List (Key×V)->Prop:=Paired λa kv=>H a=some (.tup [kV kv.1,kv.2])
theorem jk(ok:HOk P w H h):∀ {ps:List Addr}{kvs:List (Key×V)},Gx H ps kvs->∃ xs:List Pr,xs.map (·.p)=ps/\(∀ r∈xs,r.ok h)/\KV kvs (xs.map λr=>(r.k,r.vv)):=by
 intro ps kvs r
 induction r with
 | nil=>exact⟨[],rfl,λr h=>by simp at h,.nil⟩
 | @cons a kv ps kvs ha _ ih =>
  obtain⟨xs,h1,h2,h3⟩:=ih
  obtain⟨_,its,rv,ht⟩:=ok a _ ha
  obtain⟨u1,us,e1,r1,r2⟩:∃ u1 us,its=u1::us/\RelV (kV kv.1) u1/\Vals [kv.2] us:=by cases rv with | cons a b=>exact⟨_,_,rfl,a,b⟩
  obtain⟨u2,e2,r3⟩:=vals1 r2
  subst e1 e2
  have kk:SA kv.1 u1=true:=by
   cases q:kv.1 with
   | inl i=>rw[q]at r1;obtain⟨t,rfl⟩:=r1;exact He i t
   | inr x=>rw[q]at r1;obtain⟨t,rfl⟩:=r1;exact Hf x t
  refine⟨⟨a,kv.1,u1,u2⟩::xs,by rw[map_cons,h1],λr h=>?_,.cons ⟨rfl,r3⟩ h3⟩
  rcases mem_cons.mp h with rfl|h
  ·exact⟨ht,kk⟩
  ·exact h2 r h
theorem yL:∀ (xs:List Pr) {kvs:List (Key×V)},KV kvs (xs.map λr=>(r.k,r.vv))->KV (Ky [] kvs) (putAll xs):=by
 have go:∀ (xs:List Pr) {kvs acc:List (Key×V)}{va:List (Key×Value)},KV kvs (xs.map λr=>(r.k,r.vv))->KV acc va->KV (kvs.foldl (λacc kv=>putK acc kv.1 kv.2) acc) (xs.foldl (λa r=>stored a r.k r.vv) va):=by
  intro xs
  induction xs with
  | nil=>intro kvs acc va r ra;cases r;exact ra
  | cons x xs ih =>
   intro kvs acc va r ra
   rw[map_cons]at r
   cases r with
   | @cons kv _ kvs _ r1 r2 =>
    rw[foldl_cons,foldl_cons]
    refine ih r2 ?_
    rw[r1.1]
    exact ra.put _ r1.2
 exactλxs kvs r=>go xs r .nil
theorem Be(hc:X.calm=true):Xz X (.type "dict") (λxs H Q=>∃ p ps kvs,xs=[.ref p]/\H p=some (.lst (ps.map .ref))/\Gx H ps kvs/\∀ l,H l=none->Q (.ref l) (upd H l (.dK (Ky [] kvs)))):=by
 intro pins s σ H xs us Q I r h
 obtain⟨p,ps,kvs,rfl,hq,hp,q⟩:=h
 obtain⟨u,rfl,rx⟩:=vals1 r
 cases rx
 obtain⟨hz,its,n,rv,ho⟩:=I.hok p _ hq
 obtain⟨rs,e1,ok,rk⟩:=jk I.hok hp
 have el:rs.length=ps.length:=by rw[<-e1,length_map]
 rw[length_map]at hz
 refine yI (I.ok.hd hc) ho (xs:=rs) (by rw[Ml rv,<-e1,map_map];rfl) ok (by omega) λh' tk hd kp=>?_
 have rm:=yL rs rk
 refine⟨.ref s.heap.objs.size,_,I.laid (t':=tk) kp (Nat.le_refl _) (show YC X.prog X.w _ h' _ (.dK (Ky [] kvs)) from⟨?_,?_,_,rm,hd⟩),rfl,q _ (I.hok.fresh (Nat.le_refl _))⟩
 ·rw[rm.length]
  have:=Hz rs
  omega
 ·exact beq_false_of_ne (Nat.ne_of_gt I.big)
theorem yM(r:KV kvs vs):∀ {us:List Value},us.length=vs.length->(∀ (i:Nat) v,us[i]?=some v->∃ k x,vs[i]?=some (k,x)/\SA k v=true)->Vals (kvs.map λkv=>kV kv.1) us:=by
 induction r with
 | nil=>intro us e _;rw[length_nil,List.length_eq_zero_iff]at e;rw[e];exact .nil
 | @cons kv ku kvs vs r1 _ ih =>
  intro us e h
  cases us with
  | nil=>simp at e
  | cons u us =>
   refine .cons ?_ (ih (by simpa using e) λi v hv=>?_)
   ·obtain⟨k,x,h1,h2⟩:=h 0 u rfl
    simp at h1
    show RelV (kV kv.1) u
    rw[r1.1,h1]
    rcases Yt h2 with⟨i,t,rfl,rfl⟩|⟨y,t,rfl,rfl⟩
    ·exact⟨t,rfl⟩
    ·exact⟨t,rfl⟩
   ·obtain⟨k,x,h1,h2⟩:=h (i+1) v (by simpa using hv)
    exact⟨k,x,by simpa using h1,h2⟩
theorem Bf(hc:X.calm=true):Xz X (.type "list") (λxs H Q=>∃ p kvs,xs=[.ref p]/\H p=some (.dK kvs)/\∀ l,H l=none->Q (.ref l) (upd H l (.lst (kvs.map λkv=>kV kv.1)))):=by
 intro pins s σ H xs us Q I r h
 obtain⟨p,kvs,rfl,hq,q⟩:=h
 obtain⟨u,rfl,rx⟩:=vals1 r
 cases rx
 obtain⟨hz,lo,vs,rk,hd⟩:=I.hok p _ hq
 obtain⟨ep,hat⟩:=hd.dictAt
 refine PySem.W.kdl_call (PySem.W.kdl_dict (knd:=Yq X.prog X.w) (kvs:=vs) (ep:=ep) lo) (I.ok.hd hc) hat (by rw[<-rk.length];exact hz) λh' tk acc c kp e it=>?_
 refine⟨.ref s.heap.objs.size,_,I.laid (t':=tk) kp (Nat.le_refl _) (show YC X.prog X.w _ h' _ (.lst (kvs.map λkv=>kV kv.1)) from⟨by rw[length_map];exact hz,acc.toList,c,yM rk ?_ ?_,e⟩),rfl,q _ (I.hok.fresh (Nat.le_refl _))⟩
 ·rw[Array.length_toList];exact it.1
 ·exactλi v hv=>it.2 i v (by simpa using hv)
theorem oE:D.fmt (.str y) q=(y.length<=100000/\q y):=rfl
theorem oG:D.fmt (.int i) q=(i.natAbs.log2<1920/\(toString i:Str).length<=100000/\q (toString i)):=rfl
noncomputable def kD:Key->D
 | .inl i => .int i
 | .inr x => .str x
theorem rp_kD{K:aa}(k:Key):Rp K H (kD k) (kV k):=by cases k<;>rfl
theorem tR{K:aa}(r:Rp K H (kD k) v):v=kV k:=by
 cases k<;>exact r
theorem tS{K:aa}:∀ {ks:List Key}{vs:List V},Rps K H (ks.map kD) vs->vs=ks.map kV:=by
 intro ks
 induction ks with
 | nil=>intro vs r;exact r
 | cons k ks ih =>
  intro vs r
  obtain⟨v,us,rfl,r1,r2⟩:=r
  rw[tR r1,ih r2,map_cons]
noncomputable def zg(de:DE):DE:=λds q x=>de ds (λd=>∃ ks:List Key,d = .lst (ks.map kD)/\ks.length<4000/\q (.int (dedup ks).length)) x
theorem yN{X:Cx}(hg:Gl X "len")(hm:X.mg "len" = none)(hg':Gl X "set")(hm':X.mg "set" = none)(he:JE X XE e de)(hc:autoParam (X.calm=true) auR)
  (h1:autoParam (noStar e=true) auR)(hst:autoParam (ZO [e]=true) auR):JE X XE (.Call (.Name "len" p1) [.Call (.Name "set" p2) [e] [] pos2] [] pos1) (zg de):=by
 obtain⟨te,p,d⟩:=he.ex
 refine⟨_,pe_b EC hg hm PySem.boot_len (vN (nT (yK hc) hg' hm' PyProof.Rows.boot_set (vN p Kw h1) hst) Kw rfl) rfl,λc h k kx=>d c h (λv a H1 H2 e r h=>?_) kx⟩
 obtain⟨ks,rfl,hb,hq⟩:=h
 obtain⟨l,vs,rfl,h5,h6⟩:=r
 rw[tS h6]at h5
 refine⟨l,ks,rfl,SqL.of (e.sub _ _ h5),by unfold scanBound;omega,λn hn=>⟨n,_,rfl,Zx,?_,k _ (.int _) _ _ (e.trans (.grow e.sub (ZA.upd hn))) rfl hq⟩⟩
 have:=Ja ks
 omega
noncomputable def HA(kvs:List (Key×D))(k:Key)(d:D):List (Key×D):=if kvs.any (λkv=>decide (kv.1=k)) then kvs.map (λkv=>if kv.1=k then (kv.1,d) else kv) else kvs++[(k,d)]
noncomputable def Qw(kvs more:List (Key×D)):List (Key×D):=more.foldl (λacc kv=>HA acc kv.1 kv.2) kvs
theorem oH{K:aa}(k:Key):∀ {gs:List (Key×D)}{kvs:List (Key×V)},Rks K H gs kvs->(kvs.any λkv=>decide (kv.1=k))=gs.any λkv=>decide (kv.1=k):=by
 intro gs
 induction gs with
 | nil=>intro kvs r;rw[show kvs=[] from r];rfl
 | cons g gs ih =>
  intro kvs r
  obtain⟨v,us,rfl,_,r2⟩:=r
  rw[any_cons,any_cons,ih r2]
theorem oI{K:aa}(rd:Rp K H d v):∀ {gs:List (Key×D)}{kvs:List (Key×V)},Rks K H gs kvs->Rks K H (gs++[(k,d)]) (kvs++[(k,v)]):=by
 intro gs
 induction gs with
 | nil=>intro kvs r;rw[show kvs=[] from r];exact⟨v,[],rfl,rd,rfl⟩
 | cons g gs ih =>
  intro kvs r
  obtain⟨u,us,rfl,r1,r2⟩:=r
  exact⟨u,_,rfl,r1,ih r2⟩
theorem tT{K:aa}(rd:Rp K H d v):∀ {gs:List (Key×D)}{kvs:List (Key×V)},Rks K H gs kvs ->
  Rks K H (gs.map λkv=>if kv.1=k then (kv.1,d) else kv) (kvs.map λkv=>if kv.1=k then (kv.1,v) else kv):=by
 intro gs
 induction gs with
 | nil=>intro kvs r;rw[show kvs=[] from r];rfl
 | cons g gs ih =>
  intro kvs r
  obtain⟨u,us,rfl,r1,r2⟩:=r
  obtain⟨g1,g2⟩:=g
  rw[map_cons,map_cons]
  by_cases e:g1=k
  ·rw[if_pos e,if_pos e]
   exact⟨v,_,rfl,rd,ih r2⟩
  ·rw[if_neg e,if_neg e]
   exact⟨u,_,rfl,r1,ih r2⟩
theorem oJ{K:aa}{kvs:List (Key×V)}(r:Rks K H gs kvs)(rd:Rp K H d v):Rks K H (HA gs k d) (putK kvs k v):=by
 unfold HA putK
 rw[oH k r]
 split
 ·exact tT rd r
 ·exact oI rd r
theorem yO{K:aa}:∀ {more:List (Key×D)}{mv:List (Key×V)}{gs:List (Key×D)}{kvs:List (Key×V)},Rks K H more mv->Rks K H gs kvs->Rks K H (Qw gs more) (Ky kvs mv):=by
 intro more
 induction more with
 | nil=>intro mv gs kvs rm r;rw[show mv=[] from rm];exact r
 | cons m more ih =>
  intro mv gs kvs rm r
  obtain⟨v,us,rfl,r1,r2⟩:=rm
  show Rks K H (Qw (HA gs m.1 m.2) more) (Ky (putK kvs m.1 v) us)
  exact ih r2 (oJ r r1)
noncomputable def prD(kv:Key×D):D := .tup [kD kv.1,kv.2]
theorem oK{K:aa}(s:ZA H H'):∀ {kvs:List (Key×D)}{vs:List V},Rps K H (kvs.map prD) vs->∃ ps mv,vs=ps.map V.ref/\Gx H' ps mv/\Rks K H kvs mv:=by
 intro kvs
 induction kvs with
 | nil=>intro vs r;exact⟨[],[],r,.nil,rfl⟩
 | cons kv kvs ih =>
  intro vs r
  obtain⟨v,us,rfl,r1,r2⟩:=r
  obtain⟨ps,mv,rfl,h1,h2⟩:=ih r2
  obtain⟨a,ws,rfl,h3,h4⟩:=r1
  obtain⟨v1,v2,rfl,h5,h6⟩:=ue h4
  refine⟨a::ps,(kv.1,v2)::mv,rfl,.cons ?_ h1,v2,mv,rfl,h6,h2⟩
  rw[tR h5]at h3
  exact s _ _ h3
noncomputable def jm(xs:List D)(q:D->Prop):Prop:=∃ kvs:List (Key×D),xs=[.lst (kvs.map prD)]/\q (.dic (Qw [] kvs))
theorem jn{K:aa}(r:Rks K H gs kvs)(hp:H p=none):Rp K (upd H p (.dK kvs)) (.dic gs) (.ref p):=⟨p,kvs,rfl,Zx,r.same (ZA.upd hp)⟩
theorem oM{X:Cx}(hc:autoParam (X.calm=true) auR):SE X (.type "dict") jm:=by
 refine⟨_,Be hc,λ{H0 H vs xs q Q} s r h k=>?_⟩
 obtain⟨kvs,rfl,hq⟩:=h
 obtain⟨v,rfl,p,ws,rfl,h1,h2⟩:=VO r
 obtain⟨ps,mv,rfl,h3,h4⟩:=oK s h2
 exact⟨p,ps,mv,rfl,s _ _ h1,h3,λl hl=>k _ (.dic _) _ _ (.put s hl) (jn (yO h4 (show Rks X.K H0 [] [] from rfl)) (s.free hl)) hq⟩
noncomputable def jo(xs:List D)(q:D->Prop):Prop:=∃ kvs:List (Key×D),xs=[.dic kvs]/\q (.lst (kvs.map λkv=>kD kv.1))
theorem jq{K:aa}:∀ {gs:List (Key×D)}{kvs:List (Key×V)},Rks K H gs kvs->Rps K H (gs.map λkv=>kD kv.1) (kvs.map λkv=>kV kv.1):=by
 intro gs
 induction gs with
 | nil=>intro kvs r;rw[show kvs=[] from r];rfl
 | cons g gs ih =>
  intro kvs r
  obtain⟨u,us,rfl,r1,r2⟩:=r
  exact⟨_,_,rfl,rp_kD _,ih r2⟩
theorem tU(hc:autoParam (X.calm=true) auR):SE X (.type "list") jo:=by
 refine⟨_,Bf hc,λ{H0 H vs xs q Q} s r h k=>?_⟩
 obtain⟨kvs,rfl,hq⟩:=h
 obtain⟨v,rfl,p,ws,rfl,h1,h2⟩:=VO r
 exact⟨p,ws,rfl,s _ _ h1,λl hl=>k _ (.lst _) _ _ (.put s hl) (Vl (jq h2) (s.free hl)) hq⟩
noncomputable def D.fld(K:aa)(f:Str)(d:D)(q:D->Prop):Prop:=∃ C gs v,d = .obj C gs/\Cls K C/\Xt K C f/\gs.lookup f=some v/\q v
theorem D.Rb{K:aa}(c:Cls K C)(n:Xt K C f)(l:gs.lookup f=some v):D.fld K f (.obj C gs) q=q v:=by
 refine propext ⟨?_,λh=>⟨C,gs,v,rfl,c,n,l,h⟩⟩
 rintro⟨C',gs',v',e,_,_,l',h⟩
 cases e
 rw[l]at l'
 cases l'
 exact h
theorem jr{K:aa}:dFld K f de ds q x=de ds (λd=>d.fld K f q) x:=rfl
end
section
noncomputable def isS(a:Str):Value->Bool
 | .str z _=>z==a
 | _=>false
theorem yP{zs:List Str}:∀ {us:List Value},Vals (zs.map V.str) us->us.length=zs.length/\∀ i (h:i<zs.length),∃ t,us[i]?=some (.str zs[i] t):=by
 induction zs with
 | nil=>intro us r;cases r;exact⟨rfl,λi h=>absurd h (Nat.not_lt_zero _)⟩
 | cons z zs ih =>
  intro us r
  cases r with
  | cons r1 r2 =>
   obtain⟨t,rfl⟩:=r1
   obtain⟨e,h⟩:=ih r2
   refine⟨by rw[length_cons,length_cons,e],λi hi=>?_⟩
   cases i with
   | zero=>exact⟨t,rfl⟩
   | succ i=>exact h i (by simpa using hi)
theorem tV{X:Cx}:MtR X "list.index" (λx vs H Q=>∃ (l:Addr) (zs:List Str) (a:Str),x = .ref l/\vs=[.str a]/\SqL X.K H l (zs.map V.str)/\a∈zs/\Q (.int (zs.idxOf a:Nat)) H):=by
 intro pins s σ H x vs v us Q I rx rv h
 obtain⟨l,zs,a,rfl,rfl,hq,ha,q⟩:=h
 obtain⟨u,rfl,ru⟩:=vals1 rv
 cases rx
 obtain⟨tk,rfl⟩:=ru
 obtain⟨its,r',⟨o,n,e,hc,hd,hdat⟩,hz⟩:=I.list hq
 obtain⟨el,hs⟩:=yP r'
 obtain⟨c0,d0,x0,sl0⟩:=o
 simp only at hc hd hdat
 subst hc hd hdat
 have lt:=List.idxOf_lt_length_of_mem ha
 have hget:∀ i (h:i<its.toArray.size),∃ t,its.toArray[i] = .str (zs[i]'(by simp at h;omega)) t:=λi h=>by
  obtain⟨t,z⟩:=hs i (by simp at h;omega)
  refine⟨t,?_⟩
  have h':i<its.length:=by simpa using h
  rw[aA h']at z
  simpa using Option.some.inj z
 have hsz:its.toArray.size=zs.length:=by simp[el]
 have hsl:az=16777216:=rfl
 rw[length_map]at hz
 refine call_meets PySem.F.slot_list_index ⟨_,e,rfl⟩ PySem.F.entry_list_index (PySem.F.args_list_index_2 _ _) (SeqAt.list_indexAt l its.toArray n _ _ _ (isS a) (zs.idxOf a) (by rw[hsz];exact lt) (by omega) ?_ (λm hm hlt=>?_)) ⟨e,λy hy=>?_,⟨.int (zs.idxOf a:Nat),H,I.tok _,⟨_,rfl⟩,q⟩⟩
 ·obtain⟨t,z⟩:=hget _ (by rw[hsz];exact lt)
  rw[z]
  show(zs[zs.idxOf a]==a)=true
  rw[List.getElem_idxOf lt]
  exact beq_self_eq_true a
 ·obtain⟨t,z⟩:=hget m hm
  rw[z]
  show(zs[m]==a)=false
  rw[beq_eq_false_iff_ne]
  intro e
  have:=List.not_of_lt_findIdx (p:=(· == a)) (xs:=zs) hlt
  simp[e]at this
 ·obtain⟨i,hi,rfl⟩:=Array.mem_iff_getElem.mp hy
  obtain⟨t,z⟩:=hget i hi
  rw[z]
  exact SeqAt.EqAt.str_str _ _ _ _
noncomputable def Bg:D->List D->(D->Prop)->Prop
 | .lst xs,[.str a]=>λq=>∃ zs,texts xs=some zs/\a∈zs/\q (.int (zs.idxOf a:Nat))
 | _,_=>λ_=>False
theorem Jc:JMt X "list" "list.index" Bg:=by
 refine⟨_,tV,λ{H0 H v vs d xs q Q} s r rs h k=>?_⟩
 unfold Bg at h
 split at h
 ·obtain⟨u,rfl,e⟩:=VO rs
  obtain⟨p,ws,rfl,h1,h2⟩:=r
  obtain⟨ys,e1,l,hq⟩:=h
  rw[KP e1 h2]at h1
  rw[show u = .str _ from e]
  exact⟨p,ys,_,rfl,rfl,SqL.of (s _ _ h1),l,k _ (.int _) _ _ (.refl s) rfl hq⟩
 ·exact h.elim
theorem oO{zs:List Str}:Bg (.lst (zs.map .str)) [.str a] q=(a∈zs/\q (.int (zs.idxOf a:Nat))):=by
 show(∃ cs,texts _=some cs/\_)=_
 rw[Hx]
 simp only[Option.some.injEq,exists_eq_left']
end
noncomputable def sIt(tp:Bool)(h:Heap)(I l:Addr)(k:Nat):Prop:=if tp=true then h.IsTupleIter I l k else h.IsListIter I l k
noncomputable def sOb(tp:Bool)(h:Heap)(l:Addr)(xs:Array Value):Prop:=if tp=true then h.IsTuple l xs else h.IsList l xs
theorem sIt.mv(x:sIt tp h I l k)(m:∀ o,h.get? I=some o->h'.get? I=some o):sIt tp h' I l k:=by
 cases tp<;>exact let ⟨o,ho,r⟩:=x;⟨o,m o ho,r⟩
theorem sOb.mv(x:sOb tp h l xs)(m:∀ o,h.get? l=some o->h'.get? l=some o):sOb tp h' l xs:=by
 cases tp<;>exact let ⟨o,ho,r⟩:=x;⟨o,m o ho,r⟩
theorem sIt.at(x:sIt tp h I l k):∃ o,h.get? I=some o/\o.data = .fields #[.ref l,.int k 0]:=by
 cases tp<;>exact let ⟨o,ho,_,d⟩:=x;⟨o,ho,d⟩
section
theorem Gy(it:sIt tp s.heap I l k)(ob:sOb tp s.heap l xs)(hx:xs[k]?=some x)
  (hQ:∀ h',sIt tp h' I l (k+1)->aF I s.heap h'->Q x { s with heap:=h' }):wpAny (model P w) A (Builtin.SmallTypes.nextOf (.ref I)) Q E s:=by
 cases tp with
 | false=>exact wpAny_nextOf_list_item it ob hx hQ
 | true =>
  obtain⟨o,ho,hc,hd⟩:=id it
  obtain⟨ol,hol,_,nl,hdl⟩:=ob
  have ty:s.TypeIs (.ref I) "tuple_iterator" := ⟨o,ho,hc⟩
  unfold Builtin.SmallTypes.nextOf
  refine aj (wpAny_callSpecial?_slot (name:=aG "__next__") ty PySem.F.slot_tuple_iterator_next (wpAny_call_entry PySem.F.slot_tuple_iterator_next ty PySem.F.entry_tuple_iterator_next ?_ (PySem.F.args_tuple_iterator_next_1 _)))
  refine aj (m:=field (.ref I) 0) (wpAny_field ho hd (x := .ref l) rfl ?_)
  show wpAny _ _ (if (Value.ref l==Value.none)=true then _ else _) _ _ s
  rw[if_neg (λz=>by cases z)]
  refine aj (m:=field (.ref I) 1) (wpAny_field ho hd (x := .int k 0) rfl (aj (m:=seqItems? (.ref l)) (wpAny_seqItems hol hdl ?_)))
  simp only[Int.toNat_natCast,hx]
  refine aj (wpAny_setField ho hd (by simp) (ak ⟨x,rfl,ak (hQ _ (show Heap.IsTupleIter _ I l (k+1) from⟨_,Heap.get?_update_self _ ho (Obj.isFreed_of_fields (Obj.data_mapFields hd _)),(Obj.cls_mapFields ..).trans hc,?_⟩) (Heap.SameBut.update ..))⟩))
  rw[Obj.data_mapFields hd]
  simp[rawInt]
theorem tW(hh:A.handled=none)(it:sIt tp s.heap I l k)(ob:sOb tp s.heap l xs)(hx:xs[k]?=none)
  (hE:∀ h' e,Heap.ExtBut I s.heap h'->(∃ o,h'.get? e=some o/\o.cls = .type "StopIteration")->E (.ref e) { s with heap:=h' }):wpAny (model P w) A (Builtin.SmallTypes.nextOf (.ref I)) Q E s:=by
 cases tp with
 | false=>exact wpAny_nextOf_list_end hh it ob hx hE
 | true =>
  obtain⟨o,ho,hc,hd⟩:=id it
  obtain⟨ol,hol,_,nl,hdl⟩:=ob
  have ty:s.TypeIs (.ref I) "tuple_iterator" := ⟨o,ho,hc⟩
  unfold Builtin.SmallTypes.nextOf
  refine aj (wpAny_callSpecial?_slot (name:=aG "__next__") ty PySem.F.slot_tuple_iterator_next (wpAny_call_entry PySem.F.slot_tuple_iterator_next ty PySem.F.entry_tuple_iterator_next ?_ (PySem.F.args_tuple_iterator_next_1 _)))
  refine aj (m:=field (.ref I) 0) (wpAny_field ho hd (x := .ref l) rfl ?_)
  show wpAny _ _ (if (Value.ref l==Value.none)=true then _ else _) _ _ s
  rw[if_neg (λz=>by cases z)]
  refine aj (m:=field (.ref I) 1) (wpAny_field ho hd (x := .int k 0) rfl (aj (m:=seqItems? (.ref l)) (wpAny_seqItems hol hdl ?_)))
  simp only[Int.toNat_natCast,hx]
  refine aj (wpAny_rule (aj (wpAny_setField ho hd (by simp) (aj (m:=newExc (.type "StopIteration") []) ?_))))
  simp only[newExc,newTuple]
  refine aj (wpAny_newObj_type (aj (m:=firstArgMember _ _) (wpAny_of_eq (a:=Value.none) (by first | rfl | (simp only[firstArgMember];rfl)) (wpAny_newObj_type ?_ (by size_fits)))) (by size_fits))
  simp only[raiseNew]
  refine aj (wpAny_handled ?_)
  rw[show A.in1.handled=none from hh]
  exact aj (ak (wpAny_throw (hE _ _ (((Heap.SameBut.update ..).extBut.push _).push _) ⟨_,aq _ rfl,rfl⟩)))
structure Zp (b1 b2:Bool)(h:Heap)(z TI TO i1 i2 l1 l2:Addr)(k:Nat)(f0:Value)(xs ys:Array Value):Prop where
 zip:IsZip h z TI TO f0
 ti:IsPair h TI (.ref i1) (.ref i2)
 to:∃ a b,IsPair h TO a b
 it1:sIt b1 h i1 l1 k
 it2:sIt b2 h i2 l2 k
 ob1:sOb b1 h l1 xs
 ob2:sOb b2 h l2 ys
theorem tX{z TI TO i1 i2 l1 l2:Addr}{k:Nat}{xs ys:Array Value}{x y:Value}{Q:Value->Shared->Prop}(D:ZipApart z TI TO i1 i2 l1 l2)(Z:Zp b1 b2 s.heap z TI TO i1 i2 l1 l2 k .none xs ys)(hx:xs[k]?=some x)(hy:ys[k]?=some y)
  (hQ:∀ h',Zp b1 b2 h' z TI TO i1 i2 l1 l2 (k+1) (rawInt s.heap.objs.size) xs ys->IsPair h' s.heap.objs.size x y->(∀ c o,c≠z->c≠TO->c≠i1->c≠i2->s.heap.get? c=some o->h'.get? c=some o)->Q (.ref s.heap.objs.size) { s with heap:=h' }) :
  wpAny (model P w) A (Builtin.«zip.__next__» ⟨[.ref z],[]⟩) (λfin s'=>∃ v,fin = .done (.ret v)/\Q v s') E s:=by
 obtain⟨hz,hTI,⟨a,b,hTO⟩,h1,h2,o1,o2⟩:=Z
 refine aj (m:=field (.ref z) 2) (wpAny_field hz rfl (x := .bool false) rfl ?_)
 refine aj (m:=field (.ref z) 3) (wpAny_field hz rfl (x := .ref TI) rfl (aj (wpAny_seqItems hTI rfl ?_)))
 refine aj (m:=Builtin.SmallTypes.ownedTupleIsFree (.ref z)) ?_
 unfold Builtin.SmallTypes.ownedTupleIsFree
 refine aj (wpAny_field hz rfl (x := .none) rfl (ak ?_))
 simp only[if_true]
 refine aj (wpAny_rule (aj (wpAny_field hz rfl (x := .ref TO) rfl (aj (wpAny_setField_rec hz (by simp) λg1 gz gs=>aj ?_)))))
 replace gz:IsZip g1 z TI TO .ellipsis:=gz
 have m1:∀ c o,c≠z->s.heap.get? c=some o->g1.get? c=some o:=λc o n e=>gs.extBut _ _ n e
 simp only[List.zipIdx_cons,List.zipIdx_nil,forIn_cons,List.forIn_nil]
 refine aj (aj (wpAny_onRaise (aj (m:=Builtin.SmallTypes.nextOf (.ref i1)) (Gy (h1.mv λo e=>m1 _ o D.i1z e) (o1.mv λo e=>m1 _ o D.l1z e) hx λg2 it2 gs2=>ak ?_))))
 have m2:∀ c o,c≠z->c≠i1->s.heap.get? c=some o->g2.get? c=some o:=λc o n n' e=>gs2.extBut _ _ n' (m1 c o n e)
 have p2:IsPair g2 TO a b:=m2 _ _ D.TOz D.TOi1 hTO
 refine aj (wpAny_seqItems p2 rfl (aj (wpAny_updateSeq_pair p2 λg3 p3 gs3=>aj (wpAny_letGo (ak ?_)))))
 replace p3:IsPair g3 TO x b:=p3
 have m3:∀ c o,c≠z->c≠i1->c≠TO->s.heap.get? c=some o->g3.get? c=some o:=λc o n n' n'' e=>gs3.extBut _ _ n'' (m2 c o n n' e)
 refine aj (aj (wpAny_onRaise (aj (m:=Builtin.SmallTypes.nextOf (.ref i2)) (Gy (h2.mv λo e=>m3 _ o D.i2z D.i12.symm D.TOi2.symm e) (o2.mv λo e=>m3 _ o D.l2z D.l2i1 D.l2TO e) hy λg4 it4 gs4=>ak ?_))))
 have p4:IsPair g4 TO x b:=gs4.extBut _ _ D.TOi2 p3
 refine aj (wpAny_seqItems p4 rfl (aj (wpAny_updateSeq_pair p4 λg5 p5 gs5=>aj (wpAny_letGo (ak (ak ?_))))))
 replace p5:IsPair g5 TO x y:=p5
 have m5:∀ c o,c≠z->c≠TO->c≠i1->c≠i2->s.heap.get? c=some o->g5.get? c=some o:=λc o a1 a2 a3 a4 e=>gs5.extBut _ _ a2 (gs4.extBut _ _ a4 (m3 c o a1 a3 a2 e))
 refine aj (wpAny_seqItems p5 rfl (aj (wpAny_newTuple ?_)))
 have sz:g5.objs.size=s.heap.objs.size:=by rw[gs5.1,gs4.1,gs3.1,gs2.1,gs.1]
 have z5:IsZip g5 z TI TO .ellipsis:=gs5.extBut _ _ D.TOz.symm (gs4.extBut _ _ D.i2z.symm (gs3.extBut _ _ D.TOz.symm (gs2.extBut _ _ D.i1z.symm gz)))
 have j1:sIt b1 g5 i1 l1 (k+1):=it2.mv λo e=>gs5.extBut _ _ D.TOi1.symm (gs4.extBut _ _ D.i12 (gs3.extBut _ _ D.TOi1.symm e))
 have j2:sIt b2 g5 i2 l2 (k+1):=it4.mv λo e=>gs5.extBut _ _ D.TOi2.symm e
 have zlt:z<g5.objs.size:=au z5
 refine aj (m:=Builtin.SmallTypes.ownedTupleHandOut (.ref z) (.ref g5.objs.size)) ?_
 unfold Builtin.SmallTypes.ownedTupleHandOut
 have z6:IsZip (g5.push { cls := .type "tuple",data := .seq #[x,y] }) z TI TO .ellipsis:=ao _ z5
 refine aj (wpAny_setField_rec z6 (by simp) λg7 z7 gs7=>?_)
 replace z7:IsZip g7 z TI TO (rawInt g5.objs.size):=z7
 refine wpAny_setField_rec z7 (by simp) λg8 z8 gs8=>?_
 replace z8:IsZip g8 z TI TO (rawInt g5.objs.size):=z8
 have up:∀ c o,c≠z->g5.get? c=some o->g8.get? c=some o:=λc o n e=>gs8.extBut _ _ n (gs7.extBut _ _ n (ao _ e))
 have t8:IsPair g8 g5.objs.size x y:=gs8.extBut _ _ (Nat.ne_of_gt zlt) (gs7.extBut _ _ (Nat.ne_of_gt zlt) (aq _ rfl))
 refine ak ⟨_,rfl,?_⟩
 show Q (.ref g5.objs.size) _
 rw[sz]at z8 t8⊢
 have all:∀ c o,c≠z->c≠TO->c≠i1->c≠i2->s.heap.get? c=some o->g8.get? c=some o:=λc o a1 a2 a3 a4 e=>up c o a1 (m5 c o a1 a2 a3 a4 e)
 exact hQ g8 ⟨z8,all _ _ D.TIz D.TITO D.TIi1 D.TIi2 hTI,⟨_,_,up _ _ D.TOz p5⟩,j1.mv λo e=>up _ o D.i1z e,j2.mv λo e=>up _ o D.i2z e,o1.mv λo e=>all _ o D.l1z D.l1TO D.l1i1 D.l1i2 e,o2.mv λo e=>all _ o D.l2z D.l2TO D.l2i1 D.l2i2 e⟩ t8 all
theorem oP{z TI TO i1 i2 l1 l2:Addr}{k:Nat}{xs ys:Array Value}{Q:Fin->Shared->Prop}(hh:A.handled=none)(D:ZipApart z TI TO i1 i2 l1 l2)(Z:Zp b1 b2 s.heap z TI TO i1 i2 l1 l2 k .none xs ys)(hend:xs[k]?=none\/ys[k]?=none)
  (hE:∀ h' e,(∀ c o,c≠z->c≠TO->c≠i1->c≠i2->s.heap.get? c=some o->h'.get? c=some o)->(∃ o,h'.get? e=some o/\o.cls = .type "StopIteration")->E (.ref e) { s with heap:=h' }) :
  wpAny (model P w) A (Builtin.«zip.__next__» ⟨[.ref z],[]⟩) Q E s:=by
 obtain⟨hz,hTI,⟨a,b,hTO⟩,h1,h2,o1,o2⟩:=Z
 refine aj (m:=field (.ref z) 2) (wpAny_field hz rfl (x := .bool false) rfl ?_)
 refine aj (m:=field (.ref z) 3) (wpAny_field hz rfl (x := .ref TI) rfl (aj (wpAny_seqItems hTI rfl ?_)))
 refine aj (m:=Builtin.SmallTypes.ownedTupleIsFree (.ref z)) ?_
 unfold Builtin.SmallTypes.ownedTupleIsFree
 refine aj (wpAny_field hz rfl (x := .none) rfl (ak ?_))
 simp only[if_true]
 refine aj (wpAny_rule (aj (wpAny_field hz rfl (x := .ref TO) rfl (aj (wpAny_setField_rec hz (by simp) λg1 gz gs=>aj ?_)))))
 replace gz:IsZip g1 z TI TO .ellipsis:=gz
 have m1:∀ c o,c≠z->s.heap.get? c=some o->g1.get? c=some o:=λc o n e=>gs.extBut _ _ n e
 simp only[List.zipIdx_cons,List.zipIdx_nil,forIn_cons,List.forIn_nil]
 cases hx:xs[k]? with
 | none =>
  refine aj (aj (wpAny_onRaise (aj (m:=Builtin.SmallTypes.nextOf (.ref i1)) (tW hh (h1.mv λo e=>m1 _ o D.i1z e) (o1.mv λo e=>m1 _ o D.l1z e) hx λg2 e gs2 he=>?_))))
  obtain⟨oe,hoe,hce⟩:=he
  have z2:IsZip g2 z TI TO .ellipsis:=gs2 _ _ D.i1z.symm gz
  have ez:e≠z:=λq=>by subst q;rw[z2]at hoe;cases hoe;simp at hce
  exact wpAny_setField_rec z2 (by simp) λg3 _ gs3=>hE g3 e (λc o c1 _ c3 _ q=>gs3.extBut _ _ c1 (gs2 _ _ c3 (m1 _ _ c1 q))) ⟨oe,gs3.extBut _ _ ez hoe,hce⟩
 | some x =>
  have hy:ys[k]?=none:=hend.resolve_left λq=>by rw[hx]at q;cases q
  refine aj (aj (wpAny_onRaise (aj (m:=Builtin.SmallTypes.nextOf (.ref i1)) (Gy (h1.mv λo e=>m1 _ o D.i1z e) (o1.mv λo e=>m1 _ o D.l1z e) hx λg2 it2 gs2=>ak ?_))))
  have m2:∀ c o,c≠z->c≠i1->s.heap.get? c=some o->g2.get? c=some o:=λc o n n' e=>gs2.extBut _ _ n' (m1 c o n e)
  have p2:IsPair g2 TO a b:=m2 _ _ D.TOz D.TOi1 hTO
  refine aj (wpAny_seqItems p2 rfl (aj (wpAny_updateSeq_pair p2 λg3 p3 gs3=>aj (wpAny_letGo (ak ?_)))))
  have m3:∀ c o,c≠z->c≠i1->c≠TO->s.heap.get? c=some o->g3.get? c=some o:=λc o n n' n'' e=>gs3.extBut _ _ n'' (m2 c o n n' e)
  refine aj (aj (wpAny_onRaise (aj (m:=Builtin.SmallTypes.nextOf (.ref i2)) (tW hh (h2.mv λo e=>m3 _ o D.i2z D.i12.symm D.TOi2.symm e) (o2.mv λo e=>m3 _ o D.l2z D.l2i1 D.l2TO e) hy λg4 e gs4 he=>?_))))
  obtain⟨oe,hoe,hce⟩:=he
  have z4:IsZip g4 z TI TO .ellipsis:=gs4 _ _ D.i2z.symm (gs3.extBut _ _ D.TOz.symm (gs2.extBut _ _ D.i1z.symm gz))
  have ez:e≠z:=λq=>by subst q;rw[z4]at hoe;cases hoe;simp at hce
  exact wpAny_setField_rec z4 (by simp) λg5 _ gs5=>hE g5 e (λc o c1 c2 c3 c4 q=>gs5.extBut _ _ c1 (gs4 _ _ c4 (m3 _ _ c1 c3 c2 q))) ⟨oe,gs5.extBut _ _ ez hoe,hce⟩
theorem tY{z TI TO i1 i2 l1 l2:Addr}{k:Nat}{xs ys:Array Value}{x y:Value}{Q:Option Value->Shared->Prop}(D:ZipApart z TI TO i1 i2 l1 l2)(Z:Zp b1 b2 s.heap z TI TO i1 i2 l1 l2 k .none xs ys)(hx:xs[k]?=some x)(hy:ys[k]?=some y)
  (hQ:∀ h',Zp b1 b2 h' z TI TO i1 i2 l1 l2 (k+1) (rawInt s.heap.objs.size) xs ys->IsPair h' s.heap.objs.size x y->(∀ c o,c≠z->c≠TO->c≠i1->c≠i2->s.heap.get? c=some o->h'.get? c=some o)->Q (some (.ref s.heap.objs.size)) { s with heap:=h' }) :
  wpAny (model P w) A (pyNext (.ref z)) Q E s:=by
 have ty:s.TypeIs (.ref z) "zip" := ⟨_,Z.zip,rfl⟩
 unfold pyNext
 exact aj (wpAny_attempt (wpAny_callSpecial?_slot (name:=aG "__next__") ty PySem.F.slot_zip_next (wpAny_call_entry PySem.F.slot_zip_next ty PySem.F.entry_zip_next (tX D Z hx hy λh' a1 a2 a3=>ak (hQ h' a1 a2 a3)) (PySem.F.args_zip_next_1 _))))
theorem tZ{z TI TO i1 i2 l1 l2:Addr}{k:Nat}{xs ys:Array Value}{Q:Option Value->Shared->Prop}(hh:A.handled=none)(D:ZipApart z TI TO i1 i2 l1 l2)(Z:Zp b1 b2 s.heap z TI TO i1 i2 l1 l2 k .none xs ys)(hend:xs[k]?=none\/ys[k]?=none)
  (hQ:∀ h',(∀ c o,c≠z->c≠TO->c≠i1->c≠i2->s.heap.get? c=some o->h'.get? c=some o)->Q none { s with heap:=h' }):wpAny (model P w) A (pyNext (.ref z)) Q E s:=by
 have ty:s.TypeIs (.ref z) "zip" := ⟨_,Z.zip,rfl⟩
 unfold pyNext
 refine aj (wpAny_attempt (wpAny_callSpecial?_slot (name:=aG "__next__") ty PySem.F.slot_zip_next (wpAny_call_entry PySem.F.slot_zip_next ty PySem.F.entry_zip_next (oP (A:=A.in1) (by simp[hh]) D Z hend λh' e hk he=>?_) (PySem.F.args_zip_next_1 _))))
 obtain⟨o,ho,hc⟩:=he
 exact aj (wpAny_isInstance (T := "StopIteration") (b:=true) ⟨o,ho,hc⟩ isSubtype_stop (ak (hQ _ hk)))
end
noncomputable def SqB(tp:Bool)(K:aa)(H:Hp)(a:Addr)(xs:List V):Prop:=if tp=true then SqT K H a xs else SqL K H a xs
theorem Inv.sq(I:Inv X pins σ H s)(h:SqB tp X.K H a xs):∃ its:List Value,Vals xs its/\sOb tp s.heap a its.toArray/\xs.length<=az:=by
 cases tp with
 | false=>obtain⟨its,r,p,z⟩:=I.list h;exact⟨its,r,p.isList,z⟩
 | true=>obtain⟨its,r,p,z⟩:=I.tuple h;exact⟨its,r,p,z⟩
theorem Inv.sd(I:Inv X pins σ H s)(h:SqB tp X.K H a xs)(h':SqB tp X.K H a ys):xs=ys:=by
 cases tp with
 | false=>exact I.OW h h'
 | true=>exact I.Ph h h'
noncomputable def Itz(b1 b2:Bool)(K:aa)(a b:Addr):It :=
  ⟨λi H=>∃ xs ys x y,SqB b1 K H a xs/\SqB b2 K H b ys/\xs[i]?=some x/\ys[i]?=some y,
   λi H v H'=>∃ p x y,v = .ref p/\H p=none/\H'=upd H p (.tup [x,y])/\(∀ xs,SqB b1 K H a xs->xs[i]?=some x)/\∀ ys,SqB b2 K H b ys->ys[i]?=some y,
   λi H=>∃ xs ys,SqB b1 K H a xs/\SqB b2 K H b ys/\(xs.length<=i\/ys.length<=i)⟩
noncomputable def tnz(b1 b2:Bool)(z TI TO i1 i2 l1 l2:Addr)(k:Nat)(h:Heap):Prop:=IsZip h z TI TO .none/\IsPair h TI (.ref i1) (.ref i2)/\(∃ a b,IsPair h TO a b)/\sIt b1 h i1 l1 k/\sIt b2 h i2 l2 k
theorem se{K:aa}{b1 b2:Bool}{z TI TO i1 i2 l1 l2:Addr}(D:ZipApart z TI TO i1 i2 l1 l2) :
  Turn P w K (.Tuple elts x1 tpos) (Itz b1 b2 K l1 l2) [z,TI,TO,i1,i2] z (tnz b1 b2 z TI TO i1 i2 l1 l2) where
 mem:=by simp
 obj:=λi h st b hb=>by
  obtain⟨h1,h2,⟨_,_,h3⟩,h4,h5⟩:=st
  obtain⟨o4,g4,d4⟩:=h4.at
  obtain⟨o5,g5,d5⟩:=h5.at
  simp only[mem_cons,not_mem_nil,or_false]at hb
  rcases hb with rfl|rfl|rfl|rfl|rfl
  ·exact⟨_,h1,λv z=>by cases z⟩
  ·exact⟨_,h2,λv z=>by cases z⟩
  ·exact⟨_,h3,λv z=>by cases z⟩
  ·exact⟨_,g4,λv z=>by rw[d4]at z;cases z⟩
  ·exact⟨_,g5,λv z=>by rw[d5]at z;cases z⟩
 keep:=λi h h' st k=>by
  obtain⟨h1,h2,⟨a,b,h3⟩,h4,h5⟩:=st
  exact⟨k z (by simp) _ h1,k TI (by simp) _ h2,⟨a,b,k TO (by simp) _ h3⟩,h4.mv λo q=>k i1 (by simp) o q,h5.mv λo q=>k i2 (by simp) o q⟩
 item:=by
  intro X hP hw hK hc i pins s σ H E I hf st hg
  subst hP hw hK
  obtain⟨h1,h2,h3,h4,h5⟩:=st
  obtain⟨xs,ys,x,y,hq,hq',hx,hy⟩:=hg
  obtain⟨its,rv,p,hz⟩:=I.sq hq
  obtain⟨its',rv',p',hz'⟩:=I.sq hq'
  obtain⟨u,hu,ru⟩:=rv.get hx
  obtain⟨u',hu',ru'⟩:=rv'.get hy
  have fr:∀ b,(b=z\/b=TO\/b=i1\/b=i2)->Ql X pins H b:=λb hb=>hf b (by rcases hb with rfl | rfl | rfl | rfl<;>simp)
  refine tY D ⟨h1,h2,h3,h4,h5,p,p'⟩ (x:=u) (y:=u') (by simpa using hu) (by simpa using hu') λh' Z t8 kp0=>?_
  refine⟨_,rfl,wpAny_letOwnedTupleGo_zip Z.zip λh'' z2 sb=>?_⟩
  have lt:∀ {c:Addr}{o:Obj},s.heap.get? c=some o->s.heap.objs.size≠c:=λe=>Nat.ne_of_gt (au e)
  have lz:s.heap.objs.size≠z:=lt h1
  have hp0:H s.heap.objs.size=none:=I.fresh
  have kp:∀ b o,¬ (b=z\/b=TO\/b=i1\/b=i2)->s.heap.get? b=some o->h''.get? b=some o:=λb o n q=>(sb.2 b (λe=>n (.inl e))).trans (kp0 b o (λe=>n (.inl e)) (λe=>n (.inr (.inl e))) (λe=>n (.inr (.inr (.inl e)))) (λe=>n (.inr (.inr (.inr e)))) q)
  have tp:h''.get? s.heap.objs.size=some { cls := .type "tuple",data := .seq #[u,u'] }:=(sb.2 _ lz).trans t8
  refine⟨.ref s.heap.objs.size,upd H s.heap.objs.size (.tup [x,y]),?_,rfl,⟨_,x,y,rfl,hp0,rfl,λys hy=>by rw[I.sd hy hq];exact hx,λys hy'=>by rw[I.sd hy' hq'];exact hy⟩,?_,λb hb=>?_⟩
  ·have nt:∀ b o,H b=some o->¬ (b=z\/b=TO\/b=i1\/b=i2):=λb o q hb=>by
    have:=(fr b hb).1
    rw[q]at this
    cases this
   have ok':HOk X.prog X.w (upd H s.heap.objs.size (.tup [x,y])) h'':=λb o q=>by
    by_cases hb:b=s.heap.objs.size
    ·subst hb
     rw[Zx]at q
     cases q
     exact⟨by show 2<=az;decide,[u,u'],.cons ru (.cons ru' .nil),_,tp,rfl,0,rfl⟩
    ·rw[Zq hb]at q
     refine(I.hok b o q).stay (λc v hc q'=>kp c v ?_ q') (λc q'=>by rw[Zq (ZT q' hp0)];exact q') λc zs q'=>by rw[Zq (ZT q' hp0)];exact q'
     rcases hc with rfl|hc
     ·exact nt _ _ q
     ·exact nt _ _ hc
   have I3:Inv X pins σ (upd H s.heap.objs.size (.tup [x,y])) { s with heap:=h'',gens:=s.gens,drawn:=s.drawn,toks:=s.toks }:=by
    have out:∀ b,b∉[z,TO,i1,i2]->¬ (b=z\/b=TO\/b=i1\/b=i2):=λb hb q=>hb (by rcases q with rfl | rfl | rfl | rfl<;>simp)
    refine Inv.step (s:=s) I (g':=s.gens) (d':=s.drawn) (ch:=[z,TO,i1,i2]) (λb hb=>?_) (λb o _ _ hc q _=>kp b o (out b hc) q)
     (λb o _ _ hc q _=>⟨o.slots,kp b o (out b hc) q⟩)
     (λb o _ q n=>by rw[Zq (Nat.ne_of_lt (au q))];exact n)
     (λb o hc q=>⟨o,kp b o (out b hc) q⟩)
     (λb zs q=>by rw[Zq (ZT q hp0)];exact q) (λb ob zs q=>by rw[Zq (ZT q hp0)];exact q)
     (λb ps q=>⟨#[],by rw[Zq (ZT q hp0),q];simp⟩) (λm hm=>?_) ok' I.bare
    ·obtain⟨f0,f1,f2,f3,f4,f5⟩:=fr b (by simpa using hb)
     exact⟨f3,f1,f4,f5⟩
    ·obtain⟨o,es,ep,ho,r⟩:=hm
     exact⟨o,es,ep,kp _ o (λhb=>(fr _ hb).2.1 rfl) ho,r⟩
   exact I3
  ·obtain⟨w1,w2,⟨a,b,w3⟩,w4,w5,_,_⟩:=Z
   exact⟨z2,(sb.2 _ D.TIz).trans w2,⟨a,b,(sb.2 _ D.TOz).trans w3⟩,w4.mv λo q=>(sb.2 _ D.i1z).trans q,w5.mv λo q=>(sb.2 _ D.i2z).trans q⟩
  ·have hb0:=(hf b hb).1
   obtain⟨h1',h2',⟨_,_,h3'⟩,h4',h5'⟩:tnz b1 b2 z TI TO i1 i2 l1 l2 i s.heap:=⟨h1,h2,h3,h4,h5⟩
   obtain⟨o4,g4,_⟩:=h4'.at
   obtain⟨o5,g5,_⟩:=h5'.at
   rw[Zq (λe=>?_)]
   ·exact hb0
   simp only[mem_cons,not_mem_nil,or_false]at hb
   rcases hb with rfl|rfl|rfl|rfl|rfl
   ·exact lt h1' e.symm
   ·exact lt h2' e.symm
   ·exact lt h3' e.symm
   ·exact lt g4 e.symm
   ·exact lt g5 e.symm
 done:=by
  intro X hP hw hK hc i pins s σ H E I hf st hg
  subst hP hw hK
  obtain⟨h1,h2,h3,h4,h5⟩:=st
  obtain⟨xs,ys,hq,hq',hx⟩:=hg
  obtain⟨its,rv,p,hz⟩:=I.sq hq
  obtain⟨its',rv',p',hz'⟩:=I.sq hq'
  have l1:=rv.length
  have l2:=rv'.length
  have fr:∀ b,(b=z\/b=TO\/b=i1\/b=i2)->Ql X pins H b:=λb hb=>hf b (by rcases hb with rfl | rfl | rfl | rfl<;>simp)
  refine tZ (I.ok.hd hc) D ⟨h1,h2,h3,h4,h5,p,p'⟩ (by rcases hx with e | e;exact .inl (by simp;omega);exact .inr (by simp;omega)) λh' kp0=>⟨rfl,?_⟩
  have kp:∀ b o,¬ (b=z\/b=TO\/b=i1\/b=i2)->s.heap.get? b=some o->h'.get? b=some o:=λb o n q=>kp0 b o (λe=>n (.inl e)) (λe=>n (.inr (.inl e))) (λe=>n (.inr (.inr (.inl e)))) (λe=>n (.inr (.inr (.inr e)))) q
  have nt:∀ b o,H b=some o->¬ (b=z\/b=TO\/b=i1\/b=i2):=λb o q hb=>by
   have:=(fr b hb).1
   rw[q]at this
   cases this
  have ok':HOk X.prog X.w H h':=λb o q=>by
   refine(I.hok b o q).stay (λc v hc q'=>kp c v ?_ q') (λc q'=>q') λc zs q'=>q'
   rcases hc with rfl|hc
   ·exact nt _ _ q
   ·exact nt _ _ hc
  have out:∀ b,b∉[z,TO,i1,i2]->¬ (b=z\/b=TO\/b=i1\/b=i2):=λb hb q=>hb (by rcases q with rfl | rfl | rfl | rfl<;>simp)
  refine Inv.step (s:=s) I (g':=s.gens) (d':=s.drawn) (ch:=[z,TO,i1,i2]) (λb hb=>?_) (λb o _ _ hc q _=>kp b o (out b hc) q)
   (λb o _ _ hc q _=>⟨o.slots,kp b o (out b hc) q⟩) (λb o _ q n=>n) (λb o hc q=>⟨o,kp b o (out b hc) q⟩) (λb zs q=>q) (λb ob zs q=>q) (λb ps q=>⟨#[],by rw[q];simp⟩) (λm hm=>?_) ok' I.bare
  ·obtain⟨f0,f1,f2,f3,f4,f5⟩:=fr b (by simpa using hb)
   exact⟨f3,f1,f4,f5⟩
  ·obtain⟨o,es,ep,ho,r⟩:=hm
   exact⟨o,es,ep,kp _ o (λhb=>(fr _ hb).2.1 rfl) ho,r⟩
 self:=λ_ _ _ _ _ st h=>wpAny_pyIter_zip st.1 h
noncomputable def itO(tp:Bool)(l:Addr):Obj:={ cls := .type (if tp=true then "tuple_iterator" else "list_iterator"),data := .fields #[.ref l,.int 0 0] }
section
theorem zh(ob:sOb tp s.heap l xs)(hQ:Q (.ref s.heap.objs.size) { s with heap:=s.heap.push (itO tp l) }):wpAny (model P w) A (pyIter (.ref l)) Q E s:=by
 cases tp with
 | false=>exact wpAny_pyIter_list ob hQ
 | true=>exact wpAny_pyIter_tuple ob hQ
noncomputable def zA(h:Heap)(b1:Bool)(l1:Addr):Heap:=h.push (itO b1 l1)
noncomputable def zB(h:Heap)(b1 b2:Bool)(l1 l2:Addr):Heap:=(zA h b1 l1).push (itO b2 l2)
noncomputable def zC(h:Heap)(b1 b2:Bool)(l1 l2:Addr):Heap:=(zB h b1 b2 l1 l2).push { cls := .type "tuple",data := .seq #[.ref h.objs.size,.ref (zA h b1 l1).objs.size] }
noncomputable def zD(h:Heap)(b1 b2:Bool)(l1 l2:Addr):Heap:=(zC h b1 b2 l1 l2).push { cls := .type "tuple",data := .seq #[.none,.none] }
noncomputable def zE(h:Heap)(b1 b2:Bool)(l1 l2:Addr):Heap:=(zD h b1 b2 l1 l2).push { cls := .type "zip",data := .fields #[.none,.bool false,.bool false,.ref (zB h b1 b2 l1 l2).objs.size,.ref (zC h b1 b2 l1 l2).objs.size] }
theorem oQ(b1 b2:Bool)(l1 l2:Addr)(xs ys:Array Value) :
  Meets (Builtin.«zip.__new__» ⟨[.type "zip",.ref l1,.ref l2],[]⟩) (λ_ R s=>sOb b1 s.heap l1 xs/\sOb b2 s.heap l2 ys/\R (.ok (.ret (.ref (zD s.heap b1 b2 l1 l2).objs.size))) { s with heap:=zE s.heap b1 b2 l1 l2 }) :=
 .of_wp λP w A R s h=>by
  obtain⟨hp,g,d,tk,os⟩:=s
  obtain⟨o1,o2,h⟩:=h
  have sub:=sub_zip
  have k1:sOb b1 (Shared.heap ⟨hp,g,d,tk,os⟩) l1 xs:=o1
  have k2:sOb b2 (Shared.heap ⟨hp.push (itO b1 l1),g,d,tk,os⟩) l2 ys:=o2.mv λo e=>ao _ e
  wp_walk using zh k1,zh k2
  exact⟨_,rfl,h⟩
theorem sf(o1:sOb b1 s.heap l1 xs)(o2:sOb b2 s.heap l2 ys)
  (h:∀ h',tnz b1 b2 (s.heap.objs.size+4) (s.heap.objs.size+2) (s.heap.objs.size+3) s.heap.objs.size (s.heap.objs.size+1) l1 l2 0 h'->(∀ c o,s.heap.get? c=some o->h'.get? c=some o)->Q (.ref (s.heap.objs.size+4)) { s with heap:=h' }) :
  wpAny (model P w) A (call (.type "zip") [.ref l1,.ref l2]) Q E s:=by
 refine callType_new PySem.F.called_zip (by decide) (PySem.F.typeCall_zip_2 _ _) (PySem.F.newCall_zip_2 _ _) (λobj=>PySem.F.args_object_init_3 obj _ _) PySem.F.entry_zip_new (oQ b1 b2 l1 l2 xs ys) ⟨o1,o2,?_⟩
 have n1:(zA s.heap b1 l1).objs.size=s.heap.objs.size+1:=Heap.size_push ..
 have n2:(zB s.heap b1 b2 l1 l2).objs.size=s.heap.objs.size+2:=by unfold zB;rw[Heap.size_push,n1]
 have n3:(zC s.heap b1 b2 l1 l2).objs.size=s.heap.objs.size+3:=by unfold zC;rw[Heap.size_push,n2]
 have n4:(zD s.heap b1 b2 l1 l2).objs.size=s.heap.objs.size+4:=by unfold zD;rw[Heap.size_push,n3]
 have kE:∀ {c o},(zD s.heap b1 b2 l1 l2).get? c=some o->(zE s.heap b1 b2 l1 l2).get? c=some o:=λe=>ao _ e
 have kD:∀ {c o},(zC s.heap b1 b2 l1 l2).get? c=some o->(zE s.heap b1 b2 l1 l2).get? c=some o:=λe=>kE (ao _ e)
 have kC:∀ {c o},(zB s.heap b1 b2 l1 l2).get? c=some o->(zE s.heap b1 b2 l1 l2).get? c=some o:=λe=>kD (ao _ e)
 have kB:∀ {c o},(zA s.heap b1 l1).get? c=some o->(zE s.heap b1 b2 l1 l2).get? c=some o:=λe=>kC (ao _ e)
 have e5:(zE s.heap b1 b2 l1 l2).get? (zD s.heap b1 b2 l1 l2).objs.size=some _:=aq _ rfl
 have e4:(zE s.heap b1 b2 l1 l2).get? (zC s.heap b1 b2 l1 l2).objs.size=some _:=kE (aq _ rfl)
 have e3:(zE s.heap b1 b2 l1 l2).get? (zB s.heap b1 b2 l1 l2).objs.size=some _:=kD (aq _ rfl)
 have e2:(zE s.heap b1 b2 l1 l2).get? (zA s.heap b1 l1).objs.size=some (itO b2 l2):=kC (aq _ (by cases b2<;>rfl))
 have e1:(zE s.heap b1 b2 l1 l2).get? s.heap.objs.size=some (itO b1 l1):=kB (aq _ (by cases b1<;>rfl))
 rw[n2,n3,n4]at e5
 rw[n1,n2]at e3
 rw[n3]at e4
 rw[n1]at e2
 rw[n4]
 have f1:sIt b1 (zE s.heap b1 b2 l1 l2) s.heap.objs.size l1 0:=by cases b1<;>exact⟨_,e1,rfl,rfl⟩
 have f2:sIt b2 (zE s.heap b1 b2 l1 l2) (s.heap.objs.size+1) l2 0:=by cases b2<;>exact⟨_,e2,rfl,rfl⟩
 exact⟨⟨_,e5,rfl⟩,h _ ⟨e5,e3,⟨_,_,e4⟩,f1,f2⟩ λc o x=>kB (ao _ x)⟩
end
noncomputable def iZip(K:aa)(ta:TA):TI:=λσ H R=>ta σ H λvs H1=>∃ a b b1 b2,vs=[.ref a,.ref b]/\(∃ xs,SqB b1 K H1 a xs)/\(∃ ys,SqB b2 K H1 b ys)/\R (Itz b1 b2 K a b) H1
section
theorem js(hg:Gl X "zip")(hm:X.mg "zip" = none)(ha:PA X [a,b] ta)(hv:bootBuiltins "zip" = some (.type "zip"):=by decide +kernel)
  (hs:autoParam (starEach [a,b] X.env=(false,eval a X.env)::starEach [b] X.env) auR)(hpl:autoParam ((backTo pos (starEach [b] X.env)).any (·.1)=false) auR):PI X (.Tuple elts x1 tpos) (.Call (.Name "zip" p) [a,b] [] pos) (iZip X.K ta):=by
 intro pins s σ H R I h
 refine Call_ (Ku I hg hm hv (PyProof.Rows.callWith_type1 (thn (ha pos pins s σ H _ I h) λus s1 zq=>?_) hs hpl))
 obtain⟨vs,H1,I1,r1,q1⟩:=zq
 obtain⟨a1,a2,b1,b2,e,⟨xs,hq⟩,⟨ys,hq'⟩,q⟩:=q1
 subst e
 obtain⟨u,us',e1,ru,r2⟩:∃ u us',us=u::us'/\RelV (.ref a1) u/\Vals [.ref a2] us':=by cases r1 with | cons a b=>exact⟨_,_,rfl,a,b⟩
 obtain⟨u',e2,ru'⟩:=vals1 r2
 subst e1 e2
 cases ru
 cases ru'
 obtain⟨its,rv,p,hz⟩:=I1.sq hq
 obtain⟨its',rv',p',hz'⟩:=I1.sq hq'
 refine sf p p' λh' t kp=>wpAny_pyIter_zip t.1 ?_
 have I2:Inv X pins σ H1 { s1 with heap:=h' }:=I1.kept (t':=s1.toks) kp
 have lt:∀ {tp:Bool}{l:Addr}{zs:Array Value},sOb tp s1.heap l zs->l<s1.heap.objs.size:=λ{tp l zs} o=>by
  cases tp<;>exact let ⟨_,ho,_⟩:=o;au ho
 have L1:(a1:Nat)<s1.heap.objs.size:=lt p
 have L2:(a2:Nat)<s1.heap.objs.size:=lt p'
 have D:ZipApart (s1.heap.objs.size+4) (s1.heap.objs.size+2) (s1.heap.objs.size+3) s1.heap.objs.size (s1.heap.objs.size+1) a1 a2:=by
  exact zipApart_new L1 L2
 refine⟨_,[s1.heap.objs.size+4,s1.heap.objs.size+2,s1.heap.objs.size+3,s1.heap.objs.size,s1.heap.objs.size+1],_,_,H1,rfl,I2,se D,t,λb hb=>?_,q⟩
 have hb:s1.heap.objs.size<=b:=by
  simp only[mem_cons,not_mem_nil,or_false]at hb
  rcases hb with rfl|rfl|rfl|rfl|rfl
  ·exact Nat.le_add_right _ _
  ·exact Nat.le_add_right _ _
  ·exact Nat.le_add_right _ _
  ·exact Nat.le_refl _
  ·exact Nat.le_add_right _ _
 exact I1.vc hb (I1.hok.fresh hb)
noncomputable def D.sq:D->Option (List D)
 | .lst xs=>some xs
 | .scr xs=>some xs
 | .tup xs=>some xs
 | _=>none
noncomputable def Bh(xs ys:List D):List D:=(xs.zip ys).map λp => .tup [p.1,p.2]
noncomputable def dZip(da:DA):DI:=λds q x=>da ds (λts=>∃ a b xs ys,ts=[a,b]/\a.sq=some xs/\b.sq=some ys/\q (Bh xs ys)) x
theorem mx{K:aa}(r:Rp K H d v)(e:d.sq=some xs):∃ tp a vs,v = .ref a/\SqB tp K H a vs/\Rps K H xs vs:=by
 cases d with
 | lst ys=>cases e;obtain⟨a,vs,rfl,h1,h2⟩:=r;exact⟨false,a,vs,rfl,SqL.of h1,h2⟩
 | scr ys=>cases e;obtain⟨a,vs,rfl,h1,h2⟩:=r;exact⟨false,a,vs,rfl,h1,h2⟩
 | tup ys=>cases e;obtain⟨a,vs,rfl,h1,h2⟩:=r;exact⟨true,a,vs,rfl,SqT.of h1,h2⟩
 | _=>cases e
theorem SqB.same{K:aa}(s:ZA H H')(h:SqB tp K H a xs):SqB tp K H' a xs:=by
 cases tp with
 | false=>exact s.seq h
 | true=>exact SqT.same s h
theorem sg{K:aa}(h:SqB b1 K W0 a vs)(h':SqB b2 K W0 b us)(r:Rps K W0 xs vs)(r':Rps K W0 ys us):Walks K (Itz b1 b2 K a b) (Bh xs ys) W0:=by
 intro i H0 H s0 s
 have hs:=h.same (s0.trans s)
 have hs':=h'.same (s0.trans s)
 have hl:(Bh xs ys).length=min xs.length ys.length:=by unfold Bh;simp
 refine⟨λhi=>?_,λhi=>⟨vs,us,hs,hs',by rw[r.length,r'.length];rw[hl]at hi;omega⟩⟩
 rw[hl]at hi
 obtain⟨v,e,rv⟩:=r.get (aA (show i<xs.length by omega))
 obtain⟨u,e',ru⟩:=r'.get (aA (show i<ys.length by omega))
 refine⟨⟨vs,us,v,u,hs,hs',e,e'⟩,λx H' y=>?_⟩
 obtain⟨p,w1,w2,rfl,hp,rfl,y1,y2⟩:=y
 have z1:=y1 vs hs
 have z2:=y2 us hs'
 rw[e]at z1
 rw[e']at z2
 cases z1
 cases z2
 refine⟨upd H0 p (.tup [v,u]),.put s hp,.tup [xs[i]'(by omega),ys[i]'(by omega)],?_,KJ (xs:=[xs[i]'(by omega),ys[i]'(by omega)]) ⟨_,_,rfl,rv.same s0,_,_,rfl,ru.same s0,rfl⟩ (s.free hp)⟩
 unfold Bh
 rw[getElem?_map,aA (by rw[List.length_zip];omega),List.getElem_zip]
 rfl
theorem oS{X:Cx}{x1}{tpos:Pos}(hg:Gl X "zip")(hm:X.mg "zip" = none)(ha:JAs X XE [a,b] da)
  (hs:autoParam (starEach [a,b] X.env=(false,eval a X.env)::starEach [b] X.env) auR)(hpl:autoParam ((backTo pos (starEach [b] X.env)).any (·.1)=false) auR):JI X XE (.Tuple elts x1 tpos) (.Call (.Name "zip" p) [a,b] [] pos) (dZip da):=by
 obtain⟨ta,p,d⟩:=ha.ex
 refine⟨_,js hg hm p (by decide +kernel) hs hpl,λc h k kx=>d c h (λvs ts H1 H2 e r h=>?_) kx⟩
 obtain⟨d1,d2,xs,ys,rfl,e1,e2,hq⟩:=h
 obtain⟨v,u,rfl,r1,r2⟩:=ue r
 obtain⟨b1,a1,vs,rfl,s1,t1⟩:=mx r1 e1
 obtain⟨b2,a2,us,rfl,s2,t2⟩:=mx r2 e2
 exact⟨a1,a2,b1,b2,rfl,⟨vs,s1.same e.sub⟩,⟨us,s2.same e.sub⟩,k _ _ _ _ e (sg s1 s2 t1 t2) hq⟩
end
section
theorem si:MtR X "str.removeprefix" (λx xs H Q=>∃ y z,x = .str y/\xs=[.str z]/\y.length<=az/\Q (.str (Txt.removeprefix y z)) H):=by
 intro pins s σ H x xs v us Q I rx r h
 obtain⟨y,z,rfl,rfl,hl,q⟩:=h
 obtain⟨t,rfl⟩:=rx
 obtain⟨u,rfl,ru⟩:=vals1 r
 obtain⟨t',rfl⟩:=ru
 exact SC.removeprefix (λt'' k=>⟨.str _,H,I.tok _,⟨_,rfl⟩,q⟩) hl
noncomputable def XC(y z:Str):Str×Str×Str:=match Builtin.Str.occurrences y z 0 y.length 1 with
 | i::_=>(Builtin.Str.strSub y 0 i,z,Builtin.Str.strSub y (i+z.length) y.length)
 | []=>(y,Str.empty,Str.empty)
theorem oU:MtR X "str.partition" (λx xs H Q=>∃ y z,x = .str y/\xs=[.str z]/\y.length<=az/\z.length≠0/\∀ p,H p=none->Q (.ref p) (upd H p (.tup [.str (XC y z).1,.str (XC y z).2.1,.str (XC y z).2.2]))):=by
 intro pins s σ H x xs v us Q I rx r h
 obtain⟨y,z,rfl,rfl,hl,hz,q⟩:=h
 obtain⟨t,rfl⟩:=rx
 obtain⟨u,rfl,ru⟩:=vals1 r
 obtain⟨t',rfl⟩:=ru
 have hz':(z.length==0)=false:=by simpa using hz
 have fin:∀ (a b c:Str) (ta tb tc:Tok) (k:Nat),(a,b,c)=XC y z->EP X pins σ Q (.ref s.heap.objs.size) { s with heap:=s.heap.push { cls := .type "tuple",data := .seq [.str a ta,.str b tb,.str c tc].toArray },toks:=k }:=λa b c ta tb tc k e=>by
  rw[<-e]at q
  exact⟨.ref s.heap.objs.size,_,I.laid (t':=k) (λb o e=>ao _ e) (Nat.le_refl _) (show YC X.prog X.w _ _ _ (.tup [.str a,.str b,.str c]) from⟨by show 3<=az;decide,_,.cons ⟨_,rfl⟩ (.cons ⟨_,rfl⟩ (.cons ⟨_,rfl⟩ .nil)),IsTup.new _ _⟩),rfl,q _ (I.hok.fresh (Nat.le_refl _))⟩
 refine call_meets PySem.F.slot_str_partition (typeIs_str _ _ _) PySem.F.entry_str_partition (PySem.F.args_str_partition_2 _ _) (meets_str_partition y z t t' hz' hl) ?_
 show EP X pins σ Q _ _
 cases e:Builtin.Str.occurrences y z 0 y.length 1 with
 | nil=>exact fin _ _ _ _ _ _ _ (by unfold XC;rw[e])
 | cons i r=>exact fin _ _ _ _ _ _ _ (by unfold XC;rw[e])
theorem HB:∀ (l:List (Str×Tok)),Vals ((l.map (·.1)).map V.str) (strValues l)
 | [] => .nil
 | p::l => .cons ⟨p.2,rfl⟩ (HB l)
theorem yQ(k:Nat)(ps:List Str):Vals (ps.map V.str) (strsFrom k ps):=by
 rw[strsFrom_eq]
 have:=HB (numbered k ps)
 rw[numbered_texts]at this
 exact this
theorem yR(y z:Str):(Builtin.Str.partsBetween y (Builtin.Str.occurrences y z 0 y.length (y.length+1)) z.length).length<=y.length+2:=by
 unfold Builtin.Str.partsBetween
 have:=StrLaws.occ_length_le y z 0 y.length (y.length+1)
 simp
 omega
theorem sj:MtR X "str.split" (λx xs H Q=>∃ y z,x = .str y/\xs=[.str z]/\y.length<=1000000/\z.length≠0/\∀ p,H p=none->Q (.ref p) (upd H p (.lst ((Txt.split y z).map V.str)))):=by
 intro pins s σ H x xs v us Q I rx r h
 obtain⟨y,z,rfl,rfl,hl,hz,q⟩:=h
 obtain⟨t,rfl⟩:=rx
 obtain⟨u,rfl,ru⟩:=vals1 r
 obtain⟨t',rfl⟩:=ru
 have hz':(z.length==0)=false:=by simpa using hz
 have hsz:az=16777216:=rfl
 have pl:=yR y z
 have fin:∀ (its:List Value) (k:Nat) (ps:List Str),ps=Txt.split y z->ps.length<=az->Vals (ps.map V.str) its->EP X pins σ Q (.ref s.heap.objs.size) { s with heap:=s.heap.push { cls := .type "list",data := .seq its.toArray },toks:=k }:=λits k ps e hp rv=>by
  rw[<-e]at q
  exact⟨.ref s.heap.objs.size,_,I.laid (t':=k) (λb o e=>ao _ e) (Nat.le_refl _) (show YC X.prog X.w _ _ _ (.lst (ps.map V.str)) from⟨by rw[length_map];exact hp,its,0,rv,aq _ rfl⟩),rfl,q _ (I.hok.fresh (Nat.le_refl _))⟩
 have go:∀ {S:PySem.Spec},Meets (Builtin.«str.split» ⟨[.str y t,.str z t'],[]⟩) S->S X.A (wants (EP X pins σ Q) X.xe) s->wpAny (model X.prog X.w) X.A (call (.builtin "str.split") [.str y t,.str z t']) (EP X pins σ Q) X.xe s:=λg h =>
  call_meets PySem.F.slot_str_split (typeIs_str _ _ _) PySem.F.entry_str_split (PySem.F.args_str_split_2 _ _) g h
 cases h1:(decide (y.length<z.length)||decide (Builtin.Str.strKind y<Builtin.Str.strKind z)) with
 | true=>exact go (meets_str_split_cannot_occur y z t t' h1) (fin [.str y t] s.toks [y] (by unfold Txt.split;rw[if_pos h1]) (by show 1<=az;decide) (.cons ⟨_,rfl⟩ .nil))
 | false =>
  cases hf:(Builtin.Str.occurrences y z 0 y.length (y.length+1)).isEmpty with
  | true=>exact go (meets_str_split_not_found y z t t' h1 hz' hf) (fin [.str y t] s.toks [y] (by unfold Txt.split;rw[if_neg (by rw[h1];decide),if_pos hf]) (by show 1<=az;decide) (.cons ⟨_,rfl⟩ .nil))
  | false=>exact go (meets_str_split_sep y z t t' h1 hz' hf (by omega) (by omega)) (fin _ _ _ (by unfold Txt.split;rw[if_neg (by rw[h1];decide),if_neg (by rw[hf];decide)]) (by omega) (yQ _ _))
theorem Gz:Xz X (.type "int") (λxs H Q=>∃ (x:Str) (n:Int),xs=[.str x]/\PySem.intText? x=some n/\x.length<=640/\Q (.int n) H):=by
 intro pins s σ H xs us Q I r h
 obtain⟨x,n,rfl,hn,hl,q⟩:=h
 obtain⟨u,rfl,ru⟩:=vals1 r
 obtain⟨t,rfl⟩:=ru
 exact PySem.W.KIN.call_text hn hl ⟨.int n,H,I.tok _,⟨_,rfl⟩,q⟩
noncomputable def Bi:D->List D->(D->Prop)->Prop
 | .str y,[.str z]=>λq=>y.length<=az/\q (.str (Txt.removeprefix y z))
 | _,_=>λ_=>False
theorem LA:JMt X "str" "str.removeprefix" Bi:=by
 refine⟨_,si,λ{H0 H v vs d xs q Q} s r rs h k=>?_⟩
 unfold Bi at h
 split at h
 ·obtain⟨u,rfl,e⟩:=VO rs
  rw[show u = .str _ from e]
  exact⟨_,_,r,rfl,h.1,k _ (.str _) _ _ (.refl s) rfl h.2⟩
 ·exact h.elim
noncomputable def dFind:D->List D->(D->Prop)->Prop
 | .str y,[.str z]=>λq=>q (.int (Txt.find y z))
 | _,_=>λ_=>False
noncomputable def Bj:D->List D->(D->Prop)->Prop
 | .str y,[.str z]=>λq=>y.length<=az/\z.length≠0/\q (.tup [.str (XC y z).1,.str (XC y z).2.1,.str (XC y z).2.2])
 | _,_=>λ_=>False
theorem GA:JMt X "str" "str.partition" Bj:=by
 refine⟨_,oU,λ{H0 H v vs d xs q Q} s r rs h k=>?_⟩
 unfold Bj at h
 split at h
 ·obtain⟨u,rfl,e⟩:=VO rs
  rw[show u = .str _ from e]
  exact⟨_,_,r,rfl,h.1,h.2.1,λp hp=>k _ (.tup _) _ _ (.put s hp) (KJ (xs:=[.str _,.str _,.str _]) ⟨_,_,rfl,rfl,_,_,rfl,rfl,_,_,rfl,rfl,rfl⟩ (s.free hp)) h.2.2⟩
 ·exact h.elim
theorem ED{K:aa}:∀ (ps:List Str),Rps K H (ps.map D.str) (ps.map V.str)
 | []=>rfl
 | p::ps=>⟨_,_,rfl,rfl,ED ps⟩
noncomputable def Bk:D->List D->(D->Prop)->Prop
 | .str y,[.str z]=>λq=>y.length<=1000000/\z.length≠0/\q (.lst ((Txt.split y z).map .str))
 | _,_=>λ_=>False
theorem Nn:JMt X "str" "str.split" Bk:=by
 refine⟨_,sj,λ{H0 H v vs d xs q Q} s r rs h k=>?_⟩
 unfold Bk at h
 split at h
 ·obtain⟨u,rfl,e⟩:=VO rs
  rw[show u = .str _ from e]
  exact⟨_,_,r,rfl,h.1,h.2.1,λp hp=>k _ (.lst _) _ _ (.put s hp) (Vl (ED _) (s.free hp)) h.2.2⟩
 ·exact h.elim
noncomputable def EE:List D->(D->Prop)->Prop
 | [.str x]=>λq=>∃ n,PySem.intText? x=some n/\x.length<=640/\q (.int n)
 | xs=>Ep xs
theorem Np:SE X (.type "int") EE:=by
 obtain⟨r1,c1,l1⟩:=(lY (X:=X)).ex
 refine⟨_,c1.or Gz,λ{H0 H vs xs q Q} s r h k=>?_⟩
 unfold EE at h
 split at h
 ·obtain⟨v,rfl,e⟩:=VO r
  obtain⟨n,h1,h2,h3⟩:=h
  rw[show v = .str _ from e]
  exact .inr ⟨_,n,rfl,h1,h2,k _ (.int _) _ _ (.refl s) rfl h3⟩
 ·exact .inl (l1 s r h k)
theorem sk:EE [.str y] q=∃ n,PySem.intText? y=some n/\y.length<=640/\q (.int n):=rfl
theorem sr:EE [.bl b] q=q (.int (if b then 1 else 0)):=rfl
theorem su:EE [.int i] q=q (.int i):=rfl
end
section
variable {X:Cx}{XE:St->XK}
noncomputable def UN(xs:List α)(k:Nat)(y:α):List α:=xs.take k++y::xs.drop k
noncomputable def zi:V->List V->Hp->VK->Prop:=λx vs H Q=>∃ l xs k y,x = .ref l/\vs=[.int k,y]/\H l=some (.lst xs)/\xs.length<az/\0<=k/\k<=xs.length/\Q .non (upd H l (.lst (UN xs k.toNat y)))
theorem yS:MtM X "list.insert" zi:=by
 intro pins s σ H x vs v us Q I rx rv h
 obtain⟨l,xs,k,y,rfl,rfl,hH,hz,k0,k1,q⟩:=h
 cases rx
 obtain⟨u,u2,rfl,⟨tk,rfl⟩,r2⟩:=vals2 rv
 obtain⟨z,its,n,r,hl,e⟩:=I.Cq hH
 have hsz:az=16777216:=rfl
 have hlen:=r.length
 have hfit:¬ (!Builtin.List.listFitsIndex k)=true:=by
  have:Builtin.List.listFitsIndex k=true:=by
   unfold Builtin.List.listFitsIndex
   simp only[aD,decide_eq_true_eq]
   omega
  rw[this];decide
 refine call_meets F.slot_list_insert ⟨_,e,rfl⟩ F.entry_list_insert (F.args_list_insert_3 _ _ _) (AutoSeq1.list_insert_list_int_val_1 l its.toArray n k tk u2 hfit (by rw[size_toArray];omega)) ⟨e,?_⟩
 refine⟨.non,_,I.lset (its':=UN its k.toNat u2) hH e ?_ (show Vals (UN xs k.toNat y) (UN its k.toNat u2) from(r.take _).append (.cons r2 (r.drop _))) ?_,rfl,q⟩
 ·have e1:(if k<0 then (k+(its.toArray.size:Int)).toNat else min k.toNat its.toArray.size)=k.toNat:=by
   rw[if_neg (by omega),size_toArray]
   omega
  show(its.toArray.extract 0 (if k<0 then (k+(its.toArray.size:Int)).toNat else min k.toNat its.toArray.size)).push u2++its.toArray.extract (if k<0 then (k+(its.toArray.size:Int)).toNat else min k.toNat its.toArray.size)=_
  rw[e1]
  apply Array.toList_inj.mp
  unfold UN
  rw[Array.toList_append,Array.toList_push,Array.toList_extract,Array.toList_extract,List.extract_eq_take_drop,List.extract_eq_take_drop,drop_zero,Nat.sub_zero,append_assoc,List.singleton_append]
  rw[show take (its.toArray.size-k.toNat) (List.drop k.toNat its.toArray.toList)=List.drop k.toNat its from take_of_length_le (by simp)]
 ·unfold UN
  simp only[length_append,length_take,length_cons,length_drop]
  omega
theorem Bl:MtR X "list.insert" zi:=yS
noncomputable def dIns(pk:List Nat)(i:Nat)(da:DA):DS:=λds e=>∃ xs,ds[i]?=some (.own xs)/\da (peekAt pk ds) (λas=>∃ k d,as=[.int k,d]/\d.imm=true/\xs.length<az/\0<=k/\k<=xs.length/\e.nx (ds.set i (.own (UN xs k.toNat d)))) (e.xc ds)
theorem Rps.ins{K:aa}(r:Rp K H d v):∀ {xs:List D}{vs:List V}(j:Nat),Rps K H xs vs->Rps K H (UN xs j d) (UN vs j v)
 | _,_,0,h=>⟨v,_,rfl,r,h⟩
 | [],_,_+1,h=>by rw[show _=[] from h];exact⟨v,[],rfl,r,rfl⟩
 | x::xs,_,j+1,⟨u,us,e,h1,h⟩=>by subst e;exact⟨u,_,rfl,h1,Rps.ins r j h⟩
theorem jt(pk:List Nat)(i:Nat)(ha:JAs X XE [e,e2] da)(hN:autoParam (X.N[i]?=some x) auR)(hv:Vis X.env.scope x:=by first | exact Or.inl rfl | exact Or.inr (Or.inl rfl) | exact Or.inr (Or.inr rfl))
  (hbase:autoParam (attributeBase (.Name x p) "insert" X.env (eval (.Name x p) X.env)=eval (.Name x p) X.env) auR)
  (hfew:autoParam (((backTo cpos (starEach [e,e2] X.env)).all (λx => !x.1)&&(backToKw cpos (keywordEach [] X.env)).all (λx=>x.1.isSome)
   && decide ([e,e2].length+([]:List Keyword).length+(if ([]:List Keyword).isEmpty then 0 else 1)<30))=true) auR)
  (hline:autoParam ((apos.endLine==cpos.line)=true) auR)(hs:autoParam (starEach [e,e2] X.env=(false,eval e X.env)::starEach [e2] X.env) auR)(hplain:autoParam ((backTo cpos (starEach [e2] X.env)).any (·.1)=false) auR)
  (hsw:autoParam (swapsWith (.Call (.Attribute (.Name x p) "insert" apos) [e,e2] [] cpos) none pos.line X.env=pure false) auR)(hd:autoParam ((x==("__debug__" : Str))=false) auD)(hcd:autoParam ((x==("__classdict__" : Str))=false) auD) :
  JS X XE (.Expr (.Call (.Attribute (.Name x p) "insert" apos) [e,e2] [] cpos) pos) (dIns pk i da):=by
 obtain⟨te,p1,d1⟩:=ha.ex
 refine⟨_,Kj (Au PySem.F.plainAttrs_list PySem.F.slot_list_insert PySem.F.type_list_insert Bl (pv i hN hv hd hcd) p1 hbase hfew hline hs hplain) hsw,λ{B0 B H0 H σ ds e T} c h o=>?_⟩
 obtain⟨xs,hi,h⟩:=h
 obtain⟨l,us,e1,h1,h2,h3⟩:=c.slot i _ hi
 refine⟨.ref l,Pl e1,.inl ⟨rfl,us,SqL.of h2⟩,?_⟩
 obtain⟨H1,c1,s1,l1,n1⟩:=c.peekAt pk
 refine d1 c1 h (λvs as H2 H3 e' r h=>?_) (o.kx c)
 obtain⟨k,d,rfl,im,hz,k0,k1,hq⟩:=h
 obtain⟨H4,e4,l4,_⟩:=e'.Ei s1 c.sub l1 n1
 obtain⟨v,u,rfl,ek,ru⟩:=ue r
 rw[show v = .int _ from ek]
 have hl:=h3.length
 refine⟨l,us,k,u,rfl,rfl,e4.s _ _ h2,by omega,k0,by omega,?_⟩
 obtain⟨a',us',f1,f2,f3,f4⟩:=c.push (ys:=UN xs k.toNat d) hi
 rw[e1]at f1
 cases f1
 exact o.nx _ _ _ _ (f4 H4 H3 _ e4 (Rps.ins (Rp.less l4 d im ru) _ (h3.same e4.s0))) hq
section
variable {prog:Program}{w:World}{A:Around}{E:Value->Shared->Prop}{s:Shared}{l:Addr}{a b:Int}{t u:Tok}{Q:Value->Shared->Prop}
end
end
section
theorem set_same{l:List α}(h:l[i]?=some a):l.set i a=l:=by
 obtain⟨hi,e⟩:=List.getElem?_eq_some_iff.mp h
 subst e
 exact List.set_getElem_self hi
theorem EF{XE:St->XK}{K:aa}(pk:List Nat)(d1:Den K XE te de):Oq K XE (tAug i te ipL) (CW pk i de Ex):=by
 intro B0 B H0 H σ ds e T c h o
 obtain⟨xs,hi,h⟩:=vU h
 obtain⟨l,us,e1,h1,h2,h3⟩:=c.slot i _ hi
 have es:=Pl e1
 refine⟨.ref l,es,?_⟩
 have fin:∀ {H1 H2:Hp}{a:D}{v:V},Ext H0 H H1 H2->Rp K H1 a v->Ex xs a (λys=>e.nx (ds.set i (.own ys)))->ipL (.ref l) v H2 λz H3=>T.nx (σ.set i (some z)) H3:=by
  intro H1 H2 a v e' r hq
  unfold Ex at hq
  split at hq
  ·obtain⟨b,vs,rfl,g2,g3⟩:=r
   refine⟨l,b,us,vs,rfl,rfl,e'.s _ _ h2,e'.sub _ _ g2,by rw[h3.length,g3.length];exact hq.1,?_⟩
   obtain⟨a',us',f1,f2,f3,f4⟩:=c.push (ys:=xs++_) hi
   rw[e1]at f1
   cases f1
   rw[set_same es]
   exact o.nx _ _ _ _ (f4 H1 H2 _ e' ((h3.same e'.s0).app g3)) hq.2
  ·exact hq.elim
 by_cases hpk:pk=[]
 ·subst hpk
  exact d1 c h (λv a H1 H2 e' r h=>fin e' r (Qr h).2) (o.kx c)
 ·obtain⟨H1,c1,s1,l1,n1⟩:=c.peekAt pk
  refine d1 c1 h (λv a H2 H3 e' r h=>?_) (o.kx c)
  obtain⟨H4,e4,l4,_⟩:=e'.Ei s1 c.sub l1 n1
  exact fin e4 (Rp.less l4 a ((Qr h).1.resolve_left hpk) r) (Qr h).2
theorem Wn{XE:St->XK}(pk:List Nat){np pos:Pos}(hN:X.N.Nodup)(hi:X.N[i]?=some x)(hx:Loc X.env.scope x)(he:JE X XE e de)(hf:X.fn x=true\/X.env.scope.names.lookup x=some .local:=by first | exact .inl rfl | exact .inr rfl) :
  JS X XE (.AugAssign (.Name x np) .Add e pos) (CW pk i de Ex):=by
 obtain⟨te,p1,d1⟩:=he.ex
 exact⟨_,mW hN hi hx p1 Eg hf,EF pk d1⟩
end
structure sv (P:Program)(w:World)(K:aa)(mg:Str->Option Value)(base:Heap)(k:Nat)(f:Addr)(fd:FuncData)(ps:List Str)(g:DSp):Prop where
 len:∀ xs q x,g xs q x->xs.length=ps.length
 run:∀ (A:Around) (e:Value) (outer:List Env) (s:Shared) (H:Hp) (args:Args) (us:List Value) (vs:List V) (Q:VK),XA k A->HU P w K mg base A outer s H->BindsTo s fd args (ps.zip us)->Vals vs us->spD K g vs H Q (λ_ _ _=>False) ->
  codeAny (model P w) (A.mark (some e)) (.call (.ref f) args) (CR (CXE P w) outer P w H s Q (λ_ _ _=>False)) s
section
theorem Fun.okH{K:aa}{st:Stmt}{f:Addr}{fd:FuncData}{N ps:List Str}{k:Nat}{g:DSp}(F:Fun K x qual st f fd)(S:Zn N ps (Zf st))(len:∀ xs q x,g xs q x->xs.length=ps.length)
  (hbody:∀ (cdv:Value) (A:Around) (outer:List Env) (s:Shared) (H:Hp) (E:XK) (ev:Value),XA k (A.deeper (envOfC qual (Zf st) s.heap.objs.size f cdv)) ->
   ∃ b,JSs ((ZS (CXE P w) P w K mg base N qual (Zf st) f cdv A outer s H E).handling ev) XN (Ye st) b/\∀ xs q x,g xs q x->b (Qu N xs) { nx:=λ_=>q .non,rt:=q,xc:=λ_=>x }):sv P w K mg base (k+1) f fd ps g:=by
 have hpl:ps.length<=N.length:=by have:=congrArg length S.pre;rw[length_take]at this;omega
 obtain⟨oc,od,kV,doc,pm,an,cdv,ct,osl,rfl,lk,hcd⟩:=F.ex
 refine⟨len,λA ev outer s H args us vs Q hr e0 hb r hsp=>?_⟩
 obtain⟨H0,xs,q,xx,s0,rr,hg,kq,kx⟩:=hsp
 have hl:vs.length=ps.length:=by rw[rr.length];exact len xs q xx hg
 have KX:K.In s.heap:=e0.mod.kin.keeps λb o e=>(e0.bs b o e).1
 have lim:s.heap.NoLimit:=e0.mod.nolimit.keeps λb o e=>(e0.bs b o e).1
 have hkind:∀ y∈ps.zip us,(Zf st).names.lookup y.1=some .local\/((Zf st).names.lookup y.1=some .cell/\((cellsFrom (s.heap.objs.size+1) (Zf st).names []).lookup y.1).isSome=true):=λ⟨n,v⟩ hy=>by
  rcases S.par n (of_mem_zip hy).1 with q|q
  ·exact .inl q
  ·exact .inr ⟨q,cellsFrom_some _ _ _ (.inl q)⟩
 refine codeAny_call_function (A:=A.mark (some ev)) hr.depth (KX _ _ lk) rfl S.co S.gen rfl (PySem.W.codeRec_of KX hcd) (hb _ _ _ _ ?_)
 refine wpAny_newFunctionEnv_cells S.kind hkind λenv he s1 x=>?_
 subst he
 refine⟨lim.keeps x.toInCall.keep,codeAny_func ?_⟩
 obtain⟨b,j,hbb⟩:=hbody cdv A outer s H (λ_ _ _=>False) ev (hr.deeper _)
 obtain⟨t,pt,dt⟩:=j.ex
 have I:=(Hl (CX:=CXE P w) (E:=λ_ _ _=>False) S hr.hd e0 hl r x).handle ev
 have hq:=dt (Hu s0 rr (by rw[len xs q xx hg];exact hpl)) (hbb xs q xx hg) (T:={ nx:=λ_ H'=>Q .non H',rt:=Q }) ⟨λH0' H' σ ds c hq=>kq _ .non _ _ c.ext rfl hq,λv d H0' H' e rv hq=>kq _ _ _ _ e rv hq,λH0' H' σ ds C c hx=>kx C H' c.ext.s hx,λ_ _ _ _ _ h=>h.elim,λ_ _ _ _ _ h=>h.elim,λ_ _ _ _ _ _ _ _ h=>h.elim,λ_ _ _ _ _ _ _ _ _ _ _ _ _ h=>h.elim⟩
 refine wpAny_mono (pt [] s1 (start N vs) H _ I hq) (λfl s' hs=>?_) λe s' hs=>False.elim hs
 cases fl with
 | ret u =>
  obtain⟨v,σ',H',J,rv,q⟩:=hs
  exact⟨v,H',J.os,J.bare,J.base,J.hok,rv,q⟩
 | next =>
  obtain⟨σ',H',J,q⟩:=hs
  exact⟨V.non,H',J.os,J.bare,J.base,J.hok,rfl,q⟩
 | brk =>
  obtain⟨_,_,_,q⟩:=hs
  exact False.elim q
 | cont =>
  obtain⟨_,_,_,q⟩:=hs
  exact False.elim q
end
section
theorem sx{X:Cx}{g:DSp}{x:Str}{p:Pos}{pos:Pos}{e:Expr}{es:List Expr}{da:DA}(F:sv X.prog X.w X.K X.mg X.base k f fd ps g)(hr:XA k X.A)(hg:Gl (X.handling ev) x)(hm:X.mg x=some (.ref f))(hk:keepIn X.K (.ref f)=true)(hb:Binds X.K fd ps [])
  (ha:JAs (X.handling ev) XN (e::es) da)(hst:autoParam (ZO (e::es)=true) auR)(hdb:autoParam ((x==("__debug__" : Str))=false) auD):JE (X.handling ev) XN (.Call (.Name x p) (e::es) [] pos) (dCall g da):=by
 obtain⟨ta,p1,d1⟩:=ha.ex
 have hn:=hst
 unfold ZO at hn
 rw[aD]at hn
 refine⟨Ct (spD X.K g) XN ta,?_,λc h k kx=>d1 c h (λvs xs H1 H2 e r h=>?_) kx⟩
 ·intro pins s σ H Q I h
  refine wpAny_Call_Name_kw (Vs I hg hm ?_ hdb)
  refine callWith_K (h₀:=X.base) I.ok.mod.kin hk (thn (p1 pos pins s σ H _ I h) λus s1 ⟨vs,H1,I1,r,q⟩=>⟨I1.kIn,?_⟩) (Wk hn.1) (WM hn.2 pos)
  have hl:(us++[]).length=ps.length:=by
   obtain⟨H0,xs,q',x',_,rr,hg',_⟩:=q
   rw[append_nil,<-r.length,rr.length]
   exact F.len _ _ _ hg'
  have hb':=hb s1 us I1.kIn hl
  rw[append_nil]at hb'
  have e0:HU X.prog X.w X.K X.mg X.base X.A X.stack s1 H1:=by
   have:=I1.env0
   exact⟨this.frames,this.mod,this.bs,this.bsz,this.Si,this.frf,this.hok,this.bare⟩
  refine wpAny_call (codeAny_mono (F.run X.A ev X.stack s1 H1 ⟨us,[]⟩ us vs Q hr e0 hb' r q) λr s' hq=>?_)
  cases r with
  | error e =>
   obtain⟨_,_,_,_,_,_,_,_,_,_,_,_,_,_,z⟩:=hq
   exact z.elim
  | ok fl =>
   cases fl with
   | ret u=>exact I1.after hq
   | next=>exact False.elim hq
   | brk=>exact False.elim hq
   | cont=>exact False.elim hq
 ·exact⟨H1,xs,_,_,e.sub,r,h,k.go e,(kx.go e.s)⟩
end
section
end
section
end
section
theorem sy:MtR X "str.strip" (λx xs H Q=>∃ y z,x = .str y/\xs=[.str z]/\y.length<=az/\Q (.str (Txt.stripChars y z)) H):=by
 intro pins s σ H x xs v us Q I rx r h
 obtain⟨y,z,rfl,rfl,hl,q⟩:=h
 obtain⟨t,rfl⟩:=rx
 obtain⟨u,rfl,ru⟩:=vals1 r
 obtain⟨t',rfl⟩:=ru
 exact call_gives F.slot_str_strip (typeIs_str _ _ _) F.entry_str_strip (F.args_str_strip_2 _ _) (gives_str_strip_chars y z t t') (post_val_or_made (λ_=>fits_stripped _ _ _ hl) λt'' k=>⟨.str _,H,I.tok _,⟨_,rfl⟩,q⟩)
noncomputable def Bm:D->List D->(D->Prop)->Prop
 | .str y,[.str z]=>λq=>y.length<=az/\q (.str (Txt.stripChars y z))
 | _,_=>λ_=>False
theorem sA:JMt X "str" "str.strip" Bm:=by
 refine⟨_,sy,λ{H0 H v vs d xs q Q} s r rs h k=>?_⟩
 unfold Bm at h
 split at h
 ·obtain⟨u,rfl,e⟩:=VO rs
  rw[show u = .str _ from e]
  exact⟨_,_,r,rfl,h.1,k _ (.str _) _ _ (.refl s) rfl h.2⟩
 ·exact h.elim
end
noncomputable def MuOk(K:aa)(H0 H:Hp)(μ:Mu):Prop:=∀ b m,μ.lookup b=some m->H0 b=none/\∃ u,H b=some u/\vT K H0 m u
structure Lv (K:aa)(μ μ':Mu)(H0 H H0' H':Hp):Prop where
 s:∀ b o,μ.lookup b=none->H b=some o->H' b=some o
 s0:ZA H0 H0'
 sub:ZA H0' H'
 new:∀ b,μ.lookup b=none->H0 b=none->H b≠none->H0' b=none
 ok:MuOk K H0' H' μ'
 old:∀ b m,μ'.lookup b=some m->μ.lookup b≠none\/H b=none
section
end
section
end
end L2
namespace HT
open PySem PySem.Spec PyProof.Rows L2
section
end
end HT
namespace L2
open PySem PySem.Spec PyProof.Rows
section
end
section
theorem Lv.of{K:aa}{p:Nat}{μ μ':Mu}(h1:∀ b,μ.lookup b=none->B b=H b)(h2:∀ b m,μ.lookup b=some m->B b=none)(hm:MuOk K H0 H μ)(c:Cfg K H0 B H0' H' σ ds)(q:ds[p]?=some (.st a μ')):Lv K μ μ' H0 H H0' H':=by
 have sl:=c.slot p _ q
 refine⟨λb o e z=>c.ext.s _ _ (by rw[h1 b e];exact z),c.ext.s0,c.sub,λb e z n=>c.ext.new b z (by rw[h1 b e];exact n),sl.2,λb m e=>?_⟩
 ·have y:=c.young p _ b q ⟨m,e⟩
  cases z:μ.lookup b with
  | none=>right;rw[<-h1 b z];exact y
  | some m'=>left;simp
end
section
end
section
end
section
end
section
end
structure FnB (K:aa)(mg:Str->Option Value)(x:Str)(st:Stmt)(ps:List Str)(f:Addr)(d:FuncData):Prop where
 F:Fun K x x st f d
 m:mg x=some (.ref f)
 a:Binds K d ps []
noncomputable def LkB(K:aa)(x:Str)(st:Stmt)(ps:List Str)(f:Addr):Prop:=PySem.W.nsIn K mainGlobals x=some (some (.ref f))/\∃ fd,Fun K x x st f fd/\Binds K fd ps []
theorem ju{K:aa}{st:Stmt}{od an:Option Addr}{osl:Array (Option Value)}{kV doc pm cdv ct:Value}(a:PySem.W.nsIn K mainGlobals x=some (some (.ref f)))
  (l:K.lookup f=some ⟨oc,od,.func (PySem.W.fnOf x x (XI st) (Ye st) (Zf st) .none kV doc pm an cdv ct),osl⟩)(c:PySem.W.codeIn K cdv x=true)(k:keepIn K (.ref f)=true)
  (b:∀ (kV doc pm:Value) (an:Option Addr) (cdv ct:Value) (us:List Value),us.length=ps.length->bindArgs (PySem.W.fnOf x x (XI st) (Ye st) (Zf st) .none kV doc pm an cdv ct) ⟨us,[]⟩=pure (ps.zip us)):LkB K x st ps f:=⟨a,_,Mj l c k,(Mj l c k).binds b⟩
theorem LkB.get{K:aa}{st:Stmt}{mg:Str->Option Value}(z:LkB K x st ps f)(X:K.In h)(G:h.Ns mainGlobals mg):∃ d,FnB K mg x st ps f d :=
 let ⟨a,d,F,b⟩:=z
 ⟨d,F,mg_of X G a,b⟩
structure ExB (K:aa)(mg:Str->Option Value)(x:Str)(C:Addr):Prop where
 M:mg x=some (.ref C)
 x:KA K C
 t:XTy K C
noncomputable def ExK(K:aa)(x:Str)(C:Addr):Prop:=PySem.W.nsIn K mainGlobals x=some (some (.ref C))/\KA K C/\XTy K C
theorem ExK.get{K:aa}(z:ExK K x C)(X:K.In h)(G:h.Ns mainGlobals mg):ExB K mg x C:=⟨mg_of X G z.1,z.2.1,z.2.2⟩
theorem jw{K:aa}(a:PySem.W.nsIn K mainGlobals x=some (some (.ref C)))(b:excIn K C [.type "ValueError",.type "Exception",.type "BaseException",.type "object"] "ValueError.__new__" = true)
  (c:findIn K (.ref C) "__getattribute__" = some (some (.builtin "BaseException.__getattribute__")))(d:findIn K (.ref C) "__getattr__" = some none)(e:findIn K (.ref C) "__class__" = some (some (.builtin "object.__class__")))
  (f:mroIn K C (.type "object")=some true)(g:mroIn K C (.type "BaseException")=some true)(h:isClsIn K C=true):ExK K x C:=⟨a,⟨b⟩,⟨c,d,e,f,g,h⟩⟩
section
theorem EG{x:Str}{st:Stmt}{e:Expr}{es:List Expr}{g:DSp}{p pos:Pos}{da:DA}(F:ZL X.prog X.w X.K X.mg X.base (CXE X.prog X.w) k f fd ps (spD X.K g))(B:FnB X.K X.mg x st ps f fd)(hr:XA k X.A)(hx:XZ X XE)(ha:JAs X XE (e::es) da)(hg:autoParam (Gl X x) auR)
  (hst:autoParam (ZO (e::es)=true) auR)(hdb:autoParam ((x==("__debug__" : Str))=false) auD):JE X XE (.Call (.Name x p) (e::es) [] pos) (dCall g da):=pB F hr hg B.m B.F.kp B.a hx ha hst hdb
end
theorem us1{P:List α->Prop}(h:∀ a,P [a]):∀ us,us.length=1->P us | [a],_=>h a
theorem us2{P:List α->Prop}(h:∀ a b,P [a,b]):∀ us,us.length=2->P us | [a,b],_=>h a b
theorem us3{P:List α->Prop}(h:∀ a b c,P [a,b,c]):∀ us,us.length=3->P us | [a,b,c],_=>h a b c
theorem us4{P:List α->Prop}(h:∀ a b c d,P [a,b,c,d]):∀ us,us.length=4->P us | [a,b,c,d],_=>h a b c d
theorem us5{P:List α->Prop}(h:∀ a b c d e,P [a,b,c,d,e]):∀ us,us.length=5->P us | [a,b,c,d,e],_=>h a b c d e
theorem us6{P:List α->Prop}(h:∀ a b c d e f,P [a,b,c,d,e,f]):∀ us,us.length=6->P us | [a,b,c,d,e,f],_=>h a b c d e f
section
end
section
end
section
end
theorem nDk(a b:List Str)(h:(a++b).Nodup:=by decide +kernel):(a++b).Nodup:=h
section
variable {X:Cx}{XE:St->XK}
theorem Yj(i:Nat){x:Str}{pos:Pos}(hN:X.N.Nodup)(hi:autoParam (X.N[i]?=some x) auR)(hx:Loc X.env.scope x:=by first | exact .inl rfl | exact .inr rfl)(hf:X.fn x=true\/X.env.scope.names.lookup x=some .local:=by first | exact .inl rfl | exact .inr rfl | assumption):JG X (.Name x pos) (Xu i):=pw hN hi hx hf
theorem ZI(i:Nat){x:Str}{e:Expr}{de:DE}{pos pos':Pos}(hN:X.N.Nodup)(he:JE X XE e de)(hi:autoParam (X.N[i]?=some x) auR)(hx:Loc X.env.scope x:=by first | exact .inl rfl | exact .inr rfl)(hs:autoParam (swapsWith e (some (.Name x pos')) pos.line X.env=pure false) auR)
  (hf:X.fn x=true\/X.env.scope.names.lookup x=some .local:=by first | exact .inl rfl | exact .inr rfl | assumption):JS X XE (.Assign [.Name x pos'] e pos) (CN de (Xu i)):=kh hN hi hx he hs hf
theorem Zw{n k:Nat}{f:Addr}{fd:FuncData}{ps:List Str}{x:Str}{st:Stmt}{e:Expr}{es:List Expr}{g:DSp}{p pos:Pos}{da:DA}(F:ZL X.prog X.w X.K X.mg X.base (CXE X.prog X.w) k f fd ps (spD X.K g))(B:FnB X.K X.mg x st ps f fd)(hr:XA n X.A)(ha:JAs X XE (e::es) da)
  (hx:XZ X XE:=by first | exact Kz | exact AZ | exact yq)(hk:autoParam (k<=n) auD)(hg:autoParam (Gl X x) auR)(hst:autoParam (ZO (e::es)=true) auR)(hdb:autoParam ((x==("__debug__" : Str))=false) auD):JE X XE (.Call (.Name x p) (e::es) [] pos) (dCall g da):=EG F B (hr.mono hk) hx ha hg hst hdb
end
section
variable {M:Model}{A:Around}{E:Value->Shared->Prop}{s:Shared}{Q:Unit->Shared->Prop}
theorem UO{base:Heap}{l:List Env}{e:Addr}{cls a0 fl:Value}{fr:Option Addr}
  (hkb:base.StaysIn s.heap)(hl:s.heap.FunFrames base l)(ht:s.heap.TracedAtW base e cls a0 fl)
  (h:∀ h',base.StaysIn h'->h'.FunFrames base l->h'.TracedAtW base e cls a0 (fr.elim Value.none λf=>rawInt f)->s.heap.UpToSlots h'->h'.get? e=s.heap.get? e->Q () { s with heap:=h' }) :
  wpAny M A (setFlight (.ref e) fr) Q E s:=by
 obtain⟨oe,vs,T,oT,ts,he,hcls,hd,h1,hnT,hTe,hT,hdT,h3⟩:=ht
 have hsz3:3<ts.size:=(Array.getElem?_eq_some_iff.mp h3).1
 have other:∀ b,b≠T->(s.heap.update T (Obj.mapFields (·.setIfInBounds 3 (fr.elim Value.none λf=>rawInt f)))).get? b=s.heap.get? b :=
  λb hb=>Heap.get?_update_other _ _ (Ne.symm hb)
 have noRecord:∀ b o,s.heap.get? b=some o->(∀ vs,o.data ≠ .fields vs)->b≠T:=λb o hb hnf q=>by
  rw[q,hT]at hb;injection hb with hb;subst hb;exact hnf ts hdT
 unfold setFlight
 refine aj (wpAny_field he hd h1 ?_)
 rw[if_pos (show(Value.ref T != Value.none)=true from by simp)]
 refine wpAny_setField hT hdT hsz3 (h _ (λb o hbo=>(other b λq=>by rw[q,hnT]at hbo;cases hbo).trans (hkb b o hbo))
  (hl.of_keeps λb o hb hnf=>⟨o,(other b (noRecord b o hb hnf)).trans hb,rfl⟩) ?_ (λb o hb hnf=>⟨o.slots,(other b (noRecord b o hb hnf)).trans hb⟩) (other e (Ne.symm hTe)))
 exact⟨oe,vs,T,_,_,(other e (Ne.symm hTe)).trans he,hcls,hd,h1,hnT,hTe,Heap.get?_update_self _ hT (Obj.isFreed_of_fields (Obj.data_mapFields hdT _)),Obj.data_mapFields hdT _,by simp[hsz3]⟩
theorem Jd{base:Heap}{env:Env}{outer:List Env}{L e:Addr}{cls a0 fl:Value}
  (hfr:A.frames=some (env::outer))(hf:env.frame=some L)(hkb:base.StaysIn s.heap)(hen:base.get? e=none)(hl:s.heap.FunFrames base (env::outer))(ht:s.heap.TracedAtW base e cls a0 fl)
  (hQ:∀ h',Heap.FlyingW base outer e cls a0 h'->s.heap.UpToSlots h'->Q () { s with heap:=h' }):wpAny M A (leaving env (.ref e)) Q E s:=by
 by_cases hL:fl=rawInt L
 ·subst hL
  unfold leaving
  refine aj (wpAny_noteFrame_againW hf ht ?_)
  exact wpAny_landsW ⟨hkb,hen,hl,ht⟩ λh' ⟨k1,k2,⟨_,_,k3⟩,k4⟩ up=>hQ h' ⟨k1,k2,k3,k4⟩ up
 ·obtain⟨oe,vs,T,oT,ts,he,⟨hcls,h0⟩,hd,h1,hnT,hTe,hT,hdT,h3⟩:=ht
  subst hcls
  unfold leaving noteFrame
  simp only[hf]
  refine aj (aj (wpAny_field he hd h1 ?_))
  rw[if_pos (show(Value.ref T != Value.none)=true from by simp)]
  refine aj (wpAny_field hT hdT h3 ?_)
  rw[if_neg (show ¬ ((fl==rawInt L)=true) from by simpa using hL)]
  refine aj (wpAny_setField hT hdT (Array.getElem?_eq_some_iff.mp h3).1 ?_)
  have other:∀ b,b≠T->(s.heap.update T (Obj.mapFields (·.setIfInBounds 3 Value.none))).get? b=s.heap.get? b:=λb hb=>Heap.get?_update_other _ _ (Ne.symm hb)
  have noRecord:∀ b o,s.heap.get? b=some o->(∀ vs,o.data ≠ .fields vs)->b≠T:=λb o hb hnf q=>by
   rw[q,hT]at hb;injection hb with hb;subst hb;exact hnf ts hdT
  refine wpAny_newEntryW hfr (hl.of_keeps λb o hb hnf=>⟨o,(other b (noRecord b o hb hnf)).trans hb,rfl⟩) hf ((other e (Ne.symm hTe)).trans he)
   (λb o hbo=>(other b λq=>by rw[q,hnT]at hbo;cases hbo).trans (hkb b o hbo)) hen hd (Array.getElem?_eq_some_iff.mp h1).1 h0
   λh' ⟨x1,⟨_,_,x2⟩,x3,x4⟩=>hQ h' ⟨x1,hen,x2,x3⟩ λb o hb hnf=>x4 b o ((other b (noRecord b o hb hnf)).trans hb) hnf
end
abbrev Yr(X:Cx)(own:Scope)(N:List Str)(E:XK)(z:CZ):Cx:=(Zv X own N z).wish λe s'=>∃ pins σ H s,Inv (Zv X own N z) pins σ H s/\CXE X.prog X.w X.stack H s E e s'
theorem Bn:XZ (Yr X own N E z) (λ_=>E):=λpins σ H s e s' I h=>⟨pins,σ,H,s,I.Sl,h⟩
theorem Bo(I:Nat->Shared->Prop){E:Value->Shared->Prop}(hE:∀ e s',E e s'->notedBy (model prog w) A env (λe s'=>R (.error e) s') e s')
  (turn:∀ n s,I n s->wpAny (model prog w) A (pyNext it) (λr s₁=>match r with
   | none=>R (.ok .next) s₁
   | some v=>wpAny (model prog w) A (letOwnedTupleGo target it v) (λ_ s₁=>wpAny (model prog w) A (assign target env v) (λ_ s₂ =>
     wpAny (model prog w) A (forIn ifs true λc r=>if r=true then do let ok <- isTrue c env (eval c env);pure (ForInStep.yield ok) else pure (ForInStep.yield r)) (λok s₃ =>
      if ok=true then wpAny (model prog w) A (eval elt env) (λx s₄ =>
       wpAny (model prog w) A (call (.builtin "list.append") [acc,x]) (λ_ s₅=>∃ m,m<n/\I m s₅) E s₄) E s₃
      else ∃ m,m<n/\I m s₃) E s₂) E s₁) E s₁) E s)
  (n:Nat)(h:I n s) :
  codeAny (model prog w) A (.compLoop (.ListComp elt [⟨target,iter,ifs,0⟩] scope pos) 0 it acc env) R s:=by
 refine codeAny_loop rfl I (λn s hI=>?_) n h
 show wpAny _ A ((compTurn (.ListComp elt [⟨target,iter,ifs,0⟩] scope pos) 0 it acc env).onRaise (λx=>do noteFrame x env;theTreesLotGoes x)) _ _ s
 refine wpAny_noted ?_
 rw[compTurn_list]
 refine aj (wpAny_standAt (aj (wpAny_mono (turn n s hI) (λr s₁ h₁=>?_) hE)))
 cases r with
 | none=>exact ak h₁
 | some v =>
  refine aj (wpAny_mono h₁ (λ_ s₁ h₁=>?_) hE)
  refine aj (wpAny_mono h₁ (λ_ s₂ h₂=>aj (wpAny_mono h₂ (λok s₃ h₃=>?_) hE)) hE)
  cases ok with
  | false=>exact ak ⟨rfl,h₃⟩
  | true =>
   exact aj (aj (wpAny_mono h₃ (λx s₄ h₄=>aj (wpAny_mono h₄ (λ_ s₅ h₅=>ak (ak ⟨rfl,h₅⟩)) hE)) hE))
theorem Bp{E:XK}
  (hg:PG (Yr X own N E z) tg g)(hf:PIf (Yr X own N E z) ifs tf)(he:PE (Yr X own N E z) elt te)(hc:X.calm=true)(T:Turn X.prog X.w X.K tg J z.fp it tn)(fo:∀ H':Hp,(∀ b∈z.fp,H' b=none)->∀ b∈z.fp,Ql (Zv X own N z) [] H' b)
  (I:Inv (Zv X own N z) [] σ H s)(st:tn 0 s.heap)(fr:∀ b∈z.fp,H b=none)(h:Gh J g tf te Dd σ H Q)(hR:∀ σ' H' s',Inv (Zv X own N z) [] σ' H' s'->Q H'->R (.ok .next) s')
  (hE:∀ e s',(Yr X own N E z).xe e s'->notedBy (model X.prog X.w) X.A (compEnvC own z.cl z.C X.env) (λe s'=>R (.error e) s') e s') :
  codeAny (model X.prog X.w) X.A (.compLoop (.ListComp elt [⟨tg,iter,ifs,0⟩] sc pos) 0 (.ref it) (.ref Dd) (compEnvC own z.cl z.C X.env)) R s:=by
 obtain⟨W,⟨m0,w0⟩,turn⟩:=h
 refine Bo (λn s'=>∃ i σ' H',Inv (Yr X own N E z) [] σ' H' s'/\tn i s'.heap/\(∀ b∈z.fp,H' b=none)/\W i n σ' H') hE ?_ m0 ⟨0,σ,H,I.wish _,st,fr,w0⟩
 rintro n s3 ⟨i,σ3,H3,I3,st3,fr3,w3⟩
 rcases turn i n σ3 H3 w3 with⟨stop,qn⟩|⟨go,Nx,hN,step⟩
 ·refine thn (T.done (Yr X own N E z) rfl rfl rfl hc i [] s3 σ3 H3 _ I3 (fo H3 fr3) st3 stop) λr s4 zq=>?_
  obtain⟨hr,I4⟩:=zq
  subst hr
  exact hR σ3 H3 s4 I4.Sl qn
 ·refine thn (T.item (Yr X own N E z) rfl rfl rfl hc i [] s3 σ3 H3 _ I3 (fo H3 fr3) st3 go) λr s4 zq=>?_
  obtain⟨u,hr,h4⟩:=zq
  subst hr
  refine thn h4 λ_ s5 zq=>?_
  obtain⟨x,H5,I5,r5,y5,st5,fr5⟩:=zq
  have I5':=I5.pinned (fo H5 fr5) (T.obj _ _ st5)
  refine thn (hg _ s5 σ3 H5 x u _ I5' r5 (step x H5 y5)) λ_ s6 zq=>?_
  obtain⟨σ6,H6,I6,q6⟩:=zq
  have again:∀ {σ7:St}{H7:Hp}{s7:Shared},Inv (Yr X own N E z) ([]++Mg z.fp s5.heap) σ7 H7 s7->Nx σ7 H7->∃ m,m<n/\∃ i σ' H',Inv (Yr X own N E z) [] σ' H' s7/\tn i s7.heap/\(∀ b∈z.fp,H' b=none)/\W i m σ' H':=λ{σ7 H7 s7} I7 n7=>by
   obtain⟨m',hm,w7⟩:=hN σ7 H7 n7
   refine⟨m',hm,i+1,σ7,H7,I7.Qm,T.keep _ _ _ st5 λb hb o e=>(I7.pin (b,o) (mem_append_right _ (mem_append_right _ (Vj hb e)))).1,λb hb=>?_,w7⟩
   obtain⟨o,e,d⟩:=T.obj _ _ st5 b hb
   exact(I7.pin (b,o) (mem_append_right _ (mem_append_right _ (Vj hb e)))).2.1
  refine thn (hf _ s6 σ6 H6 _ I6 q6) λb s7 zq=>?_
  obtain⟨H7,I7,q7⟩:=zq
  cases b with
  | false=>exact again I7 q7
  | true =>
   refine thn (he _ s7 σ6 H7 _ I7 q7) λy s8 zq=>?_
   obtain⟨yv,H8,I8,r8,ys,e8,z8,n8⟩:=zq
   exact thn (Mi _ s8 σ6 H8 (.ref Dd) [yv] (.ref Dd) [y] (λ_ H'=>Nx σ6 H') I8 rfl (.cons r8 .nil) ⟨Dd,ys,yv,rfl,rfl,e8,z8,n8⟩) λ_ s9 ⟨_,H9,I9,_,q9⟩=>again I9 q9
noncomputable def sC(X:Cx)(own:Scope)(E:XK):Prop:=∀ {N pins σ H s cl C fp}(Q:Value->Shared->Prop) acc,Inv X pins σ H s->s.heap.objs.size<=C->(∀ b∈fp,Ql X pins H b)->∀ e s',(Yr X own N E ⟨cl,C,s,H,fp⟩).xe e s'->notedBy (model X.prog X.w) X.A (compEnvC own cl C X.env) (λe s'=>compPost (model X.prog X.w) X.A X.xe none Q acc C (.error e) s') e s'
theorem sD(ts Nc:List Str)(fr:List Nat){E:XK}{g:TG}{tf:TT}{te:TE}(hi:PI X tg iter wi)
  (hg:∀ z,PG (Yr X own (ts++Nc) E z) tg g)(hf:∀ z,PIf (Yr X own (ts++Nc) E z) ifs tf)(he:∀ z,PE (Yr X own (ts++Nc) E z) elt te)(hc:X.calm=true)(c:UF own X.env.scope Nc=true)(hN:fr.map (X.N[·]?)=Nc.map some)
  (hs:∀ x,foldedSetIterable iter X.env x=pure x)
  (hE:sC X own E) :
  PE X (.ListComp elt [⟨tg,iter,ifs,0⟩] own pos) (Eb ts.length fr wi g tf te):=by
 have c:=Mm c
 intro pins s0 σ H0 Q I0 h0
 obtain⟨cl,e0,hc1,hc2⟩:=Ol (scope:=own) (env:=X.env) λy hy e=>I0.ok.has y.1 (c.free y hy e)
 rw[eval_ListComp]
 refine wpAny_comprehension_free (use:=none) rfl hs e0 c.kind c.loc (thn (hi pins s0 σ H0 _ I0 h0) λxv s₁ h₁=>thn h₁ λitv s h₂=>?_)
 obtain⟨it,fp,tn,J,H,e,I,T,st,fo,h⟩:=h₂
 subst e
 refine wpAny_newObj_type (wpAny_newFunctionEnv c.nocell (by intro y hy;simp at hy) (λh₁ hns₁ hsb₁=>?_) c.kind)
 dsimp only at hns₁ hsb₁⊢
 have hlt:∀ b∈fp,b<s.heap.objs.size:=λb hb=>let ⟨o,e,_⟩:=T.obj 0 _ st b hb;au e
 generalize hH2:s.heap.push { cls := .type "list",dict:=none,data := .seq ([]:List Value).toArray }=H2 at hns₁ hsb₁⊢
 have hC:H2.objs.size=s.heap.objs.size+1:=by rw[<-hH2,Heap.size_push]
 have hDC:s.heap.objs.size≠H2.objs.size:=by rw[hC];exact Nat.ne_of_lt (Nat.lt_succ_self _)
 have hCle:s.heap.objs.size<=H2.objs.size:=by rw[hC];exact Nat.le_succ _
 have below:∀ b,b<s.heap.objs.size->b≠H2.objs.size:=λb hb=>by rw[hC];exact Nat.ne_of_lt (Nat.lt_succ_of_lt hb)
 have old:∀ b o,s.heap.get? b=some o->h₁.get? b=some o:=λb o e=>hsb₁.extBut b o (below b (au e)) (ao _ (hH2 ▸ ao _ e))
 have hacc:h₁.get? s.heap.objs.size=some { cls := .type "list",data := .seq #[] }:=hsb₁.extBut _ _ hDC (ao _ (hH2 ▸ aq _ rfl))
 have st1:tn 0 h₁:=T.keep _ _ _ st λb _ o e=>old b o e
 have hD0:H s.heap.objs.size=none:=I.fresh
 have I1:Inv (Zv X own (ts++Nc) ⟨cl,H2.objs.size,s,H,fp⟩) [] (pre ts.length fr σ) (upd H s.heap.objs.size (.lst [])) { s with heap:=h₁,toks:=s.toks+([]:List (Str×Value)).length } :=
  KD I fo hlt c hc1 hc2 hN (Nat.le_refl _) hCle hDC old hns₁ hacc rfl rfl
 have fo':∀ H':Hp,(∀ b∈fp,H' b=none)->∀ b∈fp,Ql (Zv X own (ts++Nc) ⟨cl,H2.objs.size,s,H,fp⟩) [] H' b:=λH' hn b hb=>by
  obtain⟨_,f1,f2,f3,f4,f5⟩:=fo b hb
  refine⟨hn b hb,below b (hlt b hb),λz=>?_,.inl hb,λx a e=>f4 x a (hc2 x a e),λp hp=>absurd hp (by simp)⟩
  rcases mem_cons.mp (I.Oi b z) with z|z
  ·exact f1 z
  ·exact f2 z
 have fr1:∀ b∈fp,upd H s.heap.objs.size (.lst []) b=none:=λb hb=>by
  rw[Zq (Nat.ne_of_lt (hlt b hb))]
  exact(fo b hb).1
 have loop:=Bp (E:=E) (z:=⟨cl,H2.objs.size,s,H,fp⟩) (pos:=pos) (sc:=own) (iter:=iter) (R:=compPost (model X.prog X.w) X.A X.xe none (EP X pins σ Q) (.ref s.heap.objs.size) H2.objs.size) (hg _) (hf _) (he _) hc T fo' I1 st1 fr1 (h _ hD0) (λσ' H' s' J' q'=>by
  obtain⟨m,hns,_⟩:=J'.loc
  exact⟨m,hns,λh' sb=>⟨.ref _,H',Om I hCle (comp_back I fo J') J'.free λb o hb e=>sb.extBut b o hb e,rfl,q'⟩⟩) (hE _ _ I hCle fo)
 exact codeAny_compStart_list loop (T.self _ 0 _ _ _ st1 loop)
section
variable {P:Program}{w:World}{K:aa}{mg:Str->Option Value}{base:Heap}{N:List Str}{qual:Str}{scope:Scope}{f:Addr}{cdv:Value}{A:Around}{outer:List Env}{s:Shared}{H:Hp}{E:XK}
 {pins:List (Addr×Obj)}{σ:St}{H1:Hp}{s1:Shared}
theorem zj{B B' h:Heap}(k:∀ b,B.get? b=none->B'.get? b=none):∀ {l:List Env},h.FunFrames B l->h.FunFrames B' l
 | [],_=>trivial
 | _::_,⟨a,⟨L,o,e1,e2,e3⟩,r⟩=>⟨a,⟨L,o,e1,k _ e2,e3⟩,zj k r⟩
theorem oV{B B' h:Heap}(k:∀ b,B.get? b=none->B'.get? b=none)(t:h.TracedAtW B e cls a0 fl):h.TracedAtW B' e cls a0 fl:=by
 obtain⟨oe,vs,T,oT,ts,he,hcls,hd,h1,hnT,r⟩:=t
 exact⟨oe,vs,T,oT,ts,he,hcls,hd,h1,k _ hnT,r⟩
theorem zk{B h h':Heap}:∀ {l:List Env},(∀ b∈frs l,h'.get? b=h.get? b)->h.FunFrames B l->h'.FunFrames B l
 | [],_,_=>trivial
 | v::l,k,⟨a,⟨L,o,e1,e2,e3,e4⟩,r⟩=>by
  have hL:∀ b,b=L\/b∈frs l->b∈frs (v::l):=λb hb=>by
   unfold frs
   rw[filterMap_cons,e1]
   exact mem_cons.mpr hb
  exact⟨a,⟨L,o,e1,e2,(k L (hL L (.inl rfl))).trans e3,e4⟩,zk (λb hb=>k b (hL b (.inr hb))) r⟩
theorem oW{own:Scope}{N':List Str}{cl:List (Str×Addr)}{C:Addr}{fp:List Addr}(Q:Value->Shared->Prop)(acc:Value)(I:Inv (ZS (CXE P w) P w K mg base N qual scope f cdv A outer s H E) pins σ H1 s1)(hC:s1.heap.objs.size<=C)
  (hf:∀ b∈fp,Ql (ZS (CXE P w) P w K mg base N qual scope f cdv A outer s H E) pins H1 b)(e:Value)(s':Shared)(h:(Yr (ZS (CXE P w) P w K mg base N qual scope f cdv A outer s H E) own N' E ⟨cl,C,s1,H1,fp⟩).xe e s') :
  notedBy (model P w) (A.deeper (envOfC qual scope s.heap.objs.size f cdv)) (compEnvC own cl C (envOfC qual scope s.heap.objs.size f cdv)) (λe s'=>compPost (model P w) (A.deeper (envOfC qual scope s.heap.objs.size f cdv)) (ZS (CXE P w) P w K mg base N qual scope f cdv A outer s H E).xe none Q acc C (.error e) s') e s':=by
 obtain⟨pins2,σ2,H2,s2,J,ex,t,cls,H',B,rfl,ho,hg,u,ok,fl,cv,hn,hexn,hE⟩:=h
 have J':=J.call' (ch:=[]) ho u ok hg (λ_ z=>nomatch z)
 have I':=comp_back I hf J'
 have e0:=I'.env0
 have Ib:=comp_back I hf J
 have hL:s.heap.objs.size<s1.heap.objs.size:=I.lt
 have k:∀ b,B.get? b=none->(hideAll B [C]).get? b=none:=λb z=>by
  cases y:(hideAll B [C]).get? b with
  | none=>rfl
  | some o=>rw[of_hideAll _ y]at z;cases z
 have cons:∀ b,b∈frs (envOfC qual scope s.heap.objs.size f cdv::outer)↔b=s.heap.objs.size\/b∈frs outer:=λb=>by
  unfold frs
  rw[filterMap_cons]
  exact mem_cons
 have nC:∀ b∈frs (envOfC qual scope s.heap.objs.size f cdv::outer),b≠C:=λb hb=>by
  obtain⟨_,o,eo,_⟩:=I.env0.Si.mem hb
  exact Nat.ne_of_lt (Nat.lt_of_lt_of_le (au eo) hC)
 have fl2:Heap.FlyingW (hideAll B [C]) (envOfC qual scope s.heap.objs.size f cdv::outer) ex cls (.ref t) s'.heap:=⟨λb o z=>fl.1 b o (of_hideAll _ z),k _ fl.2.1,zj k fl.2.2.1,oV k fl.2.2.2⟩
 show wpAny _ _ (noteFrame (.ref ex) (envOfC qual scope s.heap.objs.size f cdv)) _ _ _
 refine wpAny_looks_onW (L:=s.heap.objs.size) e0.frames rfl fl2 λh1 hd up1=>?_
 obtain⟨m,hns,_⟩:=J'.loc
 have hns1:=up1.ns hns
 refine⟨m,hns1,λh2 sb cenv _=>?_⟩
 obtain⟨oC,_,_,hoC,hdC,_⟩:=hns1
 have hoC:h1.get? C=some oC:=hoC
 have sb:aF C h1 h2:=sb
 obtain⟨d1,d2,d3,d4⟩:=hd
 have d1':(hideAll B [C]).StaysIn h2:=λb o z=>by
  by_cases hb:b=C
  ·subst hb
   rw[PySem.W.hideAll_none [b] (mem_singleton.mpr rfl)]at z
   cases z
  ·exact(sb.2 b hb).trans (d1 b o z)
 have d3':h2.FunFrames (hideAll B [C]) (envOfC qual scope s.heap.objs.size f cdv::outer):=zk (λb hb=>sb.2 b (nC b hb)) d3
 obtain⟨oe,vs,T,oT,ts,he,hcls,hdd,h1',hnT,hTe,hT,hdT,h3⟩:=d4
 have nf:∀ b o vs,h1.get? b=some o->o.data = .fields vs->b≠C:=λb o vs e q z=>by
  rw[z,hoC]at e
  cases e
  rw[hdC]at q
  cases q
 have he':h2.get? ex=some oe:=(sb.2 ex (nf _ _ _ he hdd)).trans he
 unfold PySem.passOn
 refine aj (wpAny_field he' hdd h1' ?_)
 rw[if_neg (show ¬ ((Value.ref T==Value.none)=true) from by simp)]
 refine aj (UO d1' d3' ⟨oe,vs,T,oT,ts,he',hcls,hdd,h1',hnT,hTe,(sb.2 T (nf _ _ _ hT hdT)).trans hT,hdT,h3⟩ λh3 g1 g2 g3 up3 _=>?_)
 refine wpAny_throw ?_
 show wpAny _ _ (leaving _ _) _ _ _
 refine Jd (L:=s.heap.objs.size) e0.frames rfl g1 (k _ fl.2.1) g2 g3 λh4 fl4 up4=>?_
 have u1:Un (frs outer) [] H H' s.heap s'.heap:=I'.base
 have hL0:H' s.heap.objs.size=none:=I'.free
 have hCn:H' C=none:=J'.free
 have cv1:Cov (frs outer) H' s.heap s'.heap (hideAll B [C]):=λb o e hb c=>by
  have hlt:∀ u,s.heap.get? b=some u->b<s.heap.objs.size:=λu z=>au z
  refine hideAll_get _ (cv b o e (λhm=>?_) ?_) λhm=>?_
  ·rcases (cons b).mp hm with rfl|hm
   ·rcases c with c|⟨v,c⟩
    ·exact c hL0
    ·exact absurd (hlt v c) (Nat.lt_irrefl _)
   ·exact hb hm
  ·rcases c with c|⟨v,c⟩
   ·exact .inl c
   ·exact .inr (Un.there (show Un (frs outer) [] H H2 s.heap s2.heap from Ib.base) b v c (by simp))
  ·have hm:=mem_singleton.mp hm
   subst hm
   rcases c with c|⟨v,c⟩
   ·exact c hCn
   ·exact absurd (hlt v c) (Nat.not_lt.mpr (Nat.le_trans (Nat.le_of_lt hL) hC))
 have fr:∀ b∈frs outer,H' b=none:=λb hb=>I'.frf b ((cons b).mpr (.inr hb))
 have sl:∀ b∈frs outer,∀ o,s'.heap.get? b=some o->∃ sl,h4.get? b=some { o with slots:=sl }:=λb hb o e=>by
  obtain⟨sl1,e1⟩:=VE fl2.2.2.1.2.2 up1 b hb o e
  obtain⟨sl3,e3⟩:=VE d3'.2.2 up3 b hb _ ((sb.2 b (nC b ((cons b).mpr (.inr hb)))).trans e1)
  obtain⟨sl4,e4⟩:=VE g2.2.2 up4 b hb _ e3
  exact⟨sl4,e4⟩
 exact⟨ex,t,cls,H',_,rfl,I'.os,I'.bare,Nb u1 cv1 fl4.1 sl,SD ok cv1 fl4.1 fr,fl4,Qp u1 ok cv1 fl4.1,Ww (show Un (frs outer) [] H H2 s.heap s2.heap from Ib.base) (by simp) hn,hexn,hE⟩
end
noncomputable def Je(g:DG)(f:DT)(e:DE)(q:List D->Prop)(x:Addr->Prop):List D->DSt->List D->Prop
 | [],_,acc=>q acc
 | y::xs,ds,acc=>g y ds λds1=>f ds1 (λb=>if b=true then e ds1 (λy=>acc.length<az/\Je g f e q x xs ds1 (acc++[y])) x else Je g f e q x xs ds1 acc) (λ_=>False)
noncomputable def Bq(n:Nat)(fr:List Nat)(di:DI)(g:DG)(f:DT)(e:DE):DA:=λds q x=>di ds (λxs=>Je g f e q x xs (dpre n fr ds) []) x
theorem yT{E:XK}{K:aa}{di:DI}{g:DG}{f:DT}{e:DE}(n:Nat)(fr:List Nat)(d0:DenI K (λ_=>E) wi di)(d1:CM K t g)(d2:CD K XN tf f)(d3:Den K (λ_=>E) te e):CT K (λ_=>E) (Eb n fr wi t tf te) (Bq n fr di g f e):=by
 intro B0 B H0 H σ ds q x Q c h k kx
 refine d0 c h (λJ xs H1 H2 e1 w h=>λDd hD=>?_) kx
 obtain⟨c1,no1⟩:=AU (c.go e1) (ZA.upd (o := .lst []) hD) n fr
 have hD1:H1 Dd=none:=e1.sub.free hD
 refine⟨λi m σ' H'=>m=xs.length-i/\i<=xs.length/\∃ H0' ds' acc vs,Cfg K H1 H2 H0' H' σ' ds'/\PY ds'/\H0' Dd=none/\H' Dd=some (.lst vs)/\Rps K H0' acc vs/\Je g f e q x (xs.drop i) ds' acc,⟨_,rfl,Nat.zero_le _,H1,_,[],[],c1,no1,hD1,Zx,rfl,h⟩,?_⟩
 rintro i m σ' H' ⟨rfl,hi,H0',ds',acc,vs,c',no',n',hv,r',hl⟩
 obtain⟨w1,w2⟩:=w i H0' H' c'.ext.s0 c'.sub
 by_cases hi2:i<xs.length
 ·right
  obtain⟨go,yld⟩:=w1 hi2
  rw[drop_eq_getElem_cons hi2]at hl
  unfold Je at hl
  refine⟨go,λσ2 H4=>∃ H0'' ds2 acc2 vs2,Cfg K H1 H2 H0'' H4 σ2 ds2/\PY ds2/\H0'' Dd=none/\H4 Dd=some (.lst vs2)/\Rps K H0'' acc2 vs2/\Je g f e q x (xs.drop (i+1)) ds2 acc2,λσ2 H4 ⟨a1,a2,a3,a4,a5⟩=>⟨_,by omega,rfl,hi2,a1,a2,a3,a4,a5⟩,λy H4 z=>?_⟩
  obtain⟨H5,e5,d,ed,rd⟩:=yld y H4 z
  rw[aA hi2]at ed
  cases ed
  have hne:H' Dd≠none:=by rw[hv];simp
  refine d1 (c'.go e5) rd hl λσ2 ds2 c2 kp h2=>?_
  have no2:=no'.keeps kp
  have n5:H5 Dd=none:=e5.new Dd n' hne
  have v5:H4 Dd=some (.lst vs):=e5.s _ _ hv
  refine d2 c2 h2 (λb H6 H7 e6 h6=>?_) (λ_ _ _ h=>h.elim)
  have n6:H6 Dd=none:=e6.new Dd n5 (by rw[v5];simp)
  have v6:H7 Dd=some (.lst vs):=e6.s _ _ v5
  cases b with
  | false =>
   rw[if_neg aC]at h6⊢
   exact⟨H6,ds2,acc,vs,c2.go e6,no2,n6,v6,r'.same (e5.trans e6).s0,h6⟩
  | true =>
   rw[if_pos rfl]at h6⊢
   refine d3 (c2.go e6) h6 (λu y' H8 H9 e8 r8 h8=>?_) (λC H8 s8 hx=>kx C H8 (((e1.s.trans c'.ext.s).trans (e5.trans e6).s).trans s8) hx)
   have n8:H8 Dd=none:=e8.new Dd n6 (by rw[v6];simp)
   have v8:H9 Dd=some (.lst vs):=e8.s _ _ v6
   have ra:=r'.same (e5.trans (e6.trans e8)).s0
   refine⟨vs,v8,by rw[ra.length];exact h8.1,H8,ds2,acc++[y'],vs++[u],((c2.go e6).go e8).aside no2 hD n8,no2,n8,Zx,ra.snoc r8,h8.2⟩
 ·left
  have hx:xs.drop i=[]:=List.drop_eq_nil_of_le (by omega)
  rw[hx]at hl
  refine⟨w2 (by omega),k Dd vs acc H0' H' (e1.trans c'.ext) (e1.s.free hD) n' hv r' hl⟩
theorem univX{Xf:ι->Cx}{K:aa}{XE:St->XK}(hK:∀ z,(Xf z).K=K)(h:∀ z,JE (Xf z) XE e de):∃ te,(∀ z,PE (Xf z) e te)/\Den K XE te de:=by
 refine⟨λσ H Q=>∃ B0 B H0 ds q x,Cfg K B0 B H0 H σ ds/\de ds q x/\KE K H0 H q Q/\KX XE σ H x,λz=>?_,λc hd k kx=>⟨_,_,_,_,_,_,c,hd,k,kx⟩⟩
 intro pins s σ H Q I ⟨B0,B,H0,ds,q,x,c,hd,k,kx⟩
 obtain⟨te,p,d⟩:=(h z).ex
 have kk:=hK z
 subst kk
 exact p pins s σ H Q I (d c hd k kx)
theorem sE{K:aa}{qual:Str}{scope:Scope}{f:Addr}{cdv:Value}{A:Around}{outer:List Env}{s:Shared}{H:Hp}{E:XK} :
  sC (ZS (CXE P w) P w K mg base N qual scope f cdv A outer s H E) own E:=oW
theorem sF{E:XK}{elt tg iter:Expr}(ts Nc:List Str)(fr:List Nat){di:DI}{g:DG}{f:DT}{e:DE}(hi:JI X (λ_=>E) tg iter di)
  (hg:∀ z,JG (Yr X own (ts++Nc) E z) tg g)(hf:∀ z,JIf (Yr X own (ts++Nc) E z) XN ifs f)(he:∀ z,JE (Yr X own (ts++Nc) E z) (λ_=>E) elt e)(hE:sC X own E:=by exact sE)(hc:autoParam (X.calm=true) auR)(c:autoParam (UF own X.env.scope Nc=true) auR)(hN:autoParam (fr.map (X.N[·]?)=Nc.map some) auR)
  (hs:∀ x,foldedSetIterable iter X.env x=pure x:=by intro _;rfl):JE X (λ_=>E) (.ListComp elt [⟨tg,iter,ifs,0⟩] own pos) (dFz (Bq ts.length fr di g f e)):=by
 obtain⟨wi,p0,d0⟩:=hi.ex
 obtain⟨t,p1,d1⟩:=uy (Xf:=λz=>Yr X own (ts++Nc) E z) (K:=X.K) (λ_=>rfl) hg
 obtain⟨tf,p2,d2⟩:=ux (Xf:=λz=>Yr X own (ts++Nc) E z) (K:=X.K) (λ_=>rfl) hf
 obtain⟨te,p3,d3⟩:=univX (Xf:=λz=>Yr X own (ts++Nc) E z) (K:=X.K) (λ_=>rfl) he
 exact JF.je ⟨_,sD ts Nc fr p0 p1 p2 p3 hc c hN hs hE,yT _ fr d0 d1 d2 d3⟩
theorem Iu:entryFor table "proto.unchain" = some Builtin.«proto.unchain»:=entryFor_of_fast (by kernel_rfl)
noncomputable def GB(h:Heap)(e:Addr):Prop:=∃ o vs,h.get? e=some o/\o.data = .fields vs/\vs[2]?=some .none
section
variable {prog:Program}{w:World}{A:Around}{E:Value->Shared->Prop}{s:Shared}{env:Env}
theorem GC{Q:Value->Shared->Prop}(n:GB s.heap ex)(h:Q .none s):wpAny (model prog w) A (runValue (.builtin "proto.unchain" ⟨[v,.ref ex,.ref ex,.bool false],[]⟩)) Q E s:=by
 obtain⟨o,vs,ho,hd,h2⟩:=n
 refine wpAny_runValue (codeAny_builtin Iu ?_)
 unfold Builtin.«proto.unchain»
 dsimp only
 refine aj (wpAny_field ho hd h2 ?_)
 rw[if_pos (by rfl)]
 exact ak h
noncomputable def exO(C t ex:Addr):Obj:={ cls := .ref C,data := .fields #[.ref t,.none,.ref ex,.none,.bool true,.none] }
variable {nm q:Str}{C N:Addr}{bs bm bmB:List Value}{hdct:Bool}{sn:List Str}{sub:List Value}{ab:Bool}{col:Option Bool}{dd:Option Addr}{k0 k1 k2 k3 k5:Option Value}{B newId initId:String}
theorem Br{x c:Sem Value}{ex:Addr}{Q:Flow->Shared->Prop}(hbase:bm.contains (.type "BaseException")=true)(hh:A.handled=some (.ref ex))
  (hc:∀ {Q':Value->Shared->Prop}{s':Shared},Q' .none s'->wpAny (model prog w) A c Q' E s')
  (h:wpAny (model prog w) A x (λv s₁=>∃ e t,v = .ref e/\s₁.heap.get? C=some (excClassObj nm q C N bs bm hdct sn sub ab col dd k0 k1 k2 k3 k5 newId) /\
   s₁.heap.get? e=some { cls := .ref C,data := .fields #[.ref t,.none,.none,.none,.bool false,.none] }/\e≠C/\e≠ex/\GB s₁.heap ex/\∀ h',h'.get? e=some (exO C t ex)->aF e s₁.heap h'->E (.ref e) { s₁ with heap:=h' }) E s) :
  wpAny (model prog w) A (raiseStmt env (some x) (some c)) Q E s:=by
 have hcB:(Value.ref C::bm).contains (.type "BaseException")=true:=by rw[List.contains_cons,hbase,Bool.or_true]
 unfold raiseStmt
 refine aj (wpAny_mono h (λv s₁ h₁=>?_) λ_ _ x=>x)
 obtain⟨e,t,rfl,hC,he,neC,nex,nc,hE⟩:=h₁
 obtain⟨hp,g,d,tk,os⟩:=s₁
 refine aj (wpAny_holding (hc (aj (ak ?_))))
 repeat (first | with_reducible refine wpAny_loadPart_at he ?_ | with_reducible refine wpAny_loadPart_at hC ?_ | (with_reducible refine wpAny_isSubtype_exc hC ?_;rw[hcB]) | wp_step)
 have he1:=Heap.get?_update_self (Obj.mapFields (·.setIfInBounds 3 Value.none)) he rfl
 have he2:=Heap.get?_update_self (Obj.mapFields (·.setIfInBounds 4 (Value.bool true))) he1 rfl
 have nc':GB ((hp.update e (Obj.mapFields (·.setIfInBounds 3 Value.none))).update e (Obj.mapFields (·.setIfInBounds 4 (Value.bool true)))) ex:=by
  obtain⟨o,vs,ho,hd,h2⟩:=nc
  exact⟨o,vs,by rw[Heap.get?_update_other _ _ nex,Heap.get?_update_other _ _ nex];exact ho,hd,h2⟩
 unfold raiseNew
 refine aj (wpAny_handled ?_)
 rw[hh]
 dsimp only
 rw[if_pos (show(Value.ref ex != Value.ref e)=true by simpa using λz=>nex z.symm)]
 refine aj (wpAny_holding (GC nc' (aj ?_)))
 show wpAny _ _ (setField (.ref e) 2 (.ref ex)) _ _ _
 refine wpAny_setField he2 rfl (by simp[Obj.mapFields]) (wpAny_throw (hE _ ?_ ?_))
 ·exact Heap.get?_update_self _ he2 rfl
 ·exact((Heap.SameBut.update hp e _).trans (.update _ e _)).trans (.update _ e _)
theorem Bs(F:ExcBaseFacts B newId initId bmB){mN:Str->Option Value}{x:Str}{np cpos pos p2:Pos}{args:List Expr}{Q:Flow->Shared->Prop}{ex:Addr}
  (hbase:bm.contains (.type "BaseException")=true)(hh:A.handled=some (.ref ex))(hplain:(backTo cpos (starEach args env)).any (·.1)=false)(hni:mN "__init__" = none)
  (h:wpAny (model prog w) A (eval (.Name x np) env) (λf s₁=>f = .ref C/\wpAny (model prog w) A (evalArgs (.ref C) true (backTo cpos (starEach args env)) [])
   (λa s₂=>a.kw=[]/\a.pos.length<=az/\s₂.heap.get? C=some (excClassObj nm q C N bs bm hdct sn sub ab col dd k0 k1 k2 k3 k5 newId)/\s₂.heap.Ns N mN/\OwnTail s₂.heap bmB bm/\GB s₂.heap ex /\
    ∀ h' e t h2,Heap.MadeExcOf s₂.heap h' e (.ref C) a.pos->h2.get? e=some (exO C t ex)->aF e h' h2->E (.ref e) { s₂ with heap:=h2 }) E s₁) E s) :
  wpAny (model prog w) A (exec (.Raise (some (.Call (.Name x np) args [] cpos)) (some (.Constant .none j p2)) pos) env) Q E s:=by
 rw[arm_exec_Raise]
 refine aj (wpAny_standAt (Br (C:=C) (nm:=nm) (q:=q) (N:=N) (bs:=bs) (bm:=bm) (hdct:=hdct) (sn:=sn) (sub:=sub) (ab:=ab) (col:=col) (dd:=dd) (k0:=k0) (k1:=k1) (k2:=k2) (k3:=k3) (k5:=k5) (newId:=newId) hbase hh (λhq=>aj (Constant_none (aj (wpAny_standAt (ak hq))))) ?_))
 refine aj (wpAny_mono (wpAny_Call_ofName (wpAny_mono h (λf s₁ h₁=>?_) λ_ _ x=>x)) (λv s₃ h₃=>aj (wpAny_standAt (ak h₃))) λ_ _ x=>x)
 obtain⟨rfl,h₁⟩:=h₁
 unfold callWith
 refine aj (wpAny_holding (wpAny_mono h₁ (λa s₂ h₂=>aj (wpAny_standAt ?_)) λ_ _ x=>x))
 obtain⟨apos,akw⟩:=a
 obtain⟨hkw,hlen,hC,hn,T,nc,h₂⟩:=h₂
 obtain rfl:akw=[]:=hkw
 obtain⟨hp,g,d,tk,os⟩:=s₂
 simp only[hplain]
 refine aj (wpAny_keeperOf_exc hC ?_)
 refine aj (wpAny_call_exc_subT (hrest:=hlen) F T hC hn hni λh' e hm=>aj (wpAny_holding (wpAny_point (ak ?_))))
 obtain⟨t,ht,_,_⟩:=hm.there
 have ne:∀ b o,hp.get? b=some o->e≠b:=λb o z y=>by rw[<-y,hm.new]at z;cases z
 obtain⟨o,vs,n1,n2,n3⟩:=nc
 exact⟨e,t,rfl,hm.keeps _ _ hC,ht,ne _ _ hC,ne _ _ n1,⟨o,vs,hm.keeps _ _ n1,n2,n3⟩,λh2 z y=>h₂ h' e t h2 hm z y⟩
end
section
variable {M:Model}{A:Around}{E:Value->Shared->Prop}{s:Shared}{Q:Unit->Shared->Prop}
theorem entryN{base:Heap}{env:Env}{outer:List Env}{L e:Addr}{oe:Obj}{vs:Array Value}{head a0:Value}{hadNext:Bool}
  (hfr:A.frames=some (env::outer))(hl:s.heap.FunFrames base (env::outer))(hf:env.frame=some L)(he:s.heap.get? e=some oe)(hkb:base.StaysIn s.heap)(hen:base.get? e=none)(hd:oe.data = .fields vs)(h0:vs[0]?=some a0)(h2:vs[2]?=some c)
  (hQ:∀ h',base.StaysIn h'->h'.FunFrames base (env::outer)->h'.TracedAtW base e oe.cls a0 (rawInt L)->s.heap.UpToSlots h'->(c = .none->GB h' e)->Q () { s with heap:=h' }) :
  wpAny M A (do let a <- frameOf env;let pl <- entryPlaceOf L hadNext;let b <- EntryCells.newEntry head a .none (rawInt L) .none pl;setField (.ref e) 1 b) Q E s:=by
 have hsz:2<vs.size:=(Array.getElem?_eq_some_iff.mp h2).1
 have hene:e∉(env::outer).filterMap (·.frame):=λhm=>by
  obtain⟨_,o,ho,nf⟩:=hl.mem hm
  rw[he]at ho;cases ho;exact nf _ hd
 refine aj (wpAny_frameOf_fun hfr hl hf λh₁ hs₁=>?_)
 refine aj (wpAny_entryPlaceOf λpl hpl=>?_)
 unfold EntryCells.newEntry newFields
 refine aj (wpAny_newObj_type ?_ (hpl.sizeOk5 _ _ _ _ _))
 dsimp only
 have he₁:=(hs₁.2.1 e hene).trans he
 generalize hO:({ cls := .type "traceback",dict:=none,data := .fields _ }:Obj)=O
 have hTe:h₁.objs.size≠e:=Nat.ne_of_gt (au he₁)
 have he₂:=ao (h:=h₁) O he₁
 have hT₂:(h₁.push O).get? h₁.objs.size=some O:=aq h₁ (by rw[<-hO];rfl)
 have hd₃:=Obj.data_mapFields hd (·.setIfInBounds 1 (Value.ref h₁.objs.size))
 have he₃:=Heap.get?_update_self (Obj.mapFields (·.setIfInBounds 1 (Value.ref h₁.objs.size))) he₂ (Obj.isFreed_of_fields hd₃)
 have other:∀ b,b≠e->((h₁.push O).update e (Obj.mapFields (·.setIfInBounds 1 (Value.ref h₁.objs.size)))).get? b=(h₁.push O).get? b:=λb hb=>Heap.get?_update_other _ _ (Ne.symm hb)
 have keep:∀ b o,b≠e->h₁.get? b=some o->((h₁.push O).update e (Obj.mapFields (·.setIfInBounds 1 (Value.ref h₁.objs.size)))).get? b=some o:=λb o hb z=>(other b hb).trans (ao _ z)
 have ne:∀ b o,s.heap.get? b=some o->(∀ vs,o.data ≠ .fields vs)->b≠e:=λb o hb nf z=>by
  rw[z,he]at hb;cases hb;exact nf _ hd
 have kb₁:base.StaysIn h₁:=λb o hb=>(hs₁.2.1 b λhm=>by rw[(hl.mem hm).1]at hb;cases hb).trans (hkb b o hb)
 refine wpAny_setField he₂ hd (by omega) (hQ _ (λb o hb=>keep b o (λz=>by rw[z,hen]at hb;cases hb) (kb₁ b o hb)) (hl.of_keeps λb o hb nf=>?_) ?_ (λb o hb nf=>?_) λz=>⟨_,_,he₃,hd₃,by rw[Array.getElem?_setIfInBounds_ne (by decide),h2,z]⟩)
 ·obtain⟨sl,z⟩:=hs₁.2.2 b o hb
  exact⟨_,keep b _ (ne b o hb nf) z,rfl⟩
 ·refine⟨_,_,h₁.objs.size,O,_,he₃,⟨Obj.cls_mapFields _ _,by rw[Array.getElem?_setIfInBounds_ne (by decide)];exact h0⟩,hd₃,by simp[show 1<vs.size by omega],kb₁.fresh,hTe,(other _ hTe).trans hT₂,by rw[<-hO],?_⟩
  first | (simp;done) | (rcases hpl with rfl | ⟨_,_,_,_,_,_,_,rfl⟩<;>simp)
 ·obtain⟨sl,z⟩:=hs₁.2.2 b o hb
  exact⟨sl,keep b _ (ne b o hb nf) z⟩
theorem GD{base h:Heap}{env:Env}{outer:List Env}{L e:Addr}{cls:Value}{args:List Value}
  (hfr:A.frames=some (env::outer))(hf:env.frame=some L)(hkb:base.StaysIn h)(hl:h.FunFrames base (env::outer))(hx:Heap.MadeExcOf h s.heap e cls args)
  (hQ:∀ h' t,Heap.FlyingW base outer e cls (.ref t) h'->GB h' e->s.heap.UpToSlots h'->Q () { s with heap:=h' }):wpAny M A (leaving env (.ref e)) Q E s:=by
 obtain⟨t,he,htn,ht⟩:=hx.there
 have hen:base.get? e=none:=by
  cases z:base.get? e with
  | none=>rfl
  | some o=>have:=hkb e o z;rw[hx.new]at this;cases this
 unfold leaving noteFrame
 simp only[hf]
 refine aj (aj (wpAny_field he rfl rfl ?_))
 rw[if_neg (by intro z;cases z)]
 refine entryN (c := .none) hfr (hl.of_keeps λb o hb _=>⟨o,hx.keeps b o hb,rfl⟩) hf he (λb o hb=>hx.keeps b o (hkb b o hb)) hen rfl rfl rfl λh' k1 k2 k3 k4 k5=>?_
 refine UO (s:={ s with heap:=h' }) (fr:=none) k1 k2 k3 λh'' j1 j2 j3 j4 j5=>hQ h'' t ⟨j1,hen,j2.2.2,j3⟩ ?_ (k4.trans j4)
 obtain⟨o,vs,n1,n2⟩:=k5 rfl
 exact⟨o,vs,j5.trans n1,n2⟩
theorem jx{base:Heap}{env:Env}{outer:List Env}{L e:Addr}{cls a0:Value}(hfr:A.frames=some (env::outer))(hf:env.frame=some L)(fl:Heap.FlyingW base (env::outer) e cls a0 s.heap)(nc:GB s.heap e)
  (hQ:∀ h',base.StaysIn h'->h'.FunFrames base (env::outer)->h'.TracedAtW base e cls a0 (rawInt L)->s.heap.UpToSlots h'->GB h' e->Q () { s with heap:=h' }):wpAny M A (noteFrame (.ref e) env) Q E s:=by
 obtain⟨hkb,hen,hl,oe,vs,T,oT,ts,he,⟨hcls,h0⟩,hd,h1,hnT,hTe,hT,hdT,h3⟩:=fl
 subst hcls
 obtain⟨o,vs',n1,n2,n3⟩:=nc
 rw[he]at n1
 cases n1
 rw[hd]at n2
 cases n2
 unfold noteFrame
 simp only[hf]
 refine aj (wpAny_field he hd h1 ?_)
 rw[if_pos (show(Value.ref T != Value.none)=true from by simp)]
 refine aj (wpAny_field hT hdT h3 ?_)
 rw[if_neg (show ¬ ((Value.none==rawInt L)=true) from by simp[rawInt])]
 refine aj (wpAny_setField hT hdT (Array.getElem?_eq_some_iff.mp h3).1 ?_)
 have other:∀ b,b≠T->(s.heap.update T (Obj.mapFields (·.setIfInBounds 3 Value.none))).get? b=s.heap.get? b:=λb hb=>Heap.get?_update_other _ _ (Ne.symm hb)
 have ne:∀ b o,s.heap.get? b=some o->(∀ vs,o.data ≠ .fields vs)->b≠T:=λb o hb nf z=>by
  rw[z,hT]at hb;cases hb;exact nf _ hdT
 refine entryN (c := .none) hfr (hl.of_keeps λb o hb nf=>⟨o,(other b (ne b o hb nf)).trans hb,rfl⟩) hf ((other e (Ne.symm hTe)).trans he) (λb o hb=>(other b λz=>by rw[z,hnT]at hb;cases hb).trans (hkb b o hb)) hen hd h0 n3
  λh' k1 k2 k3 k4 k5=>hQ h' k1 k2 k3 (λb o hb nf=>k4 b o ((other b (ne b o hb nf)).trans hb) nf) (k5 rfl)
end
noncomputable def CXN(P:Program)(w:World):CXT:=λouter H s E e s'=>CXE P w outer H s E e s'/\∃ ex,e = .ref ex/\GB s'.heap ex
section
variable {P:Program}{w:World}{K:aa}{mg:Str->Option Value}{base:Heap}{N:List Str}{qual:Str}{scope:Scope}{f C:Addr}{cdv:Value}{A:Around}{outer:List Env}{s:Shared}{H:Hp}{E:XK}
 {pins:List (Addr×Obj)}{σ:St}{H1:Hp}{s1:Shared}{x:Str}{np cpos pos:Pos}{e₀:Expr}{rest:List Expr}{t:TA}
theorem sG{h2:Heap}(I:Inv (ZS (CXN P w) P w K mg base N qual scope f cdv A outer s H E) pins σ H1 s1)
  (hx:Heap.MadeExcOf s1.heap h2 ex (.ref C) args)(h:E (.ref C) none H1):(ZS (CXN P w) P w K mg base N qual scope f cdv A outer s H E).xe (.ref ex) { s1 with heap:=h2 }:=by
 have e0:=I.env0
 have stk:(ZS (CXN P w) P w K mg base N qual scope f cdv A outer s H E).stack=envOfC qual scope s.heap.objs.size f cdv::outer:=rfl
 have hin:∀ env∈(envOfC qual scope s.heap.objs.size f cdv::outer),∀ a,env.frame=some a->a∈frs (envOfC qual scope s.heap.objs.size f cdv::outer):=λenv he a ha=>mem_filterMap.mpr ⟨env,he,ha⟩
 have ff:s1.heap.FunFrames (hideAll s1.heap (frs (envOfC qual scope s.heap.objs.size f cdv::outer))) (envOfC qual scope s.heap.objs.size f cdv::outer):=funFrames_hide e0.Si hin
 have hkb:(hideAll s1.heap (frs (envOfC qual scope s.heap.objs.size f cdv::outer))).StaysIn s1.heap:=λb o q=>of_hideAll _ q
 show wpAny _ _ (leaving _ _) _ _ _
 refine GD (L:=s.heap.objs.size) (s:={ s1 with heap:=h2 }) e0.frames rfl hkb ff hx λh' t fl nc up=>?_
 have ffo:s1.heap.FunFrames (hideAll s1.heap (frs (envOfC qual scope s.heap.objs.size f cdv::outer))) outer:=ff.2.2
 have u1:Un (frs outer) [] H H1 s.heap s1.heap:=I.base
 have hL:H1 s.heap.objs.size=none:=I.free
 have cv:Cov (frs outer) H1 s.heap s1.heap (hideAll s1.heap (frs (envOfC qual scope s.heap.objs.size f cdv::outer))):=λb o e hb c=>by
  refine hideAll_get _ e λhm=>?_
  have hm':b=s.heap.objs.size\/b∈frs outer:=by
   have:=hm
   unfold frs at this
   rw[filterMap_cons]at this
   exact mem_cons.mp this
  rcases hm' with rfl|hm'
  ·rcases c with c|⟨v,c⟩
   ·exact c hL
   ·exact absurd (au c) (Nat.lt_irrefl _)
  ·exact hb hm'
 have up2:s1.heap.UpToSlots h':=(Heap.UpToSlots.of_keeps hx.keeps).trans up
 have sl:=VE ffo up2
 have fr:∀ b∈frs outer,H1 b=none:=λb hb=>I.frf b (by
  show b∈frs (envOfC qual scope s.heap.objs.size f cdv::outer)
  unfold frs
  rw[filterMap_cons]
  exact mem_cons_of_mem _ hb)
 have hexn:H1 ex=none:=by
  cases q:H1 ex with
  | none=>rfl
  | some x =>
   obtain⟨ob,eo⟩:=(I.hok ex x q).get
   have:=hx.new
   rw[eo]at this
   cases this
 exact⟨⟨ex,t,.ref C,H1,_,rfl,I.os,I.bare,Nb u1 cv fl.1 sl,SD I.hok cv fl.1 fr,fl,Qp u1 I.hok cv fl.1,Ww u1 (by simp) hx.new,hexn,h⟩,ex,rfl,nc⟩
theorem yU(c:KA K C)(hm:mg x=some (.ref C))
  (ha:PA (ZS (CXN P w) P w K mg base N qual scope f cdv A outer s H E) (e₀::rest) t)
  (hg:autoParam (Gl (ZS (CXN P w) P w K mg base N qual scope f cdv A outer s H E) x) auR)(hdb:autoParam ((x==("__debug__" : Str))=false) auD)
  (he:autoParam (starEach (e₀::rest) (ZS (CXN P w) P w K mg base N qual scope f cdv A outer s H E).env=(false,eval e₀ (ZS (CXN P w) P w K mg base N qual scope f cdv A outer s H E).env)::starEach rest (ZS (CXN P w) P w K mg base N qual scope f cdv A outer s H E).env) auR)
  (hpl:autoParam ((backTo cpos (starEach rest (ZS (CXN P w) P w K mg base N qual scope f cdv A outer s H E).env)).any (·.1)=false) auR) :
  PS (ZS (CXN P w) P w K mg base N qual scope f cdv A outer s H E) (.Raise (some (.Call (.Name x np) (e₀::rest) [] cpos)) none pos) (Cu C E t):=by
 intro pins s1 σ H1 D I h
 obtain⟨nm,q,NN,bs,bm,hdct,sn,sub,ab,col,dd,k0,k1,k2,k3,k5,lk,ht,hok,hni⟩:=c.obj
 have hbase:bm.contains (.type "BaseException")=true:=(tail_of_in I.kIn ht).hasType (by decide +kernel)
 have hkk:K.In s1.heap:=I.kIn
 refine wpAny_Raise_call_subT (C:=C) (nm:=nm) (q:=q) (N:=NN) (bs:=bs) (bm:=bm) (hdct:=hdct) (sn:=sn) (sub:=sub) (ab:=ab) (col:=col) (dd:=dd) (k0:=k0) (k1:=k1) (k2:=k2) (k3:=k3) (k5:=k5) (mN:=s1.heap.nsMap NN)
  F.excBase_ValueError hbase (I.ok.hd rfl) (by rw[he];show(false||(backTo cpos (starEach rest _)).any (·.1))=false;rw[hpl];rfl) (PySem.W.nsMap_none_of_in hkk hok hni) ?_
 refine Vs I hg hm ?_ hdb
 refine⟨rfl,?_⟩
 have hargs:=ha cpos pins s1 σ H1 _ I h
 rw[he]at hargs⊢
 refine Calls.evalArgs_plain (thn hargs λus s2 zq=>?_)
 obtain⟨vs,H2,I2,r,hlen,q2⟩:=zq
 have k2':K.In s2.heap:=I2.kIn
 have keepN:s2.heap.Ns NN (s1.heap.nsMap NN):=by
  have n1:s1.heap.Ns NN (s1.heap.nsMap NN) := .of_isNs (isNs_of_in hkk hok)
  obtain⟨o,es,ep,e,r1⟩:=n1
  unfold nsOkIn at hok
  split at hok
  ·rename_i c0 d0 es0 n0 sl0 ho
   have e1:=hkk _ _ ho
   rw[e]at e1
   cases e1
   exact⟨_,es,ep,k2' _ _ ho,r1⟩
  ·cases hok
 refine⟨rfl,by show us.length<=az;rw[<-r.length];exact hlen,k2' _ _ lk,keepN,tail_of_in k2' ht,λh' ex hx=>?_⟩
 exact sG I2 hx q2
theorem Mt(pk:List Nat)(c:KA K C)(hm:mg x=some (.ref C))(ha:JAs (ZS (CXN P w) P w K mg base N qual scope f cdv A outer s H E) (λ_=>E) (e₀::rest) da)
  (hg:autoParam (Gl (ZS (CXN P w) P w K mg base N qual scope f cdv A outer s H E) x) auR)(hst:autoParam (ZO (e₀::rest)=true) auR)(hdb:autoParam ((x==("__debug__" : Str))=false) auD) :
  JS (ZS (CXN P w) P w K mg base N qual scope f cdv A outer s H E) (λ_=>E) (.Raise (some (.Call (.Name x np) (e₀::rest) [] cpos)) none pos) (Ba C pk da):=by
 obtain⟨ta,p1,d1⟩:=ha.ex
 have h0:=hst
 unfold ZO at h0
 rw[aD]at h0
 refine⟨_,yU c hm p1 hg hdb (Wk h0.1) (WM h0.2 cpos),λ{B0 B H0 H σ ds e T} c h o=>?_⟩
 obtain⟨H1,c1,_⟩:=c.peekAt pk
 exact d1 c1 h (λvs xs H2 H3 ee r hb=>⟨by rw[r.length];exact hb.1,o.kx c C H3 ee.s hb.2⟩) (o.kx c)
theorem oX{h1 h2:Heap}{e t ex:Addr}{args:List Value}{mk:Option Value}(I:Inv (ZS (CXE P w) P w K mg base N qual scope f cdv A outer s H E) pins σ H1 s1)
  (hx:Heap.MadeExcOf s1.heap h1 e (.ref C) args)(he:h2.get? e=some (exO C t ex))(sb:aF e h1 h2)(h:E (.ref C) none H1) :
  notedBy (model P w) ((A.deeper (envOfC qual scope s.heap.objs.size f cdv)).mark mk) (envOfC qual scope s.heap.objs.size f cdv)
   (cameBackBy (model P w) (A.deeper (envOfC qual scope s.heap.objs.size f cdv)) (envOfC qual scope s.heap.objs.size f cdv) (ZS (CXE P w) P w K mg base N qual scope f cdv A outer s H E).xe) (.ref e) { s1 with heap:=h2 }:=by
 have e0:=I.env0
 have cons:∀ b,b∈frs (envOfC qual scope s.heap.objs.size f cdv::outer)↔b=s.heap.objs.size\/b∈frs outer:=λb=>by
  unfold frs
  rw[filterMap_cons]
  exact mem_cons
 have ne:∀ b o,s1.heap.get? b=some o->b≠e:=λb o z y=>by rw[y,hx.new]at z;cases z
 have old:∀ b o,s1.heap.get? b=some o->h2.get? b=some o:=λb o z=>(sb.2 b (ne b o z)).trans (hx.keeps b o z)
 have hin:∀ env∈(envOfC qual scope s.heap.objs.size f cdv::outer),∀ a,env.frame=some a->a∈frs (envOfC qual scope s.heap.objs.size f cdv::outer):=λenv he a ha=>mem_filterMap.mpr ⟨env,he,ha⟩
 have ff:s1.heap.FunFrames (hideAll s1.heap (frs (envOfC qual scope s.heap.objs.size f cdv::outer))) (envOfC qual scope s.heap.objs.size f cdv::outer):=funFrames_hide e0.Si hin
 have hen:(hideAll s1.heap (frs (envOfC qual scope s.heap.objs.size f cdv::outer))).get? e=none:=by
  cases z:(hideAll s1.heap (frs (envOfC qual scope s.heap.objs.size f cdv::outer))).get? e with
  | none=>rfl
  | some o=>have:=of_hideAll _ z;rw[hx.new]at this;cases this
 have hfr:((A.deeper (envOfC qual scope s.heap.objs.size f cdv)).mark mk).frames=some (envOfC qual scope s.heap.objs.size f cdv::outer):=e0.frames
 show wpAny _ _ (noteFrame (.ref e) _) _ _ _
 unfold noteFrame
 have hf:(envOfC qual scope s.heap.objs.size f cdv).frame=some s.heap.objs.size:=rfl
 simp only[hf]
 refine aj (wpAny_field he rfl rfl ?_)
 rw[if_neg (by intro z;cases z)]
 refine entryN (s:={ s1 with heap:=h2 }) hfr (ff.of_keeps λb o hb _=>⟨o,old b o hb,rfl⟩) rfl he (λb o hb=>old b o (of_hideAll _ hb)) hen rfl rfl rfl λh3 k1 k2 k3 k4 _=>?_
 obtain⟨oe,vs,T,r1,r2,r3,r4,r5,r6,r7⟩:=id k3
 show wpAny _ _ _ _ _ _
 refine aj (wpAny_field r3 r5 r6 ?_)
 rw[if_neg (show ¬ ((Value.ref T==Value.none)=true) from by simp)]
 refine UO (s:={ s1 with heap:=h3 }) k1 k2 k3 λh4 j1 j2 j3 j4 _=>?_
 show wpAny _ _ (leaving _ _) _ _ _
 refine Jd (s:={ s1 with heap:=h4 }) (L:=s.heap.objs.size) e0.frames rfl j1 hen j2 j3 λh5 fl up=>?_
 have u1:Un (frs outer) [] H H1 s.heap s1.heap:=I.base
 have hL:H1 s.heap.objs.size=none:=I.free
 have cv:Cov (frs outer) H1 s.heap s1.heap (hideAll s1.heap (frs (envOfC qual scope s.heap.objs.size f cdv::outer))):=λb o e hb c=>by
  refine hideAll_get _ e λhm=>?_
  rcases (cons b).mp hm with rfl|hm'
  ·rcases c with c|⟨v,c⟩
   ·exact c hL
   ·exact absurd (au c) (Nat.lt_irrefl _)
  ·exact hb hm'
 have up2:s1.heap.UpToSlots h5:=(((Heap.UpToSlots.of_keeps old).trans k4).trans j4).trans up
 have fr:∀ b∈frs outer,H1 b=none:=λb hb=>I.frf b ((cons b).mpr (.inr hb))
 have hexn:H1 e=none:=by
  cases q:H1 e with
  | none=>rfl
  | some x =>
   obtain⟨ob,eo⟩:=(I.hok e x q).get
   have:=hx.new
   rw[eo]at this
   cases this
 exact⟨e,t,.ref C,H1,_,rfl,I.os,I.bare,Nb u1 cv fl.1 (VE ff.2.2 up2),SD I.hok cv fl.1 fr,fl,Qp u1 I.hok cv fl.1,Ww u1 (by simp) hx.new,hexn,h⟩
end
abbrev Ot(X:Cx)(pins:List (Addr×Obj))(XE:St->XK):Cx:={ X with pn:=X.pn++pins,xe:=λe s'=>∃ pins' σ H s,Inv { X with pn:=X.pn++pins,xe:=λ_ _=>False } pins' σ H s/\CXN X.prog X.w X.stack H s (XE σ) e s' }
theorem yV:Nf (CXN X.prog X.w) (Ot X pins XE) XE:=λpins' σ H s e s' I h=>⟨pins',σ,H,s,Inv.wish (X:=Ot X pins XE) I _,h⟩
noncomputable def sH(ex C:Addr):HO := .ext λh=>∃ o vs,h.get? ex=some o/\o.cls = .ref C/\o.data = .fields vs/\vs[2]?=some .none
noncomputable def tTryR(K:aa)(W Y:Addr)(E:XK)(tb:(St->XK)->TS)(ta:TA):TS:=λD σ H=>∃ XE:St->XK,tb XE D σ H /\
 ∀ σ' H' cls,XE σ' cls none H'->∃ C,cls = .ref C/\subIn K (.ref C) (.ref W)=some true/\∀ ex,H' ex=none->ta σ' (upd H' ex (sH ex C)) λvs H2=>vs.length<=az/\H2 ex=some (sH ex C)/\E (.ref Y) none H2
section
variable {P:Program}{w:World}{K:aa}{mg:Str->Option Value}{base:Heap}{N:List Str}{qual:Str}{scope:Scope}{f:Addr}{cdv:Value}{A:Around}{outer:List Env}{s0:Shared}{H0:Hp}{E:XK}
 {e₀:Expr}{rest:List Expr}{W Y:Addr}{y z:Str}{np np2 cpos rpos hpos pos p2:Pos}{body:List Stmt}
theorem oY{X:Cx}{tb:(St->XK)->TS}{ta:TA}(hX:X=ZS (CXE P w) P w K mg base N qual scope f cdv A outer s0 H0 E)(c:yr K W)(hg:Gl X y)(hm:mg y=some (.ref W))(cY:KA K Y)(hgY:Gl X z)(hmY:mg z=some (.ref Y))
  (hb:∀ pins XE,PSs (Ot X pins XE) body (tb XE))(ha:∀ e,PA (X.handling e) (e₀::rest) ta)(hst0:autoParam (ZO (e₀::rest)=true) auR)(hdb:autoParam ((y==("__debug__" : Str))=false) auD)(hdbY:autoParam ((z==("__debug__" : Str))=false) auD) :
  PS X (.Try body [.ExceptHandler (some (.Name y np)) none [.Raise (some (.Call (.Name z np2) (e₀::rest) [] cpos)) (some (.Constant .none j p2)) rpos] hpos] [] [] pos) (tTryR K W Y E tb ta):=by
 intro pins s σ H D I hD
 obtain⟨XE,hbody,hcatch⟩:=hD
 refine wpAny_Try_except ?_
 have I0:Inv (Ot X pins XE) [] σ H s:=I.vI _
 refine wpAny_mono (hb pins XE [] s σ H D I0 hbody) (λf s1 hs1=>?_) (λe s1 he=>?_)
 ·cases f with
  | next =>
   obtain⟨σ',H',I',q⟩:=hs1
   exact HQ (X:=X) pins s1 σ' H' D I'.PV q
  | brk =>
   obtain⟨σ',H',I',q⟩:=hs1
   exact⟨σ',H',I'.PV,q⟩
  | cont =>
   obtain⟨σ',H',I',q⟩:=hs1
   exact⟨σ',H',I'.PV,q⟩
  | ret u =>
   obtain⟨v,σ',H',I',r,q⟩:=hs1
   exact⟨v,σ',H',I'.PV,r,q⟩
 ·obtain⟨pins',σ',H1,s0',I1,⟨ex,t,cls,H',B,rfl,ho,hgn,u,ok,fl,cv,hn,hexn,hE⟩,ex',ee,nc⟩:=he
  cases ee
  subst hX
  have I1X:Inv (ZS (CXE P w) P w K mg base N qual scope f cdv A outer s0 H0 E) pins σ' H1 s0':=Inv.PV (E:=λ_ _=>False) I1
  have I2:=I1X.call' (ch:=[]) ho u ok hgn (λ_ z=>nomatch z)
  obtain⟨C,rfl,hsub,hsuite⟩:=hcatch σ' H' cls hE
  have hsubf:∀ b∈frs outer,b∈frs (envOfC qual scope s0.heap.objs.size f cdv::outer):=λb hb=>by
   unfold frs
   rw[filterMap_cons]
   exact mem_cons_of_mem _ hb
  have hpin:∀ p∈([]:List (Addr×Obj))++pins,∃ u,s0'.heap.get? p.1=some u:=λp hp=>⟨_,(I1X.pin p hp).1⟩
  have u0:∀ b o,s0.heap.get? b=some o->∃ u,s0'.heap.get? b=some u:=λb o e=>I1X.base.there b o e (by intro z;cases z)
  have mv:∀ {h2:Heap},B.StaysIn h2->s1.heap.UpToSlots h2->Inv (ZS (CXE P w) P w K mg base N qual scope f cdv A outer s0 H0 E) pins σ' H' { s1 with heap:=h2 }:=λst up=>Inv.move (H0:=H1) (h0:=s0'.heap) I2 rfl cv st up fl.2.2.1 hpin u0 rfl hsubf
  refine jx (L:=s0.heap.objs.size) I.ok.frames rfl fl nc λh4 a1 a2 a3 up4 nc4=>?_
  refine UO (s:={ s1 with heap:=h4 }) (fr:=none) a1 a2 a3 λh5 b1 b2 b3 up5 e5=>?_
  have I5:=mv b1 (up4.trans up5)
  obtain⟨ob,hob,hobc⟩:=b3.there
  refine wpAny_handleBy_cons (codeAny_handlers_test (Vs (X:=(ZS (CXE P w) P w K mg base N qual scope f cdv A outer s0 H0 E).handling (.ref ex)) (I5.handle _) hg hm ?_ hdb)) (by intro q;cases q)
  refine Qq (s:={ s1 with heap:=h5 }) I5.kIn hob hobc c.ty c.cl c.base hsub ?_
  refine codeAny_handlers_suite ?_
  refine UO (s:={ s1 with heap:=h5 }) (fr:=none) b1 b2 b3 λh6 d1 d2 d3 up6 e6=>?_
  have I6:=mv d1 ((up4.trans up5).trans up6)
  obtain⟨o4,v4,n1,n2,n3⟩:=nc4
  obtain⟨oe,hoe,hoec⟩:=d3.there
  have eo:oe=o4:=by
   have z:h6.get? ex=h4.get? ex:=e6.trans e5
   rw[hoe,n1]at z
   cases z
   rfl
  subst eo
  have ne_there:∀ b o,s0'.heap.get? b=some o->b≠ex:=λb o e z=>by rw[z,hn]at e;cases e
  have I7:Inv (ZS (CXE P w) P w K mg base N qual scope f cdv A outer s0 H0 E) pins σ' (upd H' ex (sH ex C)) { s1 with heap:=h6 }:=by
   refine I6.track hexn (Ww I1X.base (by intro z;cases z) hn) ?_ (λy c' e=>?_) (λp hp=>?_) ⟨⟨oe,v4,hoe,hoec,n2,n3⟩,⟨_,hoe⟩,λh1 h2 ⟨o1,v1,a1,a2,a3⟩ k=>⟨o1,v1,k o1 a1,a2,a3⟩⟩
   ·obtain⟨m,⟨o,_,_,e,_⟩,_⟩:=I1X.loc
    exactλz=>ne_there _ o e z.symm
   ·obtain⟨v,o,e,_⟩:=I1X.cell y c' e
    exact ne_there _ o e
   ·exact ne_there _ _ (I1X.pin p hp).1
  refine wpAny_execs_cons (wpAny_mono (Q:=λ_ _=>False) ?_ (λ_ _ z=>z.elim) λ_ _ z=>z)
  obtain⟨nm,q,NN,bs,bm,hdct,sn,sub,ab,col,dd,k0,k1,k2,k3,k5,lk,ht,hok,hni⟩:=cY.obj
  have hkk:K.In h6:=I7.kIn
  have hbase:bm.contains (.type "BaseException")=true:=(tail_of_in hkk ht).hasType (by decide +kernel)
  have hst1:=hst0
  unfold ZO at hst1
  rw[aD]at hst1
  refine Bs (C:=Y) (nm:=nm) (q:=q) (N:=NN) (bs:=bs) (bm:=bm) (hdct:=hdct) (sn:=sn) (sub:=sub) (ab:=ab) (col:=col) (dd:=dd) (k0:=k0) (k1:=k1) (k2:=k2) (k3:=k3) (k5:=k5) (mN:=h6.nsMap NN) (ex:=ex)
   F.excBase_ValueError hbase rfl (by rw[Wk hst1.1];show(false||(backTo cpos (starEach rest _)).any (·.1))=false;rw[WM hst1.2 cpos];rfl) (PySem.W.nsMap_none_of_in hkk hok hni) ?_
  refine Vs (X:=(ZS (CXE P w) P w K mg base N qual scope f cdv A outer s0 H0 E).handling (.ref ex)) (I7.handle _) hgY hmY ?_ hdbY
  refine⟨rfl,?_⟩
  have hargs:=ha (.ref ex) cpos pins _ σ' _ _ (I7.handle (.ref ex)) (hsuite ex hexn)
  rw[Wk hst1.1]at hargs⊢
  refine Calls.evalArgs_plain (wpAny_mono hargs (λus s2 zq=>?_) λ_ _ z=>z.elim)
  obtain⟨vs,H2,I8,r,hlen,hex2,q2⟩:=zq
  have I8X:=I8.FY I.ok.hd I.ok.frames
  have k2':K.In s2.heap:=I8X.kIn
  have keepN:s2.heap.Ns NN (h6.nsMap NN):=by
   have n1:h6.Ns NN (h6.nsMap NN) := .of_isNs (isNs_of_in hkk hok)
   obtain⟨o,es,ep,e,r1⟩:=n1
   unfold nsOkIn at hok
   split at hok
   ·rename_i c0 d0 es0 n0 sl0 ho
    have e1:=hkk _ _ ho
    rw[e]at e1
    cases e1
    exact⟨_,es,ep,k2' _ _ ho,r1⟩
   ·cases hok
  obtain⟨⟨o8,v8,m1,_,m2,m3⟩,_⟩:=I8.hok ex _ hex2
  exact⟨rfl,by show us.length<=az;rw[<-r.length];exact hlen,k2' _ _ lk,keepN,tail_of_in k2' ht,⟨o8,v8,m1,m2,m3⟩,λh' e t h2 hm' hg' sb=>oX I8X hm' hg' sb q2⟩
theorem univB{Xf:ι->Cx}{K:aa}(hK:∀ z,(Xf z).K=K)(h:∀ z,JAs (Xf z) XN es da):∃ ta,(∀ z,PA (Xf z) es ta)/\DenA K XN ta da:=by
 refine⟨λσ H Q=>∃ B0 B H0 ds q,Cfg K B0 B H0 H σ ds/\da ds q (λ_=>False)/\∀ vs xs H0' H',Ext H0 H H0' H'->Rps K H0' xs vs->q xs->Q vs H',λz=>?_,λc hd k kx=>?_⟩
 ·intro pos pins s σ H Q I hh
  obtain⟨B0,B,H0,ds,q,c,hd,k⟩:=hh
  obtain⟨te,p,d⟩:=(h z).ex
  have kk:=hK z
  subst kk
  exact p pos pins s σ H Q I (d c hd k λ_ _ _ h=>h.elim)
 ·rw[uw kx]at hd
  exact⟨_,_,_,_,_,c,hd,k⟩
noncomputable def my(K:aa)(W Y:Addr)(b:DS)(da:DA):DS:=λds e=>b ds { e with xc:=λds' C=>subIn K (.ref C) (.ref W)=some true/\da ds' (λxs=>xs.length<=az/\e.xc ds' Y) (λ_=>False) }
theorem oZ{b:DS}{da:DA}(c:yr K W)(hm:mg y=some (.ref W))(cY:KA K Y)(hmY:mg z=some (.ref Y))
  (hb:∀ XE',∀ pins,JSs (Ot (ZS (CXE P w) P w K mg base N qual scope f cdv A outer s0 H0 E) pins XE') XE' body b)(ha:∀ e,JAs ((ZS (CXE P w) P w K mg base N qual scope f cdv A outer s0 H0 E).handling e) XN (e₀::rest) da)
  (hg:autoParam (Gl (ZS (CXE P w) P w K mg base N qual scope f cdv A outer s0 H0 E) y) auR)(hgY:autoParam (Gl (ZS (CXE P w) P w K mg base N qual scope f cdv A outer s0 H0 E) z) auR)(hst0:autoParam (ZO (e₀::rest)=true) auR)(hdb:autoParam ((y==("__debug__" : Str))=false) auD)(hdbY:autoParam ((z==("__debug__" : Str))=false) auD) :
  JS (ZS (CXE P w) P w K mg base N qual scope f cdv A outer s0 H0 E) (λ_=>E) (.Try body [.ExceptHandler (some (.Name y np)) none [.Raise (some (.Call (.Name z np2) (e₀::rest) [] cpos)) (some (.Constant .none j p2)) rpos] hpos] [] [] pos) (my K W Y b da):=by
 have hb':∀ XE',∃ t,(∀ pins,PSs (Ot (ZS (CXE P w) P w K mg base N qual scope f cdv A outer s0 H0 E) pins XE') body t)/\Oq K XE' t b:=λXE'=>uI (Xf:=λpins=>Ot (ZS (CXE P w) P w K mg base N qual scope f cdv A outer s0 H0 E) pins XE') (λ_=>rfl) (hb XE')
 obtain⟨ta,p2,d2⟩:=univB (Xf:=λe=>(ZS (CXE P w) P w K mg base N qual scope f cdv A outer s0 H0 E).handling e) (K:=K) (λ_=>rfl) ha
 refine⟨_,oY rfl (tb:=λXE'=>(hb' XE').choose) c hg hm cY hgY hmY (λpins XE'=>(hb' XE').choose_spec.1 pins) p2 hst0 hdb hdbY,λ{B0 B H0 H σ ds e T} c h o=>?_⟩
 refine⟨λσ' cls _ H'=>∃ H0' ds' C,cls = .ref C/\Cfg K B0 B H0' H' σ' ds'/\subIn K (.ref C) (.ref W)=some true/\da ds' (λxs=>xs.length<=az/\e.xc ds' Y) (λ_=>False),?_,?_⟩
 ·exact(hb' _).choose_spec.2 c h ⟨o.nx,o.rt,λH0 H σ ds C c' h'=>⟨H0,ds,C,rfl,c',h'⟩,o.bk,o.ct,o.rb,o.ro⟩
 ·rintro σ' H' cls ⟨H0',ds',C,rfl,c',sb,hx⟩
  refine⟨C,rfl,sb,λex hexn=>?_⟩
  have ee:Ext H0' H' (upd H0' ex (sH ex C)) (upd H' ex (sH ex C)) := .put c'.sub hexn
  exact d2 (c'.go ee) hx (λvs xs H0'' H2 e2 r hq=>⟨by rw[r.length];exact hq.1,e2.s _ _ Zx,o.kx c' Y H2 (ee.trans e2).s hq.2⟩) (λ_ _ _ z=>z.elim)
theorem EH{X:Cx}{XE:St->XK}{n k:Nat}{f:Addr}{fd:FuncData}{ps:List Str}{x:Str}{st:Stmt}{e:Expr}{es:List Expr}{g:DSp}{p pos:Pos}{da:DA}(F:ZL X.prog X.w X.K X.mg X.base (CXE X.prog X.w) k f fd ps (spD X.K g))(B:FnB X.K X.mg x st ps f fd)(hr:XA n X.A)(ha:JAs X XE (e::es) da)
  (hT:∀ xs q x,g xs q x->g xs q (λ_=>False):=by exactλ_ _ _ h=>h)(hk:autoParam (k<=n) auD)(hg:autoParam (Gl X x) auR)(hst:autoParam (ZO (e::es)=true) auR)(hdb:autoParam ((x==("__debug__" : Str))=false) auD):JE X XE (.Call (.Name x p) (e::es) [] pos) (dCall g da):=by
 obtain⟨ta,p1,d1⟩:=ha.ex
 refine⟨_,(Ay F (hr.mono hk) hg B.m B.F.kp B.a AZ ⟨p1⟩ hst hdb).get,λc h k kx=>d1 c h (λvs xs H1 H2 e r h=>?_) kx⟩
 exact⟨H1,xs,_,λ_=>False,e.sub,r,hT _ _ _ h,k.go e,λ_ _ _ z=>z.elim⟩
end
theorem Mv{M:Model}(h:Runs M Γ p t fs s e s'):s.toks<=s'.toks:=by
 have g:∀ (s:Shared) n x,(s.setGen n x).toks=s.toks:=λ_ _ _=>rfl
 induction h<;>first | exact Nat.le_refl _ | assumption | ((try simp only[g]at *);omega)
theorem Bt{M:Model}(h:Wakes M Γ p g r s res s'):s.toks<=s'.toks:=by
 unfold Wakes at h
 split at h
 ·exact h.elim
 ·split at h
  ·obtain⟨e₁,s₁,h1,_,_,rfl⟩:=h
   have:=Mv h1;exact this
  ·exact h.2 ▸ Nat.le_refl _
  ·exact h.2 ▸ Nat.le_refl _
 ·obtain⟨e₁,s₁,h1,_,_,rfl⟩:=h
  have:=Mv h1;exact this
 all_goals exact h.2 ▸ Nat.le_refl _
theorem wp_toks{M:Model}{Γ:PySem.Ctx}:∀ {t:Sem α}{Q:α->Pos->Shared->Prop}{E:Value->Pos->Shared->Prop}{p:Pos}{s:Shared},Sem.wp M Γ t Q E p s ->
  ∀ n,n<=s.toks->Sem.wp M Γ t (λa p' s'=>Q a p' s'/\n<=s'.toks) (λe p' s'=>E e p' s'/\n<=s'.toks) p s:=by
 intro t
 induction t with
 | pure a=>intro Q E p s h n hn;exact⟨h,hn⟩
 | raise e=>intro Q E p s h n hn;exact⟨h,hn⟩
 | load a part k ih=>intro Q E p s h n hn;obtain⟨o,h1,h2⟩:=h;exact⟨o,h1,ih o h2 n hn⟩
 | update a part f k ih=>intro Q E p s h n hn;exact⟨h.1,ih () h.2 n hn⟩
 | fresh k ih=>intro Q E p s h n hn;exact ih _ h n (Nat.le_succ_of_le hn)
 | choose src m k ih=>intro Q E p s h n hn;exact⟨h.1,ih _ h.2 n hn⟩
 | call c hd g l k ih=>intro Q E p s h n hn;obtain⟨r,s',h1,h2⟩:=h;exact⟨r,s',h1,ih r h2 n (Nat.le_trans hn (Mv h1))⟩
 | resume g r l k ih=>intro Q E p s h n hn;obtain⟨res,s',h1,h2⟩:=h;exact⟨res,s',h1,ih res h2 n (Nat.le_trans hn (Bt h1))⟩
 | genState g k ih=>intro Q E p s h n hn;obtain⟨st,h1,h2⟩:=h;exact⟨st,h1,ih _ h2 n hn⟩
 | rule tag k ih=>intro Q E p s h n hn;exact ih _ h n hn
 | «at» p' k ih=>intro Q E p s h n hn;exact ih _ h n hn
 | alloc o k ih=>intro Q E p s h n hn;exact ih _ h n hn
 | loadIfAlive a k ih=>intro Q E p s h n hn;exact ih _ h n hn
 | point l k ih=>intro Q E p s h n hn;exact ih _ h n hn
 | ask k ih=>intro Q E p s h n hn;exact ih _ h n hn
 | os q l k ih=>intro Q E p s h n hn;exact ih _ h n hn
 | handled own k ih=>intro Q E p s h n hn;exact ih _ h n hn
 | newGen c k ih=>intro Q E p s h n hn;exact ih _ h n hn
 | stack k ih=>intro Q E p s h n hn;exact ih _ h n hn
 | thread k ih=>intro Q E p s h n hn;exact ih _ h n hn
 | _=>intro Q E p s h;exact h.elim
theorem wpAny_toks(h:wpAny M A t Q E s):wpAny M A t (λa s'=>Q a s'/\s.toks<=s'.toks) (λe s'=>E e s'/\s.toks<=s'.toks) s:=λΓ p hΓ=>wp_toks (h Γ p hΓ) _ (Nat.le_refl _)
open Builtin Builtin.Str in
noncomputable def rep1(x y z:Str):Str:=if ((occurrences x y 0 x.length 1).isEmpty||(y.length==0&&z.length==0))=true then x else glued z (partsBetween x (occurrences x y 0 x.length 1) y.length)
open Builtin Builtin.Str in
theorem Bu(x y z:Str)(t u v k:Tok)(h0:(u==0||v==0)=false)(huv:(u==v)=false)(hyz:(y==z)=false)(hl:tooLong (x.length+(occurrences x y 0 x.length 1).length*z.length)=false) :
  Gives («str.replace» ⟨[.str x t,.str y u,.str z v,.int 1 k],[]⟩) (if ((occurrences x y 0 x.length 1).isEmpty||(y.length==0&&z.length==0))=true then .val (.str x t) else .str (glued z (partsBetween x (occurrences x y 0 x.length 1) y.length))):=by
 show Gives (if ((occurrences x y 0 x.length 1).isEmpty||(y.length==0&&z.length==0))=true then (do rule "str.replace.nothing";ret (.str x t)) else
     (isSame (.str y u) (.str z v) >>= λsame=>if same=true then (do rule "str.replace.old-is-new";ret (.str x t)) else if tooLong (x.length+(occurrences x y 0 x.length 1).length*z.length)=true then unsupported "str.replace:memory" else retStr (glued z (partsBetween x (occurrences x y 0 x.length 1) y.length)))) _
 cases hc:((occurrences x y 0 x.length 1).isEmpty||(y.length==0&&z.length==0))
 ·rw[isSame_str_other y z u v h0 huv hyz,hl]
  exact .of_eq rfl
 ·exact .rule (.of_eq rfl)
theorem sI(h0:0<s.toks)(h:wpAny M A t Q E s)(hQ:∀ a s',0<s'.toks->Q a s'->Q' a s'):wpAny M A t Q' E s:=wpAny_mono (wpAny_toks h) (λa s' z=>hQ a s' (Nat.lt_of_lt_of_le h0 z.2) z.1) λ_ _ z=>z.1
structure PEt (X:Cx)(e:Expr)(t:TE):Prop where
 go:∀ (pins:List (Addr×Obj)) (s:Shared) (σ:St) (H:Hp) (Q:VK),0<s.toks->Inv X pins σ H s->t σ H Q->wpAny (model X.prog X.w) X.A (eval e X.env) (EP X pins σ Q) X.xe s
theorem PEt.of(h:PE X e t):PEt X e t:=⟨λpins s σ H Q _ I q=>h pins s σ H Q I q⟩
section
open Builtin Builtin.Str
theorem jy{o:Expr}{a b:Str}{apos cpos p1 p2 p3:Pos}{to:TE}(ho:PEt X o to)(hab:(a==b)=false)(hbase:autoParam (attributeBase o "replace" X.env (eval o X.env)=eval o X.env) auR)(hline:autoParam ((apos.endLine==cpos.line)=true) auR) :
  PEt X (.Call (.Attribute o "replace" apos) [.Constant (.str a) j1 p1,.Constant (.str b) j2 p2,.Constant (.int 1) j3 p3] [] cpos) (λσ H Q=>to σ H λv H'=>∃ x:Str,v = .str x/\x.length+(x.length+1)*b.length<=16777216/\(rep1 x a b).length<=az/\Q (.str (rep1 x a b)) H'):=by
 refine⟨λpins s σ H Q h0 I h=>?_⟩
 refine wpAny_Call_method_late hbase rfl hline rfl (sI h0 (ho.go pins s σ H _ h0 I h) λv s1 h1 zq=>?_)
 obtain⟨y,H1,I1,r1,x,rfl,hl,hz,q1⟩:=zq
 obtain⟨t,rfl⟩:=r1
 refine⟨"str", "str.replace",F.plainAttrs_str,F.slot_str_replace,F.type_str_replace,typeIs_str _ _ _,λa z=>(by cases z),?_⟩
 refine Calls.callWith_builtin rfl (Calls.evalArgs_plain ?_)
 show wpAny _ _ (spliced [(false,eval (.Constant (.str a) j1 p1) X.env),(false,eval (.Constant (.str b) j2 p2) X.env),(false,eval (.Constant (.int 1) j3 p3) X.env)]) _ _ _
 refine Calls.spliced_cons (Calls.Constant_str (Calls.spliced_cons (Calls.Constant_str (Calls.spliced_cons (wpAny_Constant_int (Calls.spliced_nil ?_))))))
 have hl2:tooLong (x.length+(occurrences x a 0 x.length 1).length*b.length)=false:=by
  have e1:=StrLaws.occ_length_le x a 0 x.length 1
  have e2:(occurrences x a 0 x.length 1).length*b.length<=(x.length+1)*b.length:=Nat.mul_le_mul_right _ (by omega)
  unfold tooLong az
  exact decide_eq_false (by omega)
 refine call_gives F.slot_str_replace (typeIs_str _ _ _) F.entry_str_replace (F.args_str_replace_4 _ _ _ _) (Bu x a b t _ _ _ ?_ ?_ hab hl2) ?_
 ·have z:(s1.toks==0)=false:=beq_eq_false_iff_ne.mpr (Nat.ne_of_gt h1)
  show(s1.toks==0||(s1.toks+1:Nat)==0)=false
  rw[z]
  rfl
 ·exact beq_eq_false_iff_ne.mpr (Nat.ne_of_lt (Nat.lt_succ_self _))
 ·unfold rep1 at q1 hz
  cases hc:((occurrences x a 0 x.length 1).isEmpty||(a.length==0&&b.length==0))
  ·rw[hc]at q1 hz
   simp only[Bool.false_eq_true,if_false]at q1 hz⊢
   exact⟨hz,.str _,H1,I1.tok _,⟨_,rfl⟩,q1⟩
  ·rw[hc]at q1
   simp only[if_true]at q1⊢
   exact⟨.str _,H1,I1.tok _,⟨_,rfl⟩,q1⟩
end
structure PAt (X:Cx)(es:List Expr)(t:TA):Prop where
 go:∀ (pos:Pos) (pins:List (Addr×Obj)) (s:Shared) (σ:St) (H:Hp) (Q:List V->Hp->Prop),0<s.toks->Inv X pins σ H s->t σ H Q->wpAny (model X.prog X.w) X.A (spliced (backTo pos (starEach es X.env))) (AP X pins σ Q) X.xe s
structure PSt (X:Cx)(st:Stmt)(t:TS):Prop where
 go:∀ (pins:List (Addr×Obj)) (s:Shared) (σ:St) (H:Hp) (D:Ends),0<s.toks->Inv X pins σ H s->t D σ H->wpAny (model X.prog X.w) X.A (exec st X.env) (SP X pins D) X.xe s
structure PSst (X:Cx)(st:List Stmt)(t:TS):Prop where
 go:∀ (pins:List (Addr×Obj)) (s:Shared) (σ:St) (H:Hp) (D:Ends),0<s.toks->Inv X pins σ H s->t D σ H->wpAny (model X.prog X.w) X.A (execs st X.env) (SP X pins D) X.xe s
structure PSz (X:Cx)(st:Stmt)(t:TS):Prop where
 go:∀ (pins:List (Addr×Obj)) (s:Shared) (σ:St) (H:Hp) (D:Ends),Inv X pins σ H s->t D σ H->wpAny (model X.prog X.w) X.A (exec st X.env) (λf s'=>SP X pins D f s'/\0<s'.toks) X.xe s
section
theorem sJ(ha:PEt X e te)(hr:PAt X es t)(hs:starEach (e::es) X.env=(false,eval e X.env)::starEach es X.env):PAt X (e::es) (vo te t):=by
 refine⟨λpos pins s σ H Q h0 I h=>?_⟩
 rw[hs]
 show wpAny _ _ (spliced ((false,eval e X.env)::backTo pos (starEach es X.env))) _ _ s
 refine Calls.spliced_cons (sI h0 (ha.go pins s σ H _ h0 I h) λu s1 h1 zq=>?_)
 obtain⟨x,H1,I1,r1,q1⟩:=zq
 exact thn (hr.go pos pins s1 σ H1 _ h1 I1 q1) λus s2 ⟨xs,H2,I2,r2,q2⟩=>⟨x::xs,H2,I2,.cons r1 r2,q2⟩
theorem zl(h:PAt X es t):PEt X (.List es pos) (tLst t):=by
 refine⟨λpins s σ H Q h0 I hq=>?_⟩
 refine wpAny_List_spliced (thn (h.go pos pins s σ H _ h0 I hq) λus s1 ⟨xs,H1,I1,r,z,q⟩=>⟨by rw[<-r.length];exact z,?_⟩)
 have hf:H1 s1.heap.objs.size=none:=I1.hok.fresh (Nat.le_refl _)
 refine⟨.ref s1.heap.objs.size,upd H1 s1.heap.objs.size (.lst xs),I1.laid (t':=s1.toks) (λb u e=>ao _ e) (Nat.le_refl _) ?_,rfl,q _ hf⟩
 exact⟨z,us,0,r,aq _ rfl⟩
theorem ng(hN:X.N.Nodup)(hi:X.N[i]?=some x)(hx:Loc X.env.scope x)(he:PEt X e te)(hs:swapsWith e (some (.Name x pos')) pos.line X.env=pure false)(hf:X.fn x=true\/X.env.scope.names.lookup x=some .local) :
  PSt X (.Assign [.Name x pos'] e pos) (Io te (OX i)):=by
 refine⟨λpins s σ H D h0 I h=>?_⟩
 refine wpAny_Assign_Name (thn (he.go pins s σ H _ h0 I h) λv s1 zq=>?_) hs
 obtain⟨y,H1,I1,r1,q1⟩:=zq
 exact WL I1 hN hi hx r1 (λs2 I2=>⟨_,H1,I2,q1⟩) hf
theorem nh(hN:X.N.Nodup)(hi:X.N[i]?=some x)(hx:Loc X.env.scope x)(he:PEt X e te)(ho:PIp X op ti)(hf:X.fn x=true\/X.env.scope.names.lookup x=some .local:=by first | exact .inl rfl | exact .inr rfl | assumption) :
  PSt X (.AugAssign (.Name x pos') op e pos) (tAug i te ti):=by
 refine⟨λpins s σ H D h0 I h=>?_⟩
 obtain⟨v,e1,h⟩:=h
 obtain⟨m,hn,hl⟩:=I.loc
 have vis:Vis X.env.scope x:=by rcases hx with k|k;exact .inl k;exact .inr (.inl k)
 obtain⟨u,r,l⟩:=hl i x v hi e1 vis
 refine wpAny_AugAssign_Name ?_
 have go:wpAny (model X.prog X.w) X.A (eval e X.env) (λw s₂=>wpAny (model X.prog X.w) X.A (inplaceOp op u w) (λr s₃=>wpAny (model X.prog X.w) X.A (storeName X.env x r) (λ_=>SP X pins D .next) X.xe s₃) X.xe s₂) X.xe s:=by
  refine thn (he.go pins s σ H _ h0 I h) λw s1 zq=>?_
  obtain⟨y,H1,I1,r1,q1⟩:=zq
  refine thn (ho pins s1 σ H1 v y u w _ I1 r r1 q1) λz s2 zq=>?_
  obtain⟨zv,H2,I2,r2,q2⟩:=zq
  exact WL I2 hN hi hx r2 (λs3 I3=>⟨_,H2,I3,q2⟩) hf
 rcases l with⟨hk,hm⟩|⟨hk,c,hc,hcell⟩
 ·exact wpAny_loadName_local I.ok.kind hk hn hm go
 ·rcases hk with hk|hk
  ·exact wpAny_loadName_cell I.ok.kind hk hc hcell go
  ·rcases hx with k|k
   ·have:X.env.scope.names.lookup x=some .free:=hk
    rw[k]at this;cases this
   ·have:X.env.scope.names.lookup x=some .free:=hk
    rw[k]at this;cases this
theorem yW{st:Stmt}{rest:List Stmt}(h1:PSt X st t)(h2:PSst X rest u):PSst X (st::rest) (tSeq t u):=by
 refine⟨λpins s σ H D h0 I h=>?_⟩
 refine wpAny_execs_cons (sI h0 (h1.go pins s σ H { D with nx:=u D } h0 I h) λf s1 k1 q=>?_)
 cases f with
 | next =>
  obtain⟨σ',H',I',q⟩:=q
  exact h2.go pins s1 σ' H' D k1 I' q
 | ret v=>exact q
 | brk=>exact q
 | cont=>exact q
theorem yX{st:Stmt}{rest:List Stmt}(h1:PSz X st t)(h2:PSst X rest u):PSs X (st::rest) (tSeq t u):=by
 intro pins s σ H D I h
 refine wpAny_execs_cons (thn (h1.go pins s σ H { D with nx:=u D } I h) λf s1 q=>?_)
 obtain⟨q,k1⟩:=q
 cases f with
 | next =>
  obtain⟨σ',H',I',q⟩:=q
  exact h2.go pins s1 σ' H' D k1 I' q
 | ret v=>exact q
 | brk=>exact q
 | cont=>exact q
theorem jA{id:String}{name x:Str}{c:Str}{apos cpos pos pos' p1:Pos}{r:V->List V->Hp->VK->Prop}(hN:X.N.Nodup)(hi:X.N[i]?=some x)(hx:Loc X.env.scope x)(pa:PlainAttrs "str")(slot:PySem.Slot "str" name id)(hty:typeOf (.builtin id)=pure (.type "method_descriptor"))(hm:MtR X id r)(ha:PA X (e::es) t)
  (hbase:attributeBase (.Constant (.str c) j p1) name X.env (eval (.Constant (.str c) j p1) X.env)=eval (.Constant (.str c) j p1) X.env)
  (hfew:((backTo cpos (starEach (e::es) X.env)).all (λx => !x.1)&&(backToKw cpos (keywordEach [] X.env)).all (λx=>x.1.isSome)
   && decide ((e::es).length+([]:List Keyword).length+(if ([]:List Keyword).isEmpty then 0 else 1)<30))=true)
  (hline:(apos.endLine==cpos.line)=true)(hs:starEach (e::es) X.env=(false,eval e X.env)::starEach es X.env)(hplain:(backTo cpos (starEach es X.env)).any (·.1)=false)
  (hsw:swapsWith (.Call (.Attribute (.Constant (.str c) j p1) name apos) (e::es) [] cpos) (some (.Name x pos')) pos.line X.env=pure false)(hf:X.fn x=true\/X.env.scope.names.lookup x=some .local) :
  PSz X (.Assign [.Name x pos'] (.Call (.Attribute (.Constant (.str c) j p1) name apos) (e::es) [] cpos) pos) (Io (tBM X.K "str" r (tC (.str c)) t) (OX i)):=by
 refine⟨λpins s σ H D I h=>?_⟩
 refine wpAny_Assign_Name ?_ hsw
 refine wpAny_Call_method_late hbase hfew hline rfl (Calls.Constant_str ?_)
 obtain⟨ty,q1⟩:=h
 have I1:Inv X pins σ H { s with toks:=s.toks+1 }:=I.tok _
 refine⟨"str",id,pa,slot,hty,typeIs_str _ _ _,λa z=>(by cases z),?_⟩
 have hA:=ha cpos pins _ σ H _ I1 q1
 rw[hs]at hA⊢
 have k0:0<({ s with toks:=s.toks+1 }:Shared).toks:=Nat.succ_pos _
 refine sI k0 (Calls.callWith_builtin (by show(false||(backTo cpos (starEach es X.env)).any (·.1))=false;rw[hplain]<;>rfl) (Calls.evalArgs_plain (thn hA λus s2 ⟨vs,H2,I2,r2,q2⟩=>hm pins s2 σ H2 (.str c) vs _ us _ I2 ⟨_,rfl⟩ r2 q2))) λv s1 k1 zq=>?_
 obtain⟨y,H1,I1,r1,q1⟩:=zq
 exact sI k1 (WL I1 hN hi hx r1 (λs2 I2=>⟨_,H1,I2,q1⟩) hf) λ_ s2 k2 q=>⟨q,k2⟩
end
structure JEt (X:Cx)(XE:St->XK)(e:Expr)(de:DE):Prop where
 ex:∃ te,PEt X e te/\Den X.K XE te de
structure JAt (X:Cx)(XE:St->XK)(es:List Expr)(de:DA):Prop where
 ex:∃ te,PAt X es te/\DenA X.K XE te de
structure JSt (X:Cx)(XE:St->XK)(st:Stmt)(s:DS):Prop where
 ex:∃ ts,PSt X st ts/\Oq X.K XE ts s
structure JSst (X:Cx)(XE:St->XK)(st:List Stmt)(s:DS):Prop where
 ex:∃ ts,PSst X st ts/\Oq X.K XE ts s
structure JSz (X:Cx)(XE:St->XK)(st:Stmt)(s:DS):Prop where
 ex:∃ ts,PSz X st ts/\Oq X.K XE ts s
section
noncomputable def aS:D->(Str->Prop)->Prop
 | .str b,q=>q b
 | _,_=>False
theorem aS_ex(h:aS d q):∃ b,d = .str b/\q b:=by
 unfold aS at h;split at h
 ·exact⟨_,rfl,h⟩
 ·exact h.elim
theorem z_aS:aS (.str b) q=q b:=rfl
noncomputable def dRep(a b:Str)(dO:DE):DE:=λds q x=>dO ds (λd=>aS d λz=>z.length+(z.length+1)*b.length<=16777216/\(rep1 z a b).length<=az/\q (.str (rep1 z a b))) x
theorem Nq{o:Expr}{a b:Str}{apos cpos p1 p2 p3:Pos}{dO:DE}(ho:JE X XE o dO)(hab:autoParam ((a==b)=false) auD)(hbase:autoParam (attributeBase o "replace" X.env (eval o X.env)=eval o X.env) auR)(hline:autoParam ((apos.endLine==cpos.line)=true) auR) :
  JEt X XE (.Call (.Attribute o "replace" apos) [.Constant (.str a) j1 p1,.Constant (.str b) j2 p2,.Constant (.int 1) j3 p3] [] cpos) (dRep a b dO):=by
 obtain⟨to,p,d⟩:=ho.ex
 refine⟨_,jy (.of p) hab hbase hline,λc h k kx=>d c h (λv a H1 H2 e r h=>?_) kx⟩
 obtain⟨z,rfl,h1,h2,h3⟩:=aS_ex h
 exact⟨z,r,h1,h2,k _ (.str _) _ _ e rfl h3⟩
theorem Mw(h:JE X XE e de):JEt X XE e de:=let ⟨t,p,d⟩:=h.ex;⟨t,.of p,d⟩
theorem Bv(h:JAs X XE es da):JAt X XE es da:=let ⟨t,p,d⟩:=h.ex;⟨t,⟨λpos pins s σ H Q _ I q=>p pos pins s σ H Q I q⟩,d⟩
theorem Ou{st:Stmt}{s:DS}(h:JS X XE st s):JSt X XE st s:=let ⟨t,p,d⟩:=h.ex;⟨t,⟨λpins s σ H D _ I q=>p pins s σ H D I q⟩,d⟩
theorem ni{st:List Stmt}{s:DS}(h:JSs X XE st s):JSst X XE st s:=let ⟨t,p,d⟩:=h.ex;⟨t,⟨λpins s σ H D _ I q=>p pins s σ H D I q⟩,d⟩
theorem Qx(ha:JEt X XE e da)(hr:JAt X XE es dr)(h:autoParam (noStar e=true) auR):JAt X XE (e::es) (El da dr):=by
 obtain⟨ta,p1,d1⟩:=ha.ex
 obtain⟨tr,p2,d2⟩:=hr.ex
 refine⟨_,sJ p1 p2 (Wk h),λc h k kx=>?_⟩
 refine d1 c h (λv a H1 H2 e r h=>?_) kx
 exact d2 (c.go e) h (λvs as H3 H4 e' r' h'=>k _ (a::as) _ _ (e.trans e') ⟨v,vs,rfl,r.same e'.s0,r'⟩ h') (kx.go e.s)
theorem nq(i:Nat){lp pos pos':Pos}(hN:X.N.Nodup)(h:JAt X XE es da)(hi:autoParam (X.N[i]?=some x) auR)(hx:Loc X.env.scope x:=by first | exact .inl rfl | exact .inr rfl)(hs:autoParam (swapsWith (.List es lp) (some (.Name x pos')) pos.line X.env=pure false) auR)
  (hf:X.fn x=true\/X.env.scope.names.lookup x=some .local:=by first | exact .inl rfl | exact .inr rfl | assumption):JSt X XE (.Assign [.Name x pos'] (.List es lp) pos) (AV i (λds q x=>da ds (λxs=>xs.length<=az/\q xs) x)):=by
 obtain⟨ta,p1,d1⟩:=h.ex
 refine⟨_,ng hN hi hx (zl p1) hs hf,Eu i λc h k kx=>d1 c h (λvs xs H1 H2 e r hb=>⟨by rw[r.length];exact hb.1,λp hp=>?_⟩) kx⟩
 exact k p vs xs H1 _ (e.trans (.grow e.sub (ZA.upd hp))) (e.s.free hp) (e.sub.free hp) Zx r hb.2
theorem zm(pk:List Nat)(i:Nat){np lp pos:Pos}(hN:X.N.Nodup)(h:JAt X XE es da)(hi:autoParam (X.N[i]?=some x) auR)(hx:Loc X.env.scope x:=by first | exact .inl rfl | exact .inr rfl)(hf:X.fn x=true\/X.env.scope.names.lookup x=some .local:=by first | exact .inl rfl | exact .inr rfl) :
  JSt X XE (.AugAssign (.Name x np) .Add (.List es lp) pos) (CW pk i (dLst da) Ex):=by
 obtain⟨ta,p1,d1⟩:=h.ex
 refine⟨_,nh hN hi hx (zl p1) Eg hf,EF pk λc h k kx=>d1 c h (λvs xs H1 H2 e r hb=>⟨by rw[r.length];exact hb.1,λp hp=>?_⟩) kx⟩
 exact k _ (.lst xs) _ _ (e.trans (.put e.sub hp)) (Vl r (e.sub.free hp)) hb.2
theorem Sr{st:Stmt}{rest:List Stmt}{s t:DS}(h:JSt X XE st s)(h2:JSst X XE rest t):JSst X XE (st::rest) (dSeq s t):=by
 obtain⟨t1,p1,d1⟩:=h.ex
 obtain⟨t2,p2,d2⟩:=h2.ex
 exact⟨_,yW p1 p2,λc h o=>d1 c h ⟨λH0 H σ ds c' h'=>d2 c' h' o,o.rt,o.xc,o.bk,o.ct,o.rb,o.ro⟩⟩
theorem jss_z{st:Stmt}{rest:List Stmt}{s t:DS}(h:JSz X XE st s)(h2:JSst X XE rest t):JSs X XE (st::rest) (dSeq s t):=by
 obtain⟨t1,p1,d1⟩:=h.ex
 obtain⟨t2,p2,d2⟩:=h2.ex
 exact⟨_,yX p1 p2,λc h o=>d1 c h ⟨λH0 H σ ds c' h'=>d2 c' h' o,o.rt,o.xc,o.bk,o.ct,o.rb,o.ro⟩⟩
theorem jB(i:Nat){id:String}{name x c:Str}{apos cpos pos pos' p1:Pos}{g:D->List D->(D->Prop)->Prop}(hN:X.N.Nodup)(pa:PlainAttrs "str")(slot:PySem.Slot "str" name id)(hty:typeOf (.builtin id)=pure (.type "method_descriptor"))(hm:JMt X "str" id g)(ha:JAs X XE (e::es) da)(hi:autoParam (X.N[i]?=some x) auR)(hx:Loc X.env.scope x:=by first | exact .inl rfl | exact .inr rfl)
  (hbase:autoParam (attributeBase (.Constant (.str c) j p1) name X.env (eval (.Constant (.str c) j p1) X.env)=eval (.Constant (.str c) j p1) X.env) auR)
  (hfew:autoParam (((backTo cpos (starEach (e::es) X.env)).all (λx => !x.1)&&(backToKw cpos (keywordEach [] X.env)).all (λx=>x.1.isSome)
   && decide ((e::es).length+([]:List Keyword).length+(if ([]:List Keyword).isEmpty then 0 else 1)<30))=true) auR)
  (hline:autoParam ((apos.endLine==cpos.line)=true) auR)(hs:autoParam (starEach (e::es) X.env=(false,eval e X.env)::starEach es X.env) auR)(hplain:autoParam ((backTo cpos (starEach es X.env)).any (·.1)=false) auR)
  (hsw:autoParam (swapsWith (.Call (.Attribute (.Constant (.str c) j p1) name apos) (e::es) [] cpos) (some (.Name x pos')) pos.line X.env=pure false) auR)(hf:X.fn x=true\/X.env.scope.names.lookup x=some .local:=by first | exact .inl rfl | exact .inr rfl | assumption) :
  JSz X XE (.Assign [.Name x pos'] (.Call (.Attribute (.Constant (.str c) j p1) name apos) (e::es) [] cpos) pos) (CN (dBM "str" g (dC (.str c)) da) (Xu i)):=by
 obtain⟨r,m,l⟩:=hm.ex
 obtain⟨ta,p2,d2⟩:=ha.ex
 refine⟨_,jA hN hi hx pa slot hty m p2 hbase hfew hline hs hplain hsw hf,Kl (λc h k kx=>?_) (Qt i)⟩
 exact⟨CK (K:=X.K) (d := .str _) rfl h.1,d2 c h.2 (λvs xs H3 H4 e' r' h'=>l (c.go e').sub (show Rp X.K H3 (.str _) (.str _) from rfl) r' h' (k.go e')) kx⟩
end
noncomputable def EI(z:Str)(n:Int):Str:=⟨(replicate n.toNat z.cps).foldl (· ++ ·) #[]⟩
theorem nr:OpR X (binaryOp .Mult) (λx y H Q=>∃ z n,x = .str z/\y = .int n/\2<=n/\n<=4000/\1<=z.length/\z.length<=4000/\(EI z n).length<=az/\Q (.str (EI z n)) H):=by
 intro pins s σ H x y v u Q I rx ry h
 obtain⟨z,n,rfl,rfl,h0,hn,hz1,hz,hs,q⟩:=h
 obtain⟨t,rfl⟩:=rx
 obtain⟨t',rfl⟩:=ry
 have hb:z.length*n.toNat<=16000000:=Nat.mul_le_mul hz (show n.toNat<=4000 by omega)
 have e:az=16777216:=rfl
 refine P.mul_str ?_ (λh1 _ h2=>?_) (λ_ _=>?_) ?_
 ·rw[decide_eq_false (by omega),decide_eq_false (by omega)];rfl
 ·have h3:(z.length:Int) > (2^63-1)/n:=h2
  have h5:(4000:Int)<=(2^63-1)/n:=(Int.le_ediv_iff_mul_le (by omega)).mpr (by omega)
  omega
 ·unfold Builtin.Str.tooLong
  exact decide_eq_false (by omega)
 ·split
  ·omega
  ·split
   ·rename_i h1 h2
    have:n=1\/z.length=0:=by simpa using h2
    omega
   ·exact⟨hs,.str _,H,I.tok _,⟨_,rfl⟩,q⟩
noncomputable def sL:D->D->(D->Prop)->Prop
 | .str z,.int n=>λq=>2<=n/\n<=4000/\1<=z.length/\z.length<=4000/\(EI z n).length<=az/\q (.str (EI z n))
 | _,_=>λ_=>False
theorem zo:JOp X (binaryOp .Mult) sL:=by
 refine⟨_,nr,λ{H0 H x y a b q Q} s ra rb h k=>?_⟩
 unfold sL at h
 split at h
 ·rename_i z n
  rw[show x = .str z from ra,show y = .int n from rb]
  exact⟨z,n,rfl,rfl,h.1,h.2.1,h.2.2.1,h.2.2.2.1,h.2.2.2.2.1,k _ (.str _) _ _ (.refl s) rfl h.2.2.2.2.2⟩
 ·exact h.elim
theorem jC:sL (.str z) (.int n) q=(2<=n/\n<=4000/\1<=z.length/\z.length<=4000/\(EI z n).length<=az/\q (.str (EI z n))):=rfl
theorem jD:Ex xs (.lst ys) q=(xs.length+ys.length<=az/\q (xs++ys)):=rfl
noncomputable def SubR(K:aa)(C:Addr)(n:Nat):Nat->List Addr->Prop
 | _,[]=>True
 | j,d::l=>subIn K (.ref C) (.ref d)=some (Nat.beq j n)/\SubR K C n (j+1) l
noncomputable def Grid(K:aa)(ds:List Addr):Nat->List Addr->Prop
 | _,[]=>True
 | n,C::l=>SubR K C n 0 ds/\Grid K ds (n+1) l
noncomputable def ColR(K:aa):List Addr->Prop
 | []=>True
 | d::l=>(hasDictIn K d=true/\typeIn K (.ref d)=some (.type "type")/\subIn K (.ref d) (.ref d)=some true)/\ColR K l
noncomputable def RowR(K:aa)(W:Addr):List Addr->Prop
 | []=>True
 | C::l=>(mroIn K C (.type "ValueError")=some true/\subIn K (.ref C) (.ref W)=some true)/\RowR K W l
theorem zp{K:aa}:∀ {ds:List Addr}{j k:Nat},SubR K C n k ds->ColR K ds->ds[j]?=some d->kitOne K (.ref C) (.ref d)=some (Nat.beq (k+j) n)
 | e::l,0,k,h,c,q=>by cases q;exact Aw c.1.1 c.1.2.1 h.1 c.1.2.2
 | e::l,j+1,k,h,c,q=>by rw[<-Nat.succ_add_eq_add_succ];exact zp h.2 c.2 q
theorem zr{K:aa}(c:ColR K ds):∀ {l:List Addr}{i m j:Nat},Grid K ds m l->l[i]?=some C->ds[j]?=some d->kitOne K (.ref C) (.ref d)=some (Nat.beq j (m+i))
 | e::l,0,m,j,h,q,z=>by cases q;have:=zp h.1 c z;rw[Nat.zero_add]at this;exact this
 | e::l,i+1,m,j,h,q,z=>by rw[<-Nat.succ_add_eq_add_succ];exact zr c h.2 q z
theorem zt{K:aa}:∀ {l:List Addr},RowR K W l->∀ C∈l,kitOne K (.ref C) (.type "ValueError")=some true/\subIn K (.ref C) (.ref W)=some true
 | e::l,h,C,q=>by
  rcases mem_cons.mp q with rfl|q
  ·exact⟨vK rfl h.1.1,h.1.2⟩
  ·exact zt h.2 C q
end L2
namespace My
open PySem L2 MA
local macro_rules | `(tactic| walk_at "sc") => `(tactic| exact ⟨rfl, rfl, rfl, by decide +kernel, rfl, by decide +kernel, by decide +kernel⟩)
local macro_rules | `(tactic| walk_at "ln") => `(tactic| (intro xs q x h; repeat (first | (obtain ⟨e, _⟩ := h; subst e; rfl) | obtain ⟨_, h⟩ := h)))
noncomputable def top(i:Nat):Stmt:=PySem.Challenge.pw_kbestwood_k13_texts_refused.main.body.getD i (.Pass ⟨0,0,0,0⟩)
abbrev YV:Stmt:=inClass (top 42) 0
theorem Mx:Zn ["self", "title", "head", "parts", "weight", "tag", "under"] ["self", "title", "head", "parts", "weight", "tag", "under"] (Zf YV):=by walk_at "sc"
abbrev Yo:Stmt:=inClass (top 43) 0
theorem PQ:Zn ["self", "scale", "start", "rules"] ["self", "scale", "start", "rules"] (Zf Yo):=by walk_at "sc"
abbrev Wa:Stmt:=inClass (top 28) 2
theorem Iv:Zn ["self", "weight"] ["self", "weight"] (Zf Wa):=by walk_at "sc"
abbrev Xp:Stmt:=inClass (top 29) 2
theorem LD:Zn ["self", "weight"] ["self", "weight"] (Zf Xp):=by walk_at "sc"
abbrev Vm:Stmt:=top 17
abbrev Wb:List Str:=["one", "other"]
theorem WQ:Zn ["one", "other"] Wb (Zf Vm):=by walk_at "sc"
abbrev Ov:Stmt:=top 18
abbrev Rc:List Str:=["top", "bottom"]
theorem Qy:Zn ["top", "bottom", "divisor"] Rc (Zf Ov):=by walk_at "sc"
abbrev Re:Stmt:=top 22
abbrev Ua:List Str:=["text"]
theorem Iw:Zn ["text"] Ua (Zf Re):=by walk_at "sc"
abbrev Qz:Stmt:=top 23
abbrev TF:List Str:=["text"]
theorem GF:Zn ["text"] TF (Zf Qz):=by walk_at "sc"
abbrev Jf:Stmt:=top 24
abbrev Nr:List Str:=["text"]
theorem yY:Zn ["text"] Nr (Zf Jf):=by walk_at "sc"
abbrev VQ:Stmt:=top 25
abbrev Wo:List Str:=["text"]
theorem Xq:Zn ["text", "top", "stroke", "bottom"] Wo (Zf VQ):=by walk_at "sc"
abbrev Ow:Stmt:=top 30
abbrev Rf:List Str:=["word"]
theorem EJ:Zn ["word"] Rf (Zf Ow):=by walk_at "sc"
abbrev UQ:Stmt:=top 36
abbrev WR:List Str:=["sign"]
theorem LI:Zn ["sign"] WR (Zf UQ):=by walk_at "sc"
abbrev Mz:Stmt:=top 37
abbrev Pq:List Str:=["text"]
theorem Bw:Zn ["text"] Pq (Zf Mz):=by walk_at "sc"
abbrev MB:Stmt:=top 38
abbrev Pt:List Str:=["text"]
theorem Bx:Zn ["text"] Pt (Zf MB):=by walk_at "sc"
abbrev MC:Stmt:=top 39
abbrev Pu:List Str:=["text"]
theorem Bz:Zn ["text"] Pu (Zf MC):=by walk_at "sc"
abbrev QB:Stmt:=top 40
abbrev TH:List Str:=["parts"]
theorem GH:Zn ["parts"] TH (Zf QB):=by walk_at "sc"
abbrev Rg:Stmt:=top 41
abbrev Ub:List Str:=["titles"]
theorem Iy:Zn ["titles"] Ub (Zf Rg):=by walk_at "sc"
abbrev YL:Stmt:=top 44
abbrev Yf:List Str:=["scale", "rules"]
theorem YH:Zn ["scale", "rules", "titles", "rule"] Yf (Zf YL):=by walk_at "sc"
abbrev XR:Stmt:=top 45
abbrev Xb:List Str:=["rules"]
theorem XG:Zn ["rules", "titles", "rule"] Xb (Zf XR):=by walk_at "sc"
abbrev Ss:Stmt:=top 46
abbrev Vu:List Str:=["start", "rules"]
theorem UR:Zn ["start", "rules", "heads", "rule"] Vu (Zf Ss):=by walk_at "sc"
abbrev Su:Stmt:=top 47
abbrev Vv:List Str:=["rules"]
theorem QC:Zn ["rules", "heads"] Vv (Zf Su):=by walk_at "sc"
abbrev Vn:Stmt:=top 48
abbrev Wc:List Str:=["rules"]
theorem ZV:Zn ["rules", "steps", "waiting", "order", "ready", "held"] Wc (Zf Vn):=by walk_at "sc"
abbrev UT:Stmt:=top 50
abbrev WT:List Str:=["text"]
theorem Wp:Zn ["text", "scale", "start", "rules"] WT (Zf UT):=by walk_at "sc"
abbrev Ox:Stmt:=top 51
abbrev Rh:List Str:=["text"]
theorem EK:Zn ["text"] Rh (Zf Ox):=by walk_at "sc"
abbrev Ri:Stmt:=top 52
abbrev Uc:List Str:=["lines"]
theorem Iz:Zn ["lines"] Uc (Zf Ri):=by walk_at "sc"
abbrev Rj:Stmt:=top 53
abbrev Ud:List Str:=["line"]
theorem PZ:Zn ["line", "words"] Ud (Zf Rj):=by walk_at "sc"
abbrev Rk:Stmt:=top 54
abbrev Ue:List Str:=["line"]
theorem Oa:Zn ["line", "words"] Ue (Zf Rk):=by walk_at "sc"
abbrev QD:Stmt:=top 55
abbrev TJ:List Str:=["line"]
theorem Wd:Zn ["line", "words", "colon", "weight", "tag", "under"] TJ (Zf QD):=by walk_at "sc"
abbrev XS:Stmt:=top 56
abbrev Xc:List Str:=["words"]
theorem ZN:Zn ["words", "tag", "under"] Xc (Zf XS):=by walk_at "sc"
abbrev BA:Stmt:=top 58
abbrev GI:List Str:=["_law_script", "_law_k"]
theorem nu:Zn ["_law_script", "_law_k"] GI (Zf BA):=by walk_at "sc"
abbrev GJ:Stmt:=top 59
abbrev Ko:List Str:=["_law_cell", "_law_k"]
theorem Jg:Zn ["_law_cell", "_law_k", "_law_factor", "_law_number"] Ko (Zf GJ):=by walk_at "sc"
abbrev MD:Stmt:=top 60
abbrev Pw:List Str:=["_law_cell", "_law_many", "_law_firsts"]
theorem Xv:Zn ["_law_cell", "_law_many", "_law_firsts", "_law_rest", "_law_number", "_law_start", "_law_tail", "_law_size", "_law_at_here"] Pw (Zf MD):=by walk_at "sc"
abbrev Oy:Stmt:=top 61
abbrev Rl:List Str:=["_law_top", "_law_bottom"]
theorem WC:Zn ["_law_top", "_law_bottom", "_law_one", "_law_other", "_law_kept_here"] Rl (Zf Oy):=by walk_at "sc"
abbrev Oz:Stmt:=top 62
abbrev Rm:List Str:=["_law_cell", "_law_k", "_law_scale"]
theorem WD:Zn ["_law_cell", "_law_k", "_law_scale", "_law_m", "_law_top", "_law_bottom"] Rm (Zf Oz):=by walk_at "sc"
abbrev QF:Stmt:=top 63
abbrev TK:List Str:=["_law_text"]
theorem Rn:Zn ["_law_text", "_law_some", "_law_sign"] TK (Zf QF):=by walk_at "sc"
abbrev QG:Stmt:=top 64
abbrev TL:List Str:=["_law_text"]
theorem GK:Zn ["_law_text"] TL (Zf QG):=by walk_at "sc"
abbrev Jh:Stmt:=top 66
abbrev Nt:List Str:=["_law_rows"]
theorem SJ:Zn ["_law_rows", "_law_pairs", "_law_turn", "_law_heads"] Nt (Zf Jh):=by walk_at "sc"
abbrev VR:Stmt:=top 67
abbrev Wq:List Str:=["_law_start", "_law_rows"]
theorem We:Zn ["_law_start", "_law_rows", "_law_found", "_law_row"] Wq (Zf VR):=by walk_at "sc"
abbrev GL:Stmt:=top 68
abbrev Kp:List Str:=["_law_scale", "_law_start", "_law_rows"]
theorem QH:Zn ["_law_scale", "_law_start", "_law_rows", "_law_titles", "_law_row", "_law_heads"] Kp (Zf GL):=by walk_at "sc"
abbrev ME:Stmt:=top 69
abbrev Px:List Str:=["_law_e"]
theorem OA:Zn ["_law_e", "_law_row"] Px (Zf ME):=by walk_at "sc"
abbrev Ro:Stmt:=top 70
abbrev Ug:List Str:=["_law_word"]
theorem Ob:Zn ["_law_word", "_law_words"] Ug (Zf Ro):=by walk_at "sc"
abbrev QI:Stmt:=top 71
abbrev TN:List Str:=["_law_rule", "_law_row"]
theorem GM:Zn ["_law_rule", "_law_row"] TN (Zf QI):=by walk_at "sc"
abbrev Ji:Stmt:=top 72
abbrev Nu:List Str:=["_law_made", "_law_scale", "_law_start", "_law_rows"]
theorem yZ:Zn ["_law_made", "_law_scale", "_law_start", "_law_rows"] Nu (Zf Ji):=by walk_at "sc"
abbrev UU:Stmt:=top 73
abbrev WU:List Str:=["_law_cells", "_law_mode", "_law_heads", "_law_kinds", "_law_words", "_law_head"]
theorem ZX:Zn ["_law_cells", "_law_mode", "_law_heads", "_law_kinds", "_law_words", "_law_head", "_law_m", "_law_some", "_law_parts", "_law_k", "_law_n", "_law_single"] WU (Zf UU):=by walk_at "sc"
abbrev Sv:Stmt:=top 74
abbrev Vw:List Str:=["_law_script", "_law_mode", "_law_scale"]
theorem Zt:Zn ["_law_script", "_law_mode", "_law_scale", "_law_kinds", "_law_words", "_law_titles", "_law_parts", "_law_heads", "_law_rows", "_law_k", "_law_n", "_law_title", "_law_weight_here", "_law_some", "_law_under", "_law_tag", "_law_row"] Vw (Zf Sv):=by walk_at "sc"
abbrev Jj:Stmt:=top 75
abbrev Nv:List Str:=["_law_row", "_law_by"]
theorem UA:Zn ["_law_row", "_law_by", "_law_top", "_law_line_here"] Nv (Zf Jj):=by walk_at "sc"
abbrev UW:Stmt:=top 76
abbrev WV:List Str:=["_law_number"]
theorem VS:Zn ["_law_number", "_law_some"] WV (Zf UW):=by walk_at "sc"
abbrev Rq:Stmt:=top 77
abbrev Uh:List Str:=["_law_row", "_law_number"]
theorem ZM:Zn ["_law_row", "_law_number", "_law_line_here", "_law_parts", "_law_start", "_law_some"] Uh (Zf Rq):=by walk_at "sc"
abbrev UX:Stmt:=top 78
abbrev WW:List Str:=["_law_scale", "_law_start", "_law_number"]
theorem YW:Zn ["_law_scale", "_law_start", "_law_number", "_law_good", "_law_some"] WW (Zf UX):=by walk_at "sc"
abbrev Nw:Stmt:=top 79
abbrev sM:List Str:=["_law_script"]
theorem Xm:Zn ["_law_script", "_law_number", "_law_scale", "_law_found", "_law_rows", "_law_start", "_law_due_here", "_law_heads", "_law_lines", "_law_more", "_law_k", "_law_place", "_law_made", "_law_marks_here", "_law_e"] sM (Zf Nw):=by walk_at "sc"
abbrev Yy:Str := "0123456789"
abbrev YB:Str := "abcdefghijklmnopqrstuvwxyz"
abbrev ZD:Str := "ABCDEFGHIJKLMNOPQRSTUVWXYZ"
set_option genSizeOf false in
set_option genInjectivity false in
structure Adr where
 YJ:Addr
 C_NoNet:Addr
 VH:Addr
 WG:Addr
 ZE:Addr
 ZP:Addr
 Yp:Addr
 Yb:Addr
 C_Twice:Addr
 Yi:Addr
 YM:Addr
 C_Ring:Addr
 C_Cost:Addr
 YF:Addr
 C_Rule:Addr
 ZF:Addr
 ZQ:Addr
 XD:FuncData
 ZJ:Addr
 Wy:FuncData
 Xd:Addr
 Rr:FuncData
 Yv:Addr
 UY:FuncData
 Wf:Addr
 Vo:FuncData
 Rt:Addr
 OB:FuncData
 Ui:Addr
 Rv:FuncData
 TQ:Addr
 QJ:FuncData
 Ny:Addr
 Jk:FuncData
 Wr:Addr
 VU:FuncData
 Rx:Addr
 OC:FuncData
 WX:Addr
 UZ:FuncData
 Py:Addr
 MF:FuncData
 Pz:Addr
 MG:FuncData
 PB:Addr
 MH:FuncData
 TR:Addr
 QK:FuncData
 Uj:Addr
 Ry:FuncData
 Yg:Addr
 YN:FuncData
 Xe:Addr
 XT:FuncData
 Vx:Addr
 Sw:FuncData
 Vy:Addr
 Sx:FuncData
 Wg:Addr
 Vp:FuncData
 WY:Addr
 Ta:FuncData
 Rz:Addr
 OD:FuncData
 Uk:Addr
 RA:FuncData
 Ul:Addr
 RB:FuncData
 Um:Addr
 RC:FuncData
 TU:Addr
 QL:FuncData
 Xg:Addr
 XU:FuncData
 f_l_at:Addr
 d_l_at:FuncData
 f_l_mix:Addr
 d_l_mix:FuncData
 PC:Addr
 MI:FuncData
 RD:Addr
 OG:FuncData
 RE:Addr
 OH:FuncData
 TV:Addr
 QM:FuncData
 TX:Addr
 QN:FuncData
 Nz:Addr
 Jl:FuncData
 Ws:Addr
 VV:FuncData
 f_l_due:Addr
 d_l_due:FuncData
 PD:Addr
 MJ:FuncData
 Uo:Addr
 RG:FuncData
 TY:Addr
 QO:FuncData
 NA:Addr
 Jm:FuncData
 WZ:Addr
 Tb:FuncData
 Vz:Addr
 Sy:FuncData
 NB:Addr
 Jn:FuncData
 Va:Addr
 Tc:FuncData
 Uq:Addr
 RH:FuncData
 Vb:Addr
 Td:FuncData
 f_law:Addr
 d_law:FuncData
 YK:Tok
structure Txt (K:aa)(mg:Str->Option Value)(A:Adr):Prop where
 cl_Cost:Cls K A.C_Cost
 M_Cost:mg "Cost" = some (.ref A.C_Cost)
 mk_Cost:MkP K A.C_Cost
 xf:Cls K A.YF
 sN:mg "Chance" = some (.ref A.YF)
 MK:MkP K A.YF
 cl_Rule:Cls K A.C_Rule
 M_Rule:mg "Rule" = some (.ref A.C_Rule)
 mk_Rule:Mk K A.C_Rule A.ZQ
 NC:Xt K A.C_Rule "title"
 Lr:Xt K A.C_Rule "head"
 NF:Xt K A.C_Rule "parts"
 Oc:Xt K A.C_Rule "weight"
 Jo:Xt K A.C_Rule "tag"
 NI:Xt K A.C_Rule "under"
 Vq:Cls K A.ZF
 xg:mg "Grammar" = some (.ref A.ZF)
 OI:Mk K A.ZF A.ZJ
 Qc:Xt K A.ZF "scale"
 Qd:Xt K A.ZF "start"
 Qe:Xt K A.ZF "rules"
 EL:mg "WoodError" = some (.ref A.YJ)
 M_NoNet:mg "NoNet" = some (.ref A.C_NoNet)
 sP:mg "NoTree" = some (.ref A.VH)
 xh:mg "TooMany" = some (.ref A.WG)
 Ym:ExB K mg "NoLine" A.ZE
 VI:ExB K mg "NoRule" A.ZP
 PF:ExB K mg "NoScale" A.Yp
 RJ:ExB K mg "NoWeight" A.Yb
 E_Twice:ExB K mg "Twice" A.C_Twice
 PH:ExB K mg "NoTitle" A.Yi
 SK:ExB K mg "NoKind" A.YM
 E_Ring:ExB K mg "Ring" A.C_Ring
 ER:yr K A.YJ
 sQ:yr K A.ZP
 gk:∀ i j C d,[A.Yp,A.Yb,A.C_Twice,A.Yi,A.YM,A.C_Ring,A.ZE][i]?=some C->[A.Yp,A.Yb,A.C_Twice,A.Yi,A.YM,A.C_Ring,A.ZE,A.C_NoNet,A.ZP,A.VH,A.WG][j]?=some d->kitOne K (.ref C) (.ref d)=some (Nat.beq j i)
 gv:∀ C∈[A.Yp,A.Yb,A.C_Twice,A.Yi,A.YM,A.C_Ring,A.ZE],kitOne K (.ref C) (.type "ValueError")=some true/\subIn K (.ref C) (.ref A.YJ)=some true
 LJ:subIn K (.ref A.ZP) (.ref A.ZP)=some true
 wG:kitOne K (.ref A.ZP) (.ref A.ZP)=some true
 YX:Ee K "__init__" "Rule.__init__" YV A.ZQ A.XD [.str "" A.YK,.none]
 xi:Binds K A.XD ["self", "title", "head", "parts", "weight", "tag", "under"] [.none]
 xj:Binds K A.XD ["self", "title", "head", "parts", "weight", "tag", "under"] [.str "" A.YK,.none]
 xl:Meth K A.C_Rule "__init__" A.ZQ
 Wt:Binds K A.XD ["self", "title", "head", "parts", "weight", "tag", "under"] []
 Xw:Fun K "__init__" "Grammar.__init__" Yo A.ZJ A.Wy
 DK:Meth K A.ZF "__init__" A.ZJ
 Xx:Binds K A.Wy ["self", "scale", "start", "rules"] []
 Ur:Fun K "takes" "Cost.takes" Wa A.Xd A.Rr
 IA:Meth K A.C_Cost "takes" A.Xd
 RK:Binds K A.Rr ["self", "weight"] []
 Vc:Fun K "takes" "Chance.takes" Xp A.Yv A.UY
 LK:Meth K A.YF "takes" A.Yv
 Te:Binds K A.UY ["self", "weight"] []
 Wh:FnB K mg "common_divisor" Vm Wb A.Wf A.Vo
 RL:FnB K mg "fraction" Ov Rc A.Rt A.OB
 Us:FnB K mg "is_figures" Re Ua A.Ui A.Rv
 VJ:FnB K mg "is_bottom" Qz TF A.TQ A.QJ
 NK:FnB K mg "is_top" Jf Nr A.Ny A.Jk
 Wu:FnB K mg "read_fraction" VQ Wo A.Wr A.VU
 RM:FnB K mg "scale_of" Ow Rf A.Rx A.OC
 Vd:FnB K mg "is_name_sign" UQ WR A.WX A.UZ
 UB:FnB K mg "is_name" Mz Pq A.Py A.MF
 UC:FnB K mg "is_kind" MB Pt A.Pz A.MG
 WH:FnB K mg "is_word" MC Pu A.PB A.MH
 TZ:FnB K mg "are_parts" QB TH A.TR A.QK
 Ut:FnB K mg "are_titles" Rg Ub A.Uj A.Ry
 Yh:FnB K mg "check_weights_and_titles" YL Yf A.Yg A.YN
 Xh:FnB K mg "check_titles_under" XR Xb A.Xe A.XT
 VA:FnB K mg "check_kinds" Ss Vu A.Vx A.Sw
 VB:FnB K mg "check_rings" Su Vv A.Vy A.Sx
 Wi:FnB K mg "heads_in_order" Vn Wc A.Wg A.Vp
 Ve:FnB K mg "read_grammar" UT WT A.WY A.Ta
 RN:FnB K mg "lines_of" Ox Rh A.Rz A.OD
 Uu:FnB K mg "read_lines" Ri Uc A.Uk A.RA
 Uv:FnB K mg "read_scale" Rj Ud A.Ul A.RB
 Uw:FnB K mg "read_start" Rk Ue A.Um A.RC
 Sa:FnB K mg "read_rule" QD TJ A.TU A.QL
 Xi:FnB K mg "read_tag_and_under" XS Xc A.Xg A.XU
 L_l_at:FnB K mg "_law_at" BA GI A.f_l_at A.d_l_at
 L_l_mix:FnB K mg "_law_mix" GJ Ko A.f_l_mix A.d_l_mix
 UD:FnB K mg "_law_names" MD Pw A.PC A.MI
 RO:FnB K mg "_law_lowest" Oy Rl A.RD A.OG
 RP:FnB K mg "_law_weight" Oz Rm A.RE A.OH
 Sb:FnB K mg "_law_is_name" QF TK A.TV A.QM
 VL:FnB K mg "_law_is_kind" QG TL A.TX A.QN
 NM:FnB K mg "_law_ring" Jh Nt A.Nz A.Jl
 Wv:FnB K mg "_law_asked_kinds" VR Wq A.Ws A.VV
 L_l_due:FnB K mg "_law_due" GL Kp A.f_l_due A.d_l_due
 UE:FnB K mg "_law_marks" ME Px A.PD A.MJ
 Ux:FnB K mg "_law_marks_of" Ro Ug A.Uo A.RG
 Sd:FnB K mg "_law_rule_is" QI TN A.TY A.QO
 NP:FnB K mg "_law_kept" Ji Nu A.NA A.Jm
 Vf:FnB K mg "_law_wild_parts" UU WU A.WZ A.Tb
 VC:FnB K mg "_law_wild_rows" Sv Vw A.Vz A.Sy
 QP:FnB K mg "_law_line" Jj Nv A.NB A.Jn
 Xr:FnB K mg "_law_bad_weight" UW WV A.Va A.Tc
 Uy:FnB K mg "_law_bad_line" Rq Uh A.Uq A.RH
 Vg:FnB K mg "_law_head_lines" UX WW A.Vb A.Td
 L_law:FnB K mg "law" Nw sM A.f_law A.d_law
 Jp:∃ t,mg "MOST_FIGURES" = some (.int 40 t)
 HC:∃ t,mg "FIGURES" = some (.str Yy t)
 LL:∃ t,mg "SMALL_LETTERS" = some (.str YB t)
 VW:∃ t,mg "GREAT_LETTERS" = some (.str ZD t)
 Jq:∃ t,mg "LONGEST_NAME" = some (.int 12 t)
 GN:∃ t,mg "MOST_PARTS" = some (.int 4 t)
 b_tuple:mg "tuple" = none
 b_abs:mg "abs" = none
 b_all:mg "all" = none
 b_len:mg "len" = none
 b_int:mg "int" = none
 ZK:mg "isinstance" = none
 b_str:mg "str" = none
 b_list:mg "list" = none
 b_set:mg "set" = none
 b_dict:mg "dict" = none
 b_range:mg "range" = none
 GO:mg "ValueError" = none
 b_zip:mg "zip" = none
class TxC (K:aa)(A:Adr):Prop where
 ex:∃ mg,Txt K mg A
section
variable {P:Program}{w:World}{K:aa}{mg:Str->Option Value}{base:Heap}
noncomputable def Tf(l:List Nat):Bool:=decide (1<=l.length)&&decide (l.length<=40)&&l.all λc=>decide (c∈Yy.cps.toList)
noncomputable def RQ:DSp:=λxs q _=>∃ z:Str,xs=[.str z]/\z.length<=az/\q (.bl (Tf z.cps.toList))
theorem IB{z:Str}{q:D->Prop}{x:Addr->Prop}:RQ [.str z] q x=(z.length<=az/\q (.bl (Tf z.cps.toList))):=by unfold RQ;simp
noncomputable def QQ(l:List Nat):Bool:=Tf l && !decide (l.getD 0 0=48)
noncomputable def QR:DSp:=λxs q _=>∃ z:Str,xs=[.str z]/\z.length<=az/\q (.bl (QQ z.cps.toList))
theorem GP{z:Str}{q:D->Prop}{x:Addr->Prop}:QR [.str z] q x=(z.length<=az/\q (.bl (QQ z.cps.toList))):=by unfold QR;simp
noncomputable def Od:List Nat->List Nat
 | 45::r=>r
 | l=>l
noncomputable def LN(l:List Nat):Bool:=decide (l=[48])||QQ (Od l)
noncomputable def Jr:DSp:=λxs q _=>∃ z:Str,xs=[.str z]/\z.length<=az/\q (.bl (LN z.cps.toList))
theorem xm{z:Str}{q:D->Prop}{x:Addr->Prop}:Jr [.str z] q x=(z.length<=az/\q (.bl (LN z.cps.toList))):=by unfold Jr;simp
def rdM(s:String):Lean.MacroM (Lean.TSyntax `tactic):=do
 let ls <- (s.splitOn " ").toArray.mapM λn=>`(Lean.Parser.Tactic.simpLemma| $(Lean.mkIdent n.toName):ident)
 `(tactic| (first | (dsimp only[↓zi_t,↓zi_f,$ls,*];try simp only[↓zi_t,↓zi_f,$ls,*]) | simp only[↓zi_t,↓zi_f,$ls,*]))
def rd1:String := "dSeq dIf z_sV z_sO z_sS z_aB z_aI z_aT z_lC z_lz z_lzS z_pk z_pkS mw mr tL mq oE oG zg dB dOp dVar dCB El vX dRet dC nW CN Xu AR Mq AQ dTup dLst dTru pW pX pY pZ og oh oi om oo oq ot ou ox oy dAnd dOr dNot nU dOrV dNotV dIfE ud AI nV dNeg dCall dBM tyD CF nX dPar AV uz CV CW wApp jr dFz mj Ba ml dAug dPop pE pF pG pH pI z_ii z_i0 z_mul z_rep z_lt z_le z_gt z_ge z_isN kI kJ kL kO kU kW kY kZ pJ pK pL pM uK z_max uL pN uM uN uO uQ oO pO pP ja jb jc jd jf jg pQ pR pS zf mn Bb Ms jh pT pU pV uS uT uU uV uW uX uY uZ td tj tq tx tB tD tE tG tH tI tJ nZ me dRng2 dEnum KR dpre uC peekAt Slot.peek Qu zf_c zf_n List.modify List.modifyTailIdx List.modifyTailIdx.go zh_c List.modifyHead_nil zm_c zm_n List.length_cons List.length_nil List.replicate List.cons_append List.nil_append Nat.reduceAdd Nat.reduceSub Nat.zero_add List.getElem?_cons_succ List.getElem?_cons_zero List.set_cons_zero List.set_cons_succ Option.some.injEq Slot.v.injEq Slot.own.injEq Slot.ob.injEq D.int.injEq D.bl.injEq D.str.injEq D.tup.injEq D.lst.injEq D.obj.injEq List.cons.injEq exists_eq_left' exists_eq_left and_true true_and and_assoc exists_eq_right exists_and_left reduceCtorEq false_and and_false exists_false if_true if_false Bool.false_eq_true List.length_map ite_self Option.getD_some Option.getD_none zn_t zn_f decide_true decide_false D.imm D.Lz Bool.and_self Bool.and_true Bool.true_and List.lookup ne_eq not_false_eq_true false_or true_or or_true or_false Bm dZip Bi dFind Bj sk sr su Bk my Bq dRep z_aS jC jD IB GP xm"
local macro_rules | `(tactic| walk_at "rd") => rdM rd1
theorem YG{c A B:Prop}[Decidable c](h1:c->A)(h2:¬ c->B):if decide c=true then A else B:=by
 by_cases hc:c
 ·rw[if_pos (decide_eq_true hc)];exact h1 hc
 ·rw[if_neg (by simp[hc])];exact h2 hc
theorem QT{c A B:Prop}[Decidable c](h1:¬ c->A)(h2:c->B):if (!decide c)=true then A else B:=by
 by_cases hc:c
 ·rw[if_neg (by simp[hc])];exact h2 hc
 ·rw[if_pos (by simp[hc])];exact h1 hc
theorem RT{α:Type}{xs:List α}{i:Int}{j:Nat}(e:i=(j:Int))(h:j<xs.length):atI xs i=some xs[j]:=by
 subst e
 exact YY (aA h)
theorem VD{α β:Type}(f:α->β)(ns:List α)(d:α){i:Int}(h0:0<=i)(h:i<ns.length):atI (ns.map f) i=some (f (ns.getD i.toNat d)):=by
 have hj:i.toNat<ns.length:=by omega
 rw[RT (j:=i.toNat) (by omega) (by rw[length_map];exact hj),List.getElem_map,getD_eq_getElem?_getD,aA hj]
 rfl
theorem sR{α:Type}{ns:List α}{d:α}{P:α->Prop}(j:Nat)(h:∀ n∈ns,P n)(hd:P d):P (ns.getD j d):=by
 rw[getD_eq_getElem?_getD]
 cases q:ns[j]? with
 | none=>exact hd
 | some n=>exact h n (mem_of_getElem? q)
theorem Tg{e:DE}{q:List D->Prop}{n:Nat}{s:L2.Slot}{caps:DSt}(h:Nat->D)(hl:n<=az)
  (hs:∀ i,i<n->∀ N:D->Prop,N (h i)->e (.v (.int (i:Int))::caps) N (λ_=>False))(hq:q ((List.range n).map h)):VF (Xu 0) CU e q (L2.intsFrom 0 n) (s::caps) []:=by
 refine Yu (c:=λi:Nat => .int (0+(i:Int))) (xs:=List.range n) h (by rw[length_range];exact hl) (λi hi N hN=>?_) hq
 rw[Int.zero_add]
 exact hs i (mem_range.mp hi) N hN
noncomputable def atZ(ns:List Int)(k:Int):Int:=ns.getD k.toNat 0
noncomputable def jE:DSp:=λxs q _=>∃ (ns:List Int) (k:Int),xs=[.scr (ns.map .int),.int k]/\0<=k/\q (.int (atZ ns k))
theorem NQ{A:Adr}(T:Txt K mg A):ZL P w K mg base (CXE P w) 1 A.f_l_at A.d_l_at GI (spD K jE):=by
 haveI:TxC K A:=⟨⟨_,T⟩⟩
 refine T.L_l_at.F.okJ nu (by walk_at "ln") (λcdv Ar outer s H E hr=>⟨_,(Zb (ZC [] (Zm Hq (jv 1) (Yl ZY (by rfl) T.b_len PySem.boot_len (Zc (jv 0) Za)) (Zk _)) (Ze (Zr [] (Zj (jv 0) (jv 1)))) Zo)
   (Ze (Zr [] Zd))),λxs q x h=>?_⟩)
 ·obtain⟨ns,k,rfl,h0,hq⟩:=h
  walk_at "rd"
  refine YG (λh=>?_) (λh=>?_)
  ·have hk:k.toNat<ns.length:=by omega
   refine⟨_,RT (j:=k.toNat) (by omega) (by rw[length_map];exact hk),?_⟩
   rw[List.getElem_map]
   unfold atZ at hq
   rw[getD_eq_getElem?_getD,aA hk]at hq
   exact hq
  ·unfold atZ at hq
   rw[getD_eq_getElem?_getD,List.getElem?_eq_none (by omega)]at hq
   exact hq
noncomputable def BC(k:Int):Int:=([48271,69621,16807,40692,30269,62089,45991]:List Int).getD (k%7).toNat 0
noncomputable def mix(c k:Int):Int:=((c%2147483647+97*k*k+11)*BC k%2147483629)*((c%2147483647+97*k*k+11)*BC k%2147483629)%1999999973
theorem Th(c k:Int):0<=mix c k:=Int.emod_nonneg _ (by decide)
theorem ML(c k:Int):mix c k<1999999973:=Int.emod_lt_of_pos _ (by decide)
noncomputable def nv:DSp:=λxs q _=>∃ (c k:Int),xs=[.int c,.int k] /\ -(2^20)<k/\k<2^20/\q (.int (mix c k))
theorem VM{A:Adr}(T:Txt K mg A):ZL P w K mg base (CXE P w) 1 A.f_l_mix A.d_l_mix Ko (spD K nv):=by
 haveI:TxC K A:=⟨⟨_,T⟩⟩
 refine T.L_l_mix.F.okJ Jg (by walk_at "ln") (λcdv Ar outer s H E hr=>⟨_,(Zb (ZI 2 Jg.nd (Zj (ZH (Zc Zd (Zc Zd (Zc Zd (Zc Zd (Zc Zd (Zc Zd (Zc Zd Za)))))))) (Zh Zu (jv 1) Zd)))
   (Zb (ZI 3 Jg.nd (Zh Zu (Zh VN (Zh Zi (Zh Zi (Zh Zu (jv 0) Zd) (Zh VN (Zh VN Zd (jv 1)) (jv 1))) Zd) (jv 2)) Zd))
   (Ze (Zr [] (Zh Zu (Zh VN (jv 3) (jv 3)) Zd))))),λxs q x h=>?_⟩)
 ·obtain⟨c,k,rfl,k1,k2,hq⟩:=h
  walk_at "rd"
  have h1:(k%7).toNat<7:=by omega
  have e1:k%7=((k%7).toNat:Int):=by omega
  refine⟨by decide,by decide,.int (BC k),?_,?_⟩
  ·exact VD D.int [48271,69621,16807,40692,30269,62089,45991] 0 (by omega) (by show k%7<7;omega)
  walk_at "rd"
  have f1:0<=BC k/\BC k<100000:=sR (P:=λn:Int=>0<=n/\n<100000) _ (by decide) (by decide)
  refine⟨by decide,.l (by decide) (by decide),.r (by omega) (by omega),.r (by omega) (by omega),by decide,.l ?_ ?_,by decide,hq⟩
  ·have:=Int.emod_nonneg ((c%2147483647+97*k*k+11)*BC k) (show(2147483629:Int)≠0 by decide)
   omega
  ·have:=Int.emod_lt_of_pos ((c%2147483647+97*k*k+11)*BC k) (show(0:Int)<2147483629 by decide)
   omega
noncomputable def nmS(c:Nat):Bool:=decide (c∈YB.cps.toList)||decide (c∈ZD.cps.toList)||decide (c∈Yy.cps.toList)
noncomputable def grS(c:Nat):Bool:=decide (c∈ZD.cps.toList)
noncomputable def isNm(x:Str):Bool:=decide (1<=x.length)&&decide (x.length<=12)&&x.cps.toList.all nmS
noncomputable def fst(x:Str):Nat:=x.cps.toList.getD 0 0
noncomputable def YS(x:Str):Bool:=isNm x&&grS (fst x)
noncomputable def YQ(x:Str):Bool:=isNm x && !grS (fst x)
theorem Se(c:Nat)(j:Str):inS ⟨#[c]⟩ j=decide (c∈j.cps.toList):=by
 unfold inS
 exact StrLaws.found_one _ _
theorem Yw{x:Str}(h:isNm x=true):1<=x.length/\x.length<=12:=by
 unfold isNm at h
 simp only[aD,decide_eq_true_eq]at h
 exact h.1
theorem at0{x:Str}(h:1<=x.length):atI x.cps.toList 0=some (fst x):=by
 have hl:0<x.cps.toList.length:=by rw[Array.length_toList];exact h
 refine(RT (i:=0) (j:=0) rfl hl).trans ?_
 unfold fst
 rw[getD_eq_getElem?_getD,aA hl]
 rfl
noncomputable def Ti:DSp:=λxs q _=>∃ c:Nat,xs=[.str ⟨#[c]⟩]/\q (.bl (nmS c))
theorem LO{c:Nat}{q:D->Prop}{x:Addr->Prop}:Ti [.str ⟨#[c]⟩] q x=q (.bl (nmS c)):=by unfold Ti;simp
theorem LQ{A:Adr}(T:Txt K mg A):ZL P w K mg base (CXE P w) 1 A.WX A.UZ WR (spD K Ti):=by
 haveI:TxC K A:=⟨⟨_,T⟩⟩
 refine T.Vd.F.okJ LI (by walk_at "ln") (λcdv Ar outer s H E hr=>⟨_,(Ze (Zr [] (vZ (Xs VY (jv 0) (Xn (.str YB) (by rfl) T.LL.choose_spec (show RelV (.str YB) _ from⟨_,rfl⟩) (λ_ _=>rfl)) (by with_unfolding_all rfl)) (vZ (Xs VY (jv 0) (Xn (.str ZD) (by rfl) T.VW.choose_spec (show RelV (.str ZD) _ from⟨_,rfl⟩) (λ_ _=>rfl)) (by with_unfolding_all rfl)) (UI (Xs VY (jv 0) (Xn (.str Yy) (by rfl) T.HC.choose_spec (show RelV (.str Yy) _ from⟨_,rfl⟩) (λ_ _=>rfl)) (by with_unfolding_all rfl))))))),λxs q x h=>?_⟩)
 ·obtain⟨c,rfl,hq⟩:=h
  walk_at "rd"
  unfold nmS at hq
  rw[Se,Se,Se]
  generalize decide (c∈YB.cps.toList)=b1 at hq⊢
  generalize decide (c∈ZD.cps.toList)=b2 at hq⊢
  cases b1<;>cases b2<;>exact hq
noncomputable def PJ:DSp:=λxs q _=>∃ z:Str,xs=[.str z]/\z.length<=az/\q (.bl (isNm z))
theorem BD{z:Str}{q:D->Prop}{x:Addr->Prop}:PJ [.str z] q x=(z.length<=az/\q (.bl (isNm z))):=by unfold PJ;simp
theorem OJ{A:Adr}(T:Txt K mg A):ZL P w K mg base (CXE P w) 2 A.Py A.MF Pq (spD K PJ):=by
 haveI:TxC K A:=⟨⟨_,T⟩⟩
 refine T.UB.F.okJ Bw (by walk_at "ln") (λcdv Ar outer s H E hr=>⟨_,(Zb (ZC [] (WO (XJ (YR (Yn (Yl (Wx (K:=K) rfl) (by rfl) T.ZK PyProof.Rows.boot_isinstance (Zc (jv 0) (Zc (SQ (n := "str") (by rfl) T.b_str PyProof.Rows.boot_str) Za))))) (XM (YR (Eo PX PX Zd (Yl ZY (by rfl) T.b_len PySem.boot_len (Zc (jv 0) Za)) (Xn (.int 12) (by rfl) T.Jq.choose_spec (show RelV (.int 12) _ from⟨_,rfl⟩) (λ_ _=>rfl))))))) (Ze (Zr [] KH)) Zo)
   (Ze (Zr [] (Yl SV (by rfl) T.b_all PyProof.Rows.boot_all (Zc (ZU ["sign"] [] [] (CQ (jv 0)) (λ_=>(Yj 0 (nDk ["sign"] []))) (λ_=>ZW) (λ_=>(Zw (LQ T) T.Vd hr (Zc (jv 0) Za)))) Za))))),λxs q x h=>?_⟩)
 ·obtain⟨z,rfl,hz,hq⟩:=h
  walk_at "rd"
  have kf:isNm z=false->q (.bl false):=λe=>by rw[<-e];exact hq
  refine⟨hz,YG (λh1=>QT (λh2=>kf ?_) (λh2=>?_)) (λh1=>kf ?_)⟩
  ·unfold isNm;rw[decide_eq_false (show ¬ z.length<=12 by omega)];simp
  ·refine Yu (c:=λc => .str ⟨#[c]⟩) (xs:=z.cps.toList) (λc => .bl (nmS c)) (by rw[Array.length_toList];exact hz) (λc _ N hN=>?_) ?_
   ·exact⟨c,rfl,hN⟩
   ·rw[Ms]
    unfold isNm at hq
    rw[decide_eq_true (show 1<=z.length by omega),decide_eq_true (show z.length<=12 by omega)]at hq
    exact hq
  ·unfold isNm;rw[decide_eq_false (show ¬ 1<=z.length by omega)];simp
noncomputable def MM:DSp:=λxs q _=>∃ z:Str,xs=[.str z]/\z.length<=az/\q (.bl (YS z))
theorem BE{z:Str}{q:D->Prop}{x:Addr->Prop}:MM [.str z] q x=(z.length<=az/\q (.bl (YS z))):=by unfold MM;simp
theorem OL{A:Adr}(T:Txt K mg A):ZL P w K mg base (CXE P w) 3 A.Pz A.MG Pt (spD K MM):=by
 haveI:TxC K A:=⟨⟨_,T⟩⟩
 refine T.UC.F.okJ Bx (by walk_at "ln") (λcdv Ar outer s H E hr=>⟨_,(Ze (Zr [] (SR (Zw (OJ T) T.UB hr (Zc (jv 0) Za)) (UI (Xs VY (Zj (jv 0) Zd) (Xn (.str ZD) (by rfl) T.VW.choose_spec (show RelV (.str ZD) _ from⟨_,rfl⟩) (λ_ _=>rfl)) (by with_unfolding_all rfl)))))),λxs q x h=>?_⟩)
 ·obtain⟨z,rfl,hz,hq⟩:=h
  walk_at "rd"
  refine⟨z,rfl,hz,?_⟩
  simp only[z_aB]
  unfold YS at hq
  cases hn:isNm z with
  | false=>rw[hn]at hq;exact hq
  | true =>
   rw[if_pos rfl]
   refine⟨hz,fst z,at0 (Yw hn).1,?_⟩
   rw[Se]
   rw[hn]at hq
   exact hq
noncomputable def PK:DSp:=λxs q _=>∃ z:Str,xs=[.str z]/\z.length<=az/\q (.bl (YQ z))
theorem BF{z:Str}{q:D->Prop}{x:Addr->Prop}:PK [.str z] q x=(z.length<=az/\q (.bl (YQ z))):=by unfold PK;simp
theorem Tj{A:Adr}(T:Txt K mg A):ZL P w K mg base (CXE P w) 3 A.PB A.MH Pu (spD K PK):=by
 haveI:TxC K A:=⟨⟨_,T⟩⟩
 refine T.WH.F.okJ Bz (by walk_at "ln") (λcdv Ar outer s H E hr=>⟨_,(Ze (Zr [] (SR (Zw (OJ T) T.UB hr (Zc (jv 0) Za)) (UI (Xs Qs (Zj (jv 0) Zd) (Xn (.str ZD) (by rfl) T.VW.choose_spec (show RelV (.str ZD) _ from⟨_,rfl⟩) (λ_ _=>rfl)) (by with_unfolding_all rfl)))))),λxs q x h=>?_⟩)
 ·obtain⟨z,rfl,hz,hq⟩:=h
  walk_at "rd"
  refine⟨z,rfl,hz,?_⟩
  simp only[z_aB]
  unfold YQ at hq
  cases hn:isNm z with
  | false=>rw[hn]at hq;exact hq
  | true =>
   rw[if_pos rfl]
   refine⟨hz,fst z,at0 (Yw hn).1,?_⟩
   rw[Se]
   rw[hn]at hq
   exact hq
noncomputable def Xj(zs:List Str):Bool:=decide (1<=zs.length)&&decide (zs.length<=4)&&zs.all isNm
noncomputable def XF(zs:List Str):Bool:=decide (1<=zs.length)&&zs.all YQ
noncomputable def Fits(zs:List Str):Prop:=zs.length<=1000/\∀ z∈zs,z.length<=1000
noncomputable def isSeq(d:D)(zs:List Str):Prop:=d = .lst (zs.map .str)\/d = .tup (zs.map .str)
noncomputable def Ls:DSp:=λxs q _=>∃ d zs,xs=[d]/\isSeq d zs/\Fits zs/\q (.bl (Xj zs))
theorem GQ{A:Adr}(T:Txt K mg A):ZL P w K mg base (CXE P w) 3 A.TR A.QK TH (spD K Ls):=by
 haveI:TxC K A:=⟨⟨_,T⟩⟩
 refine T.TZ.F.okJ GH (by walk_at "ln") (λcdv Ar outer s H E hr=>⟨_,(Zb (ZC [] (WO (XJ (YR (Yn (Yl (Wx (K:=K) rfl) (by rfl) T.ZK PyProof.Rows.boot_isinstance (Zc (jv 0) (Zc (Yz (Zc (SQ (n := "list") (by rfl) T.b_list PyProof.Rows.boot_list) (Zc (SQ (n := "tuple") (by rfl) T.b_tuple PyProof.Rows.boot_tuple) Za))) Za))))) (XM (YR (Eo PX PX Zd (Yl ZY (by rfl) T.b_len PySem.boot_len (Zc (jv 0) Za)) (Xn (.int 4) (by rfl) T.GN.choose_spec (show RelV (.int 4) _ from⟨_,rfl⟩) (λ_ _=>rfl))))))) (Ze (Zr [] KH)) Zo)
   (Ze (Zr [] (Yl SV (by rfl) T.b_all PyProof.Rows.boot_all (Zc (ZU ["part"] [] [] (ZZ (jv 0)) (λ_=>(Yj 0 (nDk ["part"] []))) (λ_=>ZW) (λ_=>(Zw (OJ T) T.UB hr (Zc (jv 0) Za)))) Za))))),λxs q x h=>?_⟩)
 ·obtain⟨d,zs,rfl,hd,⟨hf1,hf2⟩,hq⟩:=h
  have hsz:az=16777216:=rfl
  have kf:Xj zs=false->q (.bl false):=λe=>by rw[<-e];exact hq
  have fin:(decide ((1:Int)<=zs.length)=true->decide ((zs.length:Int)<=4)=true->VF (Xu 0) CU (dCall PJ (El (dVar 0) vX)) (λxs=>yB [D.lst xs] q) (zs.map .str) [.un] []):=by
   intro h1 h2
   simp only[decide_eq_true_eq]at h1 h2
   refine Yu (λz => .bl (isNm z)) (by omega) (λz hz N hN=>⟨z,rfl,by have:=hf2 z hz;omega,hN⟩) ?_
   rw[Ms]
   unfold Xj at hq
   rw[decide_eq_true (show 1<=zs.length by omega),decide_eq_true (show zs.length<=4 by omega)]at hq
   exact hq
  rcases hd with rfl|rfl
  all_goals
   walk_at "rd"
   refine⟨by decide,YG (λh1=>QT (λh2=>kf ?_) (λh2=>?_)) (λh1=>kf ?_)⟩
   ·unfold Xj;rw[decide_eq_false (show ¬ zs.length<=4 by omega)];simp
   ·exact fin (decide_eq_true h1) (decide_eq_true h2)
   ·unfold Xj;rw[decide_eq_false (show ¬ 1<=zs.length by omega)];simp
noncomputable def GR:DSp:=λxs q _=>∃ d zs,xs=[d]/\isSeq d zs/\Fits zs/\q (.bl (XF zs))
theorem IC{A:Adr}(T:Txt K mg A):ZL P w K mg base (CXE P w) 4 A.Uj A.Ry Ub (spD K GR):=by
 haveI:TxC K A:=⟨⟨_,T⟩⟩
 refine T.Ut.F.okJ Iy (by walk_at "ln") (λcdv Ar outer s H E hr=>⟨_,(Zb (ZC [] (WO (XJ (YR (Yn (Yl (Wx (K:=K) rfl) (by rfl) T.ZK PyProof.Rows.boot_isinstance (Zc (jv 0) (Zc (Yz (Zc (SQ (n := "list") (by rfl) T.b_list PyProof.Rows.boot_list) (Zc (SQ (n := "tuple") (by rfl) T.b_tuple PyProof.Rows.boot_tuple) Za))) Za))))) (XM (Zm (Yk hr.Yd) (Yl ZY (by rfl) T.b_len PySem.boot_len (Zc (jv 0) Za)) Zd (Zk _))))) (Ze (Zr [] KH)) Zo)
   (Ze (Zr [] (Yl SV (by rfl) T.b_all PyProof.Rows.boot_all (Zc (ZU ["title"] [] [] (ZZ (jv 0)) (λ_=>(Yj 0 (nDk ["title"] []))) (λ_=>ZW) (λ_=>(Zw (Tj T) T.WH hr (Zc (jv 0) Za)))) Za))))),λxs q x h=>?_⟩)
 ·obtain⟨d,zs,rfl,hd,⟨hf1,hf2⟩,hq⟩:=h
  have hsz:az=16777216:=rfl
  have kf:XF zs=false->q (.bl false):=λe=>by rw[<-e];exact hq
  have fin:(1<=zs.length->VF (Xu 0) CU (dCall PK (El (dVar 0) vX)) (λxs=>yB [D.lst xs] q) (zs.map .str) [.un] []):=by
   intro h1
   refine Yu (λz => .bl (YQ z)) (by omega) (λz hz N hN=>⟨z,rfl,by have:=hf2 z hz;omega,hN⟩) ?_
   rw[Ms]
   unfold XF at hq
   rw[decide_eq_true h1]at hq
   exact hq
  rcases hd with rfl|rfl
  all_goals
   walk_at "rd"
   refine⟨by decide,YG (λh1=>kf ?_) (λh1=>fin ?_)⟩
   ·unfold XF;rw[decide_eq_false (show ¬ 1<=zs.length by omega)];simp
   ·omega
def rd2:String:=rd1 ++ " LO BD BE BF"
local macro_rules | `(tactic| walk_at "rd") => rdM rd2
noncomputable def tieIs(d:D):Option (List Str)->Prop
 | none=>d = .non
 | some us=>isSeq d us/\Fits us
noncomputable def sU:Option (List Str)->D
 | none => .non
 | some us => .tup (us.map .str)
noncomputable def NR:Option (List Str)->Bool
 | none=>true
 | some us=>XF us
noncomputable def Yc(ti hd:Str)(ps:List Str)(tg:Str)(t:Option (List Str)):Bool:=YQ ti&&YS hd&&Xj ps&&(decide (tg = "")||YQ tg)&&NR t
noncomputable def HD(ti hd:Str)(ps:List Str)(wv:D)(tg:Str)(t:Option (List Str)):List (Str×D):=[("title",.str ti),("head",.str hd),("parts",.tup (ps.map .str)),("weight",wv),("tag",.str tg),("under",sU t)]
noncomputable def LR(A:Adr):CY:=λxs q x=>∃ ti hd dp ps wv tg un t,xs=[.str ti,.str hd,dp,wv,.str tg,un]/\isSeq dp ps/\Fits ps/\tieIs un t/\ti.length<=1000/\hd.length<=1000/\tg.length<=1000 /\
 (Yc ti hd ps tg t=true->q (HD ti hd ps wv tg t))/\(Yc ti hd ps tg t=false->x A.ZP)
theorem ifB{b:Bool}{A B:Prop}(h1:b=true->A)(h2:b=false->B):if b=true then A else B:=by
 cases b
 ·exact h2 rfl
 ·exact h1 rfl
theorem QU{b:Bool}{A B:Prop}(h1:b=false->A)(h2:b=true->B):if (!b)=true then A else B:=by
 cases b
 ·exact h1 rfl
 ·exact h2 rfl
theorem MN{A:Adr}(T:Txt K mg A):ZL P w K mg base (CXN P w) 5 A.ZQ A.XD ["self", "title", "head", "parts", "weight", "tag", "under"] (spI K A.C_Rule (LR A)):=by
 haveI:TxC K A:=⟨⟨_,T⟩⟩
 refine T.YX.okI Mx (λxs q x h=>?_) (λcdv Ar outer s H E hr=>⟨_,(Zb (Xl (ZC [] (WO (XJ (YR (Yn (EH (Tj T) T.WH hr (Zc (jv 1) Za)))) (XJ (YR (Yn (EH (OL T) T.UC hr (Zc (jv 2) Za)))) (XM (YR (Yn (EH (GQ T) T.TZ hr (Zc (jv 3) Za)))))))) (Ze (Mt [] T.VI.x T.VI.M (Zc Zg Za))) Zo))
   (Zb (Xl (ZC [] (WO (Vk (Zm (XO hr.Yd) (jv 5) Zg (Zk _)) (Wl (YR (Yn (EH (Tj T) T.WH hr (Zc (jv 5) Za))))))) (Ze (Mt [] T.VI.x T.VI.M (Zc Zg Za))) Zo))
   (Zb (Xl (ZC [] (WO (Vk (Zm Nk (jv 6) Qb (Zk _)) (Wl (YR (Yn (EH (IC T) T.Ut hr (Zc (jv 6) Za))))))) (Ze (Mt [] T.VI.x T.VI.M (Zc Zg Za))) Zo))
   (Zb (SY (K:=K) [] 0 rfl (jv 1))
   (Zb (SY (K:=K) [] 0 rfl (jv 2))
   (Zb (SY (K:=K) [] 0 rfl (UK KN (by rfl) T.b_tuple PyProof.Rows.boot_tuple (Zc (jv 3) Za)))
   (Zb (SY (K:=K) [] 0 rfl (jv 4))
   (Zb (SY (K:=K) [] 0 rfl (jv 5))
   (Ze (SY (K:=K) [] 0 rfl (je_if (Zm CI (jv 6) Qb (Zk _)) Qb (UK KN (by rfl) T.b_tuple PyProof.Rows.boot_tuple (Zc (jv 6) Za))))))))))))),λoa dx xs q x h=>?_⟩)
 ·obtain⟨ti,hd,dp,ps,wv,tg,un,t,rfl,_⟩:=h
  rfl
 ·obtain⟨ti,hd,dp,ps,wv,tg,un,t,rfl,hdp,hfp,htie,l1,l2,l3,kg,kb⟩:=h
  have hsz:az=16777216:=rfl
  have no:Yc ti hd ps tg t=false->1<=az/\x A.ZP:=λz=>⟨by decide,kb z⟩
  have seqp:∀ {N:D->Prop},N (.bl (Xj ps))->Ls [dp] N x:=λh=>⟨dp,ps,rfl,hdp,hfp,h⟩
  refine⟨λds'=>ds'=[.ob oa dx A.C_Rule [],.v (.str ti),.v (.str hd),.v dp,.v wv,.v (.str tg),.v un]/\YQ ti=true/\YS hd=true/\Xj ps=true,?_,?_⟩
  ·walk_at "rd"
   refine⟨by omega,QU (λe=>no (by unfold Yc;rw[e];rfl)) λe1=>⟨by omega,QU (λe=>no (by unfold Yc;rw[e1,e];rfl)) λe2=>seqp ?_⟩⟩
   walk_at "rd"
   exact QU (λe=>no (by unfold Yc;rw[e1,e2,e];rfl)) λe3=>⟨e1,e2,e3⟩
  rintro _ ⟨rfl,e1,e2,e3⟩
  refine⟨λds'=>ds'=[.ob oa dx A.C_Rule [],.v (.str ti),.v (.str hd),.v dp,.v wv,.v (.str tg),.v un]/\(decide (tg = "")||YQ tg)=true,?_,?_⟩
  ·walk_at "rd"
   refine QT (λz=>⟨by omega,QU (λe=>no (by unfold Yc;rw[e,decide_eq_false z];simp)) λe=>by rw[e];simp⟩) (λz=>by rw[decide_eq_true z];rfl)
  rintro _ ⟨rfl,e4⟩
  refine⟨λds'=>ds'=[.ob oa dx A.C_Rule [],.v (.str ti),.v (.str hd),.v dp,.v wv,.v (.str tg),.v un]/\NR t=true,?_,?_⟩
  ·walk_at "rd"
   cases t with
   | none =>
    rw[show un = .non from htie]
    walk_at "rd"
    rfl
   | some us =>
    have nn:un.UJ=false:=by rcases htie.1 with z|z<;>rw[z]<;>rfl
    rw[nn]
    refine⟨un,us,rfl,htie.1,htie.2,?_⟩
    walk_at "rd"
    exact QU (λe=>no (by unfold Yc;rw[show NR (some us)=XF us from rfl,e];simp)) λe=>e
  rintro _ ⟨rfl,e5⟩
  have good:Yc ti hd ps tg t=true:=by unfold Yc;rw[e1,e2,e3,e4,e5];rfl
  walk_at "rd"
  have tp:∀ {N:D->Prop},N (.tup (ps.map .str))->Hr [dp] N:=λh=>by
   rcases hdp with rfl|rfl<;>exact h
  refine⟨T.cl_Rule,T.NC,by decide,T.cl_Rule,T.Lr,by show 1<1000;decide,T.cl_Rule,T.NF,by show 2<1000;decide,tp ⟨T.cl_Rule,T.Oc,by show 3<1000;decide,T.cl_Rule,T.Jo,by show 4<1000;decide,T.cl_Rule,T.NI,by show 5<1000;decide,?_⟩⟩
  cases t with
  | none =>
   rw[show un = .non from htie]
   exact kg good
  | some us =>
   have nn:un.UJ=false:=by rcases htie.1 with z|z<;>rw[z]<;>rfl
   rw[nn]
   have tu:∀ {N:D->Prop},N (.tup (us.map .str))->Hr [un] N:=λh=>by
    rcases htie.1 with z|z<;>rw[z]<;>exact h
   exact tu (kg good)
structure Ru where
 ti:Str
 hd:Str
 ps:List Str
 wa:Int
 wb:Int
 tg:Str
 t:Option (List Str)
noncomputable def wD(a b:Int):D := .tup [.int a,.int b]
noncomputable def Ru.d(A:Adr)(r:Ru):D := .obj A.C_Rule (HD r.ti r.hd r.ps (wD r.wa r.wb) r.tg r.t)
noncomputable def Ru.Fit(r:Ru):Prop:=r.ti.length<=1000/\r.hd.length<=1000/\Fits r.ps/\∀ us,r.t=some us->Fits us
noncomputable def Rus(rs:List Ru):Prop:=rs.length<=1000/\∀ r∈rs,r.Fit
noncomputable def scD(A:Adr)(z:Str):D := .obj (if z = "cost" then A.C_Cost else A.YF) []
noncomputable def okW(z:Str)(a:Int):Bool:=decide (z = "cost")||decide (0<a)
section
variable {A:Adr} [TxC K A] {q:D->Prop}{r:Ru}
theorem zf_ti:D.fld K "title" (r.d A) q=q (.str r.ti):=by obtain⟨mg,T⟩:=(inferInstance:TxC K A).ex;exact D.Rb T.cl_Rule T.NC rfl
theorem zf_hd:D.fld K "head" (r.d A) q=q (.str r.hd):=by obtain⟨mg,T⟩:=(inferInstance:TxC K A).ex;exact D.Rb T.cl_Rule T.Lr rfl
theorem zf_ps:D.fld K "parts" (r.d A) q=q (.tup (r.ps.map .str)):=by obtain⟨mg,T⟩:=(inferInstance:TxC K A).ex;exact D.Rb T.cl_Rule T.NF rfl
theorem zf_we:D.fld K "weight" (r.d A) q=q (wD r.wa r.wb):=by obtain⟨mg,T⟩:=(inferInstance:TxC K A).ex;exact D.Rb T.cl_Rule T.Oc rfl
theorem zf_tg:D.fld K "tag" (r.d A) q=q (.str r.tg):=by obtain⟨mg,T⟩:=(inferInstance:TxC K A).ex;exact D.Rb T.cl_Rule T.Jo rfl
theorem zf_un:D.fld K "under" (r.d A) q=q (sU r.t):=by obtain⟨mg,T⟩:=(inferInstance:TxC K A).ex;exact D.Rb T.cl_Rule T.NI rfl
end
def rd3:String:=rd2 ++ " zf_ti zf_hd zf_ps zf_we zf_tg zf_un"
local macro_rules | `(tactic| walk_at "rd") => rdM rd3
noncomputable def BG(A:Adr):DSp:=λxs q x=>∃ z:Str,xs=[.str z]/\((z = "cost" \/ z = "chance")->q (scD A z))/\(z ≠ "cost" -> z ≠ "chance" -> x A.Yp)
theorem EV{A:Adr}(T:Txt K mg A):ZL P w K mg base (CXE P w) 1 A.Rx A.OC Rf (spD K (BG A)):=by
 haveI:TxC K A:=⟨⟨_,T⟩⟩
 refine T.RM.F.okJ EJ (by walk_at "ln") (λcdv Ar outer s H E hr=>⟨_,(Zb (ZC [] (Zm (Yk hr.Yd) (jv 0) Zg (Zk _)) (Ze (Zr [] (Ey T.mk_Cost (by rfl) T.M_Cost))) Zo)
   (Zb (ZC [] (Zm (Yk hr.Yd) (jv 0) Zg (Zk _)) (Ze (Zr [] (Ey T.MK (by rfl) T.sN))) Zo)
   (Ze (Xa [] T.PF.x T.PF.M (Zc Zg Za))))),λxs q x h=>?_⟩)
 ·obtain⟨z,rfl,hq,hx⟩:=h
  walk_at "rd"
  refine YG (λe=>?_) (λe1=>YG (λe=>?_) (λe2=>⟨by decide,hx e1 e2⟩))
  ·have:=hq (.inl e)
   unfold scD at this
   rw[if_pos e]at this
   exact this
  ·have:=hq (.inr e)
   unfold scD at this
   rw[if_neg e1]at this
   exact this
noncomputable def NS:DSp:=λxs q _=>∃ o w,xs=[o,w]/\q (.bl true)
theorem IE{A:Adr}(T:Txt K mg A):ZL P w K mg base (CXE P w) 1 A.Xd A.Rr ["self", "weight"] (spD K NS):=by
 haveI:TxC K A:=⟨⟨_,T⟩⟩
 refine T.Ur.okJ Iv (by walk_at "ln") (λcdv Ar outer s H E hr=>⟨_,(Ze (Zr [] KH)),λxs q x h=>?_⟩)
 ·obtain⟨o,w,rfl,hq⟩:=h
  walk_at "rd"
  exact hq
noncomputable def QV:DSp:=λxs q _=>∃ o a b,xs=[o,wD a b]/\q (.bl (decide (0<a)))
theorem LU{A:Adr}(T:Txt K mg A):ZL P w K mg base (CXE P w) 1 A.Yv A.UY ["self", "weight"] (spD K QV):=by
 haveI:TxC K A:=⟨⟨_,T⟩⟩
 refine T.Vc.okJ LD (by walk_at "ln") (λcdv Ar outer s H E hr=>⟨_,(Ze (Zr [] (Xs Ho (Zj (jv 1) Zd) Zd (Zk _)))),λxs q x h=>?_⟩)
 ·obtain⟨o,a,b,rfl,hq⟩:=h
  unfold wD
  walk_at "rd"
  exact⟨_,rfl,hq⟩
theorem sW{A:Adr}(T:Txt K mg A)(z:Str):∃ C g,scD A z = .obj C []/\MOkD P w K mg base 1 C "takes" g/\∀ {a b:Int}{q:D->Prop}{x:Addr->Prop},q (.bl (okW z a))->g [scD A z,wD a b] q x:=by
 by_cases e:z = "cost"
 ·refine⟨A.C_Cost,NS,by unfold scD;rw[if_pos e],⟨T.cl_Cost,_,_,_,T.IA,IE T,T.RK⟩,λ{a b q x} h=>⟨_,_,rfl,?_⟩⟩
  unfold okW at h
  rw[decide_eq_true e]at h
  exact h
 ·refine⟨A.YF,QV,by unfold scD;rw[if_neg e],⟨T.xf,_,_,_,T.LK,LU T,T.Te⟩,λ{a b q x} h=>⟨_,_,_,rfl,?_⟩⟩
  unfold okW at h
  rw[decide_eq_false e]at h
  exact h
noncomputable def cwt(z:Str):List Str->List Ru->Nat
 | _,[]=>0
 | seen,r::rs=>if okW z r.wa=false then 1 else if r.ti∈seen then 2 else cwt z (seen++[r.ti]) rs
noncomputable def Tn(A:Adr):DSp:=λxs q x=>∃ (z:Str) (rs:List Ru),xs=[scD A z,.lst (rs.map (Ru.d A))]/\Rus rs/\(cwt z [] rs=0->q .non)/\(cwt z [] rs=1->x A.Yb)/\(cwt z [] rs=2->x A.C_Twice)
theorem Uz{A:Adr}(T:Txt K mg A):ZL P w K mg base (CXE P w) 2 A.Yg A.YN Yf (spD K (Tn A)):=by
 haveI:TxC K A:=⟨⟨_,T⟩⟩
 refine T.Yh.F.okJ YH (by walk_at "ln") (λcdv Ar outer s H E hr=>⟨_,(Zb (Vt (i:=2) YH.nd rfl (Or.inl rfl) (Sn Za))
   (Ze (UL PassesOwn.leaving (ZZ (jv 1)) (Yj 3 YH.nd) (Zb (ZC [] (YR (Yn (pC (k:=1) (hr.mono (by decide)) Kz (jv 0) (Zc (Ya (K:=K) rfl (jv 3)) Za)))) (Ze (Xa [] T.RJ.x T.RJ.M (Zc (Kn (Ra (Gu (Ya (K:=K) rfl (jv 3)) (Ra Gs)))) Za))) Zo)
   (Zb (ZC [2] (Zm VY (Ya (K:=K) rfl (jv 3)) (jv 2) (by with_unfolding_all rfl)) (Ze (Xa [] T.E_Twice.x T.E_Twice.M (Zc (Kn (Ra (Gu (Ya (K:=K) rfl (jv 3)) Gs))) Za))) Zo)
   (Ze (KS [] 2 (Ya (K:=K) rfl (jv 3))))))))),λxs q x h=>?_⟩)
 ·obtain⟨z,rs,rfl,⟨l1,l2⟩,h0,h1,h2⟩:=h
  walk_at "rd"
  have hsz:az=16777216:=rfl
  refine⟨by decide,[],?_⟩
  walk_at "rd"
  refine VG (λi ds=>∃ s,ds=[.v (scD A z),.v (.lst (rs.map (Ru.d A))),.own (((rs.take i).map (·.ti)).map .str),s]/\cwt z ((rs.take i).map (·.ti)) (rs.drop i)=cwt z [] rs) ⟨.un,rfl,rfl⟩ (λi r ds N hr hi hn=>?_) (λds hi=>?_)
  ·obtain⟨s,rfl,hc⟩:=hi
   obtain⟨C,g,e,mo,tk⟩:=sW (P:=P) (w:=w) (base:=base) T z
   obtain⟨hi1,hi2⟩:=List.getElem?_eq_some_iff.mp hr
   rw[drop_eq_getElem_cons hi1,hi2,cwt]at hc
   obtain⟨m1,m2,m3,m4⟩:=l2 r (mem_of_getElem? hr)
   have lt:(rs.take i).length<=1000:=by rw[length_take];omega
   walk_at "rd"
   refine⟨C,[],e,g,mo,rfl,tk ?_⟩
   walk_at "rd"
   refine QU (λe1=>⟨by omega,by decide,h1 ?_⟩) (λe1=>YG (λe2=>⟨by omega,by decide,h2 ?_⟩) (λe2=>⟨by omega,hn _ ⟨.v (r.d A),?_,?_⟩⟩))
   ·rw[<-hc,if_pos e1]
   ·rw[<-hc,if_neg (by rw[e1];decide),if_pos e2]
   ·rw[take_add_one,hr]
    simp
   ·rw[if_neg (by rw[e1];decide),if_neg e2]at hc
    rw[take_add_one,hr,<-hc]
    simp
  ·obtain⟨s,rfl,hc⟩:=hi
   rw[List.drop_length]at hc
   exact h0 hc.symm
theorem ny(rs:List Ru):rs.map (λr=>D.str r.ti)=(rs.map (·.ti)).map .str:=by rw[map_map];rfl
theorem zu(rs:List Ru):rs.map (λr=>D.str r.hd)=(rs.map (·.hd)).map .str:=by rw[map_map];rfl
theorem jF:sU none = .non:=rfl
theorem jG{us:List Str}:sU (some us) = .tup (us.map .str):=rfl
def rd4:String:=rd3 ++ " jF jG"
local macro_rules | `(tactic| walk_at "rd") => rdM rd4
noncomputable def Vr(tis:List Str)(r:Ru):Bool:=match r.t with
 | none=>true
 | some us=>us.all λu=>decide (u∈tis)
noncomputable def ctu(rs:List Ru):Bool:=rs.all (Vr (rs.map (·.ti)))
noncomputable def QW(A:Adr):DSp:=λxs q x=>∃ rs:List Ru,xs=[.lst (rs.map (Ru.d A))]/\Rus rs/\(ctu rs=true->q .non)/\(ctu rs=false->x A.Yi)
theorem Qi{A:Adr}(T:Txt K mg A):ZL P w K mg base (CXE P w) 1 A.Xe A.XT Xb (spD K (QW A)):=by
 haveI:TxC K A:=⟨⟨_,T⟩⟩
 refine T.Xh.F.okJ XG (by walk_at "ln") (λcdv Ar outer s H E hr=>⟨_,(Zb (ZI 1 XG.nd (ZU ["rule"] [] [] (ZZ (jv 0)) (λ_=>(Yj 0 (nDk ["rule"] []))) (λ_=>ZW) (λ_=>(Ya (K:=K) rfl (jv 0)))))
   (Ze (UL PassesOwn.leaving (ZZ (jv 0)) (Yj 2 XG.nd) (Ze (ZC [] (WO (Vk (Zm Nk (Ya (K:=K) rfl (jv 2)) Qb (Zk _)) (Wl (YR (Yn (Yl SV (by rfl) T.b_all PyProof.Rows.boot_all (Zc (ZU ["title"] ["titles"] [1] (ZZ (Ya (K:=K) rfl (jv 2))) (λ_=>(Yj 0 (nDk ["title"] ["titles"]))) (λ_=>ZW) (λ_=>(Xs VY (jv 0) (jv 1) (by with_unfolding_all rfl)))) Za))))))) (Ze (Xa [] T.PH.x T.PH.M (Zc (Kn (Ra (Gu (Ya (K:=K) rfl (jv 2)) (Ra Gs)))) Za))) Zo))))),λxs q x h=>?_⟩)
 ·obtain⟨rs,rfl,⟨l1,l2⟩,h0,h1⟩:=h
  have hsz:az=16777216:=rfl
  walk_at "rd"
  refine Yu (λr => .str r.ti) (by omega) (λr hr N hN=>?_) ?_
  ·walk_at "rd"
   exact hN
  rw[ny]
  refine⟨[],?_⟩
  walk_at "rd"
  refine VG (λi ds=>∃ s,ds=[.v (.lst (rs.map (Ru.d A))),.v (.lst ((rs.map (·.ti)).map .str)),s]/\(rs.take i).all (Vr (rs.map (·.ti)))=true) ⟨.un,rfl,rfl⟩ (λi r ds N hr hi hn=>?_) (λds hi=>?_)
  ·obtain⟨s,rfl,hc⟩:=hi
   obtain⟨m1,m2,m3,m4⟩:=l2 r (mem_of_getElem? hr)
   have mem:=mem_of_getElem? hr
   have nxt:Vr (rs.map (·.ti)) r=true->N [.v (.lst (rs.map (Ru.d A))),.v (.lst ((rs.map (·.ti)).map .str)),.v (r.d A)]:=λe=>by
    refine hn _ ⟨_,rfl,?_⟩
    rw[take_add_one,hr,all_append,hc]
    simp[e]
   have bad:Vr (rs.map (·.ti)) r=false->x A.Yi:=λe=>h1 (by
    unfold ctu
    rw[List.all_eq_false]
    exact⟨r,mem,by rw[e];decide⟩)
   walk_at "rd"
   cases ht:r.t with
   | none =>
    walk_at "rd"
    exact nxt (by unfold Vr;rw[ht])
   | some us =>
    obtain⟨f1,f2⟩:=m4 us ht
    walk_at "rd"
    refine Yu (λu => .bl (decide (u∈rs.map (·.ti)))) (by omega) (λu hu N hN=>?_) ?_
    ·walk_at "rd"
     exact hN
    walk_at "rd"
    exact QU (λe=>⟨by omega,by decide,bad (by unfold Vr;rw[ht];exact e)⟩) (λe=>nxt (by unfold Vr;rw[ht];exact e))
  ·obtain⟨s,rfl,hc⟩:=hi
   rw[take_length]at hc
   exact h0 hc
noncomputable def GU(hds:List Str)(r:Ru):Bool:=(r.ps.filter YS).all λp=>decide (p∈hds)
noncomputable def ck(st:Str)(rs:List Ru):Bool:=decide (st∈rs.map (·.hd))&&rs.all (GU (rs.map (·.hd)))
noncomputable def IG(A:Adr):DSp:=λxs q x=>∃ (st:Str) (rs:List Ru),xs=[.str st,.lst (rs.map (Ru.d A))]/\Rus rs/\(ck st rs=true->q .non)/\(ck st rs=false->x A.YM)
theorem Js{A:Adr}(T:Txt K mg A):ZL P w K mg base (CXE P w) 4 A.Vx A.Sw Vu (spD K (IG A)):=by
 haveI:TxC K A:=⟨⟨_,T⟩⟩
 refine T.VA.F.okJ UR (by walk_at "ln") (λcdv Ar outer s H E hr=>⟨_,(Zb (ZI 2 UR.nd (ZU ["rule"] [] [] (ZZ (jv 1)) (λ_=>(Yj 0 (nDk ["rule"] []))) (λ_=>ZW) (λ_=>(Ya (K:=K) rfl (jv 0)))))
   (Zb (ZC [] (Zm Qs (jv 0) (jv 2) (by with_unfolding_all rfl)) (Ze (Xa [] T.SK.x T.SK.M (Zc Zg Za))) Zo)
   (Ze (UL PassesOwn.leaving (ZZ (jv 1)) (Yj 3 UR.nd) (Ze (ZC [] (YR (Yn (Yl SV (by rfl) T.b_all PyProof.Rows.boot_all (Zc (ZU ["part"] ["heads"] [2] (ZZ (Ya (K:=K) rfl (jv 3))) (λ_=>(Yj 0 (nDk ["part"] ["heads"]))) (λ_=>(Sq (Yn (Zw (OL T) T.UC hr (Zc (jv 0) Za))))) (λ_=>(Xs VY (jv 0) (jv 1) (by with_unfolding_all rfl)))) Za)))) (Ze (Xa [] T.SK.x T.SK.M (Zc (Kn (Ra (Gu (Ya (K:=K) rfl (jv 3)) (Ra Gs)))) Za))) Zo)))))),λxs q x h=>?_⟩)
 ·obtain⟨st,rs,rfl,⟨l1,l2⟩,h0,h1⟩:=h
  have hsz:az=16777216:=rfl
  walk_at "rd"
  refine Yu (λr => .str r.hd) (by omega) (λr hr N hN=>?_) ?_
  ·walk_at "rd"
   exact hN
  rw[zu]
  walk_at "rd"
  refine QT (λe=>⟨by decide,h1 (by unfold ck;rw[decide_eq_false e];rfl)⟩) (λe=>⟨[],?_⟩)
  walk_at "rd"
  refine VG (λi ds=>∃ s,ds=[.v (.str st),.v (.lst (rs.map (Ru.d A))),.v (.lst ((rs.map (·.hd)).map .str)),s]/\(rs.take i).all (GU (rs.map (·.hd)))=true) ⟨.un,rfl,rfl⟩ (λi r ds N hr hi hn=>?_) (λds hi=>?_)
  ·obtain⟨s,rfl,hc⟩:=hi
   obtain⟨m1,m2,⟨m3,m5⟩,m4⟩:=l2 r (mem_of_getElem? hr)
   have mem:=mem_of_getElem? hr
   walk_at "rd"
   refine VZ YS (λp => .bl (decide (p∈rs.map (·.hd)))) (by omega) (λp hp N hN=>?_) (λp hp _ N hN=>?_) ?_
   ·walk_at "rd"
    exact⟨by have:=m5 p hp;omega,hN⟩
   ·walk_at "rd"
    exact hN
   walk_at "rd"
   refine QU (λz=>⟨by omega,by decide,h1 ?_⟩) (λz=>hn _ ⟨_,rfl,?_⟩)
   ·unfold ck
    rw[show rs.all (GU (rs.map (·.hd)))=false from by rw[List.all_eq_false];exact⟨r,mem,by unfold GU;rw[z];decide⟩]
    simp
   ·rw[take_add_one,hr,all_append,hc]
    simp only[Option.toList_some,all_cons,List.all_nil,Bool.and_true,Bool.true_and]
    exact z
  ·obtain⟨s,rfl,hc⟩:=hi
   rw[take_length]at hc
   exact h0 (by unfold ck;rw[decide_eq_true e,hc];rfl)
noncomputable def heldBy(steps:List (Str×Str))(w:List Str):List Str:=(steps.filter λs=>decide (s.2∈w)).map (·.1)
inductive Hio (steps:List (Str×Str)):List Str->List Str->List Str->List Str->Prop
 | stop {w o:List Str}:Hio steps w [] o o
 | step {w r o res:List Str}:r≠[]->Hio steps (w.filter λh=>decide (h∈heldBy steps w)) (w.filter λh => !decide (h∈heldBy steps w)) (o++w.filter λh => !decide (h∈heldBy steps w)) res->Hio steps w r o res
noncomputable def EW(a:List Str)(k:Str):List Str:=if k∈a then a else a++[k]
noncomputable def dedS(zs:List Str):List Str:=zs.foldl EW []
theorem OM(zs:List Str):dedup (zs.map Sum.inr)=(dedS zs).map Sum.inr:=by
 have go:∀ (zs a:List Str),(zs.map Sum.inr).foldl VP (a.map Sum.inr)=(zs.foldl EW a).map (Sum.inr:Str->Key):=by
  intro zs
  induction zs with
  | nil=>intro a;rfl
  | cons z zs ih =>
   intro a
   rw[map_cons,foldl_cons,foldl_cons,<-ih]
   congr 1
   unfold VP EW
   have:(Sum.inr z:Key)∈a.map Sum.inr↔z∈a:=by
    rw[mem_map]
    exact⟨λ⟨y,h,e⟩=>Sum.inr.inj e ▸ h,λh=>⟨z,h,rfl⟩⟩
   by_cases e:z∈a
   ·rw[if_pos e,if_pos (this.mpr e)]
   ·rw[if_neg e,if_neg (λh=>e (this.mp h)),map_append]
    rfl
 exact go zs []
theorem merge_keys(more:List (Key×D)):∀ kvs:List (Key×D),(Qw kvs more).map (·.1)=(more.map (·.1)).foldl VP (kvs.map (·.1)):=by
 induction more with
 | nil=>intro kvs;rfl
 | cons m more ih =>
  intro kvs
  rw[show Qw kvs (m::more)=Qw (HA kvs m.1 m.2) more from rfl,ih,map_cons,foldl_cons]
  congr 1
  unfold HA VP
  have ea:(kvs.any λkv=>decide (kv.1=m.1))=decide (m.1∈kvs.map (·.1)):=by
   rw[Bool.eq_iff_iff]
   simp only[List.any_eq_true,decide_eq_true_eq,mem_map]
  rw[ea]
  by_cases e:m.1∈kvs.map (·.1)
  ·rw[if_pos (decide_eq_true e),if_pos e,map_map]
   refine List.map_congr_left λkv _=>?_
   show(if kv.1=m.1 then (kv.1,m.2) else kv).1=kv.1
   split<;>rfl
  ·rw[if_neg (by simpa using e),if_neg e,map_append]
   rfl
noncomputable def Wj(rs:List Ru):List (Str×Str):=(rs.filter λr=>decide (r.ps.length=1)).map λr=>(r.hd,r.ps.getD 0 "")
noncomputable def waitOf(rs:List Ru):List Str:=dedS (rs.map (·.hd))
theorem nA(zs:List Str):(dedS zs).length<=zs.length:=by
 have:=Ja (zs.map Sum.inr)
 rw[OM]at this
 simpa using this
theorem Jt{α:Type}(w:List α)(p:α->Bool):(w.filter p).length+(w.filter λh => !p h).length=w.length:=by
 induction w with
 | nil=>rfl
 | cons a w ih =>
  rw[filter_cons,filter_cons]
  cases p a<;>simp<;>omega
noncomputable def MP(A:Adr):DSp:=λxs q _=>∃ (rs:List Ru) (res:List Str),xs=[.lst (rs.map (Ru.d A))]/\Rus rs/\Hio (Wj rs) (waitOf rs) (waitOf rs) [] res/\q (.lst (res.map .str))
theorem NT{A:Adr}(T:Txt K mg A):ZL P w K mg base (CXE P w) 1 A.Wg A.Vp Wc (spD K (MP A)):=by
 haveI:TxC K A:=⟨⟨_,T⟩⟩
 refine T.Wi.F.okJ ZV (by walk_at "ln") (λcdv Ar outer s H E hr=>⟨_,(Zb (SX (i:=1) ["rule"] [] [] ZV.nd rfl (Or.inl rfl) (ZZ (jv 0)) (λ_=>(Yj 0 (nDk ["rule"] []))) (λ_=>(Sq (Zm (Yk hr.Yd) (Yl ZY (by rfl) T.b_len PySem.boot_len (Zc (Ya (K:=K) rfl (jv 0)) Za)) Zd (Zk _)))) (λ_=>(Yz (Zc (Ya (K:=K) rfl (jv 0)) (Zc (Zj (Ya (K:=K) rfl (jv 0)) Zd) Za)))))
   (Zb (ZI 2 ZV.nd (UK tU (by rfl) T.b_list PyProof.Rows.boot_list (Zc (UK oM (by rfl) T.b_dict PyProof.Rows.boot_dict (Zc (ZU ["rule"] [] [] (ZZ (jv 0)) (λ_=>(Yj 0 (nDk ["rule"] []))) (λ_=>ZW) (λ_=>(Yz (Zc (Ya (K:=K) rfl (jv 0)) (Zc KH Za))))) Za)) Za)))
   (Zb (Vt (i:=3) ZV.nd rfl (Or.inl rfl) (Sn Za))
   (Zb (ZI 4 ZV.nd (jv 2))
   (Zb (KQ [] PassesOwn.leaving (Yn (jv 4)) (Zb (ZI 5 ZV.nd (ZU ["head", "part"] ["waiting"] [2] (ZZ (jv 1)) (λ_=>(Mr (n:=2) (YZ (Yj 0 (nDk ["head", "part"] ["waiting"])) (YZ (Yj 1 (nDk ["head", "part"] ["waiting"])) Pn)))) (λ_=>(Sq (Zm VY (jv 1) (jv 2) (by with_unfolding_all rfl)))) (λ_=>(jv 0))))
   (Zb (SX (i:=4) ["head"] ["held"] [5] ZV.nd rfl (Or.inl rfl) (ZZ (jv 2)) (λ_=>(Yj 0 (nDk ["head"] ["held"]))) (λ_=>(Sq (Zm Qs (jv 0) (jv 1) (by with_unfolding_all rfl)))) (λ_=>(jv 0)))
   (Zb (ZI 2 ZV.nd (ZU ["head"] ["held"] [5] (ZZ (jv 2)) (λ_=>(Yj 0 (nDk ["head"] ["held"]))) (λ_=>(Sq (Zm VY (jv 0) (jv 1) (by with_unfolding_all rfl)))) (λ_=>(jv 0))))
   (Ze (ky [] 3 (jv 4)))))))
   (Ze (Zr [3] (jv 3)))))))),λxs q x h=>?_⟩)
 ·obtain⟨rs,res,rfl,⟨l1,l2⟩,hh,hq⟩:=h
  have hsz:az=16777216:=rfl
  walk_at "rd"
  refine VZ (λr=>decide (r.ps.length=1)) (λr => .tup [.str r.hd,.str (r.ps.getD 0 "")]) (by omega) (λr hr N hN=>?_) (λr hr hp N hN=>?_) ?_
  ·walk_at "rd"
   have:(decide ((r.ps.length:Int)=1))=decide (r.ps.length=1):=by rw[Bool.eq_iff_iff];simp only[decide_eq_true_eq];omega
   rw[this]
   exact hN
  ·have hp:r.ps.length=1:=of_decide_eq_true hp
   walk_at "rd"
   exact⟨_,VD D.str r.ps "" (i:=0) (by decide) (by omega),by decide,hN⟩
  refine Yu (λr => .tup [.str r.hd,.bl true]) (by omega) (λr hr N hN=>?_) ?_
  ·walk_at "rd"
   exact⟨by decide,hN⟩
  refine⟨rs.map λr=>(Sum.inr r.hd,.bl true),by rw[map_map];rfl,_,rfl,?_⟩
  have ew:(Qw [] (rs.map λr=>((Sum.inr r.hd:Key),D.bl true))).map (λkv=>kD kv.1)=(waitOf rs).map .str:=by
   have e:=merge_keys (rs.map λr=>((Sum.inr r.hd:Key),D.bl true)) []
   have e2:(rs.map λr=>((Sum.inr r.hd:Key),D.bl true)).map (·.1)=(rs.map (·.hd)).map Sum.inr:=by rw[map_map,map_map];rfl
   rw[e2]at e
   have e3:(Qw [] (rs.map λr=>((Sum.inr r.hd:Key),D.bl true))).map (·.1)=(waitOf rs).map Sum.inr:=e.trans (OM _)
   rw[show(λkv:Key×D=>kD kv.1)=kD ∘ (·.1) from rfl,<-map_map,e3,map_map]
   rfl
  have es:(rs.filter λr=>decide (r.ps.length=1)).map (λr=>D.tup [.str r.hd,.str (r.ps.getD 0 "")])=(Wj rs).map λs => .tup [.str s.1,.str s.2]:=by unfold Wj;rw[map_map];rfl
  rw[ew,es]
  have ls:(Wj rs).length<=1000:=by
   unfold Wj
   rw[length_map]
   have:=length_filter_le (λr:Ru=>decide (r.ps.length=1)) rs
   omega
  have lw:(waitOf rs).length<=1000:=by
   unfold waitOf
   have:=nA (rs.map (·.hd))
   rw[length_map]at this
   omega
  generalize Wj rs=steps at *
  generalize waitOf rs=w0 at *
  refine⟨by decide,λm ds=>∃ (w r o:List Str) (s:L2.Slot),ds=[.v (.lst (rs.map (Ru.d A))),.v (.lst (steps.map λs => .tup [.str s.1,.str s.2])),.v (.lst (w.map .str)),.own (o.map .str),.v (.lst (r.map .str)),s]/\Hio steps w r o res/\w.length+o.length<=1000/\m=2*w.length+(if r=[] then 0 else 1),⟨_,w0,w0,[],.un,rfl,hh,by simpa using lw,rfl⟩,?_⟩
  rintro m _ ⟨w,r,o,s,rfl,hio,hl,rfl⟩
  walk_at "rd"
  have em:(r.map D.str).isEmpty=r.isEmpty:=by cases r<;>rfl
  rw[em]
  refine QU (λe1=>?_) (λe1=>?_)
  ·have hr:r≠[]:=λz=>by rw[z]at e1;cases e1
   cases hio with
   | stop=>exact absurd rfl hr
   | step _ hio =>
   have ll:=Jt w (λh=>decide (h∈heldBy steps w))
   have eh:(steps.filter λs=>decide (s.2∈w)).map (λs=>D.str s.1)=(heldBy steps w).map .str:=by unfold heldBy;rw[map_map];rfl
   refine EB (λs=>decide (s.2∈w)) (λs => .str s.1) (by omega) (λs hs N hN=>?_) (λs hs _ N hN=>?_) ?_
   ·walk_at "rd"
    exact hN
   ·walk_at "rd"
    exact hN
   rw[eh]
   refine VZ (λh => !decide (h∈heldBy steps w)) .str (by omega) (λs hs N hN=>?_) (λs hs _ N hN=>?_) ?_
   ·walk_at "rd"
    exact hN
   ·walk_at "rd"
    exact hN
   refine VZ (λh=>decide (h∈heldBy steps w)) .str (by omega) (λs hs N hN=>?_) (λs hs _ N hN=>?_) ?_
   ·walk_at "rd"
    exact hN
   ·walk_at "rd"
    exact hN
   refine⟨by simp only[length_map];omega,_,?_,_,rfl,_,o++w.filter (λh => !decide (h∈heldBy steps w)),by rw[map_append],rfl,hio,by rw[length_append];omega,rfl⟩
   rw[if_neg hr]
   split
   ·omega
   ·rename_i z
    have:=List.length_pos_iff.mpr z
    omega
  ·have hr:r=[]:=List.isEmpty_iff.mp e1
   subst hr
   cases hio with
   | stop=>exact hq
   | step z _=>exact absurd rfl z
noncomputable def IH(A:Adr):DSp:=λxs q x=>∃ (rs:List Ru) (res:List Str),xs=[.lst (rs.map (Ru.d A))]/\Rus rs/\Hio (Wj rs) (waitOf rs) (waitOf rs) [] res/\((waitOf rs).length<=res.length->q .non)/\(res.length<(waitOf rs).length->x A.C_Ring)
theorem Ju{A:Adr}(T:Txt K mg A):ZL P w K mg base (CXE P w) 2 A.Vy A.Sx Vv (spD K (IH A)):=by
 haveI:TxC K A:=⟨⟨_,T⟩⟩
 refine T.VB.F.okJ QC (by walk_at "ln") (λcdv Ar outer s H E hr=>⟨_,(Zb (SX (i:=1) ["rule"] [] [] QC.nd rfl (Or.inl rfl) (ZZ (jv 0)) (λ_=>(Yj 0 (nDk ["rule"] []))) (λ_=>ZW) (λ_=>(Ya (K:=K) rfl (jv 0))))
   (Ze (ZC [] (Zm Hq (Yl ZY (by rfl) T.b_len PySem.boot_len (Zc (Zw (NT T) T.Wi hr (Zc (jv 0) Za)) Za)) (yN (by rfl) T.b_len (by rfl) T.b_set (jv 1)) (Zk _)) (Ze (Xa [] T.E_Ring.x T.E_Ring.M (Zc Zg Za))) Zo))),λxs q x h=>?_⟩)
 ·obtain⟨rs,res,rfl,⟨l1,l2⟩,hh,h0,h1⟩:=h
  have hsz:az=16777216:=rfl
  walk_at "rd"
  refine Yu (λr => .str r.hd) (by omega) (λr hr N hN=>?_) ?_
  ·walk_at "rd"
   exact hN
  refine⟨rs,res,rfl,⟨l1,l2⟩,hh,?_⟩
  walk_at "rd"
  refine⟨(rs.map (·.hd)).map Sum.inr,by rw[map_map,map_map];rfl,by rw[length_map,length_map];omega,?_⟩
  rw[OM,length_map]
  exact YG (λe=>⟨by decide,h1 (by unfold waitOf;omega)⟩) (λe=>h0 (by unfold waitOf;omega))
noncomputable def Jv(A:Adr)(z st:Str)(rs:List Ru):List (Str×D):=[("scale",.str z),("start",.str st),("rules",.tup (rs.map (Ru.d A)))]
noncomputable def EX(A:Adr)(z st:Str)(rs:List Ru)(q:List (Str×D)->Prop)(x:Addr->Prop):Prop :=
 (z ≠ "cost" /\ z ≠ "chance" /\ x A.Yp)\/((z = "cost" \/ z = "chance")/\((cwt z [] rs=1/\x A.Yb)\/(cwt z [] rs=2/\x A.C_Twice)\/(cwt z [] rs=0/\((ctu rs=false/\x A.Yi)\/(ctu rs=true/\((ck st rs=false/\x A.YM)\/(ck st rs=true /\
  ∃ res,Hio (Wj rs) (waitOf rs) (waitOf rs) [] res/\((res.length<(waitOf rs).length/\x A.C_Ring)\/((waitOf rs).length<=res.length/\q (Jv A z st rs))))))))))
noncomputable def OO(A:Adr):CY:=λxs q x=>∃ (z st:Str) (rs:List Ru),xs=[.str z,.str st,.lst (rs.map (Ru.d A))]/\Rus rs/\EX A z st rs q x
theorem PR{A:Adr}(T:Txt K mg A):ZL P w K mg base (CXE P w) 5 A.ZJ A.Wy ["self", "scale", "start", "rules"] (spI K A.ZF (OO A)):=by
 haveI:TxC K A:=⟨⟨_,T⟩⟩
 refine T.Xw.okI PQ (λxs q x h=>?_) (λcdv Ar outer s H E hr=>⟨_,(Zb (Km (Zw (Uz T) T.Yh hr (Zc (Zw (EV T) T.RM hr (Zc (jv 1) Za)) (Zc (jv 3) Za))))
   (Zb (Km (Zw (Qi T) T.Xh hr (Zc (jv 3) Za)))
   (Zb (Km (Zw (Js T) T.VA hr (Zc (jv 2) (Zc (jv 3) Za))))
   (Zb (Km (Zw (Ju T) T.VB hr (Zc (jv 3) Za)))
   (Zb (SY (K:=K) [] 0 rfl (jv 1))
   (Zb (SY (K:=K) [] 0 rfl (jv 2))
   (Ze (SY (K:=K) [] 0 rfl (UK KN (by rfl) T.b_tuple PyProof.Rows.boot_tuple (Zc (jv 3) Za)))))))))),λoa dx xs q x h=>?_⟩)
 ·obtain⟨z,st,rs,rfl,_⟩:=h
  rfl
 ·obtain⟨z,st,rs,rfl,hr,hm⟩:=h
  walk_at "rd"
  rcases hm with⟨n1,n2,hx⟩|⟨hz,hm⟩
  ·exact⟨z,rfl,λh=>(h.elim n1 n2).elim,λ_ _=>hx⟩
  refine⟨z,rfl,λ_=>?_,λa b=>(hz.elim a b).elim⟩
  rcases hm with⟨e,hx⟩|⟨e,hx⟩|⟨e,hm⟩
  ·exact⟨z,rs,rfl,hr,λh=>by omega,λ_=>hx,λh=>by omega⟩
  ·exact⟨z,rs,rfl,hr,λh=>by omega,λh=>by omega,λ_=>hx⟩
  refine⟨z,rs,rfl,hr,λ_=>?_,λh=>by omega,λh=>by omega⟩
  rcases hm with⟨e,hx⟩|⟨e,hm⟩
  ·exact⟨rs,rfl,hr,λh=>(by rw[e]at h;cases h),λ_=>hx⟩
  refine⟨rs,rfl,hr,λ_=>?_,λh=>by rw[e]at h;cases h⟩
  rcases hm with⟨e,hx⟩|⟨e,res,hh,hm⟩
  ·exact⟨st,rs,rfl,hr,λh=>(by rw[e]at h;cases h),λ_=>hx⟩
  refine⟨st,rs,rfl,hr,λ_=>?_,λh=>by rw[e]at h;cases h⟩
  rcases hm with⟨e,hx⟩|⟨e,hq⟩
  ·exact⟨rs,res,rfl,hr,hh,λh=>by omega,λ_=>hx⟩
  exact⟨rs,res,rfl,hr,hh,λ_=>⟨T.Vq,T.Qc,by decide,T.Vq,T.Qd,by show 1<1000;decide,T.Vq,T.Qe,by show 2<1000;decide,hq⟩,λh=>by omega⟩
noncomputable def Gr(A:Adr)(z st:Str)(rs:List Ru):D := .obj A.ZF (Jv A z st rs)
section
variable {A:Adr} [TxC K A] {q:D->Prop}{z st:Str}{rs:List Ru}
theorem sX:D.fld K "scale" (Gr A z st rs) q=q (.str z):=by obtain⟨mg,T⟩:=(inferInstance:TxC K A).ex;exact D.Rb T.Vq T.Qc rfl
theorem sY:D.fld K "start" (Gr A z st rs) q=q (.str st):=by obtain⟨mg,T⟩:=(inferInstance:TxC K A).ex;exact D.Rb T.Vq T.Qd rfl
theorem sZ:D.fld K "rules" (Gr A z st rs) q=q (.tup (rs.map (Ru.d A))):=by obtain⟨mg,T⟩:=(inferInstance:TxC K A).ex;exact D.Rb T.Vq T.Qe rfl
end
def rd5:String:=rd4 ++ " sX sY sZ"
local macro_rules | `(tactic| walk_at "rd") => rdM rd5
abbrev s62:Str := "abcdefghijklmnopqrstuvwxyz0123456789ABCDEFGHIJKLMNOPQRSTUVWXYZ"
theorem zx(x:Str)(lo hi:Option Int){n:Nat}(h:x.length<=n):(Txt.slice x lo hi).length<=n:=Nat.le_trans (Txt.slice_le x lo hi) h
theorem Ys(x y:Str):(x++y).length=x.length+y.length:=by
 show(x.cps++y.cps).size=_
 rw[Array.size_append]
 rfl
noncomputable def II(F z:Str):Prop:=∃ c r,z.cps.toList=c::r/\c∈F.cps.toList/\(∀ d∈r,d∈s62.cps.toList)/\r.length<=11
theorem II.len{F z:Str}(h:II F z):1<=z.length/\z.length<=12:=by
 obtain⟨c,r,e,_,_,hl⟩:=h
 rw[Zy,e,length_cons]
 omega
theorem Jw{f:Nat->Str}{n:Nat}(h:∀ i j,i<j->j<n->f i≠f j):((List.range n).map f).Nodup:=by
 refine List.pairwise_map.mpr (List.Pairwise.imp_of_mem (λ{a b} _ hb lt=>h a b lt (mem_range.mp hb)) List.pairwise_lt_range)
noncomputable def sgR(F:Str)(i:Int):Nat:=F.cps.toList.getD (i%(F.length:Int)).toNat 0
theorem RU{F:Str}(h:0<F.length)(i:Int):atI F.cps.toList (i%(F.length:Int))=some (sgR F i)/\sgR F i∈F.cps.toList:=by
 have h1:=Int.emod_nonneg i (show(F.length:Int)≠0 by omega)
 have h2:=Int.emod_lt_of_pos i (show(0:Int)<F.length by omega)
 have hl:(i%(F.length:Int)).toNat<F.cps.toList.length:=by rw[<-Zy];omega
 have e:sgR F i=F.cps.toList[(i%(F.length:Int)).toNat]:=by
  unfold sgR
  rw[getD_eq_getElem?_getD,aA hl]
  rfl
 rw[e]
 exact⟨RT (by omega) hl,getElem_mem hl⟩
theorem rg{F:Str}(hn:F.cps.toList.Nodup){n:Nat}(hF:n<=F.length)(a:Int){i j:Nat}(lt:i<j)(hj:j<n):sgR F (a+i)≠sgR F (a+j):=by
 intro e
 have h1:=(RU (F:=F) (by omega) (a+i)).1
 have h2:=(RU (F:=F) (by omega) (a+j)).1
 rw[e]at h1
 have b1:=Int.emod_nonneg (a+i) (show(F.length:Int)≠0 by omega)
 have b2:=Int.emod_lt_of_pos (a+i) (show(0:Int)<F.length by omega)
 have c1:=Int.emod_nonneg (a+j) (show(F.length:Int)≠0 by omega)
 have c2:=Int.emod_lt_of_pos (a+j) (show(0:Int)<F.length by omega)
 have l1:((a+i)%(F.length:Int)).toNat<F.cps.toList.length:=by rw[<-Zy];omega
 have l2:((a+j)%(F.length:Int)).toNat<F.cps.toList.length:=by rw[<-Zy];omega
 rw[RT (j:=((a+i)%(F.length:Int)).toNat) (by omega) l1]at h1
 rw[RT (j:=((a+j)%(F.length:Int)).toNat) (by omega) l2]at h2
 have:=(List.getElem_inj hn).mp (Option.some.inj (h1.trans h2.symm))
 have eq:(a+i)%(F.length:Int)=(a+j)%(F.length:Int):=by omega
 have:=Int.emod_emod_of_dvd (a+j-(a+i)) (Int.dvd_refl (F.length:Int))
 have d:((a+j)-(a+i))%(F.length:Int)=0:=Int.emod_eq_emod_iff_emod_sub_eq_zero.mp eq.symm
 have d2:(a+j)-(a+i)=((j:Int)-i):=by omega
 rw[d2,Int.emod_eq_of_lt (by omega) (by omega)]at d
 omega
noncomputable def Oe(m:Int):List Nat:=(List.range 11).map λ(j:Nat)=>sgR s62 (Nh m ((j:Int)+1)+(j:Int)*(j:Int))
theorem rh(m:Int):∀ d∈Oe m,d∈s62.cps.toList:=by
 intro d hd
 unfold Oe at hd
 obtain⟨j,_,rfl⟩:=mem_map.mp hd
 exact(RU (by decide +kernel) _).2
theorem xn(m:Int):(Oe m).length=11:=by unfold Oe;simp
theorem join_one(cs:List Nat):(Txt.join "" (cs.map λc=>(⟨#[c]⟩:Str))).cps.toList=cs:=by
 rw[pd]
 induction cs with
 | nil=>rfl
 | cons a r ih=>rw[map_cons,map_cons,flatten_cons,ih];rfl
theorem XW{i:Int}(a : -(2^64)<i)(b:i<2^64):Small i := .inr ((Bd.of a b).mono (by decide))
theorem jH:s62.cps.toList.Nodup:=by decide +kernel
theorem nB:s62.length=62:=by decide +kernel
noncomputable def NsOf(F:Str)(n:Nat)(zs:List Str):Prop:=zs.length=n/\(∀ z∈zs,II F z)/\zs.Nodup
noncomputable def xo:DSp:=λxs q _=>∃ (cell:Int) (n:Nat) (F:Str),xs=[.int cell,.int n,.str F]/\n<=12/\12<=F.length/\F.length<=100/\F.cps.toList.Nodup/\∀ zs,NsOf F n zs->q (.lst (zs.map .str))
theorem OQ{A:Adr}(T:Txt K mg A):ZL P w K mg base (CXE P w) 2 A.PC A.MI Pw (spD K xo):=by
 haveI:TxC K A:=⟨⟨_,T⟩⟩
 refine T.UD.F.okJ Xv (by walk_at "ln") (λcdv Ar outer s H E hr=>⟨_,(Zb (ZI 3 Xv.nd Zg)
   (Zb (ZI 4 Xv.nd (Zw (VM T) T.L_l_mix hr (Zc (jv 0) (Zc Zd Za))))
   (Zb (ZI 5 Xv.nd (Zh Zu (Zh Zz (jv 4) Zd) (Yl ZY (by rfl) T.b_len PySem.boot_len (Zc (jv 2) Za))))
   (Zb (ZI 6 Xv.nd (TC PySem.F.plainAttrs_str PySem.F.slot_str_join PySem.F.type_str_join Nm Zg (Zc (ZU ["_law_j"] ["_law_rest", "_law_number"] [3,4] (Xo (by rfl) T.b_range (Zc Zd Za)) (λ_=>(Yj 0 (nDk ["_law_j"] ["_law_rest", "_law_number"]))) (λ_=>ZW) (λ_=>(Zj (jv 1) (Zh Zu (Zh Zi (Zh Zz (jv 2) (Zh Zi (jv 0) Zd)) (Zh VN (jv 0) (jv 0))) Zd)))) Za)))
   (Zb (ZC [] (Zm (Yk hr.Yd) (Zh Zu (jv 4) Zd) Zd (Zk _)) (Ze (Zr [] (ZU ["_law_k"] ["_law_firsts", "_law_start", "_law_tail"] [2,5,6] (Xo (by rfl) T.b_range (Zc (jv 1) Za)) (λ_=>(Yj 0 (nDk ["_law_k"] ["_law_firsts", "_law_start", "_law_tail"]))) (λ_=>ZW) (λ_=>(Zh Zi (Zj (jv 1) (jv 2)) (YD (jv 3) Wm (Yx (jv 0)))))))) Zo)
   (Zb (ZC [] (Zm (Yk hr.Yd) (Zh Zu (jv 4) Zd) Zd (Zk _)) (Zb (ZI 7 Xv.nd (Zh Zu (Zh Zz (jv 4) Zd) Zd))
   (Ze (Zr [] (ZU ["_law_k"] ["_law_firsts", "_law_tail", "_law_size", "_law_start"] [2,6,7,5] (Xo (by rfl) T.b_range (Zc (jv 1) Za)) (λ_=>(Yj 0 (nDk ["_law_k"] ["_law_firsts", "_law_tail", "_law_size", "_law_start"]))) (λ_=>ZW) (λ_=>(Zh Zi (Zj (jv 1) (Zh Zu (Zh Zi (jv 4) (jv 0)) (Yl ZY (by rfl) T.b_len PySem.boot_len (Zc (jv 1) Za)))) (YD (jv 2) Wm (Yx (jv 3))))))))) Zo)
   (Zb (ZI 7 Xv.nd (Zh Zu (Zh Zz (jv 4) Zd) Zd))
   (Zb (ZI 8 Xv.nd (Zh Zu (Zh Zz (jv 4) Zd) (Zh Zi (jv 7) Zd)))
   (Zb (ZI 3 Xv.nd (ZU ["_law_k"] ["_law_rest", "_law_number"] [3,4] (Xo (by rfl) T.b_range (Zc (jv 1) Za)) (λ_=>(Yj 0 (nDk ["_law_k"] ["_law_rest", "_law_number"]))) (λ_=>ZW) (λ_=>(Zj (jv 1) (Zh Zu (Zh Zi (Zh Zz (jv 2) Zd) (jv 0)) Zd)))))
   (Ze (Zr [] (ZU ["_law_sign"] ["_law_tail", "_law_at_here", "_law_size", "_law_firsts", "_law_start"] [6,8,7,2,5] (ZZ (jv 3)) (λ_=>(Yj 0 (nDk ["_law_sign"] ["_law_tail", "_law_at_here", "_law_size", "_law_firsts", "_law_start"]))) (λ_=>ZW) (λ_=>(Zh Zi (Zh Zi (Zh Zi (Zj (jv 4) (jv 5)) (YD (jv 1) Wm (Yx (jv 2)))) (jv 0)) (YD (jv 1) (Yx (jv 2)) (Yx (jv 3))))))))))))))))),λxs q x h=>?_⟩)
 ·obtain⟨cell,n,F,rfl,n12,F0,F1,Fn,hq⟩:=h
  have hsz:az=16777216:=rfl
  walk_at "rd"
  refine⟨_,_,rfl,by decide,by decide,?_⟩
  have m1:=Th cell 0
  have m2:=ML cell 0
  generalize mix cell 0=m at m1 m2⊢
  walk_at "rd"
  have one:∀ c:Nat,(⟨#[c]⟩:Str).length=1:=λ_=>rfl
  refine⟨by decide,XW (by decide) (by decide),by omega,by omega,by decide,by decide,Tg (λj => .str ⟨#[sgR s62 (Nh m ((j:Int)+1)+(j:Int)*(j:Int))]⟩) (by decide) (λj hj N hN=>?_) ?_⟩
  ·have hj:j<11:=hj
   walk_at "rd"
   exact⟨by omega,XW (by omega) (by omega),.l (by omega) (by omega),by decide,by decide +kernel,_,(RU (F:=s62) (by decide +kernel) _).1,hN⟩
  have et:(List.range (Int.toNat 11)).map (λj:Nat=>D.str ⟨#[sgR s62 (Nh m ((j:Int)+1)+(j:Int)*(j:Int))]⟩)=((Oe m).map λc=>(⟨#[c]⟩:Str)).map .str:=by unfold Oe;rw[map_map,map_map];rfl
  rw[et]
  have tl0:=join_one (Oe m)
  have tl1:=xn m
  have tl2:=rh m
  walk_at "rd"
  refine⟨?_,by decide,?_⟩
  ·have:=vO (zs:=(Oe m).map λc=>(⟨#[c]⟩:Str)) (m:=1) (λz hz=>by obtain⟨c,_,rfl⟩:=mem_map.mp hz;exact Nat.le_refl 1)
   rw[length_map]at this
   rw[show(aG "").length=0 from rfl]
   omega
  generalize Txt.join "" ((Oe m).map λc=>(⟨#[c]⟩:Str))=tl at tl0⊢
  generalize Oe m=cs at tl0 tl1 tl2⊢
  have tlen:tl.length=11:=by rw[Zy,tl0,tl1]
  obtain⟨k0,k1⟩:=RU (F:=F) (by omega) (m/5)
  rw[XQ (show(0:Int)<F.length by omega)]
  have nd0:∀ {A B:Prop},(A->B)->A->B:=λf a=>f a
  refine YG (λe0=>⟨by omega,by omega,Tg (λk => .str (⟨#[sgR F (m/5)]⟩++Txt.slice tl none (some (k:Int)))) (by omega) (λk hk N hN=>?_) ?_⟩) (λe0=>⟨by decide,YG (λe1=>?_) (λe1=>?_)⟩)
  ·have hk:k<n:=by simpa using hk
   have g2:=zx tl none (some (k:Int)) (Nat.le_of_eq tlen)
   walk_at "rd"
   exact⟨by omega,_,k0,by omega,by rw[one];omega,hN⟩
  ·rw[show((n:Int).toNat)=n from by omega]
   have:=hq ((List.range n).map λ(k:Nat)=>⟨#[sgR F (m/5)]⟩++Txt.slice tl none (some (k:Int))) ⟨by simp,λz hz=>?_,Jw λi j lt hj e=>?_⟩
   ·rw[map_map]at this
    exact this
   ·obtain⟨k,hk,rfl⟩:=mem_map.mp hz
    have hk:=mem_range.mp hk
    have g1:=Ec (x:=tl) (j:=(k:Int)) (by omega) (by rw[tl0,tl1];omega)
    exact⟨_,(Txt.slice tl none (some (k:Int))).cps.toList,by rw[Xk];rfl,k1,λd hd=>tl2 d (mem_of_mem_take (by rw[g1,tl0]at hd;exact hd)),by rw[g1,tl0,length_take,tl1];omega⟩
   ·have g1:=Ec (x:=tl) (j:=(i:Int)) (by omega) (by rw[tl0,tl1];omega)
    have g2:=Ec (x:=tl) (j:=(j:Int)) (by omega) (by rw[tl0,tl1];omega)
    have e:=congrArg (λz:Str=>z.cps.toList.length) e
    simp only[Xk,g1,g2,tl0,length_append,length_take,tl1,Gi,length_cons,length_nil,Int.toNat_natCast]at e
    omega
  ·refine⟨by decide,XW (by decide) (by decide),by decide,by omega,by omega,?_⟩
   have b1:=Int.emod_nonneg (m/3) (show(12:Int)≠0 by decide)
   have b2:=Int.emod_lt_of_pos (m/3) (show(0:Int)<12 by decide)
   generalize m/3%12=sz at b1 b2⊢
   have g1:=Ec (x:=tl) (j:=sz) (by omega) (by rw[tl0,tl1];omega)
   have g2:=zx tl none (some sz) (Nat.le_of_eq tlen)
   generalize m/5%(F.length:Int)=st at k0⊢
   refine Tg (λk => .str (⟨#[sgR F (st+k)]⟩++Txt.slice tl none (some sz))) (by omega) (λk hk N hN=>?_) ?_
   ·walk_at "rd"
    rw[XQ (show(0:Int)<F.length by omega)]
    exact⟨by omega,by omega,by omega,_,(RU (F:=F) (by omega) (st+k)).1,by omega,by rw[one];omega,hN⟩
   ·rw[show((n:Int).toNat)=n from by omega]
    have:=hq ((List.range n).map λ(k:Nat)=>⟨#[sgR F (st+k)]⟩++Txt.slice tl none (some sz)) ⟨by simp,λz hz=>?_,Jw λi j lt hj e=>?_⟩
    ·rw[map_map]at this
     exact this
    ·obtain⟨k,hk,rfl⟩:=mem_map.mp hz
     exact⟨_,(Txt.slice tl none (some sz)).cps.toList,by rw[Xk];rfl,(RU (F:=F) (by omega) (st+k)).2,λd hd=>tl2 d (mem_of_mem_take (by rw[g1,tl0]at hd;exact hd)),by rw[g1,tl0,length_take,tl1];omega⟩
    ·have e:=congrArg (λz:Str=>z.cps.toList.head?) e
     simp only[Xk,Gi,cons_append,List.head?_cons,Option.some.injEq]at e
     exact rg Fn (by omega) st lt hj e
  ·refine⟨by decide,XW (by decide) (by decide),by decide,by decide,XW (by decide) (by decide),?_⟩
   have b1:=Int.emod_nonneg (m/3) (show(11:Int)≠0 by decide)
   have b2:=Int.emod_lt_of_pos (m/3) (show(0:Int)<11 by decide)
   generalize m/3%11=sz at b1 b2⊢
   rw[XQ (show(0:Int)<sz+1 by omega)]
   have d1:=Int.emod_nonneg (m/33) (show sz+1≠0 by omega)
   have d2:=Int.emod_lt_of_pos (m/33) (show(0:Int)<sz+1 by omega)
   generalize m/33%(sz+1)=ah at d1 d2⊢
   refine⟨by omega,by omega,by omega,Tg (λk => .str ⟨#[sgR s62 (m/7+k)]⟩) (by omega) (λk hk N hN=>?_) ?_⟩
   ·walk_at "rd"
    exact⟨by decide,XW (by decide) (by decide),by decide,by decide +kernel,_,(RU (F:=s62) (by decide +kernel) _).1,hN⟩
   rw[show((n:Int).toNat)=n from by omega]
   have g1:=Ec (x:=tl) (j:=ah) (by omega) (by rw[tl0,tl1];omega)
   have g2:=zx tl none (some ah) (Nat.le_of_eq tlen)
   have g3:=sl_ft (x:=tl) (i:=ah) (j:=sz) (by omega) (by omega) (by rw[tl0,tl1];omega)
   have g4:=zx tl (some ah) (some sz) (Nat.le_of_eq tlen)
   let nm:Nat->Str:=λk=>⟨#[sgR F (m/5)]⟩++Txt.slice tl none (some ah)++⟨#[sgR s62 (m/7+k)]⟩++Txt.slice tl (some ah) (some sz)
   refine Yu (c:=λk:Nat => .str ⟨#[sgR s62 (m/7+k)]⟩) (xs:=List.range n) (λk => .str (nm k)) (by simp;omega) (λk hk N hN=>?_) ?_
   ·walk_at "rd"
    exact⟨by omega,_,k0,by omega,by rw[one];omega,by rw[Ys,one,one];omega,by omega,by rw[Ys,Ys,one,one];omega,hN⟩
   have es:∀ k,(nm k).cps.toList=sgR F (m/5)::(cs.take ah.toNat++[sgR s62 (m/7+k)]++(cs.drop ah.toNat).take (sz-ah).toNat):=λk=>by
    show(((⟨#[sgR F (m/5)]⟩:Str)++Txt.slice tl none (some ah)++(⟨#[sgR s62 (m/7+k)]⟩:Str))++Txt.slice tl (some ah) (some sz)).cps.toList=_
    rw[Xk,Xk,Xk,g1,g3,tl0,Gi,Gi]
    simp
   have:=hq ((List.range n).map nm) ⟨by simp,λz hz=>?_,Jw λi j lt hj e=>?_⟩
   ·rw[map_map]at this
    exact this
   ·obtain⟨k,hk,rfl⟩:=mem_map.mp hz
    refine⟨_,_,es k,k1,λd hd=>?_,?_⟩
    ·rcases mem_append.mp hd with hd|hd
     ·rcases mem_append.mp hd with hd|hd
      ·exact tl2 d (mem_of_mem_take hd)
      ·rw[mem_singleton.mp hd];exact(RU (F:=s62) (by decide +kernel) _).2
     ·exact tl2 d (mem_of_mem_drop (mem_of_mem_take hd))
    ·rw[length_append,length_append,length_take,length_take,length_drop,tl1]
     simp only[length_cons,length_nil]
     omega
   ·have e:=congrArg (λz:Str=>z.cps.toList) e
    simp only[es,List.cons.injEq,true_and,append_assoc,List.append_cancel_left_eq,cons_append,List.nil_append]at e
    exact rg (F:=s62) jH (n:=12) (by rw[nB];decide) (m/7) lt (by omega) e.1
noncomputable def lowP(a b:Int):Int:=a.fdiv (Int.gcd a b:Int)
noncomputable def IJ(a b:Int):Int:=b.fdiv (Int.gcd a b:Int)
noncomputable def BH:DSp:=λxs q _=>∃ a b:Int,xs=[.int a,.int b]/\0<b/\Bd 9000 b/\q (wD (lowP a b) (IJ a b))
theorem EY{A:Adr}(T:Txt K mg A):ZL P w K mg base (CXE P w) 1 A.RD A.OG Rl (spD K BH):=by
 haveI:TxC K A:=⟨⟨_,T⟩⟩
 refine T.RO.F.okJ WC (by walk_at "ln") (λcdv Ar outer s H E hr=>⟨_,(Zb (ZI 2 WC.nd (Yl uf (by rfl) T.b_abs PyProof.Rows.boot_abs (Zc (jv 0) Za)))
   (Zb (ZI 3 WC.nd (jv 1))
   (Zb (KQ [] PassesOwn.leaving (Zm Ho (jv 3) Zd (Zk _)) (Zb (ZI 4 WC.nd (Zh Zu (jv 2) (jv 3)))
   (Zb (ZI 2 WC.nd (jv 3))
   (Ze (ZI 3 WC.nd (jv 4))))))
   (Ze (Zr [] (Yz (Zc (Zh Zz (jv 0) (jv 2)) (Zc (Zh Zz (jv 1) (jv 2)) Za)))))))),λxs q x h=>?_⟩)
 ·obtain⟨a,b,rfl,hb,hB,hq⟩:=h
  have gp:=Ng (a:=a) (b:=b) (by omega)
  have gB:Bd 9000 (Int.gcd a b:Int):=hB.le (by
   have:=Int.le_of_dvd hb (Int.gcd_dvd_right a b)
   omega)
  walk_at "rd"
  refine⟨λm ds=>∃ (x y:Int) (s:L2.Slot),ds=[.v (.int a),.v (.int b),.v (.int x),.v (.int y),s]/\0<=x/\0<=y/\Int.gcd x y=Int.gcd a b/\m=y.natAbs,⟨_,_,b,.un,rfl,by split<;>omega,by omega,by split<;>simp[Int.neg_gcd],rfl⟩,?_⟩
  rintro m _ ⟨x,y,s,rfl,hx,hy,e,rfl⟩
  walk_at "rd"
  refine YG (λhp=>?_) (λhp=>?_)
  ·rw[Pm]
   exact⟨by omega,_,Az x y (by omega),by omega,Int.fmod_nonneg hx hy,(Eh x y).trans e,rfl⟩
  ·have ey:y=0:=by omega
   subst ey
   have ex:x=(Int.gcd a b:Int):=by
    rw[<-e,Int.gcd_zero_right]
    omega
   subst ex
   rw[Nj,Nj]
   exact⟨by omega,.inr gB,by omega,.inr gB,by decide,hq⟩
theorem EZ{α:Type}(xs:List α)(d:α)(i:Int){n:Nat}(h:n=xs.length)(h0:0<n):xs.getD (i%(n:Int)).toNat d∈xs:=by
 have h1:=Int.emod_nonneg i (show(n:Int)≠0 by omega)
 have h2:=Int.emod_lt_of_pos i (show(0:Int)<n by omega)
 have hl:(i%(n:Int)).toNat<xs.length:=by omega
 rw[getD_eq_getElem?_getD,aA hl]
 exact getElem_mem hl
noncomputable def wT(c m:Int):Int:=([1,2,1,3,c%10^12,m]:List Int).getD (m%6).toNat 0
noncomputable def wB(m:Int):Int:=([1,1,2,4,1+m/7%10^9,3]:List Int).getD (m/6%6).toNat 0
noncomputable def Da(c m:Int)(z:Str):Int:=if z = "chance" then wT c m+(if wT c m=0 then 1 else 0) else if m/36%4=0 then -wT c m else wT c m
noncomputable def wP(c k:Int)(z:Str):Int:=lowP (Da c (mix c k) z) (wB (mix c k))
noncomputable def wQ(c k:Int)(z:Str):Int:=IJ (Da c (mix c k) z) (wB (mix c k))
theorem mz(c m:Int)(h0:0<=m)(h1:m<2^40):0<=wT c m/\wT c m<2^50:=by
 have hm:=EZ ([1,2,1,3,c%10^12,m]:List Int) 0 m (n:=6) rfl (by decide)
 unfold wT
 have c1:=Int.emod_nonneg c (show(10:Int)^12≠0 by decide)
 have c2:=Int.emod_lt_of_pos c (show(0:Int)<10^12 by decide)
 generalize ([1,2,1,3,c%10^12,m]:List Int).getD (m%((6:Nat):Int)).toNat 0=v at hm⊢
 simp only[mem_cons,not_mem_nil,or_false]at hm
 rcases hm with rfl|rfl|rfl|rfl|rfl|rfl<;>constructor<;>omega
theorem mB(m:Int)(h0:0<=m):0<wB m/\wB m<2^50:=by
 have hm:=EZ ([1,1,2,4,1+m/7%10^9,3]:List Int) 0 (m/6) (n:=6) rfl (by decide)
 unfold wB
 have c1:=Int.emod_nonneg (m/7) (show(10:Int)^9≠0 by decide)
 have c2:=Int.emod_lt_of_pos (m/7) (show(0:Int)<10^9 by decide)
 generalize ([1,1,2,4,1+m/7%10^9,3]:List Int).getD (m/6%((6:Nat):Int)).toNat 0=v at hm⊢
 simp only[mem_cons,not_mem_nil,or_false]at hm
 rcases hm with rfl|rfl|rfl|rfl|rfl|rfl<;>constructor<;>omega
noncomputable def BI:DSp:=λxs q _=>∃ (c k:Int) (z:Str),xs=[.int c,.int k,.str z] /\ -(2^20)<k/\k<2^20/\q (wD (wP c k z) (wQ c k z))
theorem Dc{A:Adr}(T:Txt K mg A):ZL P w K mg base (CXE P w) 2 A.RE A.OH Rm (spD K BI):=by
 haveI:TxC K A:=⟨⟨_,T⟩⟩
 refine T.RP.F.okJ WD (by walk_at "ln") (λcdv Ar outer s H E hr=>⟨_,(Zb (ZI 3 WD.nd (Zw (VM T) T.L_l_mix hr (Zc (jv 0) (Zc (jv 1) Za))))
   (Zb (ZI 4 WD.nd (Zj (ZH (Zc Zd (Zc Zd (Zc Zd (Zc Zd (Zc (Zh Zu (jv 0) (Zh CH Zd Zd)) (Zc (jv 3) Za))))))) (Zh Zu (jv 3) Zd)))
   (Zb (ZI 5 WD.nd (Zj (ZH (Zc Zd (Zc Zd (Zc Zd (Zc Zd (Zc (Zh Zi Zd (Zh Zu (Zh Zz (jv 3) Zd) (Zh CH Zd Zd))) (Zc Zd Za))))))) (Zh Zu (Zh Zz (jv 3) Zd) Zd)))
   (Zb (ZC [] (Zm (Yk hr.Yd) (jv 2) Zg (Zk _)) (Ze (ZI 4 WD.nd (Zh Zi (jv 4) (UK Np (by rfl) T.b_int PyProof.Rows.boot_int (Zc (Xs (Yk hr.Yd) (jv 4) Zd (Zk _)) Za))))) (Ze (ZC [] (Zm (Yk hr.Yd) (Zh Zu (Zh Zz (jv 3) Zd) Zd) Zd (Zk _)) (Ze (ZI 4 WD.nd (Mo (jv 4)))) Zo)))
   (Ze (Zr [] (Zw (EY T) T.RO hr (Zc (jv 4) (Zc (jv 5) Za))))))))),λxs q x h=>?_⟩)
 ·obtain⟨c,k,z,rfl,k1,k2,hq⟩:=h
  walk_at "rd"
  refine⟨_,_,rfl,k1,k2,?_⟩
  unfold wP wQ at hq
  have m1:=Th c k
  have m2:=ML c k
  generalize mix c k=m at m1 m2 hq⊢
  have w1:=mz c m m1 (by omega)
  have w2:=mB m m1
  walk_at "rd"
  rw[show Ni c (10^Int.toNat 12)=c%10^12 from XQ (by decide),show Ni (m/7) (10^Int.toNat 9)=m/7%10^9 from XQ (by decide)]
  refine⟨⟨by decide,by decide,by decide⟩,by decide,by decide,by decide,.int (wT c m),VD D.int [1,2,1,3,c%10^12,m] 0 (by omega) (by show m%6<6;omega),by decide,XW (by decide) (by decide),⟨by decide,by decide,by decide⟩,by decide,by decide,by decide,XW (by decide) (by decide),by decide,
   .int (wB m),VD D.int [1,1,2,4,1+m/7%10^9,3] 0 (by omega) (by show m/6%6<6;omega),?_⟩
  unfold Da at hq
  generalize wT c m=t at w1 hq⊢
  generalize wB m=b at w2 hq⊢
  have bB:Bd 9000 b:=(Bd.of (n:=64) (by omega) (by omega)).mono (by decide)
  refine YG (λe=>?_) (λe=>⟨by decide,XW (by decide) (by decide),by decide,YG (λe1=>?_) (λe1=>?_)⟩)
  ·walk_at "rd"
   rw[if_pos e]at hq
   exact⟨_,_,rfl,w2.1,bB,by simpa using hq⟩
  ·rw[if_neg e,if_pos e1]at hq
   exact⟨_,_,rfl,w2.1,bB,hq⟩
  ·rw[if_neg e,if_neg e1]at hq
   exact⟨_,_,rfl,w2.1,bB,hq⟩
theorem getD_in{α:Type}(xs:List α)(d:α)(i:Int)(h:0<xs.length):atI xs (i%(xs.length:Int))=some (xs.getD (i%(xs.length:Int)).toNat d)/\xs.getD (i%(xs.length:Int)).toNat d∈xs:=by
 have h1:=Int.emod_nonneg i (show(xs.length:Int)≠0 by omega)
 have h2:=Int.emod_lt_of_pos i (show(0:Int)<xs.length by omega)
 have hl:(i%(xs.length:Int)).toNat<xs.length:=by omega
 rw[getD_eq_getElem?_getD,aA hl]
 exact⟨RT (by omega) hl,getElem_mem hl⟩
theorem Tp{α:Type}(f:α->D)(xs:List α){i:Int}(h0:0<=i)(h:i<xs.length):∃ x,x∈xs/\atI (xs.map f) i=some (f x):=by
 have hj:i.toNat<xs.length:=by omega
 refine⟨xs[i.toNat],getElem_mem hj,?_⟩
 rw[RT (j:=i.toNat) (by omega) (by rw[length_map];exact hj),List.getElem_map]
theorem mod_lt{n:Nat}(i:Int)(h:0<n):0<=i%(n:Int)/\i%(n:Int)<n:=⟨Int.emod_nonneg i (by omega),Int.emod_lt_of_pos i (by omega)⟩
noncomputable def zy(mode:Int)(heads kinds words:List Str)(head:Str)(ps:List Str):Prop :=
 1<=ps.length/\ps.length<=4/\(∀ p∈ps,p∈heads\/p∈kinds\/p∈words)/\(mode=0->∀ p∈ps,p∈heads\/p∈words)/\(mode<5->∀ p,ps=[p]->p∈kinds->p∉words->kinds.idxOf head<kinds.idxOf p)
noncomputable def Jx:DSp:=λxs q _=>∃ (cells:List Int) (mode:Int) (heads kinds words:List Str) (head:Str),xs=[.lst (cells.map .int),.int mode,.lst (heads.map .str),.lst (kinds.map .str),.lst (words.map .str),.str head] /\
 0<cells.length/\cells.length<=1000/\0<heads.length/\heads.length<=1000/\0<kinds.length/\kinds.length<=1000/\words.length=3/\head∈kinds/\∀ ps,zy mode heads kinds words head ps->q (.lst (ps.map .str))
theorem LV{A:Adr}(T:Txt K mg A):ZL P w K mg base (CXE P w) 2 A.WZ A.Tb WU (spD K Jx):=by
 haveI:TxC K A:=⟨⟨_,T⟩⟩
 refine T.Vf.F.okJ ZX (by walk_at "ln") (λcdv Ar outer s H E hr=>⟨_,(Zb (ZI 6 ZX.nd (Zw (VM T) T.L_l_mix hr (Zc (Zj (jv 0) (Zh Zu Zd (Yl ZY (by rfl) T.b_len PySem.boot_len (Zc (jv 0) Za)))) (Zc Zd Za))))
   (Zb (ZI 7 ZX.nd (UK pj (by rfl) T.b_list PyProof.Rows.boot_list (Zc (jv 2) Za)))
   (Zb (Xl (ZC [] (WO (XJ (Zm (Yk hr.Yd) (jv 1) Zd (Zk _)) (XM (WO (Vk (Zm (Yk hr.Yd) (jv 1) Zd (Zk _)) (Wl (Zm (Yk hr.Yd) (Zh Zu (jv 6) Zd) Zd (Zk _)))))))) (Ze (ZI 7 ZX.nd (jv 3))) Zo))
   (Zb (Vt (i:=8) ZX.nd rfl (Or.inl rfl) (Sn Za))
   (Zb (Xl (UL PassesOwn.leaving (Xo (by rfl) T.b_range (Zc (Zj (Yz (Zc Zd (Zc Zd (Zc Zd (Zc Zd (Zc Zd (Zc Zd Za))))))) (Zh Zu (Zh Zz (jv 6) Zd) Zd)) Za)) (Yj 9 ZX.nd) (Zb (ZI 10 ZX.nd (Zw (VM T) T.L_l_mix hr (Zc (Zj (jv 0) (Zh Zu (Zh Zi Zd (jv 9)) (Yl ZY (by rfl) T.b_len PySem.boot_len (Zc (jv 0) Za)))) (Zc (Zh Zi Zd (jv 9)) Za))))
   (Ze (ZC [] (Zm Hq (Zh Zu (jv 10) Zd) Zd (Zk _)) (Ze (KS [] 8 (Zj (jv 7) (Zh Zu (Zh Zz (jv 10) Zd) (Yl ZY (by rfl) T.b_len PySem.boot_len (Zc (jv 7) Za)))))) (Ze (KS [] 8 (Zj (jv 4) (Zh Zu (Zh Zz (jv 10) Zd) Zd)))))))))
   (Zb (AW [8] (i:=11) ZX.nd rfl (Or.inl rfl) (SR (Xs (Yk hr.Yd) (Yl ZY (by rfl) T.b_len PySem.boot_len (Zc (jv 8) Za)) Zd (Zk _)) (UI (Xs VY (Zj (jv 8) Zd) (jv 3) (by with_unfolding_all rfl)))))
   (Zb (ZC [8] (WO (Vk (Yn (jv 11)) (Vk (Zm Hq (jv 1) Zd (Zk _)) (Wl (Zm PX (TC PySem.F.plainAttrs_list PySem.F.slot_list_index PySem.F.type_list_index Jc (jv 3) (Zc (Zj (jv 8) Zd) Za)) (TC PySem.F.plainAttrs_list PySem.F.slot_list_index PySem.F.type_list_index Jc (jv 3) (Zc (jv 5) Za)) (Zk _)))))) (Ze (Vt (i:=8) ZX.nd rfl (Or.inl rfl) (Sn (Zc (Zj (jv 4) (Zh Zu (jv 6) Zd)) Za)))) Zo)
   (Ze (Zr [8] (jv 8)))))))))),λxs q x h=>?_⟩)
 ·obtain⟨cells,mode,heads,kinds,words,head,rfl,c0,c1,h0,h1,k0,k1,w3,hk,hq⟩:=h
  have hsz:az=16777216:=rfl
  walk_at "rd"
  rw[XQ (show(0:Int)<cells.length by omega)]
  obtain⟨e1,e2⟩:=mod_lt 2 c0
  obtain⟨c,_,hc⟩:=Tp D.int cells e1 e2
  refine⟨by omega,_,hc,_,_,rfl,by decide,by decide,?_⟩
  have m1:=Th c 2
  have m2:=ML c 2
  generalize mix c 2=m at m1 m2⊢
  walk_at "rd"
  refine⟨λds'=>∃ some:List Str,ds'=[.v (.lst (cells.map .int)),.v (.int mode),.v (.lst (heads.map .str)),.v (.lst (kinds.map .str)),.v (.lst (words.map .str)),.v (.str head),.v (.int m),.v (.lst (some.map .str)),.un,.un,.un,.un]/\(some=heads\/(some=kinds/\mode≠0)),?_,?_⟩
  ·walk_at "rd"
   refine YG (λe=>⟨kinds,rfl,.inr ⟨rfl,by omega⟩⟩) (λe=>YG (λe6=>⟨by decide,YG (λe7=>⟨kinds,rfl,.inr ⟨rfl,by omega⟩⟩) (λe7=>⟨heads,rfl,.inl rfl⟩)⟩) (λe6=>⟨heads,rfl,.inl rfl⟩))
  rintro _ ⟨some,rfl,hs⟩
  have s0:0<some.length:=by rcases hs with rfl|⟨rfl,_⟩<;>assumption
  have s1:some.length<=1000:=by rcases hs with rfl|⟨rfl,_⟩<;>assumption
  refine⟨by decide,λds'=>∃ (ps:List Str) (a b:L2.Slot),ds'=[.v (.lst (cells.map .int)),.v (.int mode),.v (.lst (heads.map .str)),.v (.lst (kinds.map .str)),.v (.lst (words.map .str)),.v (.str head),.v (.int m),.v (.lst (some.map .str)),.own (ps.map .str),a,b,.un]/\1<=ps.length/\ps.length<=4/\∀ p∈ps,p∈some\/p∈words,?_,?_⟩
  ·walk_at "rd"
   refine⟨[],?_⟩
   walk_at "rd"
   have nb:=mod_lt (n:=6) (m/9) (by decide)
   obtain⟨j,hj,ej⟩:=Tp D.int [1,2,2,3,1,4] (i:=m/9%6) nb.1 nb.2
   have j1:1<=j/\j<=4:=by
    simp only[mem_cons,not_mem_nil,or_false]at hj
    omega
   refine⟨by decide,by decide,XW (by decide) (by decide),by decide,_,ej,j,rfl,by omega,by omega,?_⟩
   refine SZ (λi ds'=>∃ (ps:List Str) (a b:L2.Slot),ds'=[.v (.lst (cells.map .int)),.v (.int mode),.v (.lst (heads.map .str)),.v (.lst (kinds.map .str)),.v (.lst (words.map .str)),.v (.str head),.v (.int m),.v (.lst (some.map .str)),.own (ps.map .str),a,b,.un]/\ps.length=i/\∀ p∈ps,p∈some\/p∈words) ⟨[],_,_,rfl,rfl,λp h=>absurd h (by simp)⟩ (λi ds N hi ⟨ps,a,b,e,pl,hp⟩ hn=>?_) (λds ⟨ps,a,b,e,pl,hp⟩=>⟨ps,a,b,e,by omega,by omega,hp⟩)
   subst e
   walk_at "rd"
   rw[XQ (show(0:Int)<cells.length by omega)]
   obtain⟨f1,f2⟩:=mod_lt (2+(0+(i:Int))) c0
   obtain⟨c',_,hc'⟩:=Tp D.int cells f1 f2
   refine⟨by omega,_,hc',_,_,rfl,by omega,by omega,?_⟩
   have m3:=Th c' (3+(0+(i:Int)))
   have m4:=ML c' (3+(0+(i:Int)))
   generalize mix c' (3+(0+(i:Int)))=mm at m3 m4⊢
   walk_at "rd"
   have ext:∀ (p:Str) (sl:L2.Slot),p∈some\/p∈words->N [.v (.lst (cells.map .int)),.v (.int mode),.v (.lst (heads.map .str)),.v (.lst (kinds.map .str)),.v (.lst (words.map .str)),.v (.str head),.v (.int m),.v (.lst (some.map .str)),.own (ps.map D.str++[.str p]),.v (.int (0+(i:Int))),sl,.un]:=λp sl h=>by
    refine hn _ ⟨ps++[p],_,_,by rw[map_append];rfl,by rw[length_append,pl];rfl,λz hz=>?_⟩
    rcases mem_append.mp hz with hz|hz
    ·exact hp z hz
    ·rw[mem_singleton.mp hz];exact h
   rw[XQ (show(0:Int)<some.length by omega)]
   obtain⟨g1,g2⟩:=mod_lt (mm/5) s0
   obtain⟨p,hp1,hp2⟩:=Tp D.str some g1 g2
   have g3:=mod_lt (n:=3) (mm/5) (by decide)
   obtain⟨p',hp3,hp4⟩:=Tp D.str words (i:=mm/5%3) g3.1 (by rw[w3];exact g3.2)
   exact⟨by decide,YG (λ_=>⟨by decide,XW (by decide) (by decide),by omega,_,hp2,by omega,ext p _ (.inl hp1)⟩) (λ_=>⟨by decide,XW (by decide) (by decide),by decide,_,hp4,by omega,ext p' _ (.inr hp3)⟩)⟩
  rintro _ ⟨ps,a,b,rfl,p1,p4,hp⟩
  have good:(mode<5->∀ p,ps=[p]->p∈kinds->p∉words->kinds.idxOf head<kinds.idxOf p)->q (.lst (ps.map .str)):=λh=>by
   refine hq ps ⟨p1,p4,λp h=>?_,λe p h=>?_,h⟩
   ·rcases hp p h with z|z
    ·rcases hs with rfl|⟨rfl,_⟩
     ·exact .inl z
     ·exact .inr (.inl z)
    ·exact .inr (.inr z)
   ·rcases hp p h with z|z
    ·rcases hs with rfl|⟨rfl,e'⟩
     ·exact .inl z
     ·exact absurd e e'
    ·exact .inr z
  walk_at "rd"
  refine YG (λe=>?_) (λe=>?_)
  ·obtain⟨p,rfl⟩:∃ p,ps=[p]:=List.length_eq_one_iff.mp (by omega)
   refine⟨.str p,rfl,?_⟩
   walk_at "rd"
   refine YG (λz1=>YG (λz2=>⟨.str p,rfl,?_⟩) (λz2=>good λh=>absurd h z2)) (λz1=>good λ_ p' h h'=>?_)
   ·walk_at "rd"
    have g3:=mod_lt (n:=3) m (by decide)
    obtain⟨p',hp3,hp4⟩:=Tp D.str words (i:=m%3) g3.1 (by rw[w3];exact g3.2)
    refine⟨z1,hk,YG (λz3=>⟨by decide,_,hp4,by decide,?_⟩) (λz3=>good λ_ p' h h' _=>?_)⟩
    ·refine hq [p'] ⟨by simp,by simp,λp h=>?_,λ_ p h=>?_,λ_ p h h1 h2=>?_⟩
     ·rw[mem_singleton.mp h];exact .inr (.inr hp3)
     ·rw[mem_singleton.mp h];exact .inr hp3
     ·cases h;exact absurd hp3 h2
    ·cases h
     omega
   ·cases h
    exact absurd h' z1
  ·exact good λ_ p h=>by rw[h]at e;exact absurd rfl e
theorem Kq(xs:List D){i j:Int}(h0:0<=i)(h1:i<=j):cutD xs (some i) (some j)=(xs.drop i.toNat).take (j-i).toNat:=by
 obtain⟨f,rfl⟩:=Int.eq_ofNat_of_zero_le h0
 obtain⟨g,rfl⟩:∃ g:Nat,j=(f:Int)+g:=⟨(j-f).toNat,by omega⟩
 unfold cutD
 rw[show((f:Int)+(g:Int))=((f+g:Nat):Int) by omega,HT.Pj,HT.Pj,show(((f+g:Nat):Int)-(f:Int)).toNat=g by omega,show(f:Int).toNat=f from rfl]
 refine List.ext_getElem? λi=>?_
 simp only[List.getElem?_take,List.getElem?_drop]
 by_cases h:f<=xs.length
 ·rw[Nat.min_eq_left h]
  by_cases h1:i<g
  ·rw[if_pos h1]
   by_cases h2:f+i<xs.length
   ·rw[if_pos (by omega)]
   ·rw[List.getElem?_eq_none (by omega)]
    split<;>rfl
  ·rw[if_neg h1,if_neg (by omega)]
 ·rw[Nat.min_eq_right (by omega),if_neg (by omega)]
  rw[List.getElem?_eq_none (show xs.length<=f+i by omega)]
  split<;>rfl
theorem zF(xs:List D){j:Int}(h0:0<=j):cutD xs none (some j)=xs.take j.toNat:=by
 have:=Kq xs (i:=0) (j:=j) (by decide) h0
 unfold cutD at this⊢
 rw[HT.Kx]
 rw[show(0:Int)=((0:Nat):Int) from rfl,HT.Pj,Nat.zero_min]at this
 simpa using this
theorem HE(R:D->D->Bool)(xs:List D):WB R xs []=true:=by cases xs<;>rfl
theorem De(xs:List D):D.WK xs []=xs.isEmpty:=by
 cases xs with
 | nil=>with_unfolding_all rfl
 | cons x xs=>with_unfolding_all rfl
abbrev s26:Str := "ABCDEFGHIJKLMNOPQRSTUVWXYZ"
abbrev s36:Str := "abcdefghijklmnopqrstuvwxyz0123456789"
noncomputable def GV:Option (List Str)->D
 | none => .non
 | some us => .lst (us.map .str)
noncomputable def Ru.row(r:Ru):D := .tup [.str r.ti,.str r.hd,.lst (r.ps.map .str),wD r.wa r.wb,.str r.tg,GV r.t]
noncomputable def piece(ns:List Int)(k:Nat):List Int:=(ns.drop (4+5*k)).take 5
noncomputable def pieces(ns:List Int):List (List Int):=((List.range 11).map (piece ns)).filter λp => !p.isEmpty
structure rj (mode:Int)(scale:Str)(kinds words titles heads:List Str)(n:Nat)(r:Ru):Prop where
 hd:r.hd∈kinds
 ps:zy mode heads kinds words r.hd r.ps
 tg:r.tg = "" \/ r.tg∈words
 ti:r.ti∈titles
 wl:Low r.wa r.wb
 wa:Bd 64 r.wa
 wb:Bd 64 r.wb
 wc:scale = "chance" -> mode≠1->mode≠6->0<r.wa
 t1:∀ us,r.t=some us->1<=us.length/\us.length<=4/\∀ u∈us,u∈titles
 t0:mode=0->∀ us,r.t=some us->∀ u∈us,u∈titles.take n
structure BJ (mode:Int)(scale:Str)(kinds words titles:List Str)(rs:List Ru):Prop where
 k:NsOf s26 5 kinds
 w:NsOf s36 3 words
 t:NsOf s36 12 titles
 len:rs.length<=11
 row:∀ r∈rs,rj mode scale kinds words titles (rs.map (·.hd)) rs.length r
 ti:mode=0->rs.map (·.ti)=titles.take rs.length
 hd:∀ r,rs[0]?=some r->kinds[0]?=some r.hd
theorem wLow(c k:Int)(z:Str):Low (wP c k z) (wQ c k z)/\Bd 64 (wP c k z)/\Bd 64 (wQ c k z)/\(z = "chance" -> 0<wP c k z):=by
 have w1:=mz c (mix c k) (Th c k) (by have:=ML c k;omega)
 have w2:=mB (mix c k) (Th c k)
 unfold wP wQ lowP IJ
 have hT : -(2^51)<Da c (mix c k) z/\Da c (mix c k) z<2^51/\(z = "chance" -> 0<Da c (mix c k) z):=by
  unfold Da
  generalize wT c (mix c k)=t at w1⊢
  by_cases e:z = "chance"
  ·rw[if_pos e]
   refine⟨?_,?_,λ_=>?_⟩<;>split<;>omega
  ·rw[if_neg e]
   refine⟨?_,?_,λh=>absurd h e⟩<;>split<;>omega
 generalize Da c (mix c k) z=t at hT⊢
 generalize wB (mix c k)=b at w2⊢
 have gp:=Ng (a:=t) (b:=b) (by omega)
 obtain⟨l,e,l1,l2⟩:=vS (a:=t) (b:=b) (d:=(Int.gcd t b:Int)) (by omega) (.inl rfl) (Int.mul_pos w2.1 gp)
 refine⟨l,(Bd.of (n:=64) (i:=t) (by omega) (by omega)).le l1,(Bd.of (n:=64) (i:=b) (by omega) (by omega)).le l2,λz=>?_⟩
 have:0<t.fdiv (Int.gcd t b:Int)*b:=by rw[e];exact Int.mul_pos (hT.2.2 z) l.pos
 exact Int.pos_of_mul_pos_left this w2.1
theorem HF(ns:List Int):(pieces ns).length<=11/\∀ p∈pieces ns,0<p.length/\p.length<=5:=by
 unfold pieces
 refine⟨?_,λp hp=>?_⟩
 ·have:=length_filter_le (λp:List Int => !p.isEmpty) ((List.range 11).map (piece ns))
  simpa using this
 ·obtain⟨h1,h2⟩:=mem_filter.mp hp
  obtain⟨k,_,rfl⟩:=mem_map.mp h1
  refine⟨?_,?_⟩
  ·cases q:piece ns k with
   | nil=>rw[q]at h2;cases h2
   | cons a b=>simp
  ·unfold piece
   rw[length_take]
   omega
noncomputable def pc(ns:List Int)(k:Nat):List Int:=(pieces ns).getD k []
theorem mC(ns:List Int){k:Nat}(h:k<(pieces ns).length):atI ((pieces ns).map λp=>D.lst (p.map .int)) (k:Int)=some (.lst ((pc ns k).map .int))/\0<(pc ns k).length/\(pc ns k).length<=5:=by
 have e:(pieces ns)[k]?=some (pc ns k):=by
  unfold pc
  rw[getD_eq_getElem?_getD,aA h]
  rfl
 exact⟨YY (by rw[getElem?_map,e];rfl),(HF ns).2 _ (mem_of_getElem? e)⟩
noncomputable def Og(ns:List Int)(kinds:List Str)(k:Nat):Str:=kinds.getD (if 0<k then (mix ((pc ns k).getD 0 0) 1%4).toNat else 0) ""
noncomputable def Vh(ns:List Int)(kinds:List Str):List Str:=(List.range (pieces ns).length).map (Og ns kinds)
theorem Df(ns:List Int){kinds:List Str}(h:kinds.length=5)(k:Nat):Og ns kinds k∈kinds:=by
 unfold Og
 have:=Th ((pc ns k).getD 0 0) 1
 have hl:(if 0<k then (mix ((pc ns k).getD 0 0) 1%4).toNat else 0)<kinds.length:=by split<;>omega
 rw[getD_eq_getElem?_getD,aA hl]
 exact getElem_mem hl
noncomputable def st8(ns:List Int)(mode:Int)(scale:Str)(kinds words titles:List Str)(rows:List D)(tl:DSt):DSt := .v (.scr (ns.map .int)) :: .v (.int mode) :: .v (.str scale) :: .v (.lst (kinds.map .str)) :: .v (.lst (words.map .str)) :: .v (.lst (titles.map .str)) :: .v (.lst ((pieces ns).map λp => .lst (p.map .int))) :: .v (.lst ((Vh ns kinds).map .str)) :: .own rows::tl
noncomputable def IK:DSp:=λxs q _=>∃ (ns:List Int) (mode:Int) (scale:Str),xs=[.scr (ns.map .int),.int mode,.str scale]/\∀ kinds words titles rs,BJ mode scale kinds words titles rs->rs.length=(pieces ns).length->q (.tup [.lst (kinds.map .str),.lst (rs.map Ru.row)])
theorem Jy{A:Adr}(T:Txt K mg A):ZL P w K mg base (CXE P w) 3 A.Vz A.Sy Vw (spD K IK):=by
 haveI:TxC K A:=⟨⟨_,T⟩⟩
 refine T.VC.F.okJ Zt (by walk_at "ln") (λcdv Ar outer s H E hr=>⟨_,(Zb (ZI 3 Zt.nd (Zw (OQ T) T.UD hr (Zc (Zw (NQ T) T.L_l_at hr (Zc (jv 0) (Zc Zd Za))) (Zc Zd (Zc Zg Za)))))
   (Zb (ZI 4 Zt.nd (Zw (OQ T) T.UD hr (Zc (Zw (NQ T) T.L_l_at hr (Zc (jv 0) (Zc Zd Za))) (Zc Zd (Zc Zg Za)))))
   (Zb (ZI 5 Zt.nd (Zw (OQ T) T.UD hr (Zc (Zw (NQ T) T.L_l_at hr (Zc (jv 0) (Zc Zd Za))) (Zc Zd (Zc Zg Za)))))
   (Zb (ZI 6 Zt.nd (ZU ["_law_k"] ["_law_script"] [0] (Xo (by rfl) T.b_range (Zc Zd Za)) (λ_=>(Yj 0 (nDk ["_law_k"] ["_law_script"]))) (λ_=>ZW) (λ_=>(YD (jv 1) (Yx (Zh Zi Zd (Zh VN Zd (jv 0)))) (Yx (Zh Zi Zd (Zh VN Zd (jv 0))))))))
   (Zb (ZI 6 Zt.nd (ZU ["_law_part"] [] [] (ZZ (jv 6)) (λ_=>(Yj 0 (nDk ["_law_part"] []))) (λ_=>(Sq (Zm (XO hr.Yd) (jv 0) (ZH Za) (Zk _)))) (λ_=>(jv 0))))
   (Zb (SX (i:=7) ["_law_k"] ["_law_kinds", "_law_parts"] [3,6] Zt.nd rfl (Or.inl rfl) (Xo (by rfl) T.b_range (Zc (Yl ZY (by rfl) T.b_len PySem.boot_len (Zc (jv 6) Za)) Za)) (λ_=>(Yj 0 (nDk ["_law_k"] ["_law_kinds", "_law_parts"]))) (λ_=>ZW) (λ_=>(Zj (jv 1) (Zj (Yz (Zc Zd (Zc (Zh Zu (Zw (VM T) T.L_l_mix hr (Zc (Zj (Zj (jv 2) (jv 0)) Zd) (Zc Zd Za))) Zd) Za))) (UK Np (by rfl) T.b_int PyProof.Rows.boot_int (Zc (Xs Ho (jv 0) Zd (Zk _)) Za))))))
   (Zb (Vt (i:=8) Zt.nd rfl (Or.inl rfl) (Sn Za))
   (Zb (Xl (UL PassesOwn.leaving (Xo (by rfl) T.b_range (Zc (Yl ZY (by rfl) T.b_len PySem.boot_len (Zc (jv 6) Za)) Za)) (Yj 9 Zt.nd) (Zb (ZI 10 Zt.nd (Zw (VM T) T.L_l_mix hr (Zc (Zj (Zj (jv 6) (jv 9)) (Mo Zd)) (Zc Zd Za))))
   (Zb (ZI 11 Zt.nd (Zj (jv 5) (jv 9)))
   (Zb (Xl (ZC [] (WO (XJ (Zm (Yk hr.Yd) (jv 1) Zd (Zk _)) (XM (WO (Vk (Zm (Yk hr.Yd) (jv 1) Zd (Zk _)) (Wl (Zm (Yk hr.Yd) (Zh Zu (jv 10) Zd) Zd (Zk _)))))))) (Ze (ZI 11 Zt.nd (Zj (jv 5) (Zh Zu (Zh Zz (jv 10) Zd) Zd)))) Zo))
   (Zb (ZI 12 Zt.nd (Zw (Dc T) T.RP hr (Zc (Zj (Zj (jv 6) (jv 9)) (Zh Zu Zd (Yl ZY (by rfl) T.b_len PySem.boot_len (Zc (Zj (jv 6) (jv 9)) Za)))) (Zc Zd (Zc (jv 2) Za)))))
   (Zb (Xl (ZC [] (WO (Vk (WO (XJ (Zm (Yk hr.Yd) (jv 1) Zd (Zk _)) (XM (Zm (Yk hr.Yd) (jv 1) Zd (Zk _))))) (Wl (Zm (Yk hr.Yd) (Zh Zu (jv 10) Zd) Zd (Zk _))))) (Ze (ZI 12 Zt.nd (Zj (Yz (Zc (Yz (Zc Zd (Zc Zd Za))) (Zc (Yz (Zc (Mo Zd) (Zc Zd Za))) (Zc (Yz (Zc (Zh lX (Mo (Zh Zu (jv 10) (Zh CH Zd Zd))) Zd) (Zc Zd Za))) Za)))) (Zh Zu (Zh Zz (jv 10) Zd) Zd)))) Zo))
   (Zb (ZI 13 Zt.nd (YD (jv 5) Wm (Yx (Yl ZY (by rfl) T.b_len PySem.boot_len (Zc (jv 6) Za)))))
   (Zb (Xl (ZC [] (WO (XJ (Zm (Yk hr.Yd) (jv 1) Zd (Zk _)) (XM (WO (Vk (Zm (Yk hr.Yd) (jv 1) Zd (Zk _)) (Wl (Zm (Yk hr.Yd) (Zh Zu (jv 10) Zd) Zd (Zk _)))))))) (Ze (ZI 13 Zt.nd (jv 5))) Zo))
   (Zb (ZI 14 Zt.nd Qb)
   (Zb (Xl (ZC [] (Zm (Yk hr.Yd) (Zh Zu (Zh Zz (jv 10) Zd) Zd) Zd (Zk _)) (Ze (SX (i:=14) ["_law_j"] ["_law_some", "_law_n"] [13,10] Zt.nd rfl (Or.inl rfl) (Xo (by rfl) T.b_range (Zc (Zh Zi Zd (Zh Zu (Zh Zz (jv 10) Zd) Zd)) Za)) (λ_=>(Yj 0 (nDk ["_law_j"] ["_law_some", "_law_n"]))) (λ_=>ZW) (λ_=>(Zj (jv 1) (Zh Zu (Zh Zz (jv 2) (Zh Zi Zd (Zh VN Zd (jv 0)))) (Yl ZY (by rfl) T.b_len PySem.boot_len (Zc (jv 1) Za))))))) Zo))
   (Zb (ZI 15 Zt.nd (Zj (Yz (Zc Zg (Zc (Zj (jv 4) (Zh Zu (Zh Zz (jv 10) Zd) Zd)) Za))) (Zh Zu (Zh Zz (jv 10) Zd) Zd)))
   (Zb (ZI 16 Zt.nd (Zw (LV T) T.Vf hr (Zc (Zj (jv 6) (jv 9)) (Zc (jv 1) (Zc (jv 7) (Zc (jv 3) (Zc (jv 4) (Zc (Zj (jv 7) (jv 9)) Za))))))))
   (Ze (KS [] 8 (Yz (Zc (jv 11) (Zc (Zj (jv 7) (jv 9)) (Zc (jv 16) (Zc (jv 12) (Zc (jv 15) (Zc (jv 14) Za))))))))))))))))))))))
   (Ze (Zr [8] (Yz (Zc (jv 3) (Zc (jv 8) Za))))))))))))),λxs q x h=>?_⟩)
 ·obtain⟨ns,mode,scale,rfl,hq⟩:=h
  have hsz:az=16777216:=rfl
  walk_at "rd"
  refine⟨_,_,rfl,by decide,_,5,_,rfl,by decide,by decide,by decide,by decide +kernel,λkinds hK=>?_⟩
  refine⟨_,_,rfl,by decide,_,3,_,rfl,by decide,by decide,by decide,by decide +kernel,λwords hW=>?_⟩
  refine⟨_,_,rfl,by decide,_,12,_,rfl,by decide,by decide,by decide,by decide +kernel,λtitles hT=>?_⟩
  walk_at "rd"
  refine⟨by decide,by decide,Tg (λk => .lst ((piece ns k).map .int)) (by decide) (λk hk N hN=>?_) ?_⟩
  ·walk_at "rd"
   refine⟨.l (by omega) (by omega),.l (by omega) (by omega),?_⟩
   rw[Kq _ (by omega) (by omega),show(9+5*(k:Int)-(4+5*(k:Int))).toNat=5 by omega,show(4+5*(k:Int)).toNat=4+5*k by omega,<-map_drop,<-map_take]
   exact hN
  have e11:(List.range (Int.toNat 11)).map (λk=>D.lst ((piece ns k).map .int))=((List.range 11).map (piece ns)).map λp => .lst (p.map .int):=by rw[map_map];rfl
  rw[e11]
  refine VZ (λp => !p.isEmpty) (λp => .lst (p.map .int)) (by rw[length_map,length_range];decide) (λp hp N hN=>?_) (λp hp _ N hN=>?_) ?_
  ·walk_at "rd"
   rw[HE,De]
   refine⟨by decide,rfl,?_⟩
   have:(p.map D.int).isEmpty=p.isEmpty:=by cases p<;>rfl
   rw[this]
   exact hN
  ·walk_at "rd"
   exact hN
  change _/\_
  rw[show((List.range 11).map (piece ns)).filter (λp => !p.isEmpty)=pieces ns from rfl]
  obtain⟨L11,hL⟩:=HF ns
  obtain⟨K1,K2,K3⟩:=id hK
  rw[length_map]
  refine⟨by omega,by omega,Tg (λk => .str (Og ns kinds k)) (by omega) (λk hk N hN=>?_) ?_⟩
  ·have hk:k<(pieces ns).length:=by omega
   obtain⟨a1,a2,a3⟩:=mC ns hk
   walk_at "rd"
   have g0:atI ((pc ns k).map D.int) 0=some (.int ((pc ns k).getD 0 0)):=VD D.int (pc ns k) 0 (i:=0) (by decide) (by omega)
   refine⟨_,a1,_,g0,_,_,rfl,by decide,by decide,?_⟩
   walk_at "rd"
   have mm:=Th ((pc ns k).getD 0 0) 1
   unfold Og at hN
   by_cases hk0:0<k
   ·rw[if_pos hk0]at hN
    rw[if_pos (decide_eq_true (by omega))]
    exact⟨by decide,by decide,_,rfl,_,VD D.str kinds "" (by omega) (by omega),hN⟩
   ·rw[if_neg hk0]at hN
    rw[if_neg (by simp;omega)]
    exact⟨by decide,by decide,_,rfl,_,VD D.str kinds "" (i:=0) (by decide) (by omega),hN⟩
  rw[show((pieces ns).length:Int).toNat=(pieces ns).length by omega,show(List.range (pieces ns).length).map (λk=>D.str (Og ns kinds k))=(Vh ns kinds).map .str from by unfold Vh;rw[map_map];rfl]
  have lH:(Vh ns kinds).length=(pieces ns).length:=by unfold Vh;simp
  refine⟨by decide,λds'=>∃ (rs:List Ru) (tl:DSt),ds'=st8 ns mode scale kinds words titles (rs.map Ru.row) tl/\rs.length=(pieces ns).length/\(∀ r∈rs,rj mode scale kinds words titles (Vh ns kinds) (pieces ns).length r)/\(mode=0->rs.map (·.ti)=titles.take (pieces ns).length)/\rs.map (·.hd)=Vh ns kinds,?_,?_⟩
  ·refine⟨[],?_⟩
   walk_at "rd"
   refine⟨by omega,by omega,SZ (λi ds'=>∃ (rs:List Ru) (s9 s10 s11 s12 s13 s14 s15 s16:L2.Slot),ds'=st8 ns mode scale kinds words titles (rs.map Ru.row) [s9,s10,s11,s12,s13,s14,s15,s16]/\rs.length=i/\(∀ r∈rs,rj mode scale kinds words titles (Vh ns kinds) (pieces ns).length r)/\(mode=0->rs.map (·.ti)=titles.take i)/\rs.map (·.hd)=(Vh ns kinds).take i) ⟨[],_,_,_,_,_,_,_,_,rfl,rfl,λr h=>absurd h (by simp),λ_=>rfl,rfl⟩ (λi ds N hi ⟨rs,s9,s10,s11,s12,s13,s14,s15,s16,e,rl,hr,ht,hh⟩ hn=>?_) (λds ⟨rs,s9,s10,s11,s12,s13,s14,s15,s16,e,rl,hr,ht,hh⟩=>⟨rs,_,e,?_⟩)⟩
   ·subst e
    have hi:i<(pieces ns).length:=by omega
    obtain⟨a1,a2,a3⟩:=mC ns hi
    obtain⟨T1,T2,T3⟩:=id hT
    obtain⟨W1,W2,W3⟩:=id hW
    unfold st8
    walk_at "rd"
    obtain⟨c4,lst⟩:∃ c4:Int,atI ((pc ns i).map D.int) (-1)=some (.int c4):=by
     rcases List.eq_nil_or_concat (pc ns i) with e|⟨ini,c4,e⟩
     ·rw[e]at a2
      cases a2
     ·refine⟨c4,?_⟩
      rw[e,List.concat_eq_append,map_append]
      exact vx _ _
    obtain⟨ti0,hti0,eti0⟩:∃ t,titles[i]?=some t/\atI (titles.map D.str) (i:Int)=some (.str t):=⟨titles[i]'(by omega),aA _,YY (by rw[getElem?_map,aA (by omega)];rfl)⟩
    rw[Int.zero_add]
    refine⟨_,a1,_,lst,_,_,rfl,by decide,by decide,_,eti0,?_⟩
    have n0:=Th c4 4
    have n1:=ML c4 4
    generalize mix c4 4=n at n0 n1⊢
    refine⟨λds'=>∃ ti:Str,ds'=st8 ns mode scale kinds words titles (rs.map Ru.row) [.v (.int i),.v (.int n),.v (.str ti),s12,s13,s14,s15,s16]/\ti∈titles/\(mode=0->ti=ti0),?_,?_⟩
    ·unfold st8
     walk_at "rd"
     have g9:=mod_lt (n:=9) (n/11) (by decide)
     obtain⟨ti,h1,h2⟩:=Tp D.str titles (i:=n/11%9) g9.1 (by omega)
     exact YG (λe=>⟨by decide,XW (by decide) (by decide),by decide,_,h2,ti,rfl,h1,λe'=>by omega⟩) (λe=>YG (λe1=>⟨by decide,YG (λe2=>⟨by decide,XW (by decide) (by decide),by decide,_,h2,ti,rfl,h1,λe'=>by omega⟩) (λ_=>⟨mem_of_getElem? hti0,λ_=>trivial⟩)⟩) (λ_=>⟨mem_of_getElem? hti0,λ_=>trivial⟩))
    rintro _ ⟨ti,rfl,q1,q2⟩
    unfold st8
    walk_at "rd"
    refine⟨_,a1,_,a1,?_⟩
    walk_at "rd"
    rw[XQ (show(0:Int)<(pc ns i).length by omega)]
    obtain⟨g1,g2⟩:=mod_lt (1:Int) a2
    obtain⟨cw,_,hcw⟩:=Tp D.int (pc ns i) g1 g2
    refine⟨by omega,_,hcw,_,_,_,rfl,by decide,by decide,?_⟩
    obtain⟨v1,v2,v3,v4⟩:=wLow cw 5 scale
    generalize wP cw 5 scale=wa0 at v1 v2 v3 v4⊢
    generalize wQ cw 5 scale=wb0 at v1 v2 v3 v4⊢
    refine⟨λds'=>∃ wa wb:Int,ds'=st8 ns mode scale kinds words titles (rs.map Ru.row) [.v (.int i),.v (.int n),.v (.str ti),.v (wD wa wb),s13,s14,s15,s16]/\Low wa wb/\Bd 64 wa/\Bd 64 wb/\(scale = "chance" -> mode≠1->mode≠6->0<wa),?_,?_⟩
    ·unfold st8
     walk_at "rd"
     rw[show Ni n (10^Int.toNat 6)=n%10^6 from XQ (by decide)]
     have g3:=mod_lt (n:=3) (n/7) (by decide)
     obtain⟨p,hp,ep⟩:=Tp (λp:Int×Int=>wD p.1 p.2) [(0,1),(-1,3),(-(n%10^6)-1,1)] (i:=n/7%3) g3.1 g3.2
     have hp':Low p.1 p.2/\Bd 64 p.1/\Bd 64 p.2:=by
      simp only[mem_cons,not_mem_nil,or_false]at hp
      rcases hp with rfl|rfl|rfl
      ·exact⟨⟨by decide,by decide⟩,Bd.of (by decide) (by decide),Bd.of (by decide) (by decide)⟩
      ·exact⟨⟨by decide,by decide⟩,Bd.of (by decide) (by decide),Bd.of (by decide) (by decide)⟩
      ·exact⟨⟨(by decide:(0:Int)<1),Int.gcd_one_right _⟩,Bd.of (show -(2^64) < -(n%10^6)-1 by omega) (show -(n%10^6)-1<2^64 by omega),Bd.of (i:=1) (by decide) (by decide)⟩
     have old:∃ wa wb,wD wa0 wb0=wD wa wb/\Low wa wb/\Bd 64 wa/\Bd 64 wb/\(scale = "chance" -> ¬mode=1->¬mode=6->0<wa):=⟨_,_,rfl,v1,v2,v3,λe _ _=>v4 e⟩
     refine YG (λe=>⟨by decide,YG (λ_=>⟨by decide,by decide,⟨by decide,by decide,by decide⟩,by decide,by decide,by decide,by decide,XW (by decide) (by decide),by decide,_,ep,_,_,rfl,hp'.1,hp'.2.1,hp'.2.2,λ_ z=>absurd e z⟩) (λ_=>old)⟩) (λ_=>YG (λe=>⟨by decide,YG (λ_=>⟨by decide,by decide,⟨by decide,by decide,by decide⟩,by decide,by decide,by decide,by decide,XW (by decide) (by decide),by decide,_,ep,_,_,rfl,hp'.1,hp'.2.1,hp'.2.2,λ_ _ z=>absurd e z⟩) (λ_=>old)⟩) (λ_=>old))
    rintro _ ⟨wa,wb,rfl,u1,u2,u3,u4⟩
    unfold st8
    walk_at "rd"
    rw[zF _ (by omega),show((pieces ns).length:Int).toNat=(pieces ns).length by omega,<-map_take]
    refine⟨λds'=>∃ some:List Str,ds'=st8 ns mode scale kinds words titles (rs.map Ru.row) [.v (.int i),.v (.int n),.v (.str ti),.v (wD wa wb),.v (.lst (some.map .str)),s14,s15,s16]/\0<some.length/\(∀ z∈some,z∈titles)/\(mode=0->some=titles.take (pieces ns).length),?_,?_⟩
    ·unfold st8
     walk_at "rd"
     have o1:0<(titles.take (pieces ns).length).length:=by rw[length_take];omega
     have old:∃ some,(titles.take (pieces ns).length).map D.str=some.map D.str/\0<some.length/\(∀ z,z∈some->z∈titles)/\(mode=0->some=titles.take (pieces ns).length):=⟨_,rfl,o1,λz hz=>mem_of_mem_take hz,λ_=>rfl⟩
     have new:mode≠0->∃ some,titles.map D.str=some.map D.str/\0<some.length/\(∀ z,z∈some->z∈titles)/\(mode=0->some=titles.take (pieces ns).length):=λe=>⟨_,rfl,by omega,λz hz=>hz,λe'=>absurd e' e⟩
     exact YG (λe=>new (by omega)) (λ_=>YG (λe=>⟨by decide,YG (λ_=>new (by omega)) (λ_=>old)⟩) (λ_=>old))
    rintro _ ⟨some,rfl,z1,z2,z3⟩
    unfold st8
    walk_at "rd"
    refine⟨λds'=>∃ t:Option (List Str),ds'=st8 ns mode scale kinds words titles (rs.map Ru.row) [.v (.int i),.v (.int n),.v (.str ti),.v (wD wa wb),.v (.lst (some.map .str)),.v (GV t),s15,s16]/\∀ us,t=Option.some us->1<=us.length/\us.length<=4/\∀ u∈us,u∈some,?_,?_⟩
    ·unfold st8
     walk_at "rd"
     refine⟨by decide,XW (by decide) (by decide),by decide,YG (λ_=>⟨by decide,XW (by decide) (by decide),by decide,by omega,by omega,?_⟩) (λ_=>⟨none,rfl,λus e=>by cases e⟩)⟩
     let uF:Nat->Str:=λj=>some.getD (Nh n (231+3*(j:Int))%(some.length:Int)).toNat ""
     refine Tg (λj => .str (uF j)) (by omega) (λj hj N hN=>?_) ⟨Option.some ((List.range (1+n/462%2).toNat).map uF),by show _=D.lst (map D.str (map uF _));rw[map_map];rfl,λus e=>?_⟩
     ·walk_at "rd"
      rw[XQ (show(0:Int)<some.length by omega)]
      obtain⟨g1,g2⟩:=mod_lt (Nh n (231+3*(j:Int))) z1
      exact⟨.l (by decide) (by decide),by omega,XW (by omega) (by omega),by omega,_,VD D.str some "" g1 g2,hN⟩
     ·cases e
      rw[length_map,length_range]
      refine⟨by omega,by omega,λu hu=>?_⟩
      obtain⟨j,_,rfl⟩:=mem_map.mp hu
      exact(getD_in some "" (Nh n (231+3*(j:Int))) z1).2
    rintro _ ⟨t,rfl,y1⟩
    unfold st8
    walk_at "rd"
    have g3:=mod_lt (n:=3) (n/924) (by decide)
    obtain⟨wd,hwd,ewd⟩:=Tp D.str words (i:=n/924%3) g3.1 (by omega)
    have g2:=mod_lt (n:=2) (n/2772) (by decide)
    obtain⟨tg,htg,etg⟩:=Tp D.str ["",wd] (i:=n/2772%2) g2.1 g2.2
    have ehd:atI ((Vh ns kinds).map D.str) (i:Int)=Option.some (.str (Og ns kinds i)):=YY (by unfold Vh;rw[map_map,getElem?_map,List.getElem?_range hi];rfl)
    refine⟨by decide,XW (by decide) (by decide),by decide,_,ewd,by decide,by decide,XW (by decide) (by decide),by decide,_,etg,_,a1,_,ehd,?_⟩
    refine⟨_,mode,Vh ns kinds,kinds,words,_,rfl,a2,by omega,by omega,by omega,by omega,by omega,W1,Df ns K1 i,λps hps=>⟨_,ehd,by decide,by omega,hn _ ⟨rs++[⟨ti,Og ns kinds i,ps,wa,wb,tg,t⟩],.v (.int i),.v (.int n),.v (.str ti),.v (wD wa wb),.v (.lst (some.map .str)),.v (GV t),.v (.str tg),.v (.lst (ps.map .str)),?_,?_,λr hr'=>?_,λe=>?_,?_⟩⟩⟩
    ·unfold st8
     rw[map_append]
     rfl
    ·rw[length_append,rl];rfl
    ·rcases mem_append.mp hr' with z|z
     ·exact hr r z
     ·rw[mem_singleton.mp z]
      refine⟨Df ns K1 i,hps,?_,q1,u1,u2,u3,u4,λus e=>?_,λe us e' u hu=>?_⟩
      ·simp only[mem_cons,not_mem_nil,or_false]at htg
       rcases htg with e|e
       ·exact .inl e
       ·exact .inr (by show tg∈words;rw[e];exact hwd)
      ·obtain⟨x1,x2,x3⟩:=y1 us e
       exact⟨x1,x2,λu hu=>z2 u (x3 u hu)⟩
      ·rw[<-z3 e]
       exact(y1 us e').2.2 u hu
    ·rw[map_append,ht e,take_add_one,hti0,<-q2 e]
     rfl
    ·rw[map_append,hh,take_add_one]
     congr 1
     unfold Vh
     rw[getElem?_map,List.getElem?_range hi]
     rfl
   ·rw[show((pieces ns).length:Int).toNat=(pieces ns).length by omega]at rl ht hh
    refine⟨rl,hr,ht,?_⟩
    rw[hh,take_of_length_le (by omega)]
  rintro _ ⟨rs,tl,rfl,rl,hr,ht,hh⟩
  unfold st8
  walk_at "rd"
  refine⟨by decide,hq kinds words titles rs ⟨hK,hW,hT,by omega,λr h=>?_,λe=>?_,λr h=>?_⟩ rl⟩
  ·rw[hh,rl]
   exact hr r h
  ·rw[rl]
   exact ht e
  ·have e1:(rs.map (·.hd))[0]?=some r.hd:=by rw[getElem?_map,h];rfl
   have h0:0<(pieces ns).length:=by
    rw[<-rl]
    exact(List.getElem?_eq_some_iff.mp h).1
   rw[hh]at e1
   unfold Vh at e1
   rw[getElem?_map,List.getElem?_range h0]at e1
   have e2:Og ns kinds 0=r.hd:=Option.some.inj e1
   rw[<-e2]
   unfold Og
   rw[if_neg (by decide),getD_eq_getElem?_getD,aA (by omega)]
   rfl
noncomputable def loC(c:Nat):Nat:=if 65<=c/\c<=90 then c+32 else c
theorem rn:∀ c∈s62.cps.toList,Unicode.lowerOf c=[loC c]/\(c==0x3A3)=false/\loC c∈s36.cps.toList:=by decide +kernel
theorem rp{x:Str}(h:∀ c∈x.cps.toList,c∈s62.cps.toList):(Txt.lower x).cps.toList=x.cps.toList.map loC:=by
 show((x.cps.mapIdx λi _=>(Unicode.lowerAt x.cps i).toArray).flatten).toList=_
 rw[Array.toList_flatten,Array.toList_mapIdx]
 have e:(x.cps.toList.mapIdx λi _=>(Unicode.lowerAt x.cps i).toArray).map Array.toList=x.cps.toList.map λc=>[loC c]:=by
  refine List.ext_getElem? λi=>?_
  rw[getElem?_map,List.getElem?_mapIdx,getElem?_map]
  cases q:x.cps.toList[i]? with
  | none=>rfl
  | some c =>
   obtain⟨h1,h2,_⟩:=rn c (h c (mem_of_getElem? q))
   have q':x.cps[i]?=some c:=by rw[<-Array.getElem?_toList];exact q
   simp only[Option.map_some,Unicode.lowerAt,q',h2,Bool.false_and,Bool.false_eq_true,if_false,h1]
 rw[e]
 generalize x.cps.toList=l
 induction l with
 | nil=>rfl
 | cons a l ih=>rw[map_cons,flatten_cons,ih];rfl
theorem jI:s62.cps.toList=YB.cps.toList++Yy.cps.toList++ZD.cps.toList:=by decide +kernel
theorem rq(c:Nat):decide (c∈s62.cps.toList)=nmS c:=by
 unfold nmS
 rw[jI]
 simp only[mem_append,Bool.decide_or,Bool.or_assoc]
 rw[Bool.or_comm (decide (c∈Yy.cps.toList))]
theorem GW:∀ c∈s26.cps.toList,c∈s62.cps.toList/\grS c=true:=by decide +kernel
theorem GX:∀ c∈s36.cps.toList,c∈s62.cps.toList/\grS c=false:=by decide +kernel
theorem GY{z:Str}(h1:1<=z.length)(h2:z.length<=12)(h:∀ c∈z.cps.toList,c∈s62.cps.toList):isNm z=true:=by
 unfold isNm
 rw[decide_eq_true h1,decide_eq_true h2,show z.cps.toList.all nmS=true from all_eq_true.mpr λc hc=>by rw[<-rq];exact decide_eq_true (h c hc)]
 rfl
theorem BK{z:Str}{c:Nat}{r:List Nat}(e:z.cps.toList=c::r):fst z=c:=by unfold fst;rw[e];rfl
theorem II.kd{z:Str}(h:II s26 z):YS z=true:=by
 have hl:=h.len
 obtain⟨c,r,e,hc,hr,_⟩:=h
 unfold YS
 rw[BK e,(GW c hc).2,GY hl.1 hl.2 (by rw[e];intro d hd;rcases mem_cons.mp hd with rfl|hd;exact(GW _ hc).1;exact hr d hd)]
 rfl
theorem II.wd{z:Str}(h:II s36 z):YQ z=true:=by
 have hl:=h.len
 obtain⟨c,r,e,hc,hr,_⟩:=h
 unfold YQ
 rw[BK e,(GX c hc).2,GY hl.1 hl.2 (by rw[e];intro d hd;rcases mem_cons.mp hd with rfl|hd;exact(GX _ hc).1;exact hr d hd)]
 rfl
theorem II.low{z:Str}(h:II s26 z):YQ (Txt.lower z)=true/\(Txt.lower z).length<=12:=by
 have hl:=h.len
 obtain⟨c,r,e,hc,hr,_⟩:=h
 have h62:∀ d∈z.cps.toList,d∈s62.cps.toList:=by
  rw[e]
  intro d hd
  rcases mem_cons.mp hd with rfl|hd
  ·exact(GW _ hc).1
  ·exact hr d hd
 have es:=rp h62
 have el:(Txt.lower z).length=z.length:=by rw[Zy,es,length_map,<-Zy]
 have e1:(Txt.lower z).cps.toList=loC c::r.map loC:=by rw[es,e];rfl
 refine⟨?_,by omega⟩
 unfold YQ
 rw[BK e1,(GX _ (rn c (GW c hc).1).2.2).2,GY (by omega) (by omega) (λd hd=>by
  rw[es]at hd
  obtain⟨y,hy,rfl⟩:=mem_map.mp hd
  exact(GX _ (rn y (h62 y hy)).2.2).1)]
 rfl
theorem HG{z:Str}(h:YQ z=true):YS z=false:=by
 unfold YQ at h
 unfold YS
 rw[aD]at h
 rw[h.1]
 simpa using h.2
theorem Sf{z:Str}(h:YS z=true):isNm z=true:=by unfold YS at h;rw[aD]at h;exact h.1
theorem Vi{z:Str}(h:YQ z=true):isNm z=true:=by unfold YQ at h;rw[aD]at h;exact h.1
theorem IL{A:Adr}(T:Txt K mg A):ZL P w K mg base (CXE P w) 1 A.Ui A.Rv Ua (spD K RQ):=by
 haveI:TxC K A:=⟨⟨_,T⟩⟩
 refine T.Us.F.okJ Iw (by walk_at "ln") (λcdv Ar outer s H E hr=>⟨_,(Ze (Zr [] (SR (AB PX PX Zd (Yl ZY (by rfl) T.b_len PySem.boot_len (Zc (jv 0) Za)) (Xn (.int 40) (by rfl) T.Jp.choose_spec (show RelV (.int 40) _ from⟨_,rfl⟩) (λ_ _=>rfl))) (UI (Yl SV (by rfl) T.b_all PyProof.Rows.boot_all (Zc (ZU ["sign"] [] [] (CQ (jv 0)) (λ_=>(Yj 0 (nDk ["sign"] []))) (λ_=>ZW) (λ_=>(Xs VY (jv 0) (Xn (.str Yy) (by rfl) T.HC.choose_spec (show RelV (.str Yy) _ from⟨_,rfl⟩) (λ_ _=>rfl)) (by with_unfolding_all rfl)))) Za)))))),λxs q x h=>?_⟩)
 ·obtain⟨z,rfl,hz,hq⟩:=h
  have el:z.cps.toList.length=z.length:=(Zy z).symm
  have kf:Tf z.cps.toList=false->q (.bl false):=λe=>by rw[<-e];exact hq
  walk_at "rd"
  refine⟨hz,YG (λh1=>YG (λh2=>?_) (λh2=>kf ?_)) (λh1=>kf ?_)⟩
  ·refine Yu (c:=λc => .str ⟨#[c]⟩) (xs:=z.cps.toList) (λc => .bl (decide (c∈Yy.cps.toList))) (by rw[el];exact hz) (λc _ N hN=>?_) ?_
   ·walk_at "rd"
    rw[Se]
    exact hN
   ·rw[Ms]
    unfold Tf at hq
    rw[el,decide_eq_true (show 1<=z.length by omega),decide_eq_true (show z.length<=40 by omega)]at hq
    exact hq
  ·unfold Tf;rw[el,decide_eq_false (show ¬ z.length<=40 by omega)];simp
  ·unfold Tf;rw[el,decide_eq_false (show ¬ 1<=z.length by omega)];simp
theorem NU{l:List Nat}(h:Tf l=true):1<=l.length/\l.length<=40:=by
 unfold Tf at h
 simp only[aD,decide_eq_true_eq]at h
 exact h.1
theorem nE{a b:Nat}:((⟨#[a]⟩:Str)=⟨#[b]⟩)↔a=b:=by
 constructor
 ·intro e
  have:=congrArg (λz:Str=>z.cps.toList) e
  simpa using this
 ·intro e;rw[e]
theorem NV{A:Adr}(T:Txt K mg A):ZL P w K mg base (CXE P w) 2 A.TQ A.QJ TF (spD K QR):=by
 haveI:TxC K A:=⟨⟨_,T⟩⟩
 refine T.VJ.F.okJ GF (by walk_at "ln") (λcdv Ar outer s H E hr=>⟨_,(Ze (Zr [] (SR (Zw (IL T) T.Us hr (Zc (jv 0) Za)) (UI (Xs (XO hr.Yd) (Zj (jv 0) Zd) Zg (Zk _)))))),λxs q x h=>?_⟩)
 ·obtain⟨z,rfl,hz,hq⟩:=h
  walk_at "rd"
  refine⟨hz,?_⟩
  unfold QQ at hq
  cases hn:Tf z.cps.toList with
  | false=>rw[hn]at hq;exact hq
  | true =>
   rw[hn]at hq
   have hl:=NU hn
   rw[if_pos rfl]
   refine⟨hz,_,RT (j:=0) rfl (by omega),?_⟩
   have e:z.cps.toList[0]=z.cps.toList.getD 0 0:=by rw[getD_eq_getElem?_getD,aA (by omega)];rfl
   rw[e]
   have e2:decide ((⟨#[z.cps.toList.getD 0 0]⟩:Str)=aG "0")=decide (z.cps.toList.getD 0 0=48):=decide_eq_decide.mpr (nE (b:=48))
   rw[e2]
   exact hq
theorem Dg(x:Str):(Txt.removeprefix x "-").cps.toList=Od x.cps.toList:=by
 have es:Builtin.Str.subAt x "-" 0=decide (x.cps.toList.take 1=[45]):=by
  unfold Builtin.Str.subAt
  rw[Bool.eq_iff_iff,beq_iff_eq,decide_eq_true_eq]
  have e1:(x.cps.extract 0 (0+(aG "-").length)).toList=x.cps.toList.take 1:=by
   rw[Array.toList_extract,List.extract_eq_take_drop,drop_zero]
   rfl
  constructor
  ·intro e
   rw[<-e1,e]
   rfl
  ·intro e
   refine Array.toList_inj.mp ?_
   rw[e1,e]
   rfl
 unfold Txt.removeprefix
 rw[es]
 have el:=Zy x
 cases e:x.cps.toList with
 | nil=>exact e
 | cons c r =>
  rw[e]at el
  by_cases hc:c=45
  ·subst hc
   rw[if_pos (show decide (take 1 (45::r)=[45])=true from decide_eq_true rfl)]
   show(if (x.length-(aG "-").length==x.length)=true then x else Builtin.Str.strSub x (aG "-").length x.length).cps.toList=r
   rw[show(aG "-").length=1 from rfl,if_neg (by simp at el⊢;omega),StrLaws.strSub_toList,e]
   show take (x.length-1) r=r
   exact take_of_length_le (by simp at el;omega)
  ·rw[if_neg (by simpa using hc)]
   show x.cps.toList=Od (c::r)
   rw[e]
   unfold Od
   split
   ·rename_i z
    cases z
    exact absurd rfl hc
   ·rfl
theorem xq{A:Adr}(T:Txt K mg A):ZL P w K mg base (CXE P w) 3 A.Ny A.Jk Nr (spD K Jr):=by
 haveI:TxC K A:=⟨⟨_,T⟩⟩
 refine T.NK.F.okJ yY (by walk_at "ln") (λcdv Ar outer s H E hr=>⟨_,(Ze (Zr [] (vZ (Xs (Yk hr.Yd) (jv 0) Zg (Zk _)) (UI (Zw (NV T) T.VJ hr (Zc (TC PySem.F.plainAttrs_str PySem.F.slot_str_removeprefix PySem.F.type_str_removeprefix LA (jv 0) (Zc Zg Za)) Za)))))),λxs q x h=>?_⟩)
 ·obtain⟨z,rfl,hz,hq⟩:=h
  walk_at "rd"
  unfold LN at hq
  have e0:decide (z=aG "0")=decide (z.cps.toList=[48]):=decide_eq_decide.mpr ⟨λe=>by rw[e];rfl,λe=>by
   have:z.cps=#[48]:=Array.toList_inj.mp (by rw[e])
   cases z
   cases this
   rfl⟩
  rw[e0]
  have ul:(Od z.cps.toList).length<=z.length:=by
   rw[Zy]
   unfold Od
   split<;>simp_all
  refine YG (λe=>?_) (λe=>⟨hz,by rw[Zy,Dg];omega,?_⟩)
  ·rw[decide_eq_true e]at hq
   exact hq
  ·rw[decide_eq_false e]at hq
   rw[Dg]
   exact hq
theorem Dh(s sub:Str)(hi:Nat):∀ (l:List Nat) (st:Array Nat×Nat),1<=st.fst.size->(forIn l st (StrLaws.occBody s sub hi 1)).run.fst=st.fst:=by
 intro l
 induction l with
 | nil=>intro st _;rfl
 | cons a l ih =>
  intro st h
  rw[forIn_cons]
  unfold StrLaws.occBody
  rw[if_neg (by omega)]
  exact ih st h
theorem jJ(x:Str)(c:Nat):∀ (m cur:Nat),(∃ i,cur<=i/\i<cur+m/\x.cps.toList[i]?=some c/\(∀ j,cur<=j->j<i->x.cps.toList[j]?≠some c)/\(forIn (range' cur m) ((#[]:Array Nat),0) (StrLaws.occBody x ⟨#[c]⟩ x.length 1)).run.fst.toList=[i]) \/
  ((∀ j,cur<=j->j<cur+m->x.cps.toList[j]?≠some c)/\(forIn (range' cur m) ((#[]:Array Nat),0) (StrLaws.occBody x ⟨#[c]⟩ x.length 1)).run.fst.toList=[]):=by
 intro m
 induction m with
 | zero=>exactλcur => .inr ⟨λj h1 h2=>by omega,rfl⟩
 | succ m ih =>
  intro cur
  have one:=StrLaws.subAt_one x c cur
  by_cases h:x.cps.toList[cur]?=some c
  ·refine .inl ⟨cur,Nat.le_refl _,by omega,h,λj h1 h2=>by omega,?_⟩
   rw[List.range'_succ,forIn_cons]
   have hc:=one.mpr h
   have hb:StrLaws.occBody x ⟨#[c]⟩ x.length 1 cur ((#[]:Array Nat),0)=pure (ForInStep.yield ((#[]:Array Nat).push cur,cur+(⟨#[c]⟩:Str).length)):=by
    unfold StrLaws.occBody
    rw[if_pos ⟨⟨⟨by simp,Nat.zero_le _⟩,hc.1⟩,hc.2⟩]
   rw[hb]
   have:=Dh x ⟨#[c]⟩ x.length (range' (cur+1) m) ((#[]:Array Nat).push cur,cur+(⟨#[c]⟩:Str).length) (by simp)
   exact congrArg Array.toList this
  ·have step:(forIn (range' cur (m+1)) ((#[]:Array Nat),0) (StrLaws.occBody x ⟨#[c]⟩ x.length 1)).run.fst.toList=(forIn (range' (cur+1) m) ((#[]:Array Nat),0) (StrLaws.occBody x ⟨#[c]⟩ x.length 1)).run.fst.toList:=by
    rw[List.range'_succ,forIn_cons]
    have hn:¬ ((((#[]:Array Nat),0).fst.size<1/\((#[]:Array Nat),0).snd<=cur)/\cur+(⟨#[c]⟩:Str).length<=x.length)\/¬ Builtin.Str.subAt x ⟨#[c]⟩ cur=true:=by
     by_cases q:cur+(⟨#[c]⟩:Str).length<=x.length/\Builtin.Str.subAt x ⟨#[c]⟩ cur=true
     ·exact absurd (one.mp q) h
     ·by_cases q1:cur+(⟨#[c]⟩:Str).length<=x.length
      ·exact .inr λz=>q ⟨q1,z⟩
      ·exact .inl λz=>q1 z.2
    have hb:StrLaws.occBody x ⟨#[c]⟩ x.length 1 cur ((#[]:Array Nat),0)=pure (ForInStep.yield ((#[]:Array Nat),0)):=by
     unfold StrLaws.occBody
     rw[if_neg (λz=>hn.elim (λn=>n z.1) (λn=>n z.2))]
    rw[hb]
    rfl
   rw[step]
   rcases ih (cur+1) with⟨i,h1,h2,h3,h4,h5⟩|⟨h1,h2⟩
   ·refine .inl ⟨i,by omega,by omega,h3,λj j1 j2=>?_,h5⟩
    by_cases e:j=cur
    ·rw[e];exact h
    ·exact h4 j (by omega) j2
   ·refine .inr ⟨λj j1 j2=>?_,h2⟩
    by_cases e:j=cur
    ·rw[e];exact h
    ·exact h1 j (by omega) (by omega)
theorem GZ(x:Str):(47∉x.cps.toList/\XC x "/" = (x,Str.empty,Str.empty))\/∃ a b:Str,x.cps.toList=a.cps.toList++47::b.cps.toList/\47∉a.cps.toList/\XC x "/" = (a,("/" : Str),b):=by
 have el:=Zy x
 have eo:=StrLaws.occ_eq x ⟨#[47]⟩ 0 x.length 1
 have eq:(aG "/" : Str)=⟨#[47]⟩:=by decide +kernel
 rcases jJ x 47 (x.length+1-0) 0 with⟨i,h1,h2,h3,h4,h5⟩|⟨h1,h2⟩
 ·rw[h5]at eo
  obtain⟨hi,h3'⟩:=List.getElem?_eq_some_iff.mp h3
  refine .inr ⟨Builtin.Str.strSub x 0 i,Builtin.Str.strSub x (i+1) x.length,?_,?_,?_⟩
  ·rw[StrLaws.strSub_toList,StrLaws.strSub_toList,drop_zero,Nat.sub_zero,take_of_length_le (l:=x.cps.toList.drop (i+1)) (by rw[length_drop];omega)]
   conv=>lhs;rw[<-List.take_append_drop i x.cps.toList,drop_eq_getElem_cons hi,h3']
  ·rw[StrLaws.strSub_toList,drop_zero,Nat.sub_zero]
   intro hm
   obtain⟨j,hj⟩:=List.getElem?_of_mem hm
   have lt:j<i:=by
    have:=(List.getElem?_eq_some_iff.mp hj).1
    rw[length_take]at this
    omega
   rw[List.getElem?_take_of_lt lt]at hj
   exact h4 j (Nat.zero_le _) lt hj
  ·unfold XC
   rw[eq,eo]
   rfl
 ·rw[h2]at eo
  refine .inl ⟨λhm=>?_,?_⟩
  ·obtain⟨j,hj⟩:=List.getElem?_of_mem hm
   have:=(List.getElem?_eq_some_iff.mp hj).1
   exact h1 j (Nat.zero_le _) (by omega) hj
  ·unfold XC
   rw[eq,eo]
noncomputable def MQ:DSp:=λxs q _=>∃ a b:Int,xs=[.int a,.int b]/\q (.int (Int.gcd a b:Int))
theorem NW{A:Adr}(T:Txt K mg A):ZL P w K mg base (CXE P w) 1 A.Wf A.Vo Wb (spD K MQ):=by
 haveI:TxC K A:=⟨⟨_,T⟩⟩
 refine T.Wh.F.okJ WQ (by walk_at "ln") (λcdv Ar outer s H E hr=>⟨_,(Zb (KQ [] PassesOwn.leaving (Zm (XO hr.Yd) (jv 1) Zd (Zk _)) (Ze (CO (i:=0) (j:=1) WQ.nd rfl rfl (by decide) rfl rfl (Zc (jv 1) (Zc (Zh Zu (jv 0) (jv 1)) Za)) (λ_ p=>DY rfl WQ.nd rfl rfl (by decide) rfl rfl p rfl))))
   (Ze (Zr [] (Yl uf (by rfl) T.b_abs PyProof.Rows.boot_abs (Zc (jv 0) Za))))),λxs q x h=>?_⟩)
 ·obtain⟨a,b,rfl,hq⟩:=h
  walk_at "rd"
  refine⟨λm ds=>∃ x y:Int,ds=[.v (.int x),.v (.int y)]/\Int.gcd x y=Int.gcd a b/\m=y.natAbs,⟨_,a,b,rfl,rfl,rfl⟩,?_⟩
  rintro m _ ⟨x,y,rfl,e,rfl⟩
  walk_at "rd"
  refine QT (λhp=>?_) (λhp=>?_)
  ·rw[Pm]
   exact⟨hp,_,Az x y hp,(Eh x y).trans e,rfl⟩
  ·subst hp
   rw[Int.gcd_zero_right]at e
   have:(if x<0 then -x else x)=(Int.gcd a b:Int):=by rw[<-e];split<;>omega
   rw[this]
   exact hq
noncomputable def Jz:DSp:=λxs q _=>∃ a b:Int,xs=[.int a,.int b]/\0<b/\Bd 9000 b/\q (wD (lowP a b) (IJ a b))
theorem Di{A:Adr}(T:Txt K mg A):ZL P w K mg base (CXE P w) 2 A.Rt A.OB Rc (spD K Jz):=by
 haveI:TxC K A:=⟨⟨_,T⟩⟩
 refine T.RL.F.okJ Qy (by walk_at "ln") (λcdv Ar outer s H E hr=>⟨_,(Zb (ZI 2 Qy.nd (Zw (NW T) T.Wh hr (Zc (jv 0) (Zc (jv 1) Za))))
   (Zb (ZC [] (Zm Hq (jv 1) Zd (Zk _)) (Ze (ZI 2 Qy.nd (Mo (jv 2)))) Zo)
   (Ze (Zr [] (Yz (Zc (Zh Zz (jv 0) (jv 2)) (Zc (Zh Zz (jv 1) (jv 2)) Za))))))),λxs q x h=>?_⟩)
 ·obtain⟨a,b,rfl,hb,hB,hq⟩:=h
  have gp:=Ng (a:=a) (b:=b) (by omega)
  have gB:Bd 9000 (Int.gcd a b:Int):=hB.le (by
   have:=Int.le_of_dvd hb (Int.gcd_dvd_right a b)
   omega)
  walk_at "rd"
  refine⟨_,_,rfl,?_⟩
  walk_at "rd"
  refine YG (λe=>by omega) (λe=>?_)
  rw[Nj,Nj]
  exact⟨by omega,.inr gB,by omega,.inr gB,by decide,hq⟩
noncomputable def Qj(l:List Nat):Int:=(NumText.digitsVal l:Nat)
noncomputable def Fb:List Nat->Int
 | 45::r => -Qj r
 | l=>Qj l
noncomputable def Tq(z:Str):Option (Int×Int) :=
 let b:=if (XC z "/").2.1=Str.empty then ("1" : Str) else (XC z "/").2.2
 if LN (XC z "/").1.cps.toList&&QQ b.cps.toList then some (Fb (XC z "/").1.cps.toList,Qj b.cps.toList) else none
open NumText in
theorem JA{l:List Nat}(h:Tf l=true):AllDigits l:=by
 unfold Tf at h
 rw[aD]at h
 have fig:∀ c∈Yy.cps.toList,48<=c/\c<=57:=by decide +kernel
 exactλc hc=>fig c (of_decide_eq_true (all_eq_true.mp h.2 c hc))
open NumText in
theorem jK:∀ (l:List Nat),AllDigits l->digitsVal l<10^l.length:=by
 have go:∀ (l:List Nat) (a:Nat),AllDigits l->l.foldl (λacc c=>acc*10+(c-48)) a+1<=(a+1)*10^l.length:=by
  intro l
  induction l with
  | nil=>intro a _;simp
  | cons c l ih =>
   intro a h
   rw[foldl_cons,length_cons]
   have h1:=ih (a*10+(c-48)) h.tail
   have h2:=h.head
   have h3:(a*10+(c-48)+1)*10^l.length<=((a+1)*10)*10^l.length:=Nat.mul_le_mul_right _ (by omega)
   have h4:((a+1)*10)*10^l.length=(a+1)*10^(l.length+1):=by rw[Nat.pow_succ,Nat.mul_assoc,Nat.mul_comm 10]
   omega
 intro l h
 have:=go l 0 h
 unfold digitsVal
 omega
theorem jL{l:List Nat}(h:Tf l=true):Qj l<10^40/\0<=Qj l:=by
 have h1:=jK l (JA h)
 have h2:10^l.length<=10^40:=Nat.pow_le_pow_right (by decide) (NU h).2
 unfold Qj
 omega
theorem bd40{i:Int}(h0 : -(10^40)<i)(h1:i<10^40):Bd 9000 i:=(Bd.of (n:=200) (by omega) (by omega)).mono (by decide)
open NumText in
theorem Fc{b:Str}(h:QQ b.cps.toList=true):PySem.intText? b=some (Qj b.cps.toList)/\0<Qj b.cps.toList/\Bd 9000 (Qj b.cps.toList):=by
 unfold QQ at h
 rw[aD]at h
 have hl:=NU h.1
 have hd:=JA h.1
 have v:=jL h.1
 refine⟨intText_digits hd (λz=>by rw[z]at hl;simp at hl) (by rw[Zy];omega),?_,bd40 (by omega) v.1⟩
 cases e:b.cps.toList with
 | nil=>rw[e]at hl;simp at hl
 | cons c r =>
  rw[e]at h hd
  have hc:=hd.head
  have:c≠48:=by simpa using h.2
  unfold Qj
  have:=digitsVal_pos (c:=c) (cs:=r) (by omega)
  omega
open NumText in
theorem nF{a:Str}(h:LN a.cps.toList=true):PySem.intText? a=some (Fb a.cps.toList):=by
 unfold LN at h
 rw[Bool.or_eq_true]at h
 rcases h with h|h
 ·have e:=of_decide_eq_true h
  have:=intText_digits (x:=a) (by rw[e];intro c hc;rw[mem_singleton.mp hc];decide) (by rw[e];simp) (by rw[Zy,e];decide)
  rw[this,e]
  rfl
 ·cases e:a.cps.toList with
  | nil=>rw[e]at h;exact absurd h (by decide)
  | cons c r =>
   rw[e]at h
   by_cases hc:c=45
   ·subst hc
    have h:QQ r=true:=h
    unfold QQ at h
    rw[aD]at h
    have hl:=NU h.1
    exact intText_neg e (JA h.1) (λz=>by rw[z]at hl;simp at hl) (by rw[Zy,e,length_cons];omega)
   ·have eu:Od (c::r)=c::r:=by
     unfold Od
     split
     ·rename_i z;cases z;exact absurd rfl hc
     ·rfl
    have ev:Fb (c::r)=Qj (c::r):=by
     unfold Fb
     split
     ·rename_i z;cases z;exact absurd rfl hc
     ·rfl
    rw[eu,<-e]at h
    rw[ev,<-e]
    exact(Fc h).1
theorem rz(z:Str):(XC z "/").1.length<=z.length/\(XC z "/").2.2.length<=z.length:=by
 rcases GZ z with⟨_,e⟩|⟨a,b,e,_,e2⟩
 ·rw[e];exact⟨Nat.le_refl _,Nat.zero_le _⟩
 ·rw[e2]
  have:=congrArg length e
  rw[length_append,length_cons,<-Zy,<-Zy,<-Zy]at this
  exact⟨by show a.length<=_;omega,by show b.length<=_;omega⟩
noncomputable def LW(A:Adr):DSp:=λxs q x=>∃ z:Str,xs=[.str z]/\z.length<=600/\(∀ t b,Tq z=some (t,b)->0<b/\Bd 9000 b/\q (wD (lowP t b) (IJ t b)))/\(Tq z=none->x A.ZE)
theorem MR{A:Adr}(T:Txt K mg A):ZL P w K mg base (CXE P w) 4 A.Wr A.VU Wo (spD K (LW A)):=by
 haveI:TxC K A:=⟨⟨_,T⟩⟩
 refine T.Wu.F.okJ Xq (by walk_at "ln") (λcdv Ar outer s H E hr=>⟨_,(Zb (Gq (TC PySem.F.plainAttrs_str PySem.F.slot_str_partition PySem.F.type_str_partition GA (jv 0) (Zc Zg Za)) (Mr (n:=3) (YZ (Yj 1 Xq.nd) (YZ (Yj 2 Xq.nd) (YZ (Yj 3 Xq.nd) Pn)))))
   (Zb (ZC [] (Zm (Yk hr.Yd) (jv 2) Zg (Zk _)) (Ze (ZI 3 Xq.nd Zg)) Zo)
   (Zb (ZC [] (WO (XJ (YR (Yn (Zw (xq T) T.NK hr (Zc (jv 1) Za)))) (XM (YR (Yn (Zw (NV T) T.VJ hr (Zc (jv 3) Za))))))) (Ze (Xa [] T.Ym.x T.Ym.M (Zc Zg Za))) Zo)
   (Ze (Zr [] (Zw (Di T) T.RL hr (Zc (UK Np (by rfl) T.b_int PyProof.Rows.boot_int (Zc (jv 1) Za)) (Zc (UK Np (by rfl) T.b_int PyProof.Rows.boot_int (Zc (jv 3) Za)) Za)))))))),λxs q x h=>?_⟩)
 ·obtain⟨z,rfl,hz,hg,hb⟩:=h
  have hsz:az=16777216:=rfl
  walk_at "rd"
  obtain⟨l1,l2⟩:=rz z
  unfold Tq at hg hb
  generalize XC z (aG "/")=p at l1 l2 hg hb⊢
  obtain⟨a,st,b⟩:=p
  have tail:∀ b':Str,b'.length<=600->(if st=Str.empty then ("1" : Str) else b)=b'->a.length<=az/\(if (!LN a.cps.toList)=true then 1<=az/\x A.ZE else b'.length<=az/\(if (!QQ b'.cps.toList)=true then 1<=az/\x A.ZE else ∃ n,intText? a=some n/\a.length<=640/\∃ n_1,intText? b'=some n_1/\b'.length<=640/\Jz [D.int n,D.int n_1] q x)):=λb' hl e=>by
   simp only[e]at hg hb
   refine⟨by show a.length<=_;have:a.length<=z.length:=l1;omega,QU (λe1=>⟨by decide,hb (by rw[e1];rfl)⟩) (λe1=>⟨by omega,QU (λe2=>⟨by decide,hb (by rw[e1,e2];rfl)⟩) (λe2=>?_)⟩)⟩
   obtain⟨i1,i2,i3⟩:=Fc e2
   obtain⟨_,_,hq⟩:=hg _ _ (by rw[e1,e2];rfl)
   exact⟨_,nF e1,by have:a.length<=z.length:=l1;omega,_,i1,by omega,_,_,rfl,i2,i3,hq⟩
  refine⟨by omega,by decide,YG (λe=>tail "1" (by decide) (if_pos e)) (λe=>tail b (by have:b.length<=z.length:=l2;omega) (if_neg e))⟩
open NumText PySem.W.KIN in
theorem JB(m:Nat):AllDigits ((Nat.toDigits 10 m).map Char.toNat):=by
 intro c hc
 obtain⟨ch,hch,e⟩:=mem_map.mp hc
 rw[<-e]
 exact PyProof.Rows.digit_range (Nat.isDigit_of_mem_toDigits (by decide) (by decide) hch)
theorem rA:∀ (k m:Nat),m<10^(k+1)->(Nat.toDigits 10 m).length<=k+1:=by
 intro k
 induction k with
 | zero=>intro m h;rw[Nat.toDigits_of_lt_base (by simpa using h)];exact Nat.le_refl _
 | succ k ih =>
  intro m h
  by_cases hm:m<10
  ·rw[Nat.toDigits_of_lt_base hm];show 1<=_;omega
  ·have t:Nat.toDigits 10 (m/10)++Nat.toDigits 10 (m%10)=Nat.toDigits 10 (10*(m/10)+m%10):=Nat.toDigits_append_toDigits (by decide) (by omega) (Nat.mod_lt m (by decide))
   rw[Nat.div_add_mod]at t
   rw[<-t,length_append,Nat.toDigits_of_lt_base (Nat.mod_lt m (by decide))]
   have:=ih (m/10) (by rw[Nat.pow_succ]at h;omega)
   show(Nat.toDigits 10 (m/10)).length+1<=_
   omega
theorem mD(m:Nat):Nat.toDigits 10 m≠[]:=λe=>by
 have:=PySem.W.KIN.val_back m
 have h:=Nat.length_toDigits_pos (b:=10) (n:=m)
 rw[e]at h
 exact absurd h (by simp)
noncomputable def Tx(m:Nat):List Nat:=(Nat.toDigits 10 m).map Char.toNat
noncomputable def MS(i:Int):List Nat:=if i<0 then 45::Tx i.natAbs else Tx i.natAbs
theorem MT(i:Int):(aG (toString i)).cps.toList=MS i:=by
 unfold MS Tx
 cases i with
 | ofNat m =>
  rw[if_neg (by show ¬ (m:Int)<0;omega)]
  exact PySem.W.KIN.signs_num m
 | negSucc m =>
  rw[if_pos (Int.negSucc_lt_zero m),PyProof.Rows.signs_ofString]
  show("-" ++ Nat.repr (m+1)).toList.map Char.toNat=45::(Nat.toDigits 10 (m+1)).map Char.toNat
  rw[String.toList_append,map_append,Nat.toList_repr]
  rfl
theorem rB{m:Nat}(h:m<10^40):Tf (Tx m)=true:=by
 unfold Tf Tx
 have hl:=rA 39 m h
 have hp:1<=(Nat.toDigits 10 m).length:=List.length_pos_iff.mpr (mD m)
 have fig:∀ c,48<=c->c<=57->c∈Yy.cps.toList:=by
  intro c h1 h2
  have:∀ c,c<58->48<=c->c∈Yy.cps.toList:=by decide +kernel
  exact this c (by omega) h1
 rw[length_map,decide_eq_true hp,decide_eq_true hl]
 exact all_eq_true.mpr λc hc=>decide_eq_true (fig c (JB m c hc).1 (JB m c hc).2)
theorem JC(m:Nat):Qj (Tx m)=m:=by
 unfold Qj Tx
 rw[PySem.W.KIN.val_back]
theorem xr{m:Nat}(h:0<m):(Tx m).getD 0 0≠48:=by
 unfold Tx
 induction m using Nat.strongRecOn with
 | _ m ih =>
  by_cases hm:m<10
  ·rw[Nat.toDigits_of_lt_base hm]
   have:∀ d:Nat,d<10->0<d->([Nat.digitChar d].map Char.toNat).getD 0 0≠48:=by decide
   exact this m hm h
  ·have t:Nat.toDigits 10 (m/10)++Nat.toDigits 10 (m%10)=Nat.toDigits 10 (10*(m/10)+m%10):=Nat.toDigits_append_toDigits (by decide) (by omega) (Nat.mod_lt m (by decide))
   rw[Nat.div_add_mod]at t
   rw[<-t,map_append]
   have i:=ih (m/10) (by omega) (by omega)
   have hp:=List.length_pos_iff.mpr (mD (m/10))
   rw[getD_eq_getElem?_getD,getElem?_append_left (by rw[length_map];exact hp),<-getD_eq_getElem?_getD]
   exact i
theorem JD{m:Nat}(h:0<m)(h2:m<10^40):QQ (Tx m)=true:=by
 unfold QQ
 rw[rB h2,decide_eq_false (xr h)]
 rfl
theorem NX{i:Int}(h:i.natAbs<10^40):LN (MS i)=true/\Fb (MS i)=i:=by
 unfold MS
 by_cases hi:i<0
 ·rw[if_pos hi]
  refine⟨?_,?_⟩
  ·show(decide _||QQ (Tx i.natAbs))=true
   rw[JD (by omega) h]
   simp
  ·show -Qj (Tx i.natAbs)=i
   rw[JC]
   omega
 ·rw[if_neg hi]
  have h45:∀ r,Tx i.natAbs≠45::r:=λr e=>by
   have:=JB i.natAbs 45 (by show 45∈Tx i.natAbs;rw[e];simp)
   omega
  have ev:Fb (Tx i.natAbs)=Qj (Tx i.natAbs):=by
   unfold Fb
   split
   ·rename_i r z;exact absurd z (h45 r)
   ·rfl
  have eu:Od (Tx i.natAbs)=Tx i.natAbs:=by
   unfold Od
   split
   ·rename_i r z;exact absurd z (h45 r)
   ·rfl
  refine⟨?_,by rw[ev,JC];omega⟩
  unfold LN
  rw[eu]
  by_cases h0:i=0
  ·subst h0
   rfl
  ·rw[JD (by omega) h]
   simp
theorem HH(i:Int):47∉MS i:=by
 intro h
 have hn:47∉Tx i.natAbs:=λh=>by have:=JB i.natAbs 47 h;omega
 unfold MS at h
 split at h
 ·rcases mem_cons.mp h with e|h
  ·cases e
  ·exact hn h
 ·exact hn h
theorem Dj{c:Nat}:∀ {a a' b b':List Nat},c∉a->c∉a'->a++c::b=a'++c::b'->a=a'/\b=b'
 | [],[],_,_,_,_,e=>⟨rfl,by simpa using e⟩
 | [],x::a',_,_,_,h,e=>by simp at e;exact absurd (e.1 ▸ mem_cons_self ..) h
 | x::a,[],_,_,h,_,e=>by simp at e;exact absurd (e.1 ▸ mem_cons_self ..) h
 | x::a,y::a',b,b',h,h',e=>by
  simp at e
  obtain⟨e1,e2⟩:=Dj (λz=>h (mem_cons_of_mem _ z)) (λz=>h' (mem_cons_of_mem _ z)) e.2
  exact⟨by rw[e.1,e1],e2⟩
theorem rC{a b:Str}(h:a.cps.toList=b.cps.toList):a=b:=by
 cases a;cases b
 have:=Array.toList_inj.mp h
 simp only at this
 rw[this]
theorem part_of{z a b:Str}(e:z.cps.toList=a.cps.toList++47::b.cps.toList)(h:47∉a.cps.toList):XC z "/" = (a,("/" : Str),b):=by
 rcases GZ z with⟨n,_⟩|⟨a',b',e',h',p⟩
 ·exact absurd (by rw[e];simp) n
 ·rw[e]at e'
  obtain⟨e1,e2⟩:=Dj h h' e'
  rw[p,rC e1,rC e2]
theorem xt{z:Str}(h:47∉z.cps.toList):XC z "/" = (z,Str.empty,Str.empty):=by
 rcases GZ z with⟨_,p⟩|⟨a',b',e',_⟩
 ·exact p
 ·exact absurd (by rw[e'];simp) h
noncomputable def sT(i:Int):Str:=aG (toString i)
theorem rD{t b:Int}(ht:t.natAbs<10^40)(hb:0<b)(hb2:b<10^40):Tq (sT t ++ "/" ++ sT b)=some (t,b):=by
 have e:(sT t++("/" : Str)++sT b).cps.toList=(sT t).cps.toList++47::(sT b).cps.toList:=by
  rw[Xk,Xk,append_assoc]
  rfl
 have hf:47∉(sT t).cps.toList:=by unfold sT;rw[MT];exact HH t
 unfold Tq
 rw[part_of e hf]
 show(if LN (sT t).cps.toList&&QQ (if ("/" : Str)=Str.empty then ("1" : Str) else sT b).cps.toList then some (Fb (sT t).cps.toList,Qj (if ("/" : Str)=Str.empty then ("1" : Str) else sT b).cps.toList) else none)=_
 rw[if_neg (show ¬ ("/" : Str)=Str.empty by decide +kernel)]
 have eb:(sT b).cps.toList=Tx b.natAbs:=by unfold sT;rw[MT];unfold MS;rw[if_neg (by omega)]
 have et:(sT t).cps.toList=MS t:=by unfold sT;rw[MT]
 rw[eb,et,(NX ht).1,(NX ht).2,JD (by omega) (by omega),JC]
 simp
 omega
theorem rE{t:Int}(ht:t.natAbs<10^40):Tq (sT t)=some (t,1):=by
 have et:(sT t).cps.toList=MS t:=by unfold sT;rw[MT]
 unfold Tq
 rw[xt (by rw[et];exact HH t)]
 show(if LN (sT t).cps.toList&&QQ (if Str.empty=Str.empty then ("1" : Str) else Str.empty).cps.toList then some (Fb (sT t).cps.toList,Qj (if Str.empty=Str.empty then ("1" : Str) else Str.empty).cps.toList) else none)=_
 rw[if_pos rfl,et,(NX ht).1,(NX ht).2]
 have:QQ ("1" : Str).cps.toList=true/\Qj ("1" : Str).cps.toList=1:=by decide +kernel
 rw[this.1,this.2]
 rfl
theorem HI{i:Int}(h:i.natAbs<10^80):i.natAbs.log2<1920:=by
 by_cases h0:i.natAbs=0
 ·rw[h0];decide
 ·have h2:i.natAbs<2^300:=Nat.lt_trans h (by decide +kernel)
  have:=(Nat.log2_lt h0).mpr h2
  omega
theorem Fd{i:Int}(h:i.natAbs<10^80):(sT i).length<=81:=by
 unfold sT
 rw[Zy,MT]
 have:=rA 79 i.natAbs h
 unfold MS Tx
 split<;>simp<;>omega
theorem zG(xs:List D){i:Int}(h0:0<=i):cutD xs (some i) none=xs.drop i.toNat:=by
 obtain⟨f,rfl⟩:=Int.eq_ofNat_of_zero_le h0
 unfold cutD
 rw[HT.Pj,HT.Kx,show(f:Int).toNat=f from rfl]
 by_cases h:f<=xs.length
 ·rw[Nat.min_eq_left h]
  exact take_of_length_le (by rw[length_drop];exact Nat.le_refl _)
 ·rw[Nat.min_eq_right (by omega),List.drop_of_length_le (Nat.le_refl _),List.drop_of_length_le (by omega)]
  exact List.take_nil
theorem JH(n:Nat):∀ xs ys:List Str,WB (D.PN n) (xs.map .str) (ys.map .str)=true/\D.WK (xs.map .str) (ys.map .str)=decide (xs=ys)
 | [],[]=>⟨rfl,by with_unfolding_all rfl⟩
 | [],y::ys=>⟨rfl,by with_unfolding_all rfl⟩
 | x::xs,[]=>⟨rfl,by with_unfolding_all rfl⟩
 | x::xs,y::ys=>by
  obtain⟨h1,h2⟩:=JH n xs ys
  rw[map_cons,map_cons]
  refine⟨?_,?_⟩
  ·rw[WB,h1]
   cases n<;>rfl
  ·rw[D.WK,h2,SF rfl]
   have:eqV (D.str x).toV (D.str y).toV=decide (x=y):=by
    show(x==y)=_
    by_cases e:x=y
    ·rw[e];simp
    ·rw[decide_eq_false e];simpa using e
   rw[this,Bool.eq_iff_iff]
   simp only[aD,decide_eq_true_eq,List.cons.injEq]
theorem cut1(zs:List Str):cutD (zs.map D.str) none (some 1)=(zs.take 1).map .str:=by rw[zF _ (by decide),<-map_take];rfl
theorem cutF(zs:List Str)(i:Nat):cutD (zs.map D.str) (some (i:Int)) none=(zs.drop i).map .str:=by rw[zG _ (by omega),<-map_drop];rfl
noncomputable def Ln(z:Str)(ws:List Str):Prop:=z.length<=1000000/\Txt.split z (aG " ")=ws/\∀ q∈ws,q.length<=1000000
theorem rF{ws:List Str}(h:(ws.length:Int)=2):∃ a b,ws=[a,b]:=by
 match ws,h with
 | [a,b],_=>exact⟨a,b,rfl⟩
 | [],h=>simp at h
 | [_],h=>simp at h
 | _::_::_::_,h=>simp at h;omega
noncomputable def Fe(A:Adr):DSp:=λxs q x=>∃ (z:Str) (ws:List Str),xs=[.str z]/\Ln z ws/\(∀ b,ws=[aG "scale",b]->YQ b=true->q (.str b))/\((∀ b,ws=[aG "scale",b]->YQ b=false)->x A.ZE)
theorem IM{A:Adr}(T:Txt K mg A):ZL P w K mg base (CXE P w) 4 A.Ul A.RB Ud (spD K (Fe A)):=by
 haveI:TxC K A:=⟨⟨_,T⟩⟩
 refine T.Uv.F.okJ PZ (by walk_at "ln") (λcdv Ar outer s H E hr=>⟨_,(Zb (ZI 1 PZ.nd (TC PySem.F.plainAttrs_str PySem.F.slot_str_split PySem.F.type_str_split Nn (jv 0) (Zc Zg Za)))
   (Zb (ZC [] (WO (XJ (Zm (XO hr.Yd) (Yl ZY (by rfl) T.b_len PySem.boot_len (Zc (jv 1) Za)) Zd (Zk _)) (XJ (Zm (XO hr.Yd) (Zj (jv 1) Zd) Zg (Zk _)) (XM (YR (Yn (Zw (Tj T) T.WH hr (Zc (Zj (jv 1) Zd) Za)))))))) (Ze (Xa [] T.Ym.x T.Ym.M (Zc Zg Za))) Zo)
   (Ze (Zr [] (Zj (jv 1) Zd))))),λxs q x h=>?_⟩)
 ·obtain⟨z,ws,rfl,⟨hl,e,hw⟩,hg,hb⟩:=h
  have hsz:az=16777216:=rfl
  walk_at "rd"
  rw[e]
  refine⟨by omega,by decide +kernel,QT (λh2=>⟨by decide,hb λb eb=>by rw[eb]at h2;exact absurd rfl h2⟩) λh2=>?_⟩
  obtain⟨a,b,rfl⟩:=rF h2
  refine⟨_,rfl,?_⟩
  walk_at "rd"
  refine QT (λh3=>⟨by decide,hb λb' eb=>absurd (List.cons.inj eb).1 h3⟩) λh3=>⟨_,rfl,?_⟩
  subst h3
  have hlb:=hw b (by simp)
  walk_at "rd"
  refine⟨by omega,QU (λh4=>⟨by decide,hb λb' eb=>?_⟩) λh4=>⟨_,rfl,hg b rfl h4⟩⟩
  have:=(List.cons.inj (List.cons.inj eb).2).1
  rw[<-this]
  exact h4
noncomputable def Ff(A:Adr):DSp:=λxs q x=>∃ (z:Str) (ws:List Str),xs=[.str z]/\Ln z ws/\(∀ b,ws=[aG "start",b]->YS b=true->q (.str b))/\((∀ b,ws=[aG "start",b]->YS b=false)->x A.ZE)
theorem IP{A:Adr}(T:Txt K mg A):ZL P w K mg base (CXE P w) 4 A.Um A.RC Ue (spD K (Ff A)):=by
 haveI:TxC K A:=⟨⟨_,T⟩⟩
 refine T.Uw.F.okJ Oa (by walk_at "ln") (λcdv Ar outer s H E hr=>⟨_,(Zb (ZI 1 Oa.nd (TC PySem.F.plainAttrs_str PySem.F.slot_str_split PySem.F.type_str_split Nn (jv 0) (Zc Zg Za)))
   (Zb (ZC [] (WO (XJ (Zm (XO hr.Yd) (Yl ZY (by rfl) T.b_len PySem.boot_len (Zc (jv 1) Za)) Zd (Zk _)) (XJ (Zm (XO hr.Yd) (Zj (jv 1) Zd) Zg (Zk _)) (XM (YR (Yn (Zw (OL T) T.UC hr (Zc (Zj (jv 1) Zd) Za)))))))) (Ze (Xa [] T.Ym.x T.Ym.M (Zc Zg Za))) Zo)
   (Ze (Zr [] (Zj (jv 1) Zd))))),λxs q x h=>?_⟩)
 ·obtain⟨z,ws,rfl,⟨hl,e,hw⟩,hg,hb⟩:=h
  have hsz:az=16777216:=rfl
  walk_at "rd"
  rw[e]
  refine⟨by omega,by decide +kernel,QT (λh2=>⟨by decide,hb λb eb=>by rw[eb]at h2;exact absurd rfl h2⟩) λh2=>?_⟩
  obtain⟨a,b,rfl⟩:=rF h2
  refine⟨_,rfl,?_⟩
  walk_at "rd"
  refine QT (λh3=>⟨by decide,hb λb' eb=>absurd (List.cons.inj eb).1 h3⟩) λh3=>⟨_,rfl,?_⟩
  subst h3
  have hlb:=hw b (by simp)
  walk_at "rd"
  refine⟨by omega,QU (λh4=>⟨by decide,hb λb' eb=>?_⟩) λh4=>⟨_,rfl,hg b rfl h4⟩⟩
  have:=(List.cons.inj (List.cons.inj eb).2).1
  rw[<-this]
  exact h4
noncomputable def IQ:List Str->Option (Option (List Str))
 | []=>some none
 | w::us=>if w=aG "under" then some (some us) else none
noncomputable def RV:List Str->Option (Str×Option (List Str))
 | []=>some (aG "",none)
 | w::r=>if w=aG "tag" then (match r with
  | []=>none
  | b::us=>if YQ b=true then (IQ us).map (b,·) else none) else (IQ (w::r)).map (aG "",·)
theorem BL(w:Str)(us:List Str):IQ (w::us)=if w=aG "under" then some (some us) else none:=rfl
theorem rG{w:Str}(h:w=aG "tag"):RV [w]=none:=by show(if w=aG "tag" then none else _)=none;rw[if_pos h]
theorem Fg{w:Str}(b:Str)(us:List Str)(h:w=aG "tag"):RV (w::b::us)=if YQ b=true then (IQ us).map (b,·) else none:=by show(if w=aG "tag" then _ else _)=_;rw[if_pos h]
theorem MU{w:Str}(us:List Str)(h:w≠aG "tag"):RV (w::us)=(IQ (w::us)).map (aG "",·):=by show(if w=aG "tag" then _ else _)=_;rw[if_neg h]
noncomputable def QX(A:Adr):DSp:=λxs q x=>∃ ws:List Str,xs=[.lst (ws.map .str)]/\ws.length<=1000/\(∀ w∈ws,w.length<=1000000)/\(∀ tg t,RV ws=some (tg,t)->q (.tup [.str tg,GV t]))/\(RV ws=none->x A.ZE)
theorem Qk{A:Adr}(T:Txt K mg A):ZL P w K mg base (CXE P w) 4 A.Xg A.XU Xc (spD K (QX A)):=by
 haveI:TxC K A:=⟨⟨_,T⟩⟩
 refine T.Xi.F.okJ ZN (by walk_at "ln") (λcdv Ar outer s H E hr=>⟨_,(Zb (Gq (Yz (Zc Zg (Zc Qb Za))) (Mr (n:=2) (YZ (Yj 1 ZN.nd) (YZ (Yj 2 ZN.nd) Pn))))
   (Zb (ZC [] (Zm (Yk hr.Yd) (YD (jv 0) Wm (Yx Zd)) (ZH (Zc Zg Za)) (Zk _)) (Zb (ZC [] (WO (XJ (Zm (Yk hr.Yd) (Yl ZY (by rfl) T.b_len PySem.boot_len (Zc (jv 0) Za)) Zd (Zk _)) (XM (YR (Yn (Zw (Tj T) T.WH hr (Zc (Zj (jv 0) Zd) Za))))))) (Ze (Xa [] T.Ym.x T.Ym.M (Zc Zg Za))) Zo)
   (Ze (CO (i:=1) (j:=0) ZN.nd rfl rfl (by decide) rfl rfl (Zc (Zj (jv 0) Zd) (Zc (YD (jv 0) (Yx Zd) Wm) Za)) (λ_ p=>DY rfl ZN.nd rfl rfl (by decide) rfl rfl p rfl)))) Zo)
   (Zb (ZC [] (Zm (Yk hr.Yd) (YD (jv 0) Wm (Yx Zd)) (ZH (Zc Zg Za)) (Zk _)) (Ze (CO (i:=2) (j:=0) ZN.nd rfl rfl (by decide) rfl rfl (Zc (YD (jv 0) (Yx Zd) Wm) (Zc (ZH Za) Za)) (λ_ p=>DY rfl ZN.nd rfl rfl (by decide) rfl rfl p rfl))) Zo)
   (Zb (ZC [] (Yn (jv 0)) (Ze (Xa [] T.Ym.x T.Ym.M (Zc Zg Za))) Zo)
   (Ze (Zr [] (Yz (Zc (jv 1) (Zc (jv 2) Za))))))))),λxs q x h=>?_⟩)
 ·obtain⟨ws,rfl,hl,hw,hg,hb⟩:=h
  have hsz:az=16777216:=rfl
  have eo:∀ (zs:List Str) (a:Str),WB (D.PN 80) (zs.map .str) [.str a]=true/\D.WK (zs.map .str) [.str a]=decide (zs=[a]):=λzs a=>JH 80 zs [a]
  have und:∀ (zz:List D) (us:List Str) (d:D),zz=us.map D.str->(∀ t,IQ us=some t->q (.tup [d,GV t]))->(IQ us=none->x A.ZE)->1<=az/\WB (D.PN 80) (cutD zz none (some 1)) [D.str (aG "under")]=true /\
    if D.WK (cutD zz none (some 1)) [D.str (aG "under")]=true then 0<=az/\if (!([]:List D).isEmpty)=true then 1<=az/\x A.ZE else 2<=az/\q (D.tup [d,D.lst (cutD zz (some 1) none)])
    else if (!zz.isEmpty)=true then 1<=az/\x A.ZE else 2<=az/\q (D.tup [d,D.non]):=λzz us d ez h1 h2=>by
   subst ez
   rw[cut1,(eo _ _).2]
   refine⟨by decide,(eo _ _).1,?_⟩
   cases us with
   | nil=>exact⟨by decide,h1 none rfl⟩
   | cons w us =>
    rw[BL]at h1 h2
    by_cases hu:w=aG "under"
    ·rw[if_pos hu]at h1
     rw[if_pos (by rw[hu];exact decide_eq_true rfl)]
     have:=cutF (w::us) 1
     refine⟨by decide,by decide,?_⟩
     rw[show(some (1:Int))=some ((1:Nat):Int) from rfl,this]
     exact h1 (some us) rfl
    ·rw[if_neg hu]at h2
     rw[if_neg (by simpa using hu)]
     exact⟨by decide,h2 rfl⟩
  walk_at "rd"
  refine⟨by decide,by decide,?_⟩
  have c1:=cut1 ws
  rw[c1,(eo _ _).2]
  refine⟨(eo _ _).1,YG (λht=>?_) (λht=>?_)⟩
  ·match ws,ht with
   | [w],ht =>
    have ew:w=aG "tag" := (List.cons.inj ht).1
    exact⟨by decide,hb (rG ew)⟩
   | w::b::us,ht =>
    have ew:w=aG "tag" := (List.cons.inj ht).1
    rw[Fg b us ew]at hg hb
    have hlb:=hw b (by simp)
    refine YG (λh=>by simp at h;omega) (λ_=>⟨_,YY (j:=1) rfl,?_⟩)
    walk_at "rd"
    refine⟨by omega,QU (λh4=>⟨by decide,hb (by simp[h4])⟩) λh4=>⟨_,YY (j:=1) rfl,?_⟩⟩
    have c2:cutD (D.str w::D.str b::us.map D.str) (some 2) none=us.map D.str:=cutF (w::b::us) 2
    exact und _ us _ c2 (λt e=>hg b t (by simp[h4,e])) (λe=>hb (by simp[h4,e]))
  ·rw[<-c1]
   refine und _ ws _ rfl (λt e=>hg _ t ?_) (λe=>hb ?_)
   ·cases ws with
    | nil=>cases e;rfl
    | cons w us =>
     rw[MU us (λz=>ht (by rw[z];rfl)),e]
     rfl
   ·cases ws with
    | nil=>cases e
    | cons w us =>
     rw[MU us (λz=>ht (by rw[z];rfl)),e]
     rfl
noncomputable def sl4(ws:List Str)(c:Nat):List Str:=(ws.take c).drop 4
noncomputable def Sg(ws:List Str):Option (Str×Str×List Str×(Int×Int)×Str×Option (List Str)) :=
 if ws.getD 0 (aG "")=aG "rule" /\ (ws.drop 3).take 1=[aG "->"]/\aG ":" ∈ ws.dropLast then
  (Tq (ws.getD (ws.idxOf (aG ":")+1) (aG ""))).bind λp=>(RV (ws.drop (ws.idxOf (aG ":")+2))).bind λu =>
   if Yc (ws.getD 1 (aG "")) (ws.getD 2 (aG "")) (sl4 ws (ws.idxOf (aG ":"))) u.1 u.2=true then some (ws.getD 1 (aG ""),ws.getD 2 (aG ""),sl4 ws (ws.idxOf (aG ":")),p,u.1,u.2) else none
 else none
noncomputable def Dk(A:Adr):DSp:=λxs q x=>∃ (z:Str) (ws:List Str),xs=[.str z]/\Ln z ws/\1<=ws.length/\ws.length<=1000/\(∀ w∈ws,w.length<=600) /\
 (∀ ti hd ps t b tg u,Sg ws=some (ti,hd,ps,(t,b),tg,u)->q (.obj A.C_Rule (HD ti hd ps (wD (lowP t b) (IJ t b)) tg u)))/\(Sg ws=none->x A.ZE)
theorem cutL(zs:List Str):cutD (zs.map D.str) none (some (-1))=zs.dropLast.map .str:=by
 unfold cutD
 rw[HT.Kx,drop_zero,length_map,List.dropLast_eq_take,map_take]
 congr 1
 unfold HT.sIx
 simp
 omega
theorem jM{ws:List Str}{c:Str}(h:c∈ws.dropLast):ws.idxOf c+1<ws.length:=by
 have hl:ws.dropLast.idxOf c<ws.dropLast.length:=List.idxOf_lt_length_iff.mpr h
 rw[List.length_dropLast]at hl
 have:ws.idxOf c=ws.dropLast.idxOf c:=by
  cases ws with
  | nil=>cases h
  | cons a l =>
   conv=>lhs;rw[<-List.dropLast_concat_getLast (l:=a::l) (by simp)]
   rw[List.idxOf_append,if_pos h]
 omega
theorem xu{z:Str}{t b:Int}(h:Tq z=some (t,b)):0<b/\Bd 9000 b:=by
 unfold Tq at h
 generalize (if (XC z (aG "/")).2.1=Str.empty then (aG "1" : Str) else (XC z (aG "/")).2.2)=y at h
 dsimp only at h
 by_cases hc:(LN (XC z (aG "/")).1.cps.toList&&QQ y.cps.toList)=true
 ·rw[if_pos hc]at h
  rw[aD]at hc
  cases h
  exact(Fc hc.2).2
 ·rw[if_neg hc]at h
  cases h
theorem zH{ws:List Str}{us:List Str}(h:IQ ws=some (some us)):us.length<=ws.length/\∀ y∈us,y∈ws:=by
 cases ws with
 | nil=>cases h
 | cons w r =>
  rw[BL]at h
  split at h
  ·cases h
   exact⟨Nat.le_succ _,λy hy=>mem_cons_of_mem _ hy⟩
  ·cases h
theorem Fh{tg0 tg:Str}{u:Option (List Str)}{v:Option (Option (List Str))}(h:v.map (tg0,·)=some (tg,u)):tg0=tg/\v=some u:=by
 cases v with
 | none=>cases h
 | some v=>cases h;exact⟨rfl,rfl⟩
theorem nG{ws:List Str}{tg:Str}{u:Option (List Str)}(h:RV ws=some (tg,u)):(tg=aG "" \/ tg∈ws)/\∀ us,u=some us->us.length<=ws.length/\∀ y∈us,y∈ws:=by
 match ws,h with
 | [],h=>cases h;exact⟨.inl rfl,λus z=>by cases z⟩
 | w::r,h =>
  by_cases hw:w=aG "tag"
  ·match r,h with
   | [],h=>rw[rG hw]at h;cases h
   | b::r,h =>
    rw[Fg b r hw]at h
    split at h
    ·obtain⟨rfl,h'⟩:=Fh h
     refine⟨.inr (by simp),λus z=>?_⟩
     subst z
     have:=zH h'
     exact⟨by simp;omega,λy hy=>mem_cons_of_mem _ (mem_cons_of_mem _ (this.2 y hy))⟩
    ·cases h
  ·rw[MU r hw]at h
   obtain⟨rfl,h'⟩:=Fh h
   exact⟨.inl rfl,λus z=>by subst z;exact zH h'⟩
theorem cut4(ws:List Str)(c:Nat):cutD (ws.map D.str) (some 4) (some (c:Int))=(sl4 ws c).map .str:=by
 unfold sl4
 by_cases h:4<=c
 ·rw[Kq _ (by decide) (by omega),<-map_drop,<-map_take,List.drop_take]
  congr 2
  omega
 ·have e1:(ws.take c).drop 4=[]:=List.drop_of_length_le (by rw[length_take];omega)
  rw[e1]
  unfold cutD
  rw[show(4:Int)=((4:Nat):Int) from rfl,HT.Pj,HT.Pj,show min c (ws.map D.str).length-min 4 (ws.map D.str).length=0 by omega]
  rfl
theorem Fi{A:Adr}(T:Txt K mg A):ZL P w K mg base (CXE P w) 7 A.TU A.QL TJ (spD K (Dk A)):=by
 haveI:TxC K A:=⟨⟨_,T⟩⟩
 refine T.Sa.F.okJ Wd (by walk_at "ln") (λcdv Ar outer s H E hr=>⟨_,(Zb (ZI 1 Wd.nd (TC PySem.F.plainAttrs_str PySem.F.slot_str_split PySem.F.type_str_split Nn (jv 0) (Zc Zg Za)))
   (Zb (ZC [] (WO (XJ (Zm (XO hr.Yd) (Zj (jv 1) Zd) Zg (Zk _)) (XJ (Zm (XO hr.Yd) (YD (jv 1) (Yx Zd) (Yx Zd)) (ZH (Zc Zg Za)) (Zk _)) (XM (Zm Qs Zg (YD (jv 1) Wm (Yx (Mo Zd))) (by with_unfolding_all rfl)))))) (Ze (Xa [] T.Ym.x T.Ym.M (Zc Zg Za))) Zo)
   (Zb (ZI 2 Wd.nd (TC PySem.F.plainAttrs_list PySem.F.slot_list_index PySem.F.type_list_index Jc (jv 1) (Zc Zg Za)))
   (Zb (ZI 3 Wd.nd (Zw (MR T) T.Wu hr (Zc (Zj (jv 1) (Zh Zi (jv 2) Zd)) Za)))
   (Zb (Gq (Zw (Qk T) T.Xi hr (Zc (YD (jv 1) (Yx (Zh Zi (jv 2) Zd)) Wm) Za)) (Mr (n:=2) (YZ (Yj 4 Wd.nd) (YZ (Yj 5 Wd.nd) Pn))))
   (Ze (oZ T.sQ T.VI.M T.Ym.x T.Ym.M (λ_ _=>(Ze (Zr [] (za (dvs:=[]) (dds:=[]) T.mk_Rule (MN T) (hr.mono (by decide)) (by rfl) T.M_Rule T.Wt .nil (λ_=>rfl) yV (Zc (Zj (jv 1) Zd) (Zc (Zj (jv 1) Zd) (Zc (YD (jv 1) (Yx Zd) (Yx (jv 2))) (Zc (jv 3) (Zc (jv 4) (Zc (jv 5) Za)))))))))) (λ_=>(Zc Zg Za))))))))),λxs q x h=>?_⟩)
 ·obtain⟨z,ws,rfl,⟨hl,e,_⟩,h1,h2,h3,hg,hb⟩:=h
  have hsz:az=16777216:=rfl
  have at':∀ j,j<ws.length->(ws.map D.str)[j]?=some (.str (ws.getD j (aG ""))):=λj hj=>by
   rw[getElem?_map,aA hj,getD_eq_getElem?_getD,aA hj]
   rfl
  have lt:∀ j,(ws.getD j (aG "")).length<=600:=λj=>by
   rw[getD_eq_getElem?_getD]
   cases q:ws[j]? with
   | none=>decide +kernel
   | some y=>exact h3 y (mem_of_getElem? q)
  have no:¬ (ws.getD 0 (aG "")=aG "rule" /\ (ws.drop 3).take 1=[aG "->"]/\aG ":" ∈ ws.dropLast)->1<=az/\x A.ZE:=λz=>⟨by decide,hb (by unfold Sg;rw[if_neg z])⟩
  have eo:∀ (zs:List Str) (a:Str),WB (D.PN 80) (zs.map .str) [.str a]=true/\D.WK (zs.map .str) [.str a]=decide (zs=[a]):=λzs a=>JH 80 zs [a]
  walk_at "rd"
  simp only[e]
  refine⟨hl,by decide +kernel,_,YY (j:=0) (at' 0 (by omega)),?_⟩
  walk_at "rd"
  refine QT (λz=>no λy=>z y.1) λz1=>?_
  have c3:cutD (ws.map D.str) (some 3) (some 4)=((ws.drop 3).take 1).map .str:=by
   rw[Kq _ (by decide) (by decide),<-map_drop,<-map_take]
   rfl
  rw[c3,cutL,(eo _ _).2]
  refine⟨by decide,(eo _ _).1,QT (λz=>no λy=>z y.2.1) λz2=>?_⟩
  walk_at "rd"
  refine QT (λz=>no λy=>z y.2.2) λz3=>?_
  unfold Sg at hg hb
  rw[if_pos ⟨z1,z2,z3⟩]at hg hb
  have hc:=jM z3
  have h4:3<ws.length:=by
   have:=congrArg length z2
   rw[length_take,length_drop]at this
   simp at this
   omega
  generalize ws.idxOf (aG ":")=c at hg hb hc⊢
  refine⟨List.dropLast_subset _ z3,_,YY (j:=c+1) (at' _ hc),_,rfl,lt _,λt b hr=>?_,λhr=>hb (by rw[hr];rfl)⟩
  obtain⟨p1,p2⟩:=xu hr
  rw[hr]at hg hb
  refine⟨p1,p2,?_⟩
  have cR:cutD (ws.map D.str) (some ((c:Int)+2)) none=(ws.drop (c+2)).map .str:=cutF ws (c+2)
  rw[cR]
  refine⟨_,rfl,by rw[length_drop];omega,λw hw=>by have:=h3 w (mem_of_mem_drop hw);omega,λtg u hu=>?_,λhu=>hb (by rw[hu];rfl)⟩
  rw[hu]at hg hb
  walk_at "rd"
  refine⟨_,YY (j:=1) (at' 1 (by omega)),_,YY (j:=2) (at' 2 (by omega)),?_⟩
  obtain⟨g1,g2⟩:=nG hu
  have fits:∀ us:List Str,us.length<=1000->(∀ y∈us,y∈ws)->Fits us:=λus a b=>⟨a,λy hy=>by have:=h3 y (b y hy);omega⟩
  have ltg:tg.length<=1000:=by
   rcases g1 with z|z
   ·rw[z];decide +kernel
   ·have:=h3 tg (mem_of_mem_drop z);omega
  have l1:=lt 1
  have l2:=lt 2
  refine⟨_,_,_,sl4 ws c,_,tg,_,u,rfl,.inl (congrArg D.lst (cut4 ws c)),fits _ (by unfold sl4;rw[length_drop,length_take];omega) (λy hy=>mem_of_mem_take (mem_of_mem_drop hy)),?_,by omega,by omega,ltg,λho=>hg _ _ _ _ _ _ _ ?_,λho=>⟨T.LJ,by decide,hb ?_⟩⟩
  ·cases u with
   | none=>rfl
   | some us =>
    obtain⟨a,b⟩:=g2 us rfl
    rw[length_drop]at a
    exact⟨.inl rfl,fits us (by omega) λy hy=>mem_of_mem_drop (b y hy)⟩
  ·show(if Yc _ _ _ _ _=true then _ else _)=_
   rw[if_pos ho]
  ·show(if Yc _ _ _ _ _=true then _ else _)=_
   rw[if_neg (by rw[ho];decide)]
noncomputable def LX(f:α->Option D):List α->Option (List D)
 | []=>some []
 | a::l=>(f a).bind λd=>(LX f l).map (d :: ·)
theorem HJ{α:Type}{c:α->D}{e:DE}{q:List D->Prop}{x:Addr->Prop}{C:Addr}{caps:DSt}(f:α->Option D):∀ (xs:List α) (s:L2.Slot) (acc:List D),acc.length+xs.length<=az ->
  (∀ a∈xs,∀ N:D->Prop,(∀ d,f a=some d->N d)->(f a=none->x C)->e (.v (c a)::caps) N x)->(∀ ds,LX f xs=some ds->q (acc++ds))->(LX f xs=none->x C)->Je (Xu 0) CU e q x (xs.map c) (s::caps) acc
 | [],s,acc,_,_,hq,_=>by
  have:=hq [] rfl
  rw[append_nil]at this
  exact this
 | a::l,s,acc,hl,he,hq,hx=>by
  show e (.v (c a)::caps) _ x
  rw[length_cons]at hl
  refine he a (mem_cons_self ..) _ (λd hd=>⟨by omega,?_⟩) (λhn=>hx (by unfold LX;rw[hn];rfl))
  refine HJ f l _ (acc++[d]) (by rw[length_append,List.length_singleton];omega) (λa' ha=>he a' (mem_cons_of_mem _ ha)) (λds hds=>?_) (λhn=>hx (by unfold LX;rw[hd,hn];rfl))
  rw[append_assoc]
  exact hq (d::ds) (by unfold LX;rw[hd,hds];rfl)
noncomputable def LnW(z:Str)(ws:List Str):Prop:=Ln z ws/\1<=ws.length/\ws.length<=1000/\∀ w∈ws,w.length<=600
noncomputable def Tr(nm:Str)(ok:Str->Bool):List Str->Option Str
 | [a,b]=>if a=nm/\ok b=true then some b else none
 | _=>none
theorem Kr{nm:Str}{ok:Str->Bool}{b:Str}(h:ok b=true):Tr nm ok [nm,b]=some b:=if_pos ⟨rfl,h⟩
theorem NY{nm:Str}{ok:Str->Bool}{ws:List Str}(h:∀ b,ws=[nm,b]->ok b=false):Tr nm ok ws=none:=by
 match ws,h with
 | [a,b],h =>
  refine if_neg λz=>?_
  rw[h b (by rw[z.1])]at z
  exact absurd z.2 (by decide)
 | [],_=>rfl
 | [_],_=>rfl
 | _::_::_::_,_=>rfl
noncomputable def Oh(A:Adr)(ws:List Str):Option D:=(Sg ws).map λr => .obj A.C_Rule (HD r.1 r.2.1 r.2.2.1 (wD (lowP r.2.2.2.1.1 r.2.2.2.1.2) (IJ r.2.2.2.1.1 r.2.2.2.1.2)) r.2.2.2.2.1 r.2.2.2.2.2)
noncomputable def Fj(A:Adr):DSp:=λxs q x=>∃ ls:List (Str×List Str),xs=[.lst (ls.map λp => .str p.1)]/\ls.length<=1000/\(∀ p∈ls,LnW p.1 p.2) /\
 (∀ a b l sc st ds,ls=a::b::l->Tr (aG "scale") YQ a.2=some sc->Tr (aG "start") YS b.2=some st->LX (λp=>Oh A p.2) l=some ds->q (.tup [.str sc,.str st,.lst ds])) /\
 ((∀ a b l sc st ds,ls=a::b::l->Tr (aG "scale") YQ a.2=some sc->Tr (aG "start") YS b.2=some st->LX (λp=>Oh A p.2) l=some ds->False)->x A.ZE)
theorem IT{A:Adr}(T:Txt K mg A):ZL P w K mg base (CXE P w) 8 A.Uk A.RA Uc (spD K (Fj A)):=by
 haveI:TxC K A:=⟨⟨_,T⟩⟩
 refine T.Uu.F.okJ Iz (by walk_at "ln") (λcdv Ar outer s H E hr=>⟨_,(Zb (ZC [] (Zm Hq (Yl ZY (by rfl) T.b_len PySem.boot_len (Zc (jv 0) Za)) Zd (Zk _)) (Ze (Xa [] T.Ym.x T.Ym.M (Zc Zg Za))) Zo)
   (Ze (Zr [] (Yz (Zc (Zw (IM T) T.Uv hr (Zc (Zj (jv 0) Zd) Za)) (Zc (Zw (IP T) T.Uw hr (Zc (Zj (jv 0) Zd) Za)) (Zc (sF ["line"] [] [] (ZZ (YD (jv 0) (Yx Zd) Wm)) (λ_=>(Yj 0 (nDk ["line"] []))) (λ_=>ZW) (λ_=>(EG (Fi T) T.Sa (hr.mono (by decide)) Bn (Zc (jv 0) Za)))) Za))))))),λxs q x h=>?_⟩)
 ·obtain⟨ls,rfl,hl,hw,hg,hb⟩:=h
  have hsz:az=16777216:=rfl
  walk_at "rd"
  match ls,hl,hw,hg,hb with
  | [],hl,hw,hg,hb=>exact⟨by decide,hb λ_ _ _ _ _ _ z=>nomatch z⟩
  | [_],hl,hw,hg,hb=>exact⟨by decide,hb λ_ _ _ _ _ _ z=>nomatch z⟩
  | a::b::l,hl,hw,hg,hb =>
   rw[length_cons,length_cons]at hl
   have ha:=hw a (by simp)
   have hB:=hw b (by simp)
   refine YG (λz=>by simp at z;omega) (λ_=>⟨_,YY (j:=0) rfl,a.1,a.2,rfl,ha.1,λsc e1 w1=>?_,λhn=>hb λ_ _ _ _ _ _ z z1 _ _=>?_⟩)
   ·refine⟨_,YY (j:=1) rfl,b.1,b.2,rfl,hB.1,λst e2 w2=>?_,λhn=>hb λ_ _ _ _ _ _ z _ z2 _=>?_⟩
    ·have c2:cutD ((a::b::l).map λp=>D.str p.1) (some 2) none=l.map λp=>D.str p.1:=by
      rw[zG _ (by decide)]
      rfl
     rw[c2]
     refine HJ (C:=A.ZE) (λp=>Oh A p.2) l _ [] (by show 0+l.length<=_;omega) (λp hp N h1 h2=>?_) (λds hds=>⟨by decide,hg a b l sc st ds rfl (by rw[e1];exact Kr w1) (by rw[e2];exact Kr w2) hds⟩) (λhn=>hb λ_ _ _ _ _ _ z _ _ z3=>?_)
     ·have hp':=hw p (mem_cons_of_mem _ (mem_cons_of_mem _ hp))
      refine⟨p.1,p.2,rfl,hp'.1,hp'.2.1,hp'.2.2.1,hp'.2.2.2,λti hd ps t b tg u hr=>h1 _ (by unfold Oh;rw[hr];rfl),λhr=>h2 (by unfold Oh;rw[hr];rfl)⟩
     ·cases z
      rw[hn]at z3
      cases z3
    ·cases z
     rw[NY hn]at z2
     cases z2
   ·cases z
    rw[NY hn]at z1
    cases z1
noncomputable def Cyc(steps:List (Str×Str))(w:List Str):Prop:=∃ S:Str->Prop,(∃ a,S a)/\∀ a,S a->a∈w/\∃ b,(a,b)∈steps/\S b
theorem Dl{steps:List (Str×Str)}{w:List Str}{h:Str}:h∈heldBy steps w↔∃ b∈w,(h,b)∈steps:=by
 unfold heldBy
 rw[mem_map]
 constructor
 ·rintro⟨s,h1,rfl⟩
  obtain⟨h2,h3⟩:=mem_filter.mp h1
  exact⟨s.2,of_decide_eq_true h3,h2⟩
 ·rintro⟨b,h1,h2⟩
  exact⟨(h,b),mem_filter.mpr ⟨h2,decide_eq_true h1⟩,rfl⟩
theorem nH{steps:List (Str×Str)}{w r o res:List Str}(h:Hio steps w r o res):(r=[]->∀ x∈w,x∈heldBy steps w)->(res.length<o.length+w.length↔Cyc steps w):=by
 induction h with
 | @stop w o =>
  intro hc
  constructor
  ·intro lt
   have hw:w≠[]:=λz=>by rw[z]at lt;simp at lt
   obtain⟨a,w',rfl⟩:=List.exists_cons_of_ne_nil hw
   refine⟨λx=>x∈a::w',⟨a,mem_cons_self ..⟩,λx hx=>⟨hx,?_⟩⟩
   obtain⟨b,h1,h2⟩:=Dl.mp (hc rfl x hx)
   exact⟨b,h2,h1⟩
  ·rintro⟨S,⟨a,ha⟩,hS⟩
   have:=List.length_pos_of_mem (hS a ha).1
   omega
 | @step w r o res hr _ ih =>
  intro _
  have ll:=Jt w (λh=>decide (h∈heldBy steps w))
  have e:=ih (λz x hx=>by
   have all:∀ y∈w,y∈heldBy steps w:=λy hy=>Classical.byContradiction λc=>by
    have:y∈w.filter λh => !decide (h∈heldBy steps w):=mem_filter.mpr ⟨hy,by simp[c]⟩
    rw[z]at this
    cases this
   have ew:(w.filter λh=>decide (h∈heldBy steps w))=w:=filter_eq_self.mpr λy hy=>decide_eq_true (all y hy)
   rw[ew]at hx⊢
   exact all x hx)
  rw[length_append]at e
  have el:o.length+(w.filter λh => !decide (h∈heldBy steps w)).length+(w.filter λh=>decide (h∈heldBy steps w)).length=o.length+w.length:=by omega
  rw[el]at e
  refine e.trans ⟨λ⟨S,h0,hS⟩=>⟨S,h0,λa ha=>⟨(mem_filter.mp (hS a ha).1).1,(hS a ha).2⟩⟩,λ⟨S,h0,hS⟩=>⟨S,h0,λa ha=>⟨?_,(hS a ha).2⟩⟩⟩
  obtain⟨h1,b,h2,h3⟩:=hS a ha
  exact mem_filter.mpr ⟨h1,decide_eq_true (Dl.mpr ⟨b,(hS b h3).1,h2⟩)⟩
theorem jN(steps:List (Str×Str)):∀ (n:Nat) (w r o:List Str),w.length<=n->∃ res,Hio steps w r o res:=by
 intro n
 induction n with
 | zero =>
  intro w r o hn
  have:w=[]:=List.eq_nil_of_length_eq_zero (by omega)
  subst this
  by_cases hr:r=[]
  ·subst hr;exact⟨o,.stop⟩
  ·exact⟨o++[],.step hr .stop⟩
 | succ n ih =>
  intro w r o hn
  by_cases hr:r=[]
  ·subst hr;exact⟨o,.stop⟩
  have ll:=Jt w (λh=>decide (h∈heldBy steps w))
  by_cases hr':(w.filter λh => !decide (h∈heldBy steps w))=[]
  ·refine⟨o++[],.step hr ?_⟩
   rw[hr']
   exact .stop
  ·have:=List.length_pos_iff.mpr hr'
   obtain⟨res,h⟩:=ih (w.filter λh=>decide (h∈heldBy steps w)) (w.filter λh => !decide (h∈heldBy steps w)) (o++w.filter λh => !decide (h∈heldBy steps w)) (by omega)
   exact⟨res,.step hr h⟩
theorem rH(z:Str):∀ (zs a:List Str),z∈zs.foldl EW a↔z∈a\/z∈zs:=by
 intro zs
 induction zs with
 | nil=>intro a;simp
 | cons y zs ih =>
  intro a
  rw[foldl_cons,ih]
  unfold EW
  by_cases h:y∈a
  ·rw[if_pos h,mem_cons]
   exact⟨λz=>z.elim .inl (λz => .inr (.inr z)),λz=>z.elim .inl (λz=>z.elim (λe => .inl (e ▸ h)) .inr)⟩
  ·rw[if_neg h,mem_append,mem_cons,mem_cons]
   simp only[not_mem_nil,or_false,or_assoc]
theorem Dm{rs:List Ru}{z:Str}:z∈waitOf rs↔∃ r∈rs,r.hd=z:=by
 unfold waitOf dedS
 rw[rH,mem_map]
 simp
theorem Dn{rs:List Ru}{a b:Str}:(a,b)∈Wj rs↔∃ r∈rs,r.hd=a/\r.ps=[b]:=by
 unfold Wj
 rw[mem_map]
 constructor
 ·rintro⟨r,h,e⟩
  obtain⟨h1,h2⟩:=mem_filter.mp h
  have h2:=of_decide_eq_true h2
  cases e
  refine⟨r,h1,rfl,?_⟩
  match r.ps,h2 with
  | [p],_=>rfl
 ·rintro⟨r,h,rfl,e⟩
  exact⟨r,mem_filter.mpr ⟨h,decide_eq_true (by rw[e];rfl)⟩,by rw[e];rfl⟩
noncomputable def MV(p:List (Str×Str)):List (Str×Str):=p.filter λx=>decide (x.2∈p.map (·.1))
noncomputable def itP:Nat->List (Str×Str)->List (Str×Str)
 | 0,p=>p
 | n+1,p=>itP n (MV p)
theorem Dp:∀ (n:Nat) (p:List (Str×Str)),itP (n+1) p=MV (itP n p)
 | 0,_=>rfl
 | n+1,p=>Dp n (MV p)
theorem zI:∀ (n:Nat) (p:List (Str×Str)),(itP n p).length<=p.length
 | 0,_=>Nat.le_refl _
 | n+1,p=>Nat.le_trans (zI n (MV p)) (length_filter_le _ _)
theorem zJ{p:List (Str×Str)}(h:MV p=p):∀ n,itP n p=p
 | 0=>rfl
 | n+1=>by show itP n (MV p)=p;rw[h];exact zJ h n
theorem HK:∀ (n:Nat) (p:List (Str×Str)),p.length<=n->MV (itP n p)=itP n p
 | 0,p,h=>by
  have:p=[]:=List.eq_nil_of_length_eq_zero (by omega)
  subst this
  rfl
 | n+1,p,h=>by
  by_cases e:MV p=p
  ·rw[zJ e];exact e
  ·refine HK n (MV p) ?_
   have:(MV p).length≠p.length:=λz=>e (filter_eq_self.mpr (List.length_filter_eq_length_iff.mp z))
   have:=length_filter_le (λx=>decide (x.2∈p.map (·.1))) p
   unfold MV at *
   omega
theorem zK:∀ (n:Nat) (p:List (Str×Str)) (x:Str×Str),x∈itP n p->x∈p
 | 0,_,_,h=>h
 | n+1,p,x,h=>(mem_filter.mp (zK n (MV p) x h)).1
noncomputable def XX(rs:List Ru):List (Str×Str):=(rs.filter λr=>decide (r.ps.length=1)&&YS (r.ps.getD 0 "")).map λr=>(r.hd,r.ps.getD 0 "")
noncomputable def JK(rs:List Ru):Bool:=decide (0<(itP rs.length (XX rs)).length)
theorem JL{rs:List Ru}{a b:Str}:(a,b)∈XX rs↔(a,b)∈Wj rs/\YS b=true:=by
 rw[Dn]
 unfold XX
 rw[mem_map]
 constructor
 ·rintro⟨r,h,e⟩
  obtain⟨h1,h2⟩:=mem_filter.mp h
  simp only[aD,decide_eq_true_eq]at h2
  cases e
  refine⟨⟨r,h1,rfl,?_⟩,h2.2⟩
  match r.ps,h2.1 with
  | [p],_=>rfl
 ·rintro⟨⟨r,h,rfl,e⟩,hk⟩
  exact⟨r,mem_filter.mpr ⟨h,by rw[e];simpa using hk⟩,by rw[e];rfl⟩
theorem JM(rs:List Ru):(XX rs).length<=rs.length:=by
 unfold XX
 rw[length_map]
 exact length_filter_le _ _
theorem ring9{rs:List Ru}(hk:∀ r∈rs,YS r.hd=true):JK rs=true↔Cyc (Wj rs) (waitOf rs):=by
 unfold JK
 rw[decide_eq_true_eq]
 constructor
 ·intro h
  have st:=HK rs.length (XX rs) (JM rs)
  have sub:=zK rs.length (XX rs)
  generalize itP rs.length (XX rs)=Q at h st sub
  have cl:∀ q∈Q,q.2∈Q.map (·.1):=λq hq=>by
   rw[<-st]at hq
   exact of_decide_eq_true (mem_filter.mp hq).2
  obtain⟨q0,Q',rfl⟩:∃ q0 Q',Q=q0::Q':=List.exists_cons_of_ne_nil (λz=>by rw[z]at h;cases h)
  refine⟨λa=>a∈(q0::Q').map (·.1),⟨q0.1,mem_map.mpr ⟨q0,mem_cons_self ..,rfl⟩⟩,λa ha=>?_⟩
  obtain⟨q,hq,rfl⟩:=mem_map.mp ha
  have hs:=(JL.mp (sub q hq)).1
  obtain⟨r,hr,e,_⟩:=Dn.mp hs
  exact⟨Dm.mpr ⟨r,hr,e⟩,q.2,hs,cl q hq⟩
 ·rintro⟨S,⟨a,ha⟩,hS⟩
  have key:∀ (n:Nat) (p:List (Str×Str)),(∀ a,S a->∃ b,S b/\(a,b)∈p)->∀ a,S a->∃ b,S b/\(a,b)∈itP n p:=by
   intro n
   induction n with
   | zero=>intro p h;exact h
   | succ n ih =>
    intro p h
    refine ih (MV p) λa ha=>?_
    obtain⟨b,hb,hm⟩:=h a ha
    obtain⟨c,_,hm'⟩:=h b hb
    exact⟨b,hb,mem_filter.mpr ⟨hm,decide_eq_true (mem_map.mpr ⟨(b,c),hm',rfl⟩)⟩⟩
  obtain⟨b,_,hm⟩:=key rs.length (XX rs) (λa ha=>by
   obtain⟨_,b,hs,hb⟩:=hS a ha
   refine⟨b,hb,JL.mpr ⟨hs,?_⟩⟩
   obtain⟨r,hr,rfl⟩:=Dm.mp (hS b hb).1
   exact hk r hr) a ha
  exact List.length_pos_of_mem hm
section
variable {q:D->Prop}{r:Ru}
theorem zr_0:dIx (Ru.row r) (.int (no_index 0)) q=q (.str r.ti):=by show(∃ d,some (D.str r.ti)=some d/\q d)=_;simp
theorem zr_1:dIx (Ru.row r) (.int (no_index 1)) q=q (.str r.hd):=by show(∃ d,some (D.str r.hd)=some d/\q d)=_;simp
theorem zr_2:dIx (Ru.row r) (.int (no_index 2)) q=q (.lst (r.ps.map .str)):=by show(∃ d,some (D.lst (r.ps.map .str))=some d/\q d)=_;simp
theorem zr_3:dIx (Ru.row r) (.int (no_index 3)) q=q (wD r.wa r.wb):=by show(∃ d,some (wD r.wa r.wb)=some d/\q d)=_;simp
theorem zr_4:dIx (Ru.row r) (.int (no_index 4)) q=q (.str r.tg):=by show(∃ d,some (D.str r.tg)=some d/\q d)=_;simp
theorem zr_5:dIx (Ru.row r) (.int (no_index 5)) q=q (GV r.t):=by show(∃ d,some (GV r.t)=some d/\q d)=_;simp
theorem zl_N:GV none = .non:=rfl
theorem zl_S{us:List Str}:GV (some us) = .lst (us.map .str):=rfl
noncomputable def QY:DSp:=λxs q _=>∃ z:Str,xs=[.str z]/\z.length<=1000/\q (.bl (isNm z))
theorem Fk{z:Str}{x:Addr->Prop}:QY [.str z] q x=(z.length<=1000/\q (.bl (isNm z))):=by unfold QY;simp
noncomputable def QZ:DSp:=λxs q _=>∃ z:Str,xs=[.str z]/\z.length<=1000/\q (.bl (YS z))
theorem Fl{z:Str}{x:Addr->Prop}:QZ [.str z] q x=(z.length<=1000/\q (.bl (YS z))):=by unfold QZ;simp
end
def rd6:String:=rd5 ++ " zr_0 zr_1 zr_2 zr_3 zr_4 zr_5 zl_N zl_S Fk Fl"
local macro_rules | `(tactic| walk_at "rd") => rdM rd6
theorem Fm{A:Adr}(T:Txt K mg A):ZL P w K mg base (CXE P w) 1 A.TV A.QM TK (spD K QY):=by
 haveI:TxC K A:=⟨⟨_,T⟩⟩
 refine T.Sb.F.okJ Rn (by walk_at "ln") (λcdv Ar outer s H E hr=>⟨_,(Zb (ZI 1 Rn.nd Zg)
   (Zb (UL PassesOwn.leaving (CQ (jv 0)) (Yj 2 Rn.nd) (Ze (ZC [] (Zm Qs (jv 2) (jv 1) (by with_unfolding_all rfl)) (Ze (Zr [] KH)) Zo)))
   (Ze (Zr [] (AB PX PX Zd (Yl ZY (by rfl) T.b_len PySem.boot_len (Zc (jv 0) Za)) Zd))))),λxs q x h=>?_⟩)
 ·obtain⟨z,rfl,hz,hq⟩:=h
  have hsz:az=16777216:=rfl
  walk_at "rd"
  refine⟨[],?_⟩
  walk_at "rd"
  have es:=rq
  refine VG (c:=λc => .str ⟨#[c]⟩) (xs:=z.cps.toList) (λi ds=>∃ s,ds=[.v (.str z),.v (.str s62),s]/\(z.cps.toList.take i).all nmS=true) ⟨_,rfl,rfl⟩ (λi c ds N hc hi hn=>?_) (λds hi=>?_)
  ·obtain⟨s,rfl,hi⟩:=hi
   walk_at "rd"
   rw[Se]
   refine QT (λe=>?_) (λe=>hn _ ⟨_,rfl,?_⟩)
   ·have:isNm z=false:=by
     unfold isNm
     rw[show z.cps.toList.all nmS=false from List.all_eq_false.mpr ⟨c,mem_of_getElem? hc,by rw[<-es,decide_eq_false e];decide⟩]
     simp
    rw[this]at hq
    exact hq
   ·rw[take_add_one,hc,all_append,hi]
    simp only[Option.toList_some,all_cons,List.all_nil,Bool.and_true,Bool.true_and]
    rw[<-es,decide_eq_true e]
  ·obtain⟨s,rfl,hi⟩:=hi
   rw[take_length]at hi
   walk_at "rd"
   unfold isNm at hq
   rw[hi,Bool.and_true]at hq
   refine⟨by omega,YG (λe=>?_) (λe=>?_)⟩
   ·rw[decide_eq_true (show 1<=z.length by omega),Bool.true_and]at hq
    have:decide ((z.length:Int)<=12)=decide (z.length<=12):=by rw[Bool.eq_iff_iff];simp only[decide_eq_true_eq];omega
    rw[this]
    exact hq
   ·rw[decide_eq_false (show ¬ 1<=z.length by omega)]at hq
    exact hq
theorem NZ{A:Adr}(T:Txt K mg A):ZL P w K mg base (CXE P w) 2 A.TX A.QN TL (spD K QZ):=by
 haveI:TxC K A:=⟨⟨_,T⟩⟩
 refine T.VL.F.okJ GK (by walk_at "ln") (λcdv Ar outer s H E hr=>⟨_,(Ze (Zr [] (SR (Zw (Fm T) T.Sb hr (Zc (jv 0) Za)) (UI (Xs VY (Zj (jv 0) Zd) Zg (by with_unfolding_all rfl)))))),λxs q x h=>?_⟩)
 ·obtain⟨z,rfl,hz,hq⟩:=h
  have hsz:az=16777216:=rfl
  walk_at "rd"
  refine⟨hz,?_⟩
  unfold YS at hq
  refine ifB (λe=>⟨by omega,_,at0 (Yw e).1,?_⟩) (λe=>?_)
  ·rw[e]at hq
   rw[Se]
   exact hq
  ·rw[e]at hq
   exact hq
noncomputable def rJ:DSp:=λxs q _=>∃ rs:List Ru,xs=[.lst (rs.map Ru.row)]/\Rus rs/\q (.bl (JK rs))
theorem xA{A:Adr}(T:Txt K mg A):ZL P w K mg base (CXE P w) 3 A.Nz A.Jl Nt (spD K rJ):=by
 haveI:TxC K A:=⟨⟨_,T⟩⟩
 refine T.NM.F.okJ SJ (by walk_at "ln") (λcdv Ar outer s H E hr=>⟨_,(Zb (SX (i:=1) ["_law_row"] [] [] SJ.nd rfl (Or.inl rfl) (ZZ (jv 0)) (λ_=>(Yj 0 (nDk ["_law_row"] []))) (λ_=>(Sq (WO (Vk (Zm (Yk hr.Yd) (Yl ZY (by rfl) T.b_len PySem.boot_len (Zc (Zj (jv 0) Zd) Za)) Zd (Zk _)) (Wl (Yn (Zw (NZ T) T.VL hr (Zc (Zj (Zj (jv 0) Zd) Zd) Za)))))))) (λ_=>(Yz (Zc (Zj (jv 0) Zd) (Zc (Zj (Zj (jv 0) Zd) Zd) Za)))))
   (Zb (UL PassesOwn.leaving (Xo (by rfl) T.b_range (Zc (Yl ZY (by rfl) T.b_len PySem.boot_len (Zc (jv 0) Za)) Za)) (Yj 2 SJ.nd) (Zb (ZI 3 SJ.nd (ZU ["_law_pair"] [] [] (ZZ (jv 1)) (λ_=>(Yj 0 (nDk ["_law_pair"] []))) (λ_=>ZW) (λ_=>(Zj (jv 0) Zd))))
   (Ze (SX (i:=1) ["_law_pair"] ["_law_heads"] [3] SJ.nd rfl (Or.inl rfl) (ZZ (jv 1)) (λ_=>(Yj 0 (nDk ["_law_pair"] ["_law_heads"]))) (λ_=>(Sq (Zm VY (Zj (jv 0) Zd) (jv 1) (by with_unfolding_all rfl)))) (λ_=>(jv 0))))))
   (Ze (Zr [] (Xs Ho (Yl ZY (by rfl) T.b_len PySem.boot_len (Zc (jv 1) Za)) Zd (Zk _)))))),λxs q x h=>?_⟩)
 ·obtain⟨rs,rfl,⟨l1,l2⟩,hq⟩:=h
  have hsz:az=16777216:=rfl
  walk_at "rd"
  refine VZ (λr=>decide (r.ps.length=1)&&YS (r.ps.getD 0 "")) (λr => .tup [.str r.hd,.str (r.ps.getD 0 "")]) (by omega) (λr hr N hN=>?_) (λr hr hp N hN=>?_) ?_
  ·walk_at "rd"
   obtain⟨m1,m2,⟨m3,m5⟩,m4⟩:=l2 r hr
   refine YG (λe=>?_) (λe=>?_)
   ·have h1:r.ps.length=1:=by omega
    rw[decide_eq_true h1,Bool.true_and]at hN
    have hm:r.ps.getD 0 "" ∈ r.ps:=by
     rw[getD_eq_getElem?_getD,aA (by omega)]
     exact getElem_mem _
    refine⟨_,VD D.str r.ps "" (i:=0) (by decide) (by omega),?_⟩
    walk_at "rd"
    exact⟨m5 _ hm,hN⟩
   ·rw[decide_eq_false (show ¬ r.ps.length=1 by omega)]at hN
    exact hN
  ·simp only[aD,decide_eq_true_eq]at hp
   walk_at "rd"
   exact⟨_,VD D.str r.ps "" (i:=0) (by decide) (by omega),by decide,hN⟩
  have e0:(rs.filter λr=>decide (r.ps.length=1)&&YS (r.ps.getD 0 "")).map (λr=>D.tup [.str r.hd,.str (r.ps.getD 0 "")])=(itP 0 (XX rs)).map λs => .tup [.str s.1,.str s.2]:=by
   show _=(XX rs).map _
   unfold XX
   rw[map_map];rfl
  rw[e0]
  have pl:=JM rs
  refine⟨[],?_⟩
  walk_at "rd"
  refine⟨by omega,by omega,SZ (λt ds=>∃ s2 s3,ds=[.v (.lst (rs.map Ru.row)),.v (.lst ((itP t (XX rs)).map λs => .tup [.str s.1,.str s.2])),s2,s3]) ⟨_,_,rfl⟩ (λt ds N ht hi hn=>?_) (λds hi=>?_)⟩
  ·obtain⟨s2,s3,rfl⟩:=hi
   have il:=zI t (XX rs)
   rw[Dp]at hn
   generalize itP t (XX rs)=p at il hn⊢
   walk_at "rd"
   refine Yu (λs:Str×Str => .str s.1) (by omega) (λs hs N hN=>?_) ?_
   ·walk_at "rd"
    exact⟨_,rfl,hN⟩
   have e1:p.map (λs:Str×Str=>D.str s.1)=(p.map (·.1)).map .str:=by rw[map_map];rfl
   rw[e1]
   refine VZ (λs:Str×Str=>decide (s.2∈p.map (·.1))) (λs => .tup [.str s.1,.str s.2]) (by omega) (λs hs N hN=>?_) (λs hs _ N hN=>?_) ?_
   ·walk_at "rd"
    refine⟨_,rfl,?_⟩
    walk_at "rd"
    exact hN
   ·walk_at "rd"
    exact hN
   exact hn _ ⟨_,_,rfl⟩
  ·obtain⟨s2,s3,rfl⟩:=hi
   walk_at "rd"
   unfold JK at hq
   rw[Int.toNat_natCast]
   have:decide ((0:Int)<(itP rs.length (XX rs)).length)=decide (0<(itP rs.length (XX rs)).length):=by rw[Bool.eq_iff_iff];simp only[decide_eq_true_eq];omega
   rw[this]
   exact hq
noncomputable def IU(st:Str)(rs:List Ru):List Str:=st::rs.flatMap λr=>r.ps.filter YS
noncomputable def LY:DSp:=λxs q _=>∃ (st:Str) (rs:List Ru),xs=[.str st,.lst (rs.map Ru.row)]/\rs.length<=11/\(∀ r∈rs,r.ps.length<=4/\∀ p∈r.ps,p.length<=1000)/\q (.lst ((IU st rs).map .str))
theorem MX{A:Adr}(T:Txt K mg A):ZL P w K mg base (CXE P w) 3 A.Ws A.VV Wq (spD K LY):=by
 haveI:TxC K A:=⟨⟨_,T⟩⟩
 refine T.Wv.F.okJ We (by walk_at "ln") (λcdv Ar outer s H E hr=>⟨_,(Zb (Vt (i:=2) We.nd rfl (Or.inl rfl) (Sn (Zc (jv 0) Za)))
   (Zb (UL PassesOwn.leaving (ZZ (jv 1)) (Yj 3 We.nd) (Ze (Wn [] (i:=2) We.nd rfl (Or.inl rfl) (ZU ["_law_part"] [] [] (ZZ (Zj (jv 3) Zd)) (λ_=>(Yj 0 (nDk ["_law_part"] []))) (λ_=>(Sq (Yn (Zw (NZ T) T.VL hr (Zc (jv 0) Za))))) (λ_=>(jv 0))))))
   (Ze (Zr [2] (jv 2))))),λxs q x h=>?_⟩)
 ·obtain⟨st,rs,rfl,l1,l2,hq⟩:=h
  have hsz:az=16777216:=rfl
  walk_at "rd"
  refine⟨by decide,[],?_⟩
  walk_at "rd"
  refine VG (λi ds=>∃ s,ds=[.v (.str st),.v (.lst (rs.map Ru.row)),.own ((IU st (rs.take i)).map .str),s]/\(IU st (rs.take i)).length<=1+4*i) ⟨_,rfl,by rw[List.take_zero];show 1<=1;exact Nat.le_refl _⟩ (λi r ds N hr hi hn=>?_) (λds hi=>?_)
  ·obtain⟨s,rfl,hl⟩:=hi
   obtain⟨m1,m2⟩:=l2 r (mem_of_getElem? hr)
   have hi:i<rs.length:=(List.getElem?_eq_some_iff.mp hr).1
   have fl:=length_filter_le YS r.ps
   walk_at "rd"
   refine VZ YS .str (by omega) (λp hp N hN=>?_) (λp hp _ N hN=>?_) ?_
   ·walk_at "rd"
    exact⟨m2 p hp,hN⟩
   ·walk_at "rd"
    exact hN
   have ea:IU st (rs.take (i+1))=IU st (rs.take i)++r.ps.filter YS:=by
    unfold IU
    rw[take_add_one,hr,Option.toList_some,List.flatMap_append]
    simp
   refine⟨by rw[length_map];omega,hn _ ⟨_,by rw[ea,map_append],?_⟩⟩
   rw[ea,length_append]
   omega
  ·obtain⟨s,rfl,hl⟩:=hi
   rw[take_length]
   exact hq
noncomputable def Sz(z st:Str)(rs:List Ru):Str:=if z ≠ "cost" /\ z ≠ "chance" then "NoScale" else if cwt z [] rs=1 then "NoWeight" else if cwt z [] rs=2 then "Twice" else if ctu rs=false then "NoTitle" else if ck st rs=false then "NoKind" else if JK rs=true then "Ring" else ""
structure Fair (rs:List Ru):Prop where
 len:rs.length<=11
 ps:∀ r∈rs,r.ps.length<=4/\∀ p∈r.ps,p.length<=1000
 us:∀ r∈rs,∀ us,r.t=some us->us.length<=4
theorem rK(z:Str):∀ (rs:List Ru) (seen:List Str),cwt z seen rs<=2
 | [],_=>by unfold cwt;decide
 | r::rs,seen=>by
  unfold cwt
  split
  ·decide
  ·split
   ·decide
   ·exact rK z rs _
noncomputable def nI:DSp:=λxs q _=>∃ (z st:Str) (rs:List Ru),xs=[.str z,.str st,.lst (rs.map Ru.row)]/\Rus rs/\Fair rs/\q (.str (Sz z st rs))
theorem rL{A:Adr}(T:Txt K mg A):ZL P w K mg base (CXE P w) 4 A.f_l_due A.d_l_due Kp (spD K nI):=by
 haveI:TxC K A:=⟨⟨_,T⟩⟩
 refine T.L_l_due.F.okJ QH (by walk_at "ln") (λcdv Ar outer s H E hr=>⟨_,(Zb (Xl (ZC [] (WO (Vk (Zm (XO hr.Yd) (jv 0) Zg (Zk _)) (Wl (Zm (XO hr.Yd) (jv 0) Zg (Zk _))))) (Ze (Zr [] Zg)) Zo))
   (Zb (Vt (i:=3) QH.nd rfl (Or.inr rfl) (Sn Za))
   (Zb (Xl (UL PassesOwn.leaving (ZZ (jv 2)) (Yj 4 QH.nd) (Zb (ZC [] (WO (Vk (Zm (Yk hr.Yd) (jv 0) Zg (Zk _)) (Wl (Zm PX (Zj (Zj (jv 4) Zd) Zd) Zd (Zk _))))) (Ze (Zr [] Zg)) Zo)
   (Zb (ZC [3] (Zm VY (Zj (jv 4) Zd) (jv 3) (by with_unfolding_all rfl)) (Ze (Zr [] Zg)) Zo)
   (Ze (KS [] 3 (Zj (jv 4) Zd)))))))
   (Zb (Xl (UL PassesOwn.leaving (ZZ (jv 2)) (Yj 4 QH.nd) (Ze (ZC [3] (WO (Vk (Zm Nk (Zj (jv 4) Zd) Qb (Zk _)) (Wl (YR (Yn (Yl SV (by rfl) T.b_all PyProof.Rows.boot_all (Zc (ZU ["_law_title"] ["_law_titles"] [3] (ZZ (Zj (jv 4) Zd)) (λ_=>(Yj 0 (nDk ["_law_title"] ["_law_titles"]))) (λ_=>ZW) (λ_=>(Xs VY (jv 0) (jv 1) (by with_unfolding_all rfl)))) Za))))))) (Ze (Zr [] Zg)) Zo))))
   (Zb (ZI 5 QH.nd (ZU ["_law_row"] [] [] (ZZ (jv 2)) (λ_=>(Yj 0 (nDk ["_law_row"] []))) (λ_=>ZW) (λ_=>(Zj (jv 0) Zd))))
   (Zb (ZC [] (YR (Yn (Yl SV (by rfl) T.b_all PyProof.Rows.boot_all (Zc (ZU ["_law_kind"] ["_law_heads"] [5] (ZZ (Zw (MX T) T.Wv hr (Zc (jv 1) (Zc (jv 2) Za)))) (λ_=>(Yj 0 (nDk ["_law_kind"] ["_law_heads"]))) (λ_=>ZW) (λ_=>(Xs VY (jv 0) (jv 1) (by with_unfolding_all rfl)))) Za)))) (Ze (Zr [] Zg)) Zo)
   (Zb (ZC [] (Yn (Zw (xA T) T.NM hr (Zc (jv 2) Za))) (Ze (Zr [] Zg)) Zo)
   (Ze (Zr [] Zg))))))))),λxs q x h=>?_⟩)
 ·obtain⟨z,st,rs,rfl,hR,hF,hq⟩:=h
  have hsz:az=16777216:=rfl
  obtain⟨r1,r2⟩:=hR
  refine⟨λds'=>ds'=[.v (.str z),.v (.str st),.v (.lst (rs.map Ru.row)),.un,.un,.un]/\(z = "cost" \/ z = "chance"),?_,?_⟩
  ·walk_at "rd"
   refine QT (λe1=>QT (λe2=>?_) (λe2 => .inr e2)) (λe1 => .inl e1)
   have:Sz z st rs = "NoScale" := by unfold Sz;rw[if_pos ⟨e1,e2⟩]
   rw[this]at hq
   exact hq
  rintro _ ⟨rfl,hz⟩
  have nz:¬ (z ≠ "cost" /\ z ≠ "chance"):=λh=>hz.elim h.1 h.2
  have hw:(aG "cost")≠aG "chance" := by decide +kernel
  have ow:∀ a:Int,okW z a=(decide (z = "chance")&&decide (a<=0)).not:=λa=>by
   unfold okW
   rcases hz with rfl|rfl
   ·rw[decide_eq_true rfl,decide_eq_false hw];rfl
   ·rw[decide_eq_false (λz=>hw z.symm),decide_eq_true rfl]
    rw[Bool.false_or,Bool.true_and,<-decide_not]
    exact decide_eq_decide.mpr (by omega)
  walk_at "rd"
  refine⟨by decide,λds'=>∃ s,ds'=[.v (.str z),.v (.str st),.v (.lst (rs.map Ru.row)),.own ((rs.map (·.ti)).map .str),s,.un]/\cwt z [] rs=0,?_,?_⟩
  ·refine⟨[],?_⟩
   walk_at "rd"
   refine VG (λi ds=>∃ s,ds=[.v (.str z),.v (.str st),.v (.lst (rs.map Ru.row)),.own (((rs.take i).map (·.ti)).map .str),s,.un]/\cwt z ((rs.take i).map (·.ti)) (rs.drop i)=cwt z [] rs) ⟨.un,rfl,rfl⟩ (λi r ds N hr hi hn=>?_) (λds hi=>?_)
   ·obtain⟨s,rfl,hc⟩:=hi
    obtain⟨hi1,hi2⟩:=List.getElem?_eq_some_iff.mp hr
    rw[drop_eq_getElem_cons hi1,hi2,cwt]at hc
    have lt:(rs.take i).length<=1000:=by rw[length_take];omega
    have bad1:okW z r.wa=false->q (.str "NoWeight"):=λe=>by
     rw[if_pos e]at hc
     have:Sz z st rs = "NoWeight" := by unfold Sz;rw[if_neg nz,if_pos hc.symm]
     rw[this]at hq
     exact hq
    have rest:okW z r.wa=true->(if decide (r.ti∈(rs.take i).map (·.ti))=true then q (.str "Twice") else ((rs.take i).map (·.ti)).length<az/\N [.v (.str z),.v (.str st),.v (.lst (rs.map Ru.row)),.own (((rs.take i).map (·.ti)).map .str++[.str r.ti]),.v r.row,.un]):=λe=>by
     rw[if_neg (by rw[e];decide)]at hc
     refine YG (λe2=>?_) (λe2=>⟨by rw[length_map];omega,hn _ ⟨.v r.row,?_,?_⟩⟩)
     ·rw[if_pos e2]at hc
      have:Sz z st rs = "Twice" := by unfold Sz;rw[if_neg nz,if_neg (by omega),if_pos hc.symm]
      rw[this]at hq
      exact hq
     ·rw[take_add_one,hr]
      simp
     ·rw[if_neg e2]at hc
      rw[take_add_one,hr,<-hc]
      simp
    walk_at "rd"
    rw[length_map]at rest
    have ow:=ow r.wa
    unfold wD
    refine YG (λe1=>⟨_,rfl,?_⟩) (λe1=>rest (by rw[ow,decide_eq_false e1];rfl))
    walk_at "rd"
    refine YG (λe2=>bad1 (by rw[ow,decide_eq_true e1,decide_eq_true e2];rfl)) (λe2=>rest (by rw[ow,decide_eq_true e1,decide_eq_false e2];rfl))
   ·obtain⟨s,rfl,hc⟩:=hi
    rw[take_length,List.drop_length]at *
    exact⟨_,rfl,hc.symm⟩
  rintro _ ⟨s,rfl,hc⟩
  walk_at "rd"
  refine⟨λds'=>∃ s,ds'=[.v (.str z),.v (.str st),.v (.lst (rs.map Ru.row)),.own ((rs.map (·.ti)).map .str),s,.un]/\ctu rs=true,?_,?_⟩
  ·refine⟨[],?_⟩
   walk_at "rd"
   refine VG (λi ds=>∃ s,ds=[.v (.str z),.v (.str st),.v (.lst (rs.map Ru.row)),.own ((rs.map (·.ti)).map .str),s,.un]/\(rs.take i).all (Vr (rs.map (·.ti)))=true) ⟨_,rfl,rfl⟩ (λi r ds N hr hi hn=>?_) (λds hi=>?_)
   ·obtain⟨s,rfl,hc⟩:=hi
    have mem:=mem_of_getElem? hr
    have nxt:Vr (rs.map (·.ti)) r=true->N [.v (.str z),.v (.str st),.v (.lst (rs.map Ru.row)),.own ((rs.map (·.ti)).map .str),.v r.row,.un]:=λe=>by
     refine hn _ ⟨_,rfl,?_⟩
     rw[take_add_one,hr,all_append,hc]
     simp[e]
    have bad:Vr (rs.map (·.ti)) r=false->q (.str "NoTitle"):=λe=>by
     have h1:ctu rs=false:=by
      unfold ctu
      rw[List.all_eq_false]
      exact⟨r,mem,by rw[e];decide⟩
     have:Sz z st rs = "NoTitle" := by unfold Sz;rw[if_neg nz,if_neg (by omega),if_neg (by omega),if_pos h1]
     rw[this]at hq
     exact hq
    walk_at "rd"
    cases ht:r.t with
    | none =>
     walk_at "rd"
     exact nxt (by unfold Vr;rw[ht])
    | some us =>
     have f1:=hF.us r mem us ht
     walk_at "rd"
     refine Yu (λu => .bl (decide (u∈rs.map (·.ti)))) (by omega) (λu hu N hN=>?_) ?_
     ·walk_at "rd"
      exact hN
     walk_at "rd"
     exact QU (λe=>bad (by unfold Vr;rw[ht];exact e)) (λe=>nxt (by unfold Vr;rw[ht];exact e))
   ·obtain⟨s,rfl,hc⟩:=hi
    rw[take_length]at hc
    exact⟨_,rfl,hc⟩
  rintro _ ⟨s,rfl,hu⟩
  walk_at "rd"
  refine Yu (λr => .str r.hd) (by omega) (λr hr N hN=>?_) ?_
  ·walk_at "rd"
   exact hN
  rw[zu]
  refine⟨st,rs,rfl,hF.len,hF.ps,?_⟩
  walk_at "rd"
  have al:(IU st rs).length<=45:=by
   have key:∀ l:List Ru,(∀ r∈l,r.ps.length<=4)->(l.flatMap λr=>r.ps.filter YS).length<=4*l.length:=by
    intro l
    induction l with
    | nil=>intro _;simp
    | cons r l ih =>
     intro h
     rw[List.flatMap_cons,length_append,length_cons]
     have:=ih λr' h'=>h r' (mem_cons_of_mem _ h')
     have h1:=length_filter_le YS r.ps
     have h2:=h r (mem_cons_self ..)
     omega
   have:=key rs λr hr=>(hF.ps r hr).1
   have:=hF.len
   unfold IU
   rw[length_cons]
   omega
  refine Yu (λk => .bl (decide (k∈rs.map (·.hd)))) (by omega) (λk hk N hN=>?_) ?_
  ·walk_at "rd"
   exact hN
  have ec:((IU st rs).all λk=>decide (k∈rs.map (·.hd)))=ck st rs:=by
   unfold IU ck
   rw[all_cons,List.all_flatMap]
   rfl
  walk_at "rd"
  rw[ec]
  have d4:Sz z st rs=(if ck st rs=false then (aG "NoKind") else if JK rs=true then aG "Ring" else aG ""):=by unfold Sz;rw[if_neg nz,if_neg (by omega),if_neg (by omega),if_neg (by rw[hu];decide)]
  rw[d4]at hq
  refine QU (λe=>?_) (λe=>⟨rs,rfl,⟨r1,r2⟩,?_⟩)
  ·rw[if_pos e]at hq
   exact hq
  ·rw[if_neg (by rw[e];decide)]at hq
   walk_at "rd"
   refine ifB (λe=>?_) (λe=>?_)
   ·rw[if_pos e]at hq
    exact hq
   ·rw[if_neg (by rw[e];decide)]at hq
    exact hq
noncomputable def mks(w:Str):List Bool:=[decide (w = "NoScale"),decide (w = "NoWeight"),decide (w = "Twice"),decide (w = "NoTitle"),decide (w = "NoKind"),decide (w = "Ring"),decide (w = "NoLine"),true,false]
noncomputable def six(A:Adr):List (Addr×Str):=[(A.Yp, "NoScale"),(A.Yb, "NoWeight"),(A.C_Twice, "Twice"),(A.Yi, "NoTitle"),(A.YM, "NoKind"),(A.C_Ring, "Ring"),(A.ZE, "NoLine")]
theorem rM{A:Adr}{K:aa}{mg:Str->Option Value}(T:Txt K mg A){C:Addr}{w:Str}(h:(C,w)∈six A):XTy K C/\∃ i:Nat,i<7/\[A.Yp,A.Yb,A.C_Twice,A.Yi,A.YM,A.C_Ring,A.ZE][i]?=some C/\mks w=(List.range 7).map (Nat.beq · i)++[true,false]:=by
 unfold six at h
 simp only[mem_cons,Prod.mk.injEq,not_mem_nil,or_false]at h
 rcases h with⟨rfl,rfl⟩|⟨rfl,rfl⟩|⟨rfl,rfl⟩|⟨rfl,rfl⟩|⟨rfl,rfl⟩|⟨rfl,rfl⟩|⟨rfl,rfl⟩
 ·exact⟨T.PF.t,0,by decide,rfl,by decide +kernel⟩
 ·exact⟨T.RJ.t,1,by decide,rfl,by decide +kernel⟩
 ·exact⟨T.E_Twice.t,2,by decide,rfl,by decide +kernel⟩
 ·exact⟨T.PH.t,3,by decide,rfl,by decide +kernel⟩
 ·exact⟨T.SK.t,4,by decide,rfl,by decide +kernel⟩
 ·exact⟨T.E_Ring.t,5,by decide,rfl,by decide +kernel⟩
 ·exact⟨T.Ym.t,6,by decide,rfl,by decide +kernel⟩
noncomputable def xB(A:Adr):DSp:=λxs q _=>∃ C w,xs=[.exc C]/\(C,w)∈six A/\q (.lst ((mks w).map .bl))
theorem BM{A:Adr}(T:Txt K mg A):sv P w K mg base 1 A.PD A.MJ Px (xB A):=by
 haveI:TxC K A:=⟨⟨_,T⟩⟩
 refine T.UE.F.okH OA (by walk_at "ln") (λcdv Ar outer s H E ev hr=>⟨_,(Zb (Vt (i:=1) OA.nd rfl (Or.inl rfl) (Sn (Zc (Yl (Wx (K:=K) rfl) (by rfl) T.ZK PyProof.Rows.boot_isinstance (Zc (jv 0) (Zc (Xn (.rf A.Yp) (by rfl) T.PF.M (show RelV (.ref _) _ from rfl) (λ_ _=>rfl)) Za))) (Zc (Yl (Wx (K:=K) rfl) (by rfl) T.ZK PyProof.Rows.boot_isinstance (Zc (jv 0) (Zc (Xn (.rf A.Yb) (by rfl) T.RJ.M (show RelV (.ref _) _ from rfl) (λ_ _=>rfl)) Za))) (Zc (Yl (Wx (K:=K) rfl) (by rfl) T.ZK PyProof.Rows.boot_isinstance (Zc (jv 0) (Zc (Xn (.rf A.C_Twice) (by rfl) T.E_Twice.M (show RelV (.ref _) _ from rfl) (λ_ _=>rfl)) Za))) (Zc (Yl (Wx (K:=K) rfl) (by rfl) T.ZK PyProof.Rows.boot_isinstance (Zc (jv 0) (Zc (Xn (.rf A.Yi) (by rfl) T.PH.M (show RelV (.ref _) _ from rfl) (λ_ _=>rfl)) Za))) Za))))))
   (Zb (Wn [] (i:=1) OA.nd rfl (Or.inl rfl) (ZH (Zc (Yl (Wx (K:=K) rfl) (by rfl) T.ZK PyProof.Rows.boot_isinstance (Zc (jv 0) (Zc (Xn (.rf A.YM) (by rfl) T.SK.M (show RelV (.ref _) _ from rfl) (λ_ _=>rfl)) Za))) (Zc (Yl (Wx (K:=K) rfl) (by rfl) T.ZK PyProof.Rows.boot_isinstance (Zc (jv 0) (Zc (Xn (.rf A.C_Ring) (by rfl) T.E_Ring.M (show RelV (.ref _) _ from rfl) (λ_ _=>rfl)) Za))) (Zc (Yl (Wx (K:=K) rfl) (by rfl) T.ZK PyProof.Rows.boot_isinstance (Zc (jv 0) (Zc (Xn (.rf A.ZE) (by rfl) T.Ym.M (show RelV (.ref _) _ from rfl) (λ_ _=>rfl)) Za))) (Zc (Yl (Wx (K:=K) rfl) (by rfl) T.ZK PyProof.Rows.boot_isinstance (Zc (jv 0) (Zc (SQ (n := "ValueError") (by rfl) T.GO (by decide +kernel)) Za))) Za))))))
   (Ze (Zr [1] (Zh Zi (jv 1) (ZH (Zc (Yl (Wx (K:=K) rfl) (by rfl) T.ZK PyProof.Rows.boot_isinstance (Zc (jv 0) (Zc (Yz (Zc (Xn (.rf A.C_NoNet) (by rfl) T.M_NoNet (show RelV (.ref _) _ from rfl) (λ_ _=>rfl)) (Zc (Xn (.rf A.ZP) (by rfl) T.VI.M (show RelV (.ref _) _ from rfl) (λ_ _=>rfl)) (Zc (Xn (.rf A.VH) (by rfl) T.sP (show RelV (.ref _) _ from rfl) (λ_ _=>rfl)) (Zc (Xn (.rf A.WG) (by rfl) T.xh (show RelV (.ref _) _ from rfl) (λ_ _=>rfl)) Za))))) Za))) Za))))))),λxs q x h=>?_⟩)
 ·obtain⟨C,w',rfl,hC,hq⟩:=h
  walk_at "rd"
  obtain⟨t,i,hi,e,ew⟩:=rM T hC
  have k:=λj d h=>T.gk i j C d e h
  have z:∀ j,7<=j->Nat.beq j i=false:=λj hj=>by cases h:Nat.beq j i with
   | false=>rfl
   | true=>have:=Nat.eq_of_beq_eq_true h;omega
  rw[ew]at hq
  refine⟨_,t,k 0 _ rfl,_,t,k 1 _ rfl,_,t,k 2 _ rfl,_,t,k 3 _ rfl,by decide,_,t,k 4 _ rfl,_,t,k 5 _ rfl,_,t,k 6 _ rfl,_,t,(T.gv C (mem_of_getElem? e)).1,by decide,by decide,by decide,[A.C_NoNet,A.ZP,A.VH,A.WG],false,rfl,t,?_,by decide,by decide,hq⟩
  simp only[map,kitAny,k 7 _ rfl,k 8 _ rfl,k 9 _ rfl,k 10 _ rfl,z 7 (by decide),z 8 (by decide),z 9 (by decide),z 10 (by decide)]
noncomputable def Fo:DSp:=λxs q _=>∃ w:Str,xs=[.str w]/\q (.lst ((mks w).map .bl))
theorem IV{A:Adr}(T:Txt K mg A):ZL P w K mg base (CXE P w) 1 A.Uo A.RG Ug (spD K Fo):=by
 haveI:TxC K A:=⟨⟨_,T⟩⟩
 refine T.Ux.F.okJ Ob (by walk_at "ln") (λcdv Ar outer s H E hr=>⟨_,(Zb (ZI 1 Ob.nd (Yz (Zc Zg (Zc Zg (Zc Zg (Zc Zg (Zc Zg (Zc Zg (Zc Zg Za)))))))))
   (Ze (Zr [] (Zh Zi (ZU ["_law_one"] ["_law_word"] [0] (ZZ (jv 1)) (λ_=>(Yj 0 (nDk ["_law_one"] ["_law_word"]))) (λ_=>ZW) (λ_=>(Xs (Yk hr.Yd) (jv 1) (jv 0) (Zk _)))) (ZH (Zc KH (Zc KH Za))))))),λxs q x h=>?_⟩)
 ·obtain⟨w',rfl,hq⟩:=h
  walk_at "rd"
  refine⟨by decide,Yu (c:=D.str) (xs:=["NoScale", "NoWeight", "Twice", "NoTitle", "NoKind", "Ring", "NoLine"]) (λo => .bl (decide (w'=o))) (by decide) (λo _ N hN=>?_) ⟨by decide,by simp only[length_map];decide,hq⟩⟩
  walk_at "rd"
  exact hN
theorem Ma(n:Nat):∀ zs:List Str,WB (D.PN n) (zs.map .str) (zs.map .str)=true/\D.WK (zs.map .str) (zs.map .str)=true
 | []=>⟨rfl,by with_unfolding_all rfl⟩
 | z::zs=>by
  obtain⟨h1,h2⟩:=Ma n zs
  rw[map_cons]
  refine⟨?_,?_⟩
  ·rw[WB,h1]
   cases n<;>rfl
  ·rw[D.WK,h2,SF rfl]
   simp[D.toV,eqV]
theorem zL(a b:Int):WB (D.PN 80) [.int a,.int b] [.int a,.int b]=true/\D.WK [.int a,.int b] [.int a,.int b]=true:=by
 refine⟨rfl,?_⟩
 rw[D.WK,D.WK,D.WK,SF rfl,SF rfl]
 simp[D.toV,eqV]
noncomputable def Dq(A:Adr):DSp:=λxs q _=>∃ r:Ru,xs=[r.d A,r.row]/\q (.bl true)
theorem Fp{A:Adr}(T:Txt K mg A):ZL P w K mg base (CXE P w) 1 A.TY A.QO TN (spD K (Dq A)):=by
 haveI:TxC K A:=⟨⟨_,T⟩⟩
 refine T.Sd.F.okJ GM (by walk_at "ln") (λcdv Ar outer s H E hr=>⟨_,(Zb (ZC [] (WO (XJ (Zm (XO hr.Yd) (Ya (K:=K) rfl (jv 0)) (Zj (jv 1) Zd) (Zk _)) (XJ (Zm (XO hr.Yd) (Ya (K:=K) rfl (jv 0)) (Zj (jv 1) Zd) (Zk _)) (XJ (Zm (XO hr.Yd) (Ya (K:=K) rfl (jv 0)) (Zj (jv 1) Zd) (Zk _)) (XM (Zm (XO hr.Yd) (Ya (K:=K) rfl (jv 0)) (Zj (jv 1) Zd) (Zk _))))))) (Ze (Zr [] KH)) Zo)
   (Zb (ZC [] (WO (XJ (YR (Yn (Yl (Wx (K:=K) rfl) (by rfl) T.ZK PyProof.Rows.boot_isinstance (Zc (Ya (K:=K) rfl (jv 0)) (Zc (SQ (n := "tuple") (by rfl) T.b_tuple PyProof.Rows.boot_tuple) Za))))) (XM (Zm (XO hr.Yd) (Ya (K:=K) rfl (jv 0)) (UK KN (by rfl) T.b_tuple PyProof.Rows.boot_tuple (Zc (Zj (jv 1) Zd) Za)) (Zk _))))) (Ze (Zr [] KH)) Zo)
   (Zb (ZC [] (Zm CI (Zj (jv 1) Zd) Qb (Zk _)) (Ze (Zr [] (Xs CI (Ya (K:=K) rfl (jv 0)) Qb (Zk _)))) Zo)
   (Ze (Zr [] (SR (Yl (Wx (K:=K) rfl) (by rfl) T.ZK PyProof.Rows.boot_isinstance (Zc (Ya (K:=K) rfl (jv 0)) (Zc (SQ (n := "tuple") (by rfl) T.b_tuple PyProof.Rows.boot_tuple) Za))) (UI (Xs (Yk hr.Yd) (Ya (K:=K) rfl (jv 0)) (UK KN (by rfl) T.b_tuple PyProof.Rows.boot_tuple (Zc (Zj (jv 1) Zd) Za)) (Zk _))))))))),λxs q x h=>?_⟩)
 ·obtain⟨r,rfl,hq⟩:=h
  walk_at "rd"
  unfold wD
  walk_at "rd"
  rw[(zL r.wa r.wb).2,(Ma 80 r.ps).2]
  refine⟨(zL r.wa r.wb).1,?_⟩
  rw[if_neg (by decide)]
  refine⟨(Ma 80 r.ps).1,?_⟩
  rw[if_neg (by decide)]
  cases ht:r.t with
  | none =>
   walk_at "rd"
   exact hq
  | some us =>
   walk_at "rd"
   rw[(Ma 80 us).2]
   exact⟨(Ma 80 us).1,hq⟩
noncomputable def rN(A:Adr):DSp:=λxs q _=>∃ (z st:Str) (rs:List Ru),xs=[Gr A z st rs,.str z,.str st,.lst (rs.map Ru.row)]/\rs.length<=1000/\q (.bl true)
theorem xC{A:Adr}(T:Txt K mg A):ZL P w K mg base (CXE P w) 2 A.NA A.Jm Nu (spD K (rN A)):=by
 haveI:TxC K A:=⟨⟨_,T⟩⟩
 refine T.NP.F.okJ yZ (by walk_at "ln") (λcdv Ar outer s H E hr=>⟨_,(Zb (ZC [] (WO (XJ (Zm (XO hr.Yd) (Ya (K:=K) rfl (jv 0)) (jv 1) (Zk _)) (XJ (Zm (XO hr.Yd) (Ya (K:=K) rfl (jv 0)) (jv 2) (Zk _)) (XM (YR (Yn (Yl (Wx (K:=K) rfl) (by rfl) T.ZK PyProof.Rows.boot_isinstance (Zc (Ya (K:=K) rfl (jv 0)) (Zc (SQ (n := "tuple") (by rfl) T.b_tuple PyProof.Rows.boot_tuple) Za))))))))) (Ze (Zr [] KH)) Zo)
   (Ze (Zr [] (SR (Xs (Yk hr.Yd) (Yl ZY (by rfl) T.b_len PySem.boot_len (Zc (Ya (K:=K) rfl (jv 0)) Za)) (Yl ZY (by rfl) T.b_len PySem.boot_len (Zc (jv 3) Za)) (Zk _)) (UI (Yl SV (by rfl) T.b_all PyProof.Rows.boot_all (Zc (ZU ["_law_a", "_law_b"] [] [] (oS (by rfl) T.b_zip (Zc (Ya (K:=K) rfl (jv 0)) (Zc (jv 3) Za))) (λ_=>(Mr (n:=2) (YZ (Yj 0 (nDk ["_law_a", "_law_b"] [])) (YZ (Yj 1 (nDk ["_law_a", "_law_b"] [])) Pn)))) (λ_=>ZW) (λ_=>(Zw (Fp T) T.Sd hr (Zc (jv 0) (Zc (jv 1) Za))))) Za))))))),λxs q x h=>?_⟩)
 ·obtain⟨z,st,rs,rfl,hl,hq⟩:=h
  have hsz:az=16777216:=rfl
  walk_at "rd"
  refine⟨_,rfl,_,rfl,?_⟩
  have ez:Bh (rs.map (Ru.d A)) (rs.map Ru.row)=rs.map λr => .tup [r.d A,r.row]:=by
   unfold Bh
   rw[List.zip_map',map_map]
   rfl
  rw[ez]
  refine yG (λ_ => .bl true) (by omega) (λr hr N hN=>?_) ?_
  ·walk_at "rd"
   exact⟨r,rfl,hN⟩
  rw[Ms]
  rw[show(rs.all λ_=>true)=true from all_eq_true.mpr λ_ _=>rfl]
  exact hq
theorem RX{z:Str}(h:isNm z=true):z.length<=1000:=by have:=Yw h;omega
theorem fits_of{zs:List Str}(hl:zs.length<=1000)(h:∀ z∈zs,isNm z=true):Fits zs:=⟨hl,λz hz=>RX (h z hz)⟩
theorem HL(zs:List Str):D.Lz (zs.map .str)=true:=by
 induction zs with
 | nil=>with_unfolding_all rfl
 | cons z zs ih=>simp only[map_cons,D.Lz,D.imm,ih,Bool.and_self]
theorem jO(A:Adr)(r:Ru):(r.d A).imm=true:=by
 unfold Ru.d HD wD sU
 simp only[D.imm,D.CC,D.Lz,HL,Bool.and_true,Bool.true_and,Bool.and_self]
 cases r.t with
 | none=>with_unfolding_all rfl
 | some us=>simp only[D.imm,HL]
theorem rO(A:Adr)(rs:List Ru):D.Lz (rs.map (Ru.d A))=true:=by
 induction rs with
 | nil=>with_unfolding_all rfl
 | cons r rs ih=>simp only[map_cons,D.Lz,jO,ih,Bool.and_self]
theorem jP(A:Adr)(z st:Str)(rs:List Ru):D.CC (Jv A z st rs)=true:=by
 unfold Jv
 simp only[D.imm,D.CC,rO,Bool.and_self]
theorem BO(n:Nat):∀ zs:List Bool,WB (D.PN n) (zs.map .bl) (zs.map .bl)=true/\D.WK (zs.map .bl) (zs.map .bl)=true
 | []=>⟨rfl,by with_unfolding_all rfl⟩
 | z::zs=>by
  obtain⟨h1,h2⟩:=BO n zs
  rw[map_cons]
  refine⟨?_,?_⟩
  ·rw[WB,h1]
   cases n<;>rfl
  ·rw[D.WK,h2,SF rfl]
   simp[D.toV,eqV]
structure Fine (rs:List Ru):Prop where
 rus:Rus rs
 fair:Fair rs
 ok:∀ r∈rs,Yc r.ti r.hd r.ps r.tg r.t=true
 kd:∀ r∈rs,YS r.hd=true
theorem BJ.fine{mode:Int}{scale:Str}{kinds words titles:List Str}{rs:List Ru}(h:BJ mode scale kinds words titles rs):Fine rs:=by
 have kk:∀ z∈kinds,YS z=true:=λz hz=>(h.k.2.1 z hz).kd
 have ww:∀ z∈words,YQ z=true:=λz hz=>(h.w.2.1 z hz).wd
 have tt:∀ z∈titles,YQ z=true:=λz hz=>(h.t.2.1 z hz).wd
 have hk:∀ z∈rs.map (·.hd),z∈kinds:=λz hz=>by obtain⟨r,hr,rfl⟩:=mem_map.mp hz;exact(h.row r hr).hd
 have pn:∀ r∈rs,∀ p∈r.ps,isNm p=true:=λr hr p hp=>by
  rcases (h.row r hr).ps.2.2.1 p hp with z|z|z
  ·exact Sf (kk p (hk p z))
  ·exact Sf (kk p z)
  ·exact Vi (ww p z)
 have lr:=h.len
 refine⟨⟨by omega,λr hr=>?_⟩,⟨lr,λr hr=>⟨(h.row r hr).ps.2.1,λp hp=>RX (pn r hr p hp)⟩,λr hr us e=>((h.row r hr).t1 us e).2.1⟩,λr hr=>?_,λr hr=>kk _ (h.row r hr).hd⟩
 ·have R:=h.row r hr
  refine⟨RX (Vi (tt _ R.ti)),RX (Sf (kk _ R.hd)),fits_of (by have:=R.ps.2.1;omega) (pn r hr),λus e=>?_⟩
  obtain⟨x1,x2,x3⟩:=R.t1 us e
  exact fits_of (by omega) λu hu=>Vi (tt u (x3 u hu))
 ·have R:=h.row r hr
  unfold Yc
  have e3:Xj r.ps=true:=by
   unfold Xj
   rw[decide_eq_true R.ps.1,decide_eq_true R.ps.2.1,all_eq_true.mpr (pn r hr)]
   rfl
  have e4:(decide (r.tg = "")||YQ r.tg)=true:=by
   rcases R.tg with e|e
   ·rw[decide_eq_true e];rfl
   ·rw[ww _ e];simp
  have e5:NR r.t=true:=by
   cases e:r.t with
   | none=>rfl
   | some us =>
    obtain⟨x1,x2,x3⟩:=R.t1 us e
    show XF us=true
    unfold XF
    rw[decide_eq_true x1,all_eq_true.mpr λu hu=>tt u (x3 u hu)]
    rfl
  rw[tt _ R.ti,kk _ R.hd,e3,e4,e5]
  rfl
theorem nJ{r:Ru}(ho:Yc r.ti r.hd r.ps r.tg r.t=true):r.tg.length<=1000:=by
 unfold Yc at ho
 simp only[aD,Bool.or_eq_true,decide_eq_true_eq]at ho
 rcases ho.1.2 with e|e
 ·rw[e];decide +kernel
 ·exact RX (Vi e)
theorem made9{A:Adr}{z st:Str}{rs:List Ru}(hk:∀ r∈rs,YS r.hd=true){q:List (Str×D)->Prop}{x:Addr->Prop}(h0:Sz z st rs = "" -> q (Jv A z st rs))(h1:∀ C,(C,Sz z st rs)∈six A->x C):EX A z st rs q x:=by
 unfold EX
 by_cases e1:z ≠ "cost" /\ z ≠ "chance"
 ·exact .inl ⟨e1.1,e1.2,h1 _ (by unfold Sz;rw[if_pos e1];simp[six])⟩
 have hz:z = "cost" \/ z = "chance" := by
  by_cases a:z = "cost"
  ·exact .inl a
  ·by_cases b:z = "chance"
   ·exact .inr b
   ·exact absurd ⟨a,b⟩ e1
 refine .inr ⟨hz,?_⟩
 by_cases e2:cwt z [] rs=1
 ·exact .inl ⟨e2,h1 _ (by unfold Sz;rw[if_neg e1,if_pos e2];simp[six])⟩
 by_cases e3:cwt z [] rs=2
 ·exact .inr (.inl ⟨e3,h1 _ (by unfold Sz;rw[if_neg e1,if_neg e2,if_pos e3];simp[six])⟩)
 refine .inr (.inr ⟨by have:=rK z rs [];omega,?_⟩)
 by_cases e4:ctu rs=false
 ·exact .inl ⟨e4,h1 _ (by unfold Sz;rw[if_neg e1,if_neg e2,if_neg e3,if_pos e4];simp[six])⟩
 refine .inr ⟨by simpa using e4,?_⟩
 by_cases e5:ck st rs=false
 ·exact .inl ⟨e5,h1 _ (by unfold Sz;rw[if_neg e1,if_neg e2,if_neg e3,if_neg e4,if_pos e5];simp[six])⟩
 obtain⟨res,hr⟩:=jN (Wj rs) (waitOf rs).length (waitOf rs) (waitOf rs) [] (Nat.le_refl _)
 have e:=nH hr (λz x hx=>by rw[z]at hx;cases hx)
 rw[length_nil,Nat.zero_add,<-ring9 hk]at e
 refine .inr ⟨by simpa using e5,res,hr,?_⟩
 by_cases e6:JK rs=true
 ·exact .inl ⟨e.mpr e6,h1 _ (by unfold Sz;rw[if_neg e1,if_neg e2,if_neg e3,if_neg e4,if_neg e5,if_pos e6];simp[six])⟩
 ·refine .inr ⟨Nat.le_of_not_lt λz=>e6 (e.mp z),h0 ?_⟩
  unfold Sz
  rw[if_neg e1,if_neg e2,if_neg e3,if_neg e4,if_neg e5,if_neg e6]
theorem jQ{A:Adr}{C:Addr}{w:Str}(h:(C,w)∈six A):w≠aG "" := by
 unfold six at h
 simp only[mem_cons,Prod.mk.injEq,not_mem_nil,or_false]at h
 rcases h with⟨_,rfl⟩|⟨_,rfl⟩|⟨_,rfl⟩|⟨_,rfl⟩|⟨_,rfl⟩|⟨_,rfl⟩|⟨_,rfl⟩<;>decide +kernel
section
variable {q:D->Prop}{r:Ru}
theorem zw_0{a b:Int}:dIx (wD a b) (.int (no_index 0)) q=q (.int a):=by show(∃ d,some (D.int a)=some d/\q d)=_;simp
theorem zw_1{a b:Int}:dIx (wD a b) (.int (no_index 1)) q=q (.int b):=by show(∃ d,some (D.int b)=some d/\q d)=_;simp
end
def rd7:String:=rd6 ++ " zw_0 zw_1"
local macro_rules | `(tactic| walk_at "rd") => rdM rd7
noncomputable def glC(c:Nat)(p:List Nat)(ps:List (List Nat)):List Nat:=p++(ps.map λq=>c::q).flatten
theorem JN(c:Nat)(p q:List Nat)(ps:List (List Nat)):glC c p (q::ps)=p++c::glC c q ps:=by
 unfold glC
 rw[map_cons,flatten_cons,cons_append]
theorem Ks{c:Nat}{p r:List Nat}(hp:c∉p)(hr:r=[]\/∃ t,r=c::t):(p++r).takeWhile (λx=>decide (x≠c))=p:=by
 induction p with
 | nil =>
  rcases hr with rfl|⟨t,rfl⟩
  ·rfl
  ·simp
 | cons a p ih =>
  rw[mem_cons]at hp
  rw[cons_append,List.takeWhile_cons_of_pos (by simpa using λe=>hp (.inl e.symm)),ih (λz=>hp (.inr z))]
theorem Mb(c:Nat)(ps:List (List Nat)):(ps.map λq=>c::q).flatten=[]\/∃ t,(ps.map λq=>c::q).flatten=c::t:=by
 cases ps with
 | nil=>exact .inl rfl
 | cons q ps=>exact .inr ⟨_,by rw[map_cons,flatten_cons,cons_append]⟩
theorem nK{c:Nat}:∀ {ps qs:List (List Nat)}{p q:List Nat},(∀ x∈p::ps,c∉x)->(∀ x∈q::qs,c∉x)->glC c p ps=glC c q qs->p=q/\ps=qs:=by
 intro ps
 induction ps with
 | nil =>
  intro qs p q hp hq e
  have e1:=Ks (hp p (mem_cons_self ..)) (Mb c [])
  have e2:=Ks (hq q (mem_cons_self ..)) (Mb c qs)
  have e':p++(([]:List (List Nat)).map λq=>c::q).flatten=q++(qs.map λq=>c::q).flatten:=e
  rw[e',e2]at e1
  subst e1
  refine⟨rfl,?_⟩
  have:=List.append_cancel_left e'
  cases qs with
  | nil=>rfl
  | cons a b=>rw[map_cons,flatten_cons]at this;cases this
 | cons a ps ih =>
  intro qs p q hp hq e
  have e1:=Ks (hp p (mem_cons_self ..)) (Mb c (a::ps))
  have e2:=Ks (hq q (mem_cons_self ..)) (Mb c qs)
  have e':p++((a::ps).map λq=>c::q).flatten=q++(qs.map λq=>c::q).flatten:=e
  rw[e',e2]at e1
  subst e1
  have r:=List.append_cancel_left e'
  cases qs with
  | nil=>rw[map_cons,flatten_cons]at r;cases r
  | cons b qs =>
   rw[map_cons,flatten_cons,map_cons,flatten_cons,cons_append,cons_append]at r
   have r2:glC c a ps=glC c b qs:=(List.cons.inj r).2
   obtain⟨h1,h2⟩:=ih (λx hx=>hp x (mem_cons_of_mem _ hx)) (λx hx=>hq x (mem_cons_of_mem _ hx)) r2
   rw[h1,h2]
   exact⟨rfl,rfl⟩
theorem zM(x:Str)(c k:Nat):StrLaws.At x ⟨#[c]⟩ x.length k↔x.cps.toList[k]?=some c:=StrLaws.subAt_one x c k
theorem xD(x:Str)(d:Nat):∀ (cuts:List Nat) (a f:Nat),a<=x.length->StrLaws.ChainG x ⟨#[d]⟩ x.length a cuts f->(∀ k,f<=k->¬ StrLaws.At x ⟨#[d]⟩ x.length k) ->
  ∃ p ps,(((a::cuts.map (· + 1)).zip (cuts++[x.length])).map λ(i,j)=>Builtin.Str.strSub x i j)=p::ps/\x.cps.toList.drop a=glC d p.cps.toList (ps.map λq=>q.cps.toList)/\∀ q∈p::ps,d∉q.cps.toList:=by
 have el:=Zy x
 intro cuts
 induction cuts with
 | nil =>
  intro a f ha hc hn
  have e:f=a:=hc
  subst e
  refine⟨Builtin.Str.strSub x f x.length,[],rfl,?_,λq hq=>?_⟩
  ·unfold glC
   rw[StrLaws.strSub_toList,take_of_length_le (by rw[length_drop];omega)]
   simp
  ·rw[mem_singleton.mp hq]
   exact StrLaws.part_free x d f x.length (Nat.le_refl _) λk h1 _=>hn k h1
 | cons c r ih =>
  intro a f ha hc hn
  obtain⟨h1,h2,h3,h4⟩:=hc
  have h2':=(zM x d c).mp h2
  obtain⟨hi,hv⟩:=List.getElem?_eq_some_iff.mp h2'
  obtain⟨p,ps,e1,e2,e3⟩:=ih (c+1) f (by omega) h4 hn
  refine⟨Builtin.Str.strSub x a c,p::ps,?_,?_,λq hq=>?_⟩
  ·rw[map_cons,cons_append,List.zip_cons_cons,map_cons,e1]
  ·rw[StrLaws.strSub_toList,map_cons,JN,<-e2]
   have dd:x.cps.toList.drop a=(x.cps.toList.drop a).take (c-a)++(x.cps.toList.drop a).drop (c-a):=(List.take_append_drop _ _).symm
   rw[List.drop_drop,show a+(c-a)=c by omega,drop_eq_getElem_cons hi,hv]at dd
   exact dd
  ·rcases mem_cons.mp hq with rfl|hq
   ·exact StrLaws.part_free x d a c (by omega) λk k1 k2=>h3 k k1 k2
   ·exact e3 q hq
theorem jR(x:Str){c:Nat}(hc:c<128):∃ p ps,Txt.split x ⟨#[c]⟩=p::ps/\x.cps.toList=glC c p.cps.toList (ps.map λq=>q.cps.toList)/\∀ q∈p::ps,c∉q.cps.toList:=by
 obtain⟨f,h1,h2⟩:=StrLaws.occ_tight x ⟨#[c]⟩ (Nat.le_refl 1)
 have whole:c∉x.cps.toList->∃ p ps,[x]=p::ps/\x.cps.toList=glC c p.cps.toList (ps.map λq=>q.cps.toList)/\∀ q∈p::ps,c∉q.cps.toList:=λh=>⟨x,[],rfl,by unfold glC;simp,λq hq=>by rw[mem_singleton.mp hq];exact h⟩
 unfold Txt.split
 split
 ·rename_i h
  refine whole λhm=>?_
  have hl:1<=x.length:=by rw[Zy];exact List.length_pos_of_mem hm
  have hk:1<=Builtin.Str.strKind x:=by unfold Builtin.Str.strKind;split;decide;split<;>decide
  have k1:Builtin.Str.strKind ⟨#[c]⟩=1:=by
   unfold Builtin.Str.strKind
   rw[if_pos (by simp;omega)]
  rw[k1]at h
  have e1:(⟨#[c]⟩:Str).length=1:=rfl
  rw[e1,decide_eq_false (by omega),decide_eq_false (by omega)]at h
  cases h
 ·split
  ·rename_i h
   rw[List.isEmpty_iff.mp h]at h1
   have e:f=0:=h1
   refine whole λhm=>?_
   obtain⟨j,hj⟩:=List.getElem?_of_mem hm
   exact h2 j (by omega) ((zM x c j).mpr hj)
  ·obtain⟨p,ps,e1,e2,e3⟩:=xD x c _ 0 f (Nat.zero_le _) h1 h2
   exact⟨p,ps,e1,by simpa using e2,e3⟩
theorem Fq{x y:Str}(h:x.cps.toList=y.cps.toList):x=y:=by
 cases x
 cases y
 exact congrArg _ (Array.toList_inj.mp h)
theorem Dr{x w:Str}{ws:List Str}{c:Nat}(hc:c<128)(hf:∀ q∈w::ws,c∉q.cps.toList)(e:x.cps.toList=glC c w.cps.toList (ws.map λq=>q.cps.toList)):Txt.split x ⟨#[c]⟩=w::ws:=by
 obtain⟨p,ps,h1,h2,h3⟩:=jR x hc
 have lf:∀ (v:Str) (vs:List Str),(∀ q∈v::vs,c∉q.cps.toList)->∀ y∈v.cps.toList::vs.map (λq=>q.cps.toList),c∉y:=λv vs h y hy=>by
  rw[<-map_cons (f:=λq:Str=>q.cps.toList)]at hy
  obtain⟨q,hq,rfl⟩:=mem_map.mp hy
  exact h q hq
 obtain⟨a,b⟩:=nK (lf p ps h3) (lf w ws hf) (h2.symm.trans e)
 rw[h1,Fq a]
 have:ps=ws:=by
  have inj:∀ (us vs:List Str),us.map (λq=>q.cps.toList)=vs.map (λq=>q.cps.toList)->us=vs:=by
   intro us
   induction us with
   | nil=>intro vs h;cases vs with | nil=>rfl | cons _ _=>cases h
   | cons u us ih =>
    intro vs h
    cases vs with
    | nil=>cases h
    | cons v vs =>
     rw[map_cons,map_cons]at h
     rw[Fq (List.cons.inj h).1,ih vs (List.cons.inj h).2]
  exact inj _ _ b
 rw[this]
theorem rP(c:Nat)(zs:List Str):∀ z:Str,(Txt.join ⟨#[c]⟩ (z::zs)).cps.toList=glC c z.cps.toList (zs.map λq=>q.cps.toList):=by
 have key:∀ (zs:List Str) (z:Str),(Str.join ⟨#[c]⟩ (z::zs)).cps.toList=glC c z.cps.toList (zs.map λq=>q.cps.toList):=by
  intro zs
  induction zs with
  | nil=>intro z;simp[Str.join,glC]
  | cons b r ih =>
   intro z
   show((z++(⟨#[c]⟩:Str))++Str.join ⟨#[c]⟩ (b::r)).cps.toList=_
   rw[Xk,Xk,ih,map_cons,JN]
   simp
 intro z
 show(Builtin.Str.glued ⟨#[c]⟩ (z::zs)).cps.toList=_
 rw[StrLaws.glued_eq_join]
 exact key zs z
theorem zN:(aG " " : Str)=⟨#[32]⟩:=by decide +kernel
theorem mE:(aG "\n" : Str)=⟨#[10]⟩:=by decide +kernel
noncomputable def nb(z:Str):Bool := !decide (Txt.stripChars z (aG " ")=aG "")
noncomputable def BP:DSp:=λxs q _=>∃ (x w:Str) (ws:List Str),xs=[.str x]/\x.length<=1000000/\(w::ws).length<=1000/\(∀ z∈w::ws,10∉z.cps.toList/\z.length<=1000000)/\x.cps.toList=glC 10 w.cps.toList (ws.map λq=>q.cps.toList)/\q (.lst (((w::ws).filter nb).map .str))
theorem Ds{A:Adr}(T:Txt K mg A):ZL P w K mg base (CXE P w) 1 A.Rz A.OD Rh (spD K BP):=by
 haveI:TxC K A:=⟨⟨_,T⟩⟩
 refine T.RN.F.okJ EK (by walk_at "ln") (λcdv Ar outer s H E hr=>⟨_,(Ze (Zr [] (ZU ["line"] [] [] (ZZ (TC PySem.F.plainAttrs_str PySem.F.slot_str_split PySem.F.type_str_split Nn (jv 0) (Zc Zg Za))) (λ_=>(Yj 0 (nDk ["line"] []))) (λ_=>(Sq (Zm (XO hr.Yd) (TC PySem.F.plainAttrs_str PySem.F.slot_str_strip PySem.F.type_str_strip sA (jv 0) (Zc Zg Za)) Zg (Zk _)))) (λ_=>(jv 0))))),λxs q x h=>?_⟩)
 ·obtain⟨x',w',ws,rfl,hx,hl,hf,e,hq⟩:=h
  have hsz:az=16777216:=rfl
  walk_at "rd"
  refine⟨hx,by decide +kernel,?_⟩
  rw[mE,Dr (by decide) (λz hz=>(hf z hz).1) e]
  refine VZ nb .str (by omega) (λz hz N hN=>?_) (λz hz _ N hN=>?_) hq
  ·walk_at "rd"
   exact⟨by have:=(hf z hz).2;omega,hN⟩
  ·walk_at "rd"
   exact hN
theorem Md{z:Str}(h:isNm z=true){c:Nat}(hc:nmS c=false):c∉z.cps.toList:=λhm=>by
 unfold isNm at h
 rw[aD]at h
 have:=all_eq_true.mp h.2 c hm
 rw[hc]at this
 cases this
theorem n32:nmS 32=false:=by decide +kernel
theorem n10:nmS 10=false:=by decide +kernel
noncomputable def RY(tg:Str):List Str:=if tg=aG "" then [] else [aG "tag",tg]
noncomputable def RZ:Option (List Str)->List Str
 | none=>[]
 | some us=>aG "under" :: us
noncomputable def rwd(r:Ru)(wt:Str):List Str:=[r.ti,r.hd,aG "->"]++r.ps++[aG ":",wt]++RY r.tg++RZ r.t
theorem zO{a:Str}:∀ {l r:List Str},a∉l->(l++a::r).idxOf a=l.length
 | [],r,_=>by simp
 | b::l,r,h=>by
  rw[mem_cons]at h
  have hb:(b==a)=false:=by simpa using λe:b=a=>h (.inl e.symm)
  rw[cons_append,List.idxOf_cons,hb,length_cons,zO (λz=>h (.inr z))]
  rfl
theorem okR{r:Ru}(ho:Yc r.ti r.hd r.ps r.tg r.t=true):YQ r.ti=true/\YS r.hd=true/\Xj r.ps=true/\(r.tg=aG "" \/ YQ r.tg=true)/\NR r.t=true:=by
 unfold Yc at ho
 simp only[aD,Bool.or_eq_true,decide_eq_true_eq]at ho
 exact⟨ho.1.1.1.1,ho.1.1.1.2,ho.1.1.2,ho.1.2,ho.2⟩
theorem okP{ps:List Str}(h:Xj ps=true):1<=ps.length/\ps.length<=4/\∀ p∈ps,isNm p=true:=by
 unfold Xj at h
 simp only[aD,decide_eq_true_eq,all_eq_true]at h
 exact⟨h.1.1,h.1.2,h.2⟩
theorem okT{us:List Str}(h:NR (some us)=true):∀ u∈us,YQ u=true:=by
 have h:XF us=true:=h
 unfold XF at h
 simp only[aD,decide_eq_true_eq,all_eq_true]at h
 exact h.2
theorem rQ{z a:Str}(h:isNm z=true)(ha:isNm a=false):a≠z:=λe=>by rw[e,h]at ha;cases ha
theorem rR:isNm (aG ":")=false:=by decide +kernel
theorem MY{b:Nat}:∀ zs:List Str,(∀ z∈zs,z.length<=b)->(zs.map (·.length)).sum<=b*zs.length
 | [],_=>by simp
 | z::zs,h=>by
  rw[map_cons,List.sum_cons,length_cons,Nat.mul_succ]
  have h1:=h z (mem_cons_self ..)
  have h2:=MY zs λy hy=>h y (mem_cons_of_mem _ hy)
  omega
noncomputable def bF(ws:List Str):List Nat:=(ws.map λq=>32::q.cps.toList).flatten
theorem Qa(a b:List Str):bF (a++b)=bF a++bF b:=by unfold bF;rw[map_append,List.flatten_append]
theorem ZG(a:Str)(b:List Str):bF (a::b)=32::a.cps.toList++bF b:=by unfold bF;rw[map_cons,flatten_cons]
theorem YT:bF []=[]:=rfl
theorem HM(p:List Nat)(ws:List Str):glC 32 p (ws.map λq=>q.cps.toList)=p++bF ws:=by
 unfold glC bF
 rw[map_map]
 rfl
theorem Fs(ws:List Str):(bF ws).length=(ws.map (·.length)).sum+ws.length:=by
 induction ws with
 | nil=>rfl
 | cons a b ih =>
  rw[ZG,length_append,ih,map_cons,List.sum_cons,length_cons,length_cons,<-Zy]
  omega
theorem PL{ws:List Str}(h:ws≠[]):32::(Txt.join (aG " ") ws).cps.toList=bF ws:=by
 obtain⟨a,b,rfl⟩:=List.exists_cons_of_ne_nil h
 rw[zN,rP,HM,ZG]
 rfl
theorem Ft:(aG "rule ").cps.toList=(aG "rule").cps.toList++[32]:=by decide +kernel
theorem rS:(aG " ").cps.toList=[32]:=by decide +kernel
theorem zP:(aG " -> ").cps.toList=32::(aG "->").cps.toList++[32]:=by decide +kernel
theorem mF:(aG " : ").cps.toList=32::(aG ":").cps.toList++[32]:=by decide +kernel
theorem l_tag:(aG " tag ").cps.toList=32::(aG "tag").cps.toList++[32]:=by decide +kernel
theorem l_und:(aG " under ").cps.toList=32::(aG "under").cps.toList++[32]:=by decide +kernel
theorem jS:(aG "rule ").length=5/\(aG " ").length=1/\(aG " -> ").length=4/\(aG " : ").length=3/\(aG " tag ").length=5/\(aG " under ").length=7:=by decide +kernel
noncomputable def frB(r:Ru)(by_:Int):Str:=if 1<by_\/1<r.wb then sT (r.wa*by_)++aG "/" ++ sT (r.wb*by_) else sT (r.wa*by_)
noncomputable def rT:DSp:=λxs q _=>∃ (r:Ru) (n:Int),xs=[r.row,.int n]/\Yc r.ti r.hd r.ps r.tg r.t=true/\r.Fit/\1<=n/\n<=9/\Bd 64 r.wa/\Bd 64 r.wb/\∀ z:Str,z.cps.toList=glC 32 (aG "rule").cps.toList ((rwd r (frB r n)).map λq=>q.cps.toList)->q (.str z)
theorem HN{A:Adr}(T:Txt K mg A):ZL P w K mg base (CXE P w) 1 A.NB A.Jn Nv (spD K rT):=by
 haveI:TxC K A:=⟨⟨_,T⟩⟩
 refine T.QP.F.okJ UA (by walk_at "ln") (λcdv Ar outer s H E hr=>⟨_,(Zb (ZI 2 UA.nd (UK uh (by rfl) T.b_str PyProof.Rows.boot_str (Zc (Zh VN (Zj (Zj (jv 0) Zd) Zd) (jv 1)) Za)))
   (Zb (Xl (ZC [] (WO (XJ (Zm Ho (jv 1) Zd (Zk _)) (XM (Zm Ho (Zj (Zj (jv 0) Zd) Zd) Zd (Zk _))))) (Ze (ZI 2 UA.nd (Zh Zi (Zh Zi (jv 2) Zg) (UK uh (by rfl) T.b_str PyProof.Rows.boot_str (Zc (Zh VN (Zj (Zj (jv 0) Zd) Zd) (jv 1)) Za))))) Zo))
   (Zb (ZI 3 UA.nd (Zh Zi (Zh Zi (Zh Zi (Zh Zi (Zh Zi (Zh Zi (Zh Zi Zg (Zj (jv 0) Zd)) Zg) (Zj (jv 0) Zd)) Zg) (TC PySem.F.plainAttrs_str PySem.F.slot_str_join PySem.F.type_str_join Nm Zg (Zc (Zj (jv 0) Zd) Za))) Zg) (jv 2)))
   (Zb (Xl (ZC [] (Zm (XO hr.Yd) (Zj (jv 0) Zd) Zg (Zk _)) (Ze (ZI 3 UA.nd (Zh Zi (Zh Zi (jv 3) Zg) (Zj (jv 0) Zd)))) Zo))
   (Zb (Xl (ZC [] (Zm Nk (Zj (jv 0) Zd) Qb (Zk _)) (Ze (ZI 3 UA.nd (Zh Zi (Zh Zi (jv 3) Zg) (TC PySem.F.plainAttrs_str PySem.F.slot_str_join PySem.F.type_str_join Nm Zg (Zc (Zj (jv 0) Zd) Za))))) Zo))
   (Ze (Zr [] (jv 3)))))))),λxs q x h=>?_⟩)
 ·obtain⟨r,n,rfl,ho,hf,n1,n9,ba,bb,hq⟩:=h
  have hsz:az=16777216:=rfl
  obtain⟨o1,o2,o3,o4,o5⟩:=okR ho
  obtain⟨p1,p2,o6⟩:=okP o3
  have hm:∀ a:Int,Bd 64 a->(a*n).natAbs<10^80:=λa ha=>by
   have h1:a.natAbs<2^64:=ha
   have h2:n.natAbs<=9:=by omega
   rw[Int.natAbs_mul]
   exact Nat.lt_of_le_of_lt (Nat.mul_le_mul (Nat.le_of_lt h1) h2) (by decide)
  have la:=Fd (hm _ ba)
  have lb:=Fd (hm _ bb)
  have s1:(aG "/").length=1:=by decide +kernel
  have hfl:(frB r n).length<=200:=by
   unfold frB
   split
   ·rw[Ys,Ys];omega
   ·omega
  walk_at "rd"
  refine⟨.r (by omega) (by omega),HI (hm _ ba),λds'=>ds'=[.v r.row,.v (.int n),.v (.str (frB r n)),.un],?_,?_⟩
  ·walk_at "rd"
   have two:Lq r.wb n/\(r.wb*n).natAbs.log2<1920:=⟨.r (by omega) (by omega),HI (hm _ bb)⟩
   have lens:(aG (toString (r.wa*n))).length+(aG "/").length<=az/\(aG (toString (r.wa*n))++aG "/").length+(aG (toString (r.wb*n))).length<=az:=by
    have la:(aG (toString (r.wa*n))).length<=81:=la
    have lb:(aG (toString (r.wb*n))).length<=81:=lb
    rw[Ys]
    omega
   refine YG (λc=>⟨lens.1,two.1,two.2,lens.2,?_⟩) (λc=>YG (λc2=>⟨lens.1,two.1,two.2,lens.2,?_⟩) (λc2=>?_))
   ·unfold frB;rw[if_pos (.inl c)];rfl
   ·unfold frB;rw[if_pos (.inr c2)];rfl
   ·unfold frB;rw[if_neg (λz=>z.elim c c2)];rfl
  rintro _ rfl
  obtain⟨k1,k2,k3,k4,k5,k6⟩:=jS
  have lti:=Yw (Vi o1)
  have lhd:=Yw (Sf o2)
  have pne:r.ps≠[]:=λz=>by rw[z]at p1;exact absurd p1 (by decide)
  have psum:=MY r.ps λz hz=>RX (o6 z hz)
  have jl:(Txt.join (aG " ") r.ps).length<=5000:=by
   have:=congrArg length (PL pne)
   rw[length_cons,<-Zy,Fs]at this
   omega
  walk_at "rd"
  simp only[Ys,k1,k2,k3,k4]
  refine⟨by omega,by omega,by omega,by omega,by omega,by omega,by omega,by omega,?_⟩
  have e0:(aG "rule " ++ r.ti++aG " " ++ r.hd++aG " -> " ++ Txt.join (aG " ") r.ps++aG " : " ++ frB r n).cps.toList=(aG "rule").cps.toList++bF ([r.ti,r.hd,aG "->"]++r.ps++[aG ":",frB r n]):=by
   simp only[Xk,Ft,rS,zP,mF,Qa,ZG,YT,<-PL pne]
   simp
  have l0:(aG "rule " ++ r.ti++aG " " ++ r.hd++aG " -> " ++ Txt.join (aG " ") r.ps++aG " : " ++ frB r n).length<=6000:=by
   simp only[Ys,k1,k2,k3,k4]
   omega
  generalize (aG "rule " ++ r.ti++aG " " ++ r.hd++aG " -> " ++ Txt.join (aG " ") r.ps++aG " : " ++ frB r n)=z0 at e0 l0⊢
  have tgl:=nJ ho
  refine⟨λds'=>∃ z:Str,ds'=[.v r.row,.v (.int n),.v (.str (frB r n)),.v (.str z)]/\z.cps.toList=(aG "rule").cps.toList++bF ([r.ti,r.hd,aG "->"]++r.ps++[aG ":",frB r n]++RY r.tg)/\z.length<=8000,?_,?_⟩
  ·walk_at "rd"
   refine QT (λc=>?_) (λc=>?_)
   ·have et:RY r.tg=[aG "tag",r.tg]:=by unfold RY;rw[if_neg c]
    simp only[Ys,k5]
    refine⟨by omega,by omega,?_,by omega⟩
    rw[Xk,Xk,e0,l_tag,et]
    show _=_++bF ([r.ti,r.hd,aG "->"]++r.ps++[aG ":",frB r n]++[aG "tag",r.tg])
    rw[Qa _ [aG "tag",r.tg],ZG,ZG,YT]
    simp
   ·have et:RY r.tg=[]:=by unfold RY;rw[if_pos c]
    rw[et,append_nil]
    exact⟨e0,by omega⟩
  rintro _ ⟨z1,rfl,e1,l1⟩
  walk_at "rd"
  refine⟨λds'=>∃ z:Str,ds'=[.v r.row,.v (.int n),.v (.str (frB r n)),.v (.str z)]/\z.cps.toList=(aG "rule").cps.toList++bF (rwd r (frB r n)),?_,?_⟩
  ·walk_at "rd"
   cases et:r.t with
   | none =>
    walk_at "rd"
    rw[e1]
    unfold rwd
    rw[et,RZ,append_nil]
   | some us =>
    walk_at "rd"
    obtain⟨u1,u2⟩:=hf.2.2.2 us et
    have une:us≠[]:=λz=>by
     rw[et,z]at o5
     exact absurd o5 (by decide)
    have usum:=MY us u2
    have ul:(Txt.join (aG " ") us).length<=1002000:=by
     have:=congrArg length (PL une)
     rw[length_cons,<-Zy,Fs]at this
     omega
    simp only[Ys,k2,k6]
    refine⟨by omega,by omega,by omega,?_⟩
    have er:rwd r (frB r n)=([r.ti,r.hd,aG "->"]++r.ps++[aG ":",frB r n]++RY r.tg)++aG "under" :: us:=by
     unfold rwd
     rw[et]
     rfl
    rw[Xk,Xk,e1,l_und,er,Qa _ (aG "under" :: us),ZG,<-PL une]
    simp
  rintro _ ⟨z2,rfl,e2⟩
  walk_at "rd"
  exact hq z2 (by rw[e2,HM])
-- SPLIT
theorem rV{p:Nat->Bool}{c:Nat}(h:p c=false)(b:List Nat):∀ l:List Nat,((l++c::b).takeWhile p).length<=l.length
 | []=>by simp[h]
 | a::l=>by
  rw[cons_append,List.takeWhile_cons]
  split
  ·have:=rV h b l
   simp only[length_cons]
   omega
  ·simp
theorem nb_in{z:Str}{c:Nat}(hm:c∈z.cps.toList)(hc:c≠32):nb z=true:=by
 obtain⟨a,b,e⟩:=List.append_of_mem hm
 have hg:(aG " ").cps.contains c=false:=by
  rw[zN]
  simpa using hc
 have hl:z.length=a.length+b.length+1:=by rw[Zy,e];simp;omega
 have lo:stripLo (aG " ").cps.contains true z<=a.length:=by
  unfold stripLo
  rw[if_pos rfl,e]
  exact rV hg b a
 have ne:(Txt.stripChars z (aG " ")).cps.toList≠[]:=by
  unfold Txt.stripChars Txt.stripBy
  split
  ·rw[e];simp
  ·unfold stripped
   generalize stripLo (aG " ").cps.contains true z=k at lo
   have hi:a.length+1<=stripHi (aG " ").cps.contains true z k:=by
    unfold stripHi
    rw[if_pos rfl,e,List.drop_append_of_le_length lo,List.reverse_append,List.reverse_cons,append_assoc]
    have:=rV hg (a.drop k).reverse b.reverse
    rw[List.length_reverse]at this
    simp only[List.singleton_append]
    omega
   rw[StrLaws.strSub_toList]
   intro q
   have:=congrArg length q
   rw[length_take,length_drop,<-Zy]at this
   simp at this
   omega
 unfold nb
 rw[decide_eq_false (λq=>ne (by rw[q];decide +kernel))]
 rfl
noncomputable def wk(q:Str):Bool:=q.cps.toList.all (λc=>decide (c≠32/\c≠10))&&decide (q.length<=200)
noncomputable def Li(p:Str×List Str):Prop:=∃ w vs,p.2=w::vs/\p.1.cps.toList=w.cps.toList++bF vs/\p.2.all wk=true/\p.2.length<=30/\∃ c,c∈p.1.cps.toList/\c≠32
theorem wk_of{q:Str}(h:wk q=true):32∉q.cps.toList/\10∉q.cps.toList/\q.length<=200:=by
 unfold wk at h
 simp only[aD,all_eq_true,decide_eq_true_eq]at h
 exact⟨λz=>(h.1 _ z).1 rfl,λz=>(h.1 _ z).2 rfl,h.2⟩
theorem SL{q:Str}(h:isNm q=true):wk q=true:=by
 have hl:=Yw h
 unfold wk
 simp only[aD,all_eq_true,decide_eq_true_eq]
 exact⟨λc hc=>⟨λz=>Md h n32 (z ▸ hc),λz=>Md h n10 (z ▸ hc)⟩,by omega⟩
theorem Li.ln{p:Str×List Str}(h:Li p):LnW p.1 p.2/\10∉p.1.cps.toList/\p.1.length<=30000/\nb p.1=true:=by
 obtain⟨z,ws⟩:=p
 obtain⟨w,vs,rfl,e,hk,hl,c,hc,c32⟩:=h
 dsimp only at *
 have fr:∀ q∈w::vs,32∉q.cps.toList/\10∉q.cps.toList/\q.length<=200:=λq hq=>wk_of (all_eq_true.mp hk q hq)
 have sm:=MY (b:=200) vs λq hq=>by have:=(fr q (mem_cons_of_mem _ hq)).2.2;omega
 have lz:z.length<=30000:=by
  rw[Zy,e,length_append,Fs,<-Zy]
  have:=(fr w (mem_cons_self ..)).2.2
  rw[length_cons]at hl
  omega
 refine⟨⟨⟨by omega,?_,λq hq=>by have:=(fr q hq).2.2;omega⟩,by simp,by omega,λq hq=>by have:=(fr q hq).2.2;omega⟩,?_,lz,nb_in hc c32⟩
 ·rw[zN]
  exact Dr (by decide) (λq hq=>(fr q hq).1) (by rw[HM];exact e)
 ·rw[e,mem_append]
  rintro (h|h)
  ·exact(fr w (mem_cons_self ..)).2.1 h
  ·unfold bF at h
   obtain⟨l,hl,h⟩:=List.mem_flatten.mp h
   obtain⟨q,hq,rfl⟩:=mem_map.mp hl
   rcases mem_cons.mp h with h|h
   ·cases h
   ·exact(fr q (mem_cons_of_mem _ hq)).2.1 h
theorem nL(x y:Str){i:Nat}(h:StrLaws.At x y x.length i):∀ m cur,cur<=i->i<cur+m->(∀ j,cur<=j->j<i->¬ StrLaws.At x y x.length j)->(forIn (range' cur m) ((#[]:Array Nat),0) (StrLaws.occBody x y x.length 1)).run.fst.toList=[i]:=by
 intro m
 induction m with
 | zero=>intro cur h1 h2;omega
 | succ m ih =>
  intro cur h1 h2 hn
  rw[List.range'_succ,forIn_cons]
  by_cases e:cur=i
  ·subst e
   have hb:StrLaws.occBody x y x.length 1 cur ((#[]:Array Nat),0)=pure (ForInStep.yield ((#[]:Array Nat).push cur,cur+y.length)):=by
    unfold StrLaws.occBody
    rw[if_pos ⟨⟨⟨by simp,Nat.zero_le _⟩,h.1⟩,h.2⟩]
   rw[hb]
   exact congrArg Array.toList (Dh x y x.length (range' (cur+1) m) ((#[]:Array Nat).push cur,cur+y.length) (by simp))
  ·have hb:StrLaws.occBody x y x.length 1 cur ((#[]:Array Nat),0)=pure (ForInStep.yield ((#[]:Array Nat),0)):=by
    unfold StrLaws.occBody
    rw[if_neg (λz=>hn cur (Nat.le_refl _) (by omega) ⟨z.1.2,z.2⟩)]
   rw[hb]
   exact ih (cur+1) (by omega) (by omega) λj j1 j2=>hn j (by omega) j2
theorem rX(x y:Str)(k:Nat)(hy:1<=y.length):StrLaws.At x y x.length k↔(x.cps.toList.drop k).take y.length=y.cps.toList:=by
 have es:Builtin.Str.subAt x y k=true↔(x.cps.toList.drop k).take y.length=y.cps.toList:=by
  unfold Builtin.Str.subAt
  rw[beq_iff_eq,<-Array.toList_inj,Array.toList_extract,List.extract_eq_take_drop,Nat.add_sub_cancel_left]
 unfold StrLaws.At
 rw[es]
 refine⟨λh=>h.2,λh=>⟨?_,h⟩⟩
 have:=congrArg length h
 rw[length_take,length_drop,<-Zy,<-Zy]at this
 omega
theorem jT{x y z:Str}{p s:List Nat}(e:x.cps.toList=p++y.cps.toList++s)(hy:1<=y.length)(hn:∀ j,j<p.length->(x.cps.toList.drop j).take y.length≠y.cps.toList):(rep1 x y z).cps.toList=p++z.cps.toList++s:=by
 have hx:x.length=p.length+y.length+s.length:=by rw[Zy,Zy,e];simp[Nat.add_assoc]
 have ha:StrLaws.At x y x.length p.length:=(rX x y _ hy).mpr (by rw[e,append_assoc,List.drop_left,Zy,List.take_left])
 have eo:Builtin.Str.occurrences x y 0 x.length 1=[p.length]:=by
  rw[StrLaws.occ_eq]
  exact nL x y ha _ 0 (Nat.zero_le _) (by omega) λj _ h=>λz=>hn j h ((rX x y j hy).mp z)
 unfold rep1
 rw[eo,if_neg (by simp;omega)]
 show(((Builtin.Str.strSub x 0 p.length).cps++z.cps++(Builtin.Str.strSub x (p.length+y.length) x.length).cps)).toList=_
 rw[Array.toList_append,Array.toList_append,StrLaws.strSub_toList,StrLaws.strSub_toList,e]
 have e2:p++y.cps.toList++s=(p++y.cps.toList)++s:=rfl
 rw[drop_zero,Nat.sub_zero,append_assoc p,List.take_left,<-append_assoc p,show p.length+y.length=(p++y.cps.toList).length by rw[length_append,<-Zy],List.drop_left,take_of_length_le (by rw[hx,length_append,<-Zy];omega)]
theorem Fu{x y z:Str}{p s:List Nat}{c k:Nat}(e:x.cps.toList=p++y.cps.toList++s)(hk:y.cps.toList[k]?=some c)(hc:c∉p++y.cps.toList.take k):(rep1 x y z).cps.toList=p++z.cps.toList++s:=by
 have kl:=(List.getElem?_eq_some_iff.mp hk).1
 rw[<-Zy]at kl
 refine jT e (by omega) λj hj q=>hc ?_
 have h:=congrArg (λl:List Nat=>l[k]?) q
 simp only[List.getElem?_take,List.getElem?_drop,if_pos kl,hk]at h
 rw[e,append_assoc]at h
 have h2:(p++y.cps.toList.take k)[j+k]?=some c:=by
  by_cases hp:j+k<p.length
  ·rw[getElem?_append_left hp]at h⊢
   exact h
  ·rw[getElem?_append_right (by omega)]at h⊢
   rw[getElem?_append_left (by rw[<-Zy];omega)]at h
   rw[List.getElem?_take,if_pos (by omega)]
   exact h
 exact mem_of_getElem? h2
theorem zQ{ti hd W:Str}{ps T:List Str}(hc:aG ":" ∉ ti::hd::ps):Sg (aG "rule" :: ti::hd::aG "->" :: (ps++aG ":" :: W::T)) =
  (Tq W).bind λp=>(RV T).bind λu=>if Yc ti hd ps u.1 u.2=true then some (ti,hd,ps,p,u.1,u.2) else none:=by
 have no:aG ":" ∉ aG "rule" :: ti::hd::aG "->" :: ps:=by
  simp only[mem_cons,not_or]at hc⊢
  exact⟨by decide +kernel,hc.1,hc.2.1,by decide +kernel,hc.2.2⟩
 have ei:=zO (r:=W::T) no
 have ea:aG "rule" :: ti::hd::aG "->" :: (ps++aG ":" :: W::T)=(aG "rule" :: ti::hd::aG "->" :: ps)++aG ":" :: W::T:=rfl
 have mm:aG ":" ∈ ((aG "rule" :: ti::hd::aG "->" :: ps)++aG ":" :: W::T).dropLast:=by rw[List.dropLast_append_of_ne_nil (by simp)];simp
 unfold Sg
 rw[ea,ei,if_pos ⟨rfl,rfl,mm⟩]
 generalize hl:aG "rule" :: ti::hd::aG "->" :: ps=l
 have e1:(l++aG ":" :: W::T).getD (l.length+1) (aG "")=W:=by
  rw[getD_eq_getElem?_getD,getElem?_append_right (by omega),show l.length+1-l.length=1 by omega]
  rfl
 have e2:(l++aG ":" :: W::T).drop (l.length+2)=T:=by
  rw[List.drop_append,List.drop_of_length_le (by omega),show l.length+2-l.length=2 by omega]
  rfl
 have e3:sl4 (l++aG ":" :: W::T) l.length=ps:=by
  unfold sl4
  rw[List.take_left,<-hl]
  rfl
 rw[e1,e2,e3,<-hl]
 rfl
structure Dt (r:Ru):Prop where
 ok:Yc r.ti r.hd r.ps r.tg r.t=true
 fit:r.Fit
 wl:Low r.wa r.wb
 wa:Bd 64 r.wa
 wb:Bd 64 r.wb
 us:∀ us,r.t=some us->us.length<=4
theorem xE{a b n:Int}(h:Low a b)(hn:0<n):lowP (a*n) (b*n)=a/\IJ (a*n) (b*n)=b:=by
 have bn:0<b*n:=Int.mul_pos h.pos hn
 have gp:=Ng (a:=a*n) (b:=b*n) (by omega)
 obtain⟨lo,le,_,_⟩:=vS (a:=a*n) (b:=b*n) (d:=(Int.gcd (a*n) (b*n):Int)) (by omega) (.inl rfl) (Int.mul_pos bn gp)
 obtain⟨s1,s2⟩:=Low.same lo h (by omega) le (by rw[Int.mul_comm b n,Int.mul_assoc])
 exact⟨s1,s2⟩
theorem mul9{a n:Int}(ha:Bd 64 a)(h1:1<=n)(h9:n<=9):(a*n).natAbs<10^40:=by
 have h1:a.natAbs<2^64:=ha
 have h2:n.natAbs<=9:=by omega
 rw[Int.natAbs_mul]
 exact Nat.lt_of_le_of_lt (Nat.mul_le_mul (Nat.le_of_lt h1) h2) (by decide)
theorem rY{a:Int}(h:a.natAbs<10^40):Bd 9000 a:=Bd.mono (n:=140) (Nat.lt_trans h (by decide)) (by decide)
theorem rZ{r:Ru}(R:Dt r){n:Int}(h1:1<=n)(h9:n<=9):∃ t b,Tq (frB r n)=some (t,b)/\0<b/\Bd 9000 b/\lowP t b=r.wa/\IJ t b=r.wb:=by
 have hp:=R.wl.pos
 have m1:=mul9 R.wa h1 h9
 have m2:=mul9 R.wb h1 h9
 have bp:0<r.wb*n:=Int.mul_pos hp (by omega)
 have lt:=xE R.wl (n:=n) (by omega)
 unfold frB
 split
 ·exact⟨_,_,rD m1 bp (by omega),bp,rY m2,lt.1,lt.2⟩
 ·rename_i c
  have en:n=1:=by omega
  have eb:r.wb=1:=by omega
  refine⟨_,_,rE m1,by decide,rY (by decide),?_⟩
  rw[en,eb]at lt
  rw[en,eb]
  exact lt
theorem nM{r:Ru}(R:Dt r){n:Int}(h1:1<=n)(h9:n<=9):(frB r n).length<=200:=by
 have m1:=Fd (Nat.lt_trans (mul9 R.wa h1 h9) (by decide))
 have m2:=Fd (Nat.lt_trans (mul9 R.wb h1 h9) (by decide))
 have s1:(aG "/").length=1:=by decide +kernel
 unfold frB
 split
 ·rw[Ys,Ys];omega
 ·omega
theorem qa(i:Int){c:Nat}(h1:c≠45)(h2:c<48):c∉MS i:=by
 intro h
 have hn:c∉Tx i.natAbs:=λh=>by have:=JB i.natAbs c h;omega
 unfold MS at h
 split at h
 ·rcases mem_cons.mp h with e|h
  ·exact h1 e
  ·exact hn h
 ·exact hn h
theorem zR(r:Ru)(n:Int){c:Nat}(h1:c≠45)(h2:c<48)(h3:c≠47):c∉(frB r n).cps.toList:=by
 have a:∀ i:Int,c∉(sT i).cps.toList:=λi=>by unfold sT;rw[MT];exact qa i h1 h2
 unfold frB
 split
 ·rw[Xk,Xk,mem_append,mem_append,show(aG "/").cps.toList=[47] by decide +kernel]
  rintro ((h|h)|h)
  ·exact a _ h
  ·exact h3 (mem_singleton.mp h)
  ·exact a _ h
 ·exact a _
theorem Sh{ws:List Str}(h:ws.getD 0 "" ≠ "rule" \/ (ws.drop 3).take 1≠[aG "->"]\/aG ":" ∉ ws.dropLast):Sg ws=none:=by
 unfold Sg
 rw[if_neg]
 rintro⟨a,b,c⟩
 exact h.elim (· a) (·.elim (· b) (· c))
theorem XY{ti hd W:Str}{ps T:List Str}(hc:aG ":" ∉ ti::hd::ps)(h:Tq W=none\/∀ u,RV T=some u->Yc ti hd ps u.1 u.2=false):Sg ("rule" :: ti::hd :: "->" :: (ps++aG ":" :: W::T))=none:=by
 rw[zQ hc]
 rcases h with h|h
 ·rw[h];rfl
 ·cases Tq W with
  | none=>rfl
  | some p =>
   cases e:RV T with
   | none=>rfl
   | some u=>show(if Yc ti hd ps u.1 u.2=true then _ else none)=none;rw[h u e];rfl
noncomputable def Bad(z:Str):Prop:=∃ ws,Li (z,ws)/\Sg ws=none
theorem Ts{z:Str}(w:Str)(vs:List Str)(e:z.cps.toList=w.cps.toList++bF vs)(hk:(w::vs).all wk=true)(hl:vs.length<=25)(hb:(w.cps.toList++bF vs).any (λc=>decide (c≠32))=true):Li (z,w::vs):=by
 obtain⟨c,h1,h2⟩:=List.any_eq_true.mp hb
 exact⟨w,vs,rfl,e,hk,by simp;omega,c,by rw[e];exact h1,of_decide_eq_true h2⟩
theorem XH{z:Str}(w:Str)(vs:List Str)(e:z.cps.toList=w.cps.toList++bF vs)(hk:(w::vs).all wk=true)(hl:vs.length<=25)(hb:(w.cps.toList++bF vs).any (λc=>decide (c≠32))=true)(hn:Sg (w::vs)=none):Bad z:=⟨_,Ts w vs e hk hl hb,hn⟩
theorem Fv{z:Str}(h:YS z=true):II s26 z:=by
 unfold YS at h
 rw[aD]at h
 have hl:=Yw h.1
 have h1:=h.1
 unfold isNm at h1
 rw[aD]at h1
 have ha:=all_eq_true.mp h1.2
 have h2:=h.2
 unfold fst grS at h2
 rw[Zy]at hl
 cases e:z.cps.toList with
 | nil=>rw[e]at hl;simp at hl
 | cons c r =>
  rw[e]at hl ha h2
  exact⟨c,r,e,of_decide_eq_true h2,λd hd=>of_decide_eq_true (by rw[rq];exact ha d (mem_cons_of_mem _ hd)),by simp at hl;omega⟩
theorem nN{tg:Str}{t:Option (List Str)}(h:tg = "" \/ YQ tg=true):RV (RY tg++RZ t)=some (tg,t):=by
 unfold RY
 by_cases e:tg = ""
 ·rw[if_pos e,e]
  cases t with
  | none=>rfl
  | some us=>exact MU _ (by decide +kernel)
 ·rw[if_neg e]
  show RV (aG "tag" :: tg::RZ t)=_
  rw[Fg _ _ rfl,if_pos (h.resolve_left e)]
  cases t<;>rfl
theorem jU{tg y:Str}{t:Option (List Str)}(h:tg = "" \/ YQ tg=true)(hy:(decide (y = "tag")||decide (y = "under"))=false):∀ u,RV (RY tg++RZ t++[y])=some u->∃ us,u.2=some (us++[y]):=by
 simp only[Bool.or_eq_false_iff,decide_eq_false_iff_not]at hy
 have un:∀ v,IQ (RZ t++[y])=some v->∃ us,v=some (us++[y]):=λv hv=>by
  cases t with
  | none=>rw[show RZ none++[y]=[y] from rfl,BL,if_neg hy.2]at hv;cases hv
  | some us=>cases hv;exact⟨us,rfl⟩
 intro u hu
 unfold RY at hu
 by_cases e:tg = ""
 ·rw[if_pos e]at hu
  have hn:RV (RZ t++[y])=(IQ (RZ t++[y])).map (aG "",·):=by
   cases t with
   | none=>exact MU _ hy.1
   | some us=>exact MU _ (by decide +kernel)
  have hu:RV (RZ t++[y])=some u:=hu
  rw[hn]at hu
  obtain⟨_,h'⟩:=Fh (tg:=u.1) (u:=u.2) hu
  exact un _ h'
 ·rw[if_neg e]at hu
  have hu:RV (aG "tag" :: tg::(RZ t++[y]))=some u:=hu
  rw[Fg _ _ rfl,if_pos (h.resolve_left e)]at hu
  obtain⟨_,h'⟩:=Fh (tg:=u.1) (u:=u.2) hu
  exact un _ h'
theorem tie_y{us:List Str}{y:Str}(hy:YQ y=false):NR (some (us++[y]))=false:=by
 show XF (us++[y])=false
 unfold XF
 rw[all_append,all_cons,hy]
 simp
theorem zT{ti hd tg:Str}{ps:List Str}{t:Option (List Str)}(h:NR t=false):Yc ti hd ps tg t=false:=by unfold Yc;rw[h,Bool.and_false]
theorem Fw{ti hd tg:Str}{ps:List Str}{t:Option (List Str)}(h:Xj ps=false):Yc ti hd ps tg t=false:=by unfold Yc;rw[h];simp
noncomputable def Lw:List Str:=["1/0", "01", "1/", "-0", "-0/3", "1.5", "+1", "1/-2", "/2", "--1", "1/01", "1/2/3",aG "1" ++ EI "0" 40,aG "1/" ++ aG "1" ++ EI "0" 40, "x", "-", "", "1 2", "3/4/", "-01"]
noncomputable def qb(W:Str):List Str:=if W = "1 2" then ["1", "2"] else [W]
theorem qc:∀ W∈Lw,32::W.cps.toList=bF (qb W)/\(qb W).all wk=true/\(W = "1 2" \/ Tq W=none)/\W.length<=100:=by decide +kernel
theorem qe{r:Ru}(R:Dt r):wk (frB r 1)=true:=by
 unfold wk
 simp only[aD,all_eq_true,decide_eq_true_eq]
 refine⟨λc hc=>⟨λz=>zR r 1 (by decide) (by decide) (by decide) (z ▸ hc),λz=>zR r 1 (by decide) (by decide) (by decide) (z ▸ hc)⟩,nM R (by decide) (by decide)⟩
theorem wk_T{r:Ru}(R:Dt r):(RY r.tg++RZ r.t).all wk=true/\(RY r.tg++RZ r.t).length<=7:=by
 obtain⟨o1,o2,o3,o4,o5⟩:=okR R.ok
 rw[all_append,aD,length_append]
 have h1:(RY r.tg).all wk=true/\(RY r.tg).length<=2:=by
  unfold RY
  split
  ·exact⟨rfl,by simp⟩
  ·rename_i c
   exact⟨by rw[all_cons,all_cons,SL (Vi (o4.resolve_left c))];decide +kernel,by simp⟩
 have h2:(RZ r.t).all wk=true/\(RZ r.t).length<=5:=by
  cases et:r.t with
  | none=>exact⟨rfl,by simp[RZ]⟩
  | some us =>
   rw[et]at o5
   have:=R.us us et
   refine⟨all_eq_true.mpr λq hq=>?_,by simp[RZ];omega⟩
   rcases mem_cons.mp hq with rfl|hq
   ·decide +kernel
   ·exact SL (Vi (okT o5 q hq))
 exact⟨⟨h1.1,h2.1⟩,by omega⟩
theorem JQ(r:Ru)(W:Str):rwd r W=r.ti::r.hd :: "->" :: (r.ps++aG ":" :: W::(RY r.tg++RZ r.t)):=by unfold rwd;simp
theorem Wz(x y:Str):(x++y).cps.toList=x.cps.toList++y.cps.toList:=Xk x y
noncomputable def Du(ti hd L pa st W1 W2 W3:Str):List Str:=[rep1 L " " "  ",aG " " ++ L,L++aG " ",rep1 L "->" ">",st++pa++aG " 1",rep1 L " -> " " -> a a a a ",L++aG " Xy",rep1 L "rule " "rule Q",
   aG "rule " ++ ti++aG " " ++ Txt.lower hd++aG " -> " ++ pa++aG " : 1",aG "rules" ++ Txt.slice L (some 4) none,st++aG ": 1",rep1 L " -> " " -> -> ",st++pa++aG ". : 1",st++pa++aG "abcdefghijkl : 1",
   st++pa++aG " : 1 tag",st++pa++aG " : 1 under",st++pa++aG " : 1 tag Xy",st++pa++aG " : 1 under x-y",st++pa++aG " : 1 tag x tag y",st++pa++aG " : 1 x",
   st++pa++aG " : " ++ W1,st++pa++aG " :",st++pa, "rule",st++pa++aG " : " ++ W2, "scale cost",aG "start " ++ hd, "#", "-",st++pa++aG " : " ++ W3,st++pa++aG " : 1 under x Xy"]
theorem bads{r:Ru}(R:Dt r){L pa W1 W2 W3:Str}(eL:L.cps.toList=(aG "rule").cps.toList++bF (rwd r (frB r 1)))(ep:32::pa.cps.toList=bF r.ps)(h1:W1∈Lw)(h2:W2∈Lw)(h3:W3∈Lw){st:Str}(es:st=aG "rule " ++ r.ti++aG " " ++ r.hd++aG " -> "):∀ z∈Du r.ti r.hd L pa st W1 W2 W3,Bad z:=by
 obtain⟨o1,o2,o3,o4,o5⟩:=okR R.ok
 obtain⟨p1,p2,o6⟩:=okP o3
 obtain⟨t1,t2⟩:=wk_T R
 have k1:=SL (Vi o1)
 have k2:=SL (Sf o2)
 have k3:r.ps.all wk=true:=all_eq_true.mpr λq hq=>SL (o6 q hq)
 have k4:=qe R
 have cn:∀ z,isNm z=true->¬ aG ":" = z:=λz h=>rQ h rR
 have cp:aG ":" ∉ r.ps:=λh=>cn _ (o6 _ h) rfl
 have c1:=cn _ (Vi o1)
 have c2:=cn _ (Sf o2)
 have hc:aG ":" ∉ r.ti::r.hd::r.ps:=by simp only[mem_cons,not_or];exact⟨c1,c2,cp⟩
 have kl:wk "rule" = true/\wk "->" = true/\wk ":" = true/\wk "" = true:=by decide +kernel
 obtain⟨q1,q2,q3,q4⟩:=kl
 generalize hT:RY r.tg++RZ r.t=T at t1 t2
 have eL:L.cps.toList=(aG "rule").cps.toList++bF (r.ti::r.hd :: "->" :: (r.ps++aG ":" :: frB r 1::T)):=by
  rw[eL,JQ,hT]
 have eS:st.cps.toList=(aG "rule").cps.toList++bF [r.ti,r.hd, "->"]++[32]:=by
  rw[es]
  simp only[Wz,Ft,rS,zP,ZG,YT]
  simp
 have eP:(st++pa).cps.toList=(aG "rule").cps.toList++bF (r.ti::r.hd :: "->" :: r.ps):=by
  rw[Wz,eS,append_assoc,show [32]++pa.cps.toList=bF r.ps from ep]
  simp[ZG,YT]
 -- a tail that is none
 have tm:∀ (X:Str) (xs:List Str),X.cps.toList=bF xs->xs.all wk=true->xs.length<=8->Sg ("rule" :: r.ti::r.hd :: "->" :: (r.ps++xs))=none->∀ z:Str,z.cps.toList=(st++pa).cps.toList++X.cps.toList->Bad z:=λX xs h1 h2 h3 h4 z hz=>by
  refine XH "rule" (r.ti::r.hd :: "->" :: (r.ps++xs)) ?_ ?_ ?_ rfl h4
  ·rw[hz,eP,h1,append_assoc,<-Qa]
   rfl
  ·simp[k1,k2,k3,q1,q2,h2]
  ·simp
   omega
 have tt:∀ (X:Str) (T':List Str),X.cps.toList=bF (":" :: "1" :: T')->(aG ":" :: "1" :: T').all wk=true->T'.length<=6->(match RV T' with | none=>true | some u => !NR u.2)=true->Bad (st++pa++X):=λX T' h1 h2 h3 h4=>by
  refine tm X _ h1 h2 (by simp;omega) (XY hc (.inr λu hu=>zT ?_)) _ (Wz _ _)
  rw[hu]at h4
  simpa using h4
 have ld:∀ X:Str,(∃ c,c∈X.cps.toList/\nmS c=false)->∀ l:Str,isNm (l++X)=false:=λX ⟨c,h1,h2⟩ l=>by
  cases h:isNm (l++X) with
  | false=>rfl
  | true=>exact absurd (by rw[Wz];exact mem_append_right _ h1) (Md h h2)
 -- a last part that is none
 have tl:∀ (X y:Str),X.cps.toList=y.cps.toList++bF [":", "1"]->y.cps.toList.all (λc=>decide (c≠32/\c≠10))=true->y.length<=20->1<=y.length->(∀ l,isNm l=true->isNm (l++y)=false)->Bad (st++pa++X):=λX y h1 h2 h3 h5 h4=>by
  obtain⟨i,l,el⟩:∃ i l,r.ps=i++[l]:=⟨_,_,(List.dropLast_concat_getLast (λz=>by rw[z]at p1;simp at p1)).symm⟩
  have il:i.length<=3:=by rw[el]at p2;simp at p2;omega
  have hl:isNm l=true:=o6 l (by rw[el];simp)
  have ll:=Yw hl
  have kll:=SL hl
  rw[el,all_append,aD]at k3
  refine XH "rule" (r.ti::r.hd :: "->" :: ((i++[l++y])++[aG ":", "1"])) ?_ ?_ ?_ rfl (XY ?_ (.inr λu _=>Fw ?_))
  ·rw[Wz,eP,h1,el]
   simp only[ZG,Qa,YT,Wz]
   simp
  ·have:wk (l++y)=true:=by
    unfold wk at kll⊢
    simp only[aD,decide_eq_true_eq]at kll⊢
    rw[Wz,all_append,kll.1,h2,Ys]
    exact⟨rfl,by omega⟩
   simp only[all_cons,all_append,List.all_nil,k1,k2,k3.1,q1,q2,q3,this]
   decide +kernel
  ·simp
   omega
  ·simp only[mem_cons,mem_append,not_mem_nil,or_false,not_or]
   refine⟨c1,c2,λh=>cp (by rw[el];simp[h]),λh=>?_⟩
   have:=congrArg Str.length h
   rw[Ys,show(aG ":").length=1 by decide +kernel]at this
   omega
  ·unfold Xj
   rw[all_append,all_cons,h4 l hl]
   simp
 -- the line itself with another beginning or end
 have aw:∀ w:Str,wk w=true->(w::r.ti::r.hd :: "->" :: (r.ps++aG ":" :: frB r 1::T)).all wk=true:=λw h=>by simp[k1,k2,k3,k4,q2,q3,h,t1]
 have ad:∀ (X y:Str),X.cps.toList=32::y.cps.toList->wk y=true->(decide (y = "tag")||decide (y = "under"))=false->YQ y=false->Bad (L++X):=λX y h1 h2 h3 h4=>by
  refine XH "rule" (r.ti::r.hd :: "->" :: (r.ps++aG ":" :: frB r 1::(T++[y]))) ?_ ?_ ?_ rfl (XY hc (.inr λu hu=>?_))
  ·rw[Wz,eL,h1]
   simp[ZG,Qa,YT]
  ·simp[k1,k2,k3,k4,q1,q2,q3,h2,t1]
  ·simp
   omega
  ·rw[<-hT]at hu
   obtain⟨us,e⟩:=jU o4 h3 u hu
   rw[e]
   exact zT (tie_y h4)
 have pre:∀ a,a∈(aG "rule").cps.toList++bF [r.ti,r.hd]->a≠45:=λa h z=>by
  subst z
  have f1:=Md (Vi o1) (c:=45) (by decide +kernel)
  have f2:=Md (Sf o2) (c:=45) (by decide +kernel)
  simp only[ZG,YT,mem_append,mem_cons,not_mem_nil,or_false]at h
  rcases h with h|((h|h)|(h|h))
  ·exact absurd h (by decide +kernel)
  ·cases h
  ·exact f1 h
  ·cases h
  ·exact f2 h
 obtain⟨sq,eq⟩:∃ s,bF (r.ps++aG ":" :: frB r 1::T)=32::s:=by
  cases e:r.ps with
  | nil=>exact⟨_,rfl⟩
  | cons a b=>exact⟨_,rfl⟩
 have ra:∀ (X:Str) (xs:List Str),X.cps.toList=bF (aG "->" :: xs)++[32]->(rep1 L " -> " X).cps.toList=(aG "rule").cps.toList++bF (r.ti::r.hd :: "->" :: (xs++r.ps++aG ":" :: frB r 1::T)):=λX xs h=>by
  rw[Fu (p:=(aG "rule").cps.toList++bF [r.ti,r.hd]) (s:=sq) (c:=45) (k:=1) ?_ (by decide +kernel) ?_,h]
  ·simpa [ZG,Qa,YT] using eq.symm
  ·rw[eL,zP]
   simpa [ZG,Qa,YT] using eq
  ·rw[mem_append]
   rintro (h|h)
   ·exact pre _ h rfl
   ·exact absurd h (by decide +kernel)
 have bw:∀ W∈Lw,Bad (st++pa++aG " : " ++ W):=λW hW=>by
  obtain⟨w1,w2,w3,_⟩:=qc W hW
  refine tm (aG " : " ++ W) (":" :: qb W) ?_ ?_ ?_ ?_ _ (by rw[Wz,Wz,Wz _ W,append_assoc])
  ·rw[Wz,mF,ZG,<-w1]
   simp
  ·rw[all_cons,q3,w2]
   rfl
  ·unfold qb
   split<;>simp
  ·rcases w3 with rfl|h
   ·exact XY hc (.inr λu hu=>absurd hu (by rw[show RV ["2"]=none by decide +kernel];simp))
   ·by_cases e:W = "1 2"
    ·subst e
     exact XY hc (.inr λu hu=>absurd hu (by rw[show RV ["2"]=none by decide +kernel];simp))
    ·unfold qb
     rw[if_neg e]
     exact XY hc (.inl h)
 have n4:aG ":" ∉ aG "rule" :: r.ti::r.hd :: "->" :: r.ps:=by
  simp only[mem_cons,not_or]
  exact⟨by decide +kernel,c1,c2,by decide +kernel,cp⟩
 have nd:∀ x,aG ":" ∉ (aG "rule" :: r.ti::r.hd :: "->" :: (r.ps++[x])).dropLast:=λx=>by
  rw[show aG "rule" :: r.ti::r.hd :: "->" :: (r.ps++[x])=(aG "rule" :: r.ti::r.hd :: "->" :: r.ps)++[x] from rfl,List.dropLast_concat]
  exact n4
 unfold Du
 simp only[List.forall_mem_cons]
 refine⟨?_,?_,ad _ "" (by decide +kernel) q4 (by decide +kernel) (by decide +kernel),?_,tm _ ["1"] (by decide +kernel) (by decide +kernel) (by decide) (Sh (.inr (.inr ?_))) _ (Wz _ _),?_,ad _ "Xy" (by decide +kernel) (by decide +kernel) (by decide +kernel) (by decide +kernel),?_,?_,?_,?_,?_,tl _ "." (by decide +kernel) (by decide +kernel) (by decide) (by decide) λl _=>ld "." ⟨46,by decide +kernel,by decide +kernel⟩ l,tl _ "abcdefghijkl" (by decide +kernel) (by decide +kernel) (by decide) (by decide) λl h=>?_,
  tt _ ["tag"] (by decide +kernel) (by decide +kernel) (by decide) (by decide +kernel),tt _ ["under"] (by decide +kernel) (by decide +kernel) (by decide) (by decide +kernel),tt _ ["tag", "Xy"] (by decide +kernel) (by decide +kernel) (by decide) (by decide +kernel),tt _ ["under", "x-y"] (by decide +kernel) (by decide +kernel) (by decide) (by decide +kernel),tt _ ["tag", "x", "tag", "y"] (by decide +kernel) (by decide +kernel) (by decide) (by decide +kernel),tt _ ["x"] (by decide +kernel) (by decide +kernel) (by decide) (by decide +kernel),
  bw _ h1,tm _ [":"] (by decide +kernel) (by decide +kernel) (by decide) (Sh (.inr (.inr ?_))) _ (Wz _ _),?_,?_,bw _ h2,?_,?_,?_,?_,bw _ h3,tt _ ["under", "x", "Xy"] (by decide +kernel) (by decide +kernel) (by decide) (by decide +kernel),λz hz=>nomatch hz⟩
 ·refine XH "rule" ("" :: r.ti::r.hd :: "->" :: (r.ps++aG ":" :: frB r 1::T)) ?_ ?_ ?_ rfl (Sh (.inr (.inl λh=>?_)))
  ·rw[Fu (p:=(aG "rule").cps.toList) (s:=r.ti.cps.toList++bF (r.hd :: "->" :: (r.ps++aG ":" :: frB r 1::T))) (c:=32) (k:=0) ?_ (by decide +kernel) (by decide +kernel)]
   ·simp only[ZG]
    simp
    rfl
   ·rw[eL,ZG,rS]
    simp
  ·have:=aw "" q4
   rw[all_cons,q1,this]
   rfl
  ·simp
   omega
  ·exact absurd (Sf o2) (by rw[(List.cons.inj h).1];decide +kernel)
 ·refine XH "" ("rule" :: r.ti::r.hd :: "->" :: (r.ps++aG ":" :: frB r 1::T)) ?_ ?_ ?_ rfl (Sh (.inl (by show aG "" ≠ "rule";decide +kernel)))
  ·rw[Wz,eL,ZG,rS]
   rfl
  ·rw[all_cons,q4,aw _ q1]
   rfl
  ·simp
   omega
 ·refine XH "rule" (r.ti::r.hd :: ">" :: (r.ps++aG ":" :: frB r 1::T)) ?_ ?_ ?_ rfl (Sh (.inr (.inl (by show [aG ">"]≠_;decide +kernel))))
  ·rw[Fu (p:=(aG "rule").cps.toList++bF [r.ti,r.hd]++[32]) (s:=bF (r.ps++aG ":" :: frB r 1::T)) (c:=45) (k:=0) ?_ (by decide +kernel) ?_]
   ·simp[ZG,YT]
   ·rw[eL]
    simp[ZG,YT]
   ·rw[List.take_zero,append_nil,mem_append]
    rintro (h|h)
    ·exact pre _ h rfl
    ·exact absurd h (by decide +kernel)
  ·have:=aw _ q1
   simp[k1,k2,k3,k4,q1,q3,t1]
   decide +kernel
  ·simp
   omega
 ·exact nd _
 ·refine XH "rule" _ (ra _ ["a", "a", "a", "a"] (by decide +kernel)) ?_ ?_ rfl (XY ?_ (.inr λu _=>Fw ?_))
  ·simp[k1,k2,k3,k4,q1,q2,q3,t1]
   decide +kernel
  ·simp
   omega
  ·simpa using ⟨c1,c2,by decide +kernel,cp⟩
  ·unfold Xj
   rw[decide_eq_false (show ¬ ([aG "a", "a", "a", "a"]++r.ps).length<=4 by rw[length_append];show ¬ 4+r.ps.length<=4;omega)]
   simp
 ·refine XH "rule" ((aG "Q" ++ r.ti)::r.hd :: "->" :: (r.ps++aG ":" :: frB r 1::T)) ?_ ?_ ?_ rfl (XY ?_ (.inr λu _=>?_))
  ·rw[Fu (p:=[]) (s:=r.ti.cps.toList++bF (r.hd :: "->" :: (r.ps++aG ":" :: frB r 1::T))) (c:=114) (k:=0) ?_ (by decide +kernel) (by simp)]
   ·simp only[ZG,Wz,show(aG "rule Q").cps.toList=(aG "rule").cps.toList++32::(aG "Q").cps.toList by decide +kernel]
    simp
   ·rw[eL,ZG,Ft]
    simp
  ·have:wk (aG "Q" ++ r.ti)=true:=by
    have ll:=Yw (Vi o1)
    unfold wk at k1⊢
    simp only[aD,decide_eq_true_eq]at k1⊢
    rw[Wz,all_append,k1.1,Ys,show(aG "Q").length=1 by decide +kernel]
    exact⟨by decide +kernel,by omega⟩
   simp[this,k2,k3,k4,q1,q2,q3,t1]
  ·simp
   omega
  ·simp only[mem_cons,not_or]
   refine⟨λh=>?_,c2,cp⟩
   have:=congrArg (λz:Str=>z.cps.toList.getD 0 0) h
   simp only[Wz]at this
   exact absurd this (by show ¬ (58=81);decide)
  ·have:YQ (aG "Q" ++ r.ti)=false:=by
    unfold YQ fst
    rw[Wz,show grS (((aG "Q").cps.toList++r.ti.cps.toList).getD 0 0)=true from show grS 81=true by decide +kernel]
    simp
   unfold Yc
   rw[this]
   rfl
 ·have nl:=(Fv o2).low
  have nk:=HG nl.1
  refine XH "rule" (r.ti::Txt.lower r.hd :: "->" :: (r.ps++[aG ":", "1"])) ?_ ?_ ?_ rfl (XY ?_ (.inr λu _=>?_))
  ·simp only[Wz,Ft,rS,zP,ZG,Qa,YT,<-ep,show(aG " : 1").cps.toList=32::(aG ":").cps.toList++32::(aG "1").cps.toList by decide +kernel]
   simp
  ·simp[k1,SL (Vi nl.1),k3,q1,q2,q3]
   decide +kernel
  ·simp
   omega
  ·simp only[mem_cons,not_or]
   exact⟨c1,cn _ (Vi nl.1),cp⟩
  ·unfold Yc
   rw[nk]
   simp
 ·refine XH "rules" (r.ti::r.hd :: "->" :: (r.ps++aG ":" :: frB r 1::T)) ?_ (aw _ (by decide +kernel)) ?_ rfl (Sh (.inl (by show aG "rules" ≠ "rule";decide +kernel)))
  ·rw[Wz,L2.sl_fr (by decide) (by rw[eL,length_append,show(aG "rule").cps.toList.length=4 by decide +kernel];omega),eL]
   rfl
  ·simp
   omega
 ·refine XH "rule" (r.ti::r.hd :: "->" :: ([]++[aG ":", "1"])) ?_ ?_ ?_ rfl (XY ?_ (.inr λu _=>Fw rfl))
  ·rw[Wz,eS,append_assoc,show [32]++(aG ": 1").cps.toList=bF [":", "1"] by decide +kernel]
   simp[ZG,YT]
  ·simp[k1,k2,q1,q2,q3]
   decide +kernel
  ·simp
  ·simpa using ⟨c1,c2⟩
 ·refine XH "rule" _ (ra _ ["->"] (by decide +kernel)) ?_ ?_ rfl (XY ?_ (.inr λu _=>Fw ?_))
  ·simp[k1,k2,k3,k4,q1,q2,q3,t1]
  ·simp
   omega
  ·simpa using ⟨c1,c2,by decide +kernel,cp⟩
  ·unfold Xj
   rw[all_append,show [aG "->"].all isNm=false by decide +kernel]
   simp
 ·cases z:isNm (l++aG "abcdefghijkl") with
  | false=>rfl
  | true =>
   have h1:=Yw z
   have h2:=Yw h
   rw[Ys,show(aG "abcdefghijkl").length=12 by decide +kernel]at h1
   omega
 ·exact nd _
 ·refine XH "rule" (r.ti::r.hd :: "->" :: r.ps) eP ?_ ?_ rfl (Sh (.inr (.inr λh=>?_)))
  ·simp[k1,k2,k3,q1,q2]
  ·simp
   omega
  ·exact n4 (List.dropLast_subset _ h)
 ·exact XH "rule" [] (by decide +kernel) (by decide +kernel) (by decide) (by decide +kernel) (by decide +kernel)
 ·exact XH "scale" ["cost"] (by decide +kernel) (by decide +kernel) (by decide) (by decide +kernel) (by decide +kernel)
 ·refine XH "start" [r.hd] ?_ ?_ (by simp) rfl (Sh (.inl (by show aG "start" ≠ "rule";decide +kernel)))
  ·rw[Wz,show(aG "start ").cps.toList=(aG "start").cps.toList++[32] by decide +kernel,ZG,YT]
   simp
  ·rw[all_cons,all_cons,k2]
   decide +kernel
 ·exact XH "#" [] (by decide +kernel) (by decide +kernel) (by decide) (by decide +kernel) (by decide +kernel)
 ·exact XH "-" [] (by decide +kernel) (by decide +kernel) (by decide) (by decide +kernel) (by decide +kernel)
theorem Fx{α:Type}(f:α->D)(zs:List α)(n:Int)(h:0<zs.length):∃ z∈zs,atI (zs.map f) (n%(zs.length:Int))=some (f z):=by
 have h1:=Int.emod_nonneg n (b:=(zs.length:Int)) (by omega)
 have h2:=Int.emod_lt_of_pos n (b:=(zs.length:Int)) (by omega)
 obtain⟨k,ek⟩:∃ k:Nat,n%(zs.length:Int)=k:=⟨(n%(zs.length:Int)).toNat,by omega⟩
 rw[ek]at h2⊢
 refine⟨zs[k]'(by omega),getElem_mem _,?_⟩
 exact YY (by rw[getElem?_map,aA (by omega)];rfl)
noncomputable def JR:DSp:=λxs q _=>∃ n:Int,xs=[.int n]/\∀ W∈Lw,q (.str W)
theorem VX{A:Adr}(T:Txt K mg A):ZL P w K mg base (CXE P w) 1 A.Va A.Tc WV (spD K JR):=by
 haveI:TxC K A:=⟨⟨_,T⟩⟩
 refine T.Xr.F.okJ VS (by walk_at "ln") (λcdv Ar outer s H E hr=>⟨_,(Zb (Vt (i:=1) VS.nd rfl (Or.inl rfl) (Sn (Zc Zg (Zc Zg (Zc Zg (Zc Zg (Zc Zg (Zc Zg (Zc Zg (Zc Zg (Zc Zg (Zc Zg (Zc Zg (Zc Zg (Zc (Zh Zi Zg (Zh zo Zg Zd)) Za)))))))))))))))
   (Zb (Wn [] (i:=1) VS.nd rfl (Or.inl rfl) (ZH (Zc (Zh Zi (Zh Zi Zg Zg) (Zh zo Zg Zd)) (Zc Zg (Zc Zg (Zc Zg (Zc Zg (Zc Zg (Zc Zg Za)))))))))
   (Ze (Zr [1] (Zj (jv 1) (Zh Zu (jv 0) (Yl ZY (by rfl) T.b_len PySem.boot_len (Zc (jv 1) Za)))))))),λxs q x h=>?_⟩)
 ·obtain⟨n,rfl,hq⟩:=h
  have hsz:az=16777216:=rfl
  walk_at "rd"
  obtain⟨W,hW,e⟩:=Fx D.str Lw n (by decide)
  have em:Ni n ((20:Nat):Int)=n%20:=by rw[Pm,Int.fmod_eq_emod_of_nonneg n (by decide)];rfl
  rw[em]
  exact⟨by decide,by decide,by decide,by decide,by decide +kernel,by decide +kernel,by decide,by decide,by decide,by decide,by decide,by decide,by decide +kernel,by decide +kernel,by decide,by decide,by decide,_,e,hq W hW⟩
theorem Bad.len{z:Str}(h:Bad z):z.length<=30000:=let ⟨_,h,_⟩:=h;h.ln.2.2.1
theorem lp{x y:Str}(h:(x++y).length<=az):x.length<=az:=by rw[Ys]at h;omega
theorem le3{x y:Str}(h:(x++y).length<=az):x.length+y.length<=az:=by rw[<-Ys];exact h
theorem mulb{a b:Nat}(h:a<=30000)(hb:b<=100):a+(a+1)*b<=16777216:=by
 have:(a+1)*b<=30001*100:=Nat.mul_le_mul (by omega) hb
 omega
noncomputable def Fy:DSp:=λxs q _=>∃ (r:Ru) (n:Int),xs=[r.row,.int n]/\Dt r/\∀ z,Bad z->q (.str z)
theorem IW{A:Adr}(T:Txt K mg A):ZL P w K mg base (CXE P w) 2 A.Uq A.RH Uh (spD K Fy):=by
 haveI:TxC K A:=⟨⟨_,T⟩⟩
 refine T.Uy.F.okJ ZM (by walk_at "ln") (λcdv Ar outer s H E hr=>⟨_,(Zb (ZI 2 ZM.nd (Zw (HN T) T.QP hr (Zc (jv 0) (Zc Zd Za))))
   (jss_z (jB 3 ZM.nd PySem.F.plainAttrs_str PySem.F.slot_str_join PySem.F.type_str_join Nm (Zc (Zj (jv 0) Zd) Za))
   (Sr (Ou (ZI 4 ZM.nd (Zh Zi (Zh Zi (Zh Zi (Zh Zi Zg (Zj (jv 0) Zd)) Zg) (Zj (jv 0) Zd)) Zg)))
   (Sr (nq 5 ZM.nd (Qx (Nq (jv 2)) (Qx (Mw (Zh Zi Zg (jv 2))) (Qx (Mw (Zh Zi (jv 2) Zg)) (Qx (Nq (jv 2)) (Qx (Mw (Zh Zi (Zh Zi (jv 4) (jv 3)) Zg)) (Bv Za)))))))
   (Sr (zm [] 5 ZM.nd (Qx (Nq (jv 2)) (Qx (Mw (Zh Zi (jv 2) Zg)) (Qx (Nq (jv 2)) (Bv Za)))))
   (Sr (Ou (Wn [] (i:=5) ZM.nd rfl (Or.inl rfl) (ZH (Zc (Zh Zi (Zh Zi (Zh Zi (Zh Zi (Zh Zi (Zh Zi Zg (Zj (jv 0) Zd)) Zg) (uo PySem.F.plainAttrs_str PySem.F.slot_str_lower PySem.F.type_str_lower Es (Zj (jv 0) Zd))) Zg) (jv 3)) Zg) (Zc (Zh Zi Zg (YD (jv 2) (Yx Zd) Wm)) (Zc (Zh Zi (jv 4) Zg) Za))))))
   (Sr (zm [] 5 ZM.nd (Qx (Nq (jv 2)) (Qx (Mw (Zh Zi (Zh Zi (jv 4) (jv 3)) Zg)) (Qx (Mw (Zh Zi (Zh Zi (jv 4) (jv 3)) Zg)) (Bv Za)))))
   (Sr (Ou (Wn [] (i:=5) ZM.nd rfl (Or.inl rfl) (ZH (Zc (Zh Zi (Zh Zi (jv 4) (jv 3)) Zg) (Zc (Zh Zi (Zh Zi (jv 4) (jv 3)) Zg) (Zc (Zh Zi (Zh Zi (jv 4) (jv 3)) Zg) Za))))))
   (Sr (Ou (Wn [] (i:=5) ZM.nd rfl (Or.inl rfl) (ZH (Zc (Zh Zi (Zh Zi (jv 4) (jv 3)) Zg) (Zc (Zh Zi (Zh Zi (jv 4) (jv 3)) Zg) (Zc (Zh Zi (Zh Zi (jv 4) (jv 3)) Zg) Za))))))
   (Sr (Ou (Wn [] (i:=5) ZM.nd rfl (Or.inl rfl) (ZH (Zc (Zh Zi (Zh Zi (Zh Zi (jv 4) (jv 3)) Zg) (Zw (VX T) T.Xr hr (Zc (Zh Zz (jv 1) Zd) Za))) (Zc (Zh Zi (Zh Zi (jv 4) (jv 3)) Zg) (Zc (Zh Zi (jv 4) (jv 3)) (Zc Zg Za)))))))
   (Sr (Ou (Wn [] (i:=5) ZM.nd rfl (Or.inl rfl) (ZH (Zc (Zh Zi (Zh Zi (Zh Zi (jv 4) (jv 3)) Zg) (Zw (VX T) T.Xr hr (Zc (Zh Zz (jv 1) Zd) Za))) (Zc Zg (Zc (Zh Zi Zg (Zj (jv 0) Zd)) (Zc Zg (Zc Zg Za))))))))
   (Sr (Ou (Wn [] (i:=5) ZM.nd rfl (Or.inl rfl) (ZH (Zc (Zh Zi (Zh Zi (Zh Zi (jv 4) (jv 3)) Zg) (Zw (VX T) T.Xr hr (Zc (Zh Zz (jv 1) Zd) Za))) (Zc (Zh Zi (Zh Zi (jv 4) (jv 3)) Zg) Za)))))
   (ni (Ze (Zr [5] (Zj (jv 5) (Zh Zu (jv 1) Zd))))))))))))))))),λxs q x h=>?_⟩)
 ·obtain⟨r,n,rfl,R,hq⟩:=h
  have hsz:az=16777216:=rfl
  walk_at "rd"
  refine⟨r,1,rfl,R.ok,R.fit,by decide,by decide,R.wa,R.wb,λL eL=>?_⟩
  rw[HM]at eL
  obtain⟨o1,o2,o3,o4,o5⟩:=okR R.ok
  obtain⟨p1,p2,o6⟩:=okP o3
  have psum:=MY r.ps λz hz=>RX (o6 z hz)
  have pne:r.ps≠[]:=λz=>by rw[z]at p1;exact absurd p1 (by decide)
  have bl:=λW1 W2 W3 h1 h2 h3=>bads (W1:=W1) (W2:=W2) (W3:=W3) R eL (PL pne) h1 h2 h3 rfl
  walk_at "rd"
  have pl:(Txt.join (aG " ") r.ps).length<=5000:=by
   have:=congrArg length (PL pne)
   rw[length_cons,<-Zy,Fs]at this
   omega
  generalize Txt.join (aG " ") r.ps=pa at bl pl⊢
  have e1:(aG " ").length=1:=by decide +kernel
  generalize hst:aG "rule " ++ r.ti++aG " " ++ r.hd++aG " -> " = st at bl⊢
  have bz:∀ z∈Du r.ti r.hd L pa st "x" "x" "x",z.length<=az:=λz hz=>by have:=(bl _ _ _ (by decide +kernel) (by decide +kernel) (by decide +kernel) z hz).len;omega
  have lw:∀ W∈Lw,(st++pa++aG " : " ++ W).length<=az:=λW h=>by have:=(bl W W W h h h (st++pa++aG " : " ++ W) (by unfold Du;simp)).len;omega
  have ll:=(bl "x" "x" "x" (by decide +kernel) (by decide +kernel) (by decide +kernel) (L++aG " ") (by unfold Du;simp)).len
  rw[Ys]at ll
  have ll:L.length<=30000:=by omega
  have lz:L.length<=az:=by omega
  have lh:r.hd.length<=5592405:=by have:=Yw (Sf o2);omega
  have s31:Small 31:=XW (by decide) (by decide)
  unfold Du at bz
  simp only[List.forall_mem_cons]at bz
  obtain⟨b0,b1,b2,b3,b4,b5,b6,b7,b8,b9,b10,b11,b12,b13,b14,b15,b16,b17,b18,b19,b20,b21,b22,b23,b24,b25,b26,b27,b28,b29,b30,_⟩:=bz
  have u1:=lp b8
  have u2:=lp u1
  have u3:=lp u2
  have u4:=lp u3
  have u5:=lp u4
  have u6:=lp u5
  have u7:=lp b20
  have u8:=lp b22
  have v1:=u8
  rw[<-hst]at v1
  have v2:=lp v1
  refine⟨by rw[e1];omega,?_⟩
  repeat (refine And.intro (by first | with_reducible assumption | with_reducible exact le3 (by assumption) | with_reducible exact mulb ll (by decide) | decide) ?_)
  refine⟨_,rfl,λW1 h1=>?_⟩
  have w1:=lw W1 h1
  walk_at "rd"
  repeat (refine And.intro (by first | with_reducible assumption | with_reducible exact le3 (by assumption) | with_reducible exact mulb ll (by decide) | decide) ?_)
  refine⟨_,rfl,λW2 h2=>?_⟩
  have w2:=lw W2 h2
  walk_at "rd"
  repeat (refine And.intro (by first | with_reducible assumption | with_reducible exact le3 (by assumption) | with_reducible exact mulb ll (by decide) | decide) ?_)
  refine⟨_,rfl,λW3 h3=>?_⟩
  have w3:=lw W3 h3
  walk_at "rd"
  repeat (refine And.intro (by first | with_reducible assumption | with_reducible exact le3 (by assumption) | with_reducible exact mulb ll (by decide) | decide) ?_)
  obtain⟨z,hz,e⟩:=Fx D.str (Du r.ti r.hd L pa st W1 W2 W3) n (by unfold Du;simp)
  exact⟨_,e,hq z (bl W1 W2 W3 h1 h2 h3 z hz)⟩
theorem BQ{α:Type}{f:α->Option D}:∀ {l:List α}{ds:List D},l.map f=ds.map some->LX f l=some ds
 | [],[],_=>rfl
 | [],_::_,h=>by cases h
 | _::_,[],h=>by cases h
 | a::l,d::ds,h=>by
  rw[map_cons,map_cons]at h
  unfold LX
  rw[(List.cons.inj h).1,BQ (List.cons.inj h).2]
  rfl
theorem qf{α:Type}{f:α->Option D}:∀ {l:List α},(∃ a∈l,f a=none)->LX f l=none
 | [],⟨_,h,_⟩=>by cases h
 | a::l,⟨b,h,e⟩=>by
  unfold LX
  rcases mem_cons.mp h with rfl|h
  ·rw[e];rfl
  ·rw[qf ⟨b,h,e⟩]
   cases f a<;>rfl
theorem zU(c:Nat):∀ (ps:List (List Nat)) (p:List Nat),(∀ q∈ps,q.length<=30000)->(glC c p ps).length<=p.length+30001*ps.length
 | [],p,_=>by unfold glC;simp
 | a::ps,p,h=>by
  rw[JN,length_append,length_cons,length_cons]
  have h1:=zU c ps a λq hq=>h q (mem_cons_of_mem _ hq)
  have h2:=h a (mem_cons_self ..)
  omega
noncomputable def Reads(A:Adr)(ls:List (Str×List Str))(sc st:Str)(rs:List Ru):Prop:=∃ a b l,ls=a::b::l/\Tr "scale" YQ a.2=some sc/\Tr "start" YS b.2=some st/\l.map (λp=>Oh A p.2)=rs.map λr=>some (r.d A)
noncomputable def NoG(ls:List (Str×List Str)):Prop:=∀ a b l,ls=a::b::l->Tr "scale" YQ a.2=none\/Tr "start" YS b.2=none\/∃ p∈l,Sg p.2=none
noncomputable def JU(A:Adr):DSp:=λxs q x=>∃ (zs:List Str) (ls:List (Str×List Str)),xs=[.str (Txt.join "\n" zs)]/\zs.length<=20/\(∀ z∈zs,10∉z.cps.toList/\z.length<=30000)/\zs.filter nb=ls.map (·.1)/\(∀ p∈ls,Li p) /\
 ((∃ sc st rs,Reads A ls sc st rs/\Rus rs/\EX A sc st rs (λf=>q (.obj A.ZF f)) x)\/NoG ls/\x A.ZE)
theorem LZ{A:Adr}(T:Txt K mg A):ZL P w K mg base (CXE P w) 9 A.WY A.Ta WT (spD K (JU A)):=by
 haveI:TxC K A:=⟨⟨_,T⟩⟩
 refine T.Ve.F.okJ Wp (by walk_at "ln") (λcdv Ar outer s H E hr=>⟨_,(Zb (Gq (Zw (IT T) T.Uu hr (Zc (Zw (Ds T) T.RN hr (Zc (jv 0) Za)) Za)) (Mr (n:=3) (YZ (Yj 1 Wp.nd) (YZ (Yj 2 Wp.nd) (YZ (Yj 3 Wp.nd) Pn)))))
   (Ze (Zr [] (za (dvs:=[]) (dds:=[]) T.OI (PR T) (hr.mono (by decide)) (by rfl) T.xg T.Xx .nil (λ_=>rfl) Kz (Zc (jv 1) (Zc (jv 2) (Zc (jv 3) Za))))))),λxs q x h=>?_⟩)
 ·obtain⟨zs,ls,rfl,hz,hf,hfl,hL,hm⟩:=h
  have hsz:az=16777216:=rfl
  walk_at "rd"
  obtain⟨w',ws,ej,hl,hf,hfl⟩:∃ w ws,Txt.join "\n" zs=Txt.join "\n" (w::ws)/\(w::ws).length<=20/\(∀ z∈w::ws,10∉z.cps.toList/\z.length<=30000)/\(w::ws).filter nb=ls.map (·.1):=by
   cases zs with
   | nil=>exact⟨"",[],by decide +kernel,by decide,by decide +kernel,by rw[<-hfl];decide +kernel⟩
   | cons w ws=>exact⟨w,ws,rfl,hz,hf,hfl⟩
  rw[ej]
  have eg:(Txt.join (aG "\n") (w'::ws)).cps.toList=glC 10 w'.cps.toList (ws.map λq=>q.cps.toList):=by rw[mE,rP]
  have jl:(Txt.join (aG "\n") (w'::ws)).length<=1000000:=by
   have:=zU 10 (ws.map λq=>q.cps.toList) w'.cps.toList (λl hl'=>by
    obtain⟨q,hq',rfl⟩:=mem_map.mp hl'
    rw[<-Zy]
    exact(hf q (mem_cons_of_mem _ hq')).2)
   rw[<-eg,<-Zy,<-Zy,length_map]at this
   have h2:=(hf w' (mem_cons_self ..)).2
   rw[length_cons]at hl
   omega
  refine⟨_,w',ws,rfl,jl,by omega,λz hz'=>⟨(hf z hz').1,by have:=(hf z hz').2;omega⟩,eg,?_⟩
  have l1:ls.length<=20:=by
   have h1:=congrArg length hfl
   have h2:=length_filter_le nb (w'::ws)
   rw[length_map]at h1
   omega
  rw[hfl,map_map]
  refine⟨ls,rfl,by omega,λp hp=>(hL p hp).ln.1,λa b l sc st ds e h1 h2 h3=>?_,λhn=>?_⟩
  ·walk_at "rd"
   rcases hm with⟨sc',st',rs,⟨a',b',l',e',e1,e2,e3⟩,hR,hm⟩|⟨hn,_⟩
   ·rw[e]at e'
    cases e'
    have e4:=BQ (f:=λp:Str×List Str=>Oh A p.2) (l:=l) (ds:=rs.map (Ru.d A)) (by rw[e3,map_map];rfl)
    rw[h1]at e1
    rw[h2]at e2
    rw[h3]at e4
    cases e1
    cases e2
    cases e4
    exact⟨sc,st,rs,rfl,hR,hm⟩
   ·rcases hn a b l e with h|h|⟨p,hp,h⟩
    ·rw[h1]at h;cases h
    ·rw[h2]at h;cases h
    ·rw[qf ⟨p,hp,by unfold Oh;rw[h];rfl⟩]at h3
     cases h3
  ·rcases hm with⟨sc,st,rs,⟨a,b,l,e,e1,e2,e3⟩,_⟩|h
   ·exact absurd (hn a b l sc st _ e e1 e2 (BQ (by rw[e3,map_map];rfl))) id
   ·exact h.2
noncomputable def xF(hs:List (Str×List Str)):Prop:=(∀ p∈hs,Li p)/\hs.length<=3/\∀ vs:List (Str×List Str),(∀ p∈vs,3<=p.2.length)->NoG (hs++vs)
theorem OS{a:Str×List Str}{hs:List (Str×List Str)}(h:∀ p∈a::hs,Li p)(hl:hs.length<=2)(hn:Tr "scale" YQ a.2=none):xF (a::hs):=⟨h,by simp;omega,λvs _ a' b l e=>by
 rw[cons_append]at e
 rw[<-(List.cons.inj e).1]
 exact .inl hn⟩
theorem MZ{a b:Str×List Str}{hs:List (Str×List Str)}(h:∀ p∈a::b::hs,Li p)(hl:hs.length<=1)(hn:Tr "start" YS b.2=none):xF (a::b::hs):=⟨h,by simp;omega,λvs _ a' b' l e=>by
 rw[cons_append,cons_append]at e
 rw[<-(List.cons.inj (List.cons.inj e).2).1]
 exact .inr (.inl hn)⟩
theorem zV{nm:Str}{ok:Str->Bool}:∀ {ws:List Str},3<=ws.length->Tr nm ok ws=none
 | [],h=>by simp at h
 | [_],h=>by simp at h
 | [_,_],h=>by simp at h
 | _::_::_::_,_=>rfl
noncomputable def zW(S B:Str)(sc st:Str):List (List (Str×List Str)):=[[(B,["start",st]),(S,["scale",sc])],[(S,["scale",sc])],[],[("scale",["scale"]),(B,["start",st])],[(S,["scale",sc]),("start",["start"])],[("scale Cost",["scale", "Cost"]),(B,["start",st])],[(S++aG " x",["scale",sc, "x"]),(B,["start",st])],
 [(aG " " ++ S,["", "scale",sc]),(B,["start",st])],[("Scale cost",["Scale", "cost"]),(B,["start",st])],[(S,["scale",sc]),(aG "start " ++ Txt.lower st,["start",Txt.lower st])],[(S,["scale",sc]),(B++aG " A",["start",st, "A"])],[(S,["scale",sc]),(aG "start  " ++ st,["start", "",st])],
 [("scale co-st",["scale", "co-st"]),(B,["start",st])],[(S,["scale",sc]),(B++aG " ",["start",st, ""])],[(S,["scale",sc]),(S,["scale",sc]),(B,["start",st])]]
theorem zX:(aG "start ").cps.toList=(aG "start").cps.toList++[32]:=by decide +kernel
theorem nP:(aG "scale ").cps.toList=(aG "scale").cps.toList++[32]:=by decide +kernel
theorem hds{sc st:Str}(h1:YQ sc=true)(h2:YS st=true):(Li (aG "scale " ++ sc,["scale",sc])/\Li (aG "start " ++ st,["start",st]))/\∀ hs∈zW (aG "scale " ++ sc) (aG "start " ++ st) sc st,xF hs:=by
 have k1:=SL (Vi h1)
 have k2:=SL (Sf h2)
 have nl:=(Fv h2).low
 have k3:=SL (Vi nl.1)
 have q:wk "scale" = true/\wk "start" = true/\wk "" = true/\wk "x" = true/\wk "A" = true:=by decide +kernel
 obtain⟨q1,q2,q3,q4,q5⟩:=q
 have eS:(aG "scale " ++ sc).cps.toList=(aG "scale").cps.toList++bF [sc]:=by simp[Wz,nP,ZG,YT]
 have eB:(aG "start " ++ st).cps.toList=(aG "start").cps.toList++bF [st]:=by simp[Wz,zX,ZG,YT]
 have LS:Li (aG "scale " ++ sc,["scale",sc]):=Ts "scale" [sc] eS (by simp[q1,k1]) (by simp) rfl
 have LB:Li (aG "start " ++ st,["start",st]):=Ts "start" [st] eB (by simp[q2,k2]) (by simp) rfl
 refine⟨⟨LS,LB⟩,?_⟩
 generalize aG "scale " ++ sc=S at eS LS⊢
 generalize aG "start " ++ st=B at eB LB⊢
 have two:∀ {a b:Str×List Str},Li a->Li b->∀ p∈[a,b],Li p:=λha hb p hp=>by
  rcases mem_cons.mp hp with rfl|hp
  ·exact ha
  ·rw[mem_singleton.mp hp];exact hb
 have n1:Tr "scale" YQ ["start",st]=none:=NY λb e=>absurd (List.cons.inj e).1 (by decide +kernel)
 have n2:Tr "start" YS ["scale",sc]=none:=NY λb e=>absurd (List.cons.inj e).1 (by decide +kernel)
 unfold zW
 simp only[List.forall_mem_cons]
 refine⟨OS (two LB LS) (by simp) n1,⟨λp hp=>by rw[mem_singleton.mp hp];exact LS,by simp,λvs hv a b l e => .inr (.inl (zV (hv b ?_)))⟩,⟨λp hp=>(nomatch hp),by decide,λvs hv a b l e => .inl (zV (hv a ?_))⟩,OS (two ?_ LB) (by simp) rfl,MZ (two LS ?_) (by simp) rfl,OS (two ?_ LB) (by simp) (by decide +kernel),OS (two ?_ LB) (by simp) rfl,OS (two ?_ LB) (by simp) rfl,OS (two ?_ LB) (by simp) (by decide +kernel),
  MZ (two LS ?_) (by simp) (NY λb z=>?_),MZ (two LS ?_) (by simp) rfl,MZ (two LS ?_) (by simp) rfl,OS (two ?_ LB) (by simp) (by decide +kernel),MZ (two LS ?_) (by simp) rfl,MZ (λp hp=>?_) (by simp) n2,λz hz=>nomatch hz⟩
 ·rw[show vs=b::l from(List.cons.inj e).2];simp
 ·rw[show vs=a::b::l from e];simp
 ·exact Ts "scale" [] (by decide +kernel) (by decide +kernel) (by decide) (by decide +kernel)
 ·exact Ts "start" [] (by decide +kernel) (by decide +kernel) (by decide) (by decide +kernel)
 ·exact Ts "scale" ["Cost"] (by decide +kernel) (by decide +kernel) (by decide) (by decide +kernel)
 ·exact Ts "scale" [sc, "x"] (by rw[Wz,eS];simp[ZG,YT];rfl) (by simp[q1,k1,q4]) (by simp) rfl
 ·exact Ts "" ["scale",sc] (by rw[Wz,eS];simp[ZG,YT];rfl) (by simp[q1,k1,q3]) (by simp) rfl
 ·exact Ts "Scale" ["cost"] (by decide +kernel) (by decide +kernel) (by decide) (by decide +kernel)
 ·exact Ts "start" [Txt.lower st] (by simp[Wz,zX,ZG,YT]) (by simp[q2,k3]) (by simp) rfl
 ·rw[<-(List.cons.inj (List.cons.inj z).2).1];exact HG nl.1
 ·exact Ts "start" [st, "A"] (by rw[Wz,eB];simp[ZG,YT];rfl) (by simp[q2,k2,q5]) (by simp) rfl
 ·exact Ts "start" ["",st] (by rw[Wz];simp[ZG,YT];rfl) (by simp[q2,k2,q3]) (by simp) rfl
 ·exact Ts "scale" ["co-st"] (by decide +kernel) (by decide +kernel) (by decide) (by decide +kernel)
 ·exact Ts "start" [st, ""] (by rw[Wz,eB];simp[ZG,YT];rfl) (by simp[q2,k2,q3]) (by simp) rfl
 ·rcases mem_cons.mp hp with rfl|hp
  ·exact LS
  ·exact two LS LB p hp
noncomputable def JV:DSp:=λxs q _=>∃ (sc st:Str) (n:Int),xs=[.str sc,.str st,.int n]/\YQ sc=true/\YS st=true/\∀ hs,xF hs->q (.lst (hs.map λp => .str p.1))
theorem Ka{A:Adr}(T:Txt K mg A):ZL P w K mg base (CXE P w) 1 A.Vb A.Td WW (spD K JV):=by
 haveI:TxC K A:=⟨⟨_,T⟩⟩
 refine T.Vg.F.okJ YW (by walk_at "ln") (λcdv Ar outer s H E hr=>⟨_,(Zb (ZI 3 YW.nd (ZH (Zc (Zh Zi Zg (jv 0)) (Zc (Zh Zi Zg (jv 1)) Za))))
   (Zb (Vt (i:=4) YW.nd rfl (Or.inl rfl) (Sn (Zc (ZH (Zc (Zh Zi Zg (jv 1)) (Zc (Zh Zi Zg (jv 0)) Za))) (Zc (ZH (Zc (Zh Zi Zg (jv 0)) Za)) (Zc (ZH Za) (Zc (ZH (Zc Zg (Zc (Zj (jv 3) Zd) Za))) (Zc (ZH (Zc (Zj (jv 3) Zd) (Zc Zg Za))) Za)))))))
   (Zb (Wn [] (i:=4) YW.nd rfl (Or.inl rfl) (ZH (Zc (ZH (Zc Zg (Zc (Zj (jv 3) Zd) Za))) (Zc (ZH (Zc (Zh Zi (Zj (jv 3) Zd) Zg) (Zc (Zj (jv 3) Zd) Za))) (Zc (ZH (Zc (Zh Zi Zg (Zj (jv 3) Zd)) (Zc (Zj (jv 3) Zd) Za))) (Zc (ZH (Zc Zg (Zc (Zj (jv 3) Zd) Za))) Za))))))
   (Zb (Wn [] (i:=4) YW.nd rfl (Or.inl rfl) (ZH (Zc (ZH (Zc (Zj (jv 3) Zd) (Zc (Zh Zi Zg (uo PySem.F.plainAttrs_str PySem.F.slot_str_lower PySem.F.type_str_lower Es (jv 1))) Za))) (Zc (ZH (Zc (Zj (jv 3) Zd) (Zc (Zh Zi (Zj (jv 3) Zd) Zg) Za))) (Zc (ZH (Zc (Zj (jv 3) Zd) (Zc (Zh Zi Zg (jv 1)) Za))) Za)))))
   (Zb (Wn [] (i:=4) YW.nd rfl (Or.inl rfl) (ZH (Zc (ZH (Zc Zg (Zc (Zj (jv 3) Zd) Za))) (Zc (ZH (Zc (Zj (jv 3) Zd) (Zc (Zh Zi (Zj (jv 3) Zd) Zg) Za))) (Zc (ZH (Zc (Zj (jv 3) Zd) (Zc (Zj (jv 3) Zd) (Zc (Zj (jv 3) Zd) Za)))) Za)))))
   (Ze (Zr [4] (Zj (jv 4) (Zh Zu (jv 2) Zd))))))))),λxs q x h=>?_⟩)
 ·obtain⟨sc,st,n,rfl,h1,h2,hq⟩:=h
  have hsz:az=16777216:=rfl
  walk_at "rd"
  obtain⟨⟨LS,LB⟩,bh⟩:=hds h1 h2
  have l1:=Yw (Vi h1)
  have l2:=Yw (Sf h2)
  have l3:=(Fv h2).low.2
  have k6:(aG "scale ").length=6/\(aG "start ").length=6/\(aG "start  ").length=7/\(aG " ").length=1/\(aG " x").length=2/\(aG " A").length=2:=by decide +kernel
  have zS:(aG "scale " ++ sc).length<=100:=by rw[Ys];omega
  have zB:(aG "start " ++ st).length<=100:=by rw[Ys];omega
  refine⟨by omega,by omega,?_⟩
  generalize aG "scale " ++ sc=S at bh zS⊢
  generalize aG "start " ++ st=B at bh zB⊢
  repeat (first | refine And.intro (by first | decide | omega) ?_ | refine⟨_,YY (j:=0) rfl,?_⟩ | refine⟨_,YY (j:=1) rfl,?_⟩ | walk_at "rd")
  obtain⟨hs,hz,e⟩:=Fx (λhs:List (Str×List Str)=>D.lst (hs.map λp => .str p.1)) (zW S B sc st) n (by unfold zW;simp)
  exact⟨_,e,hq hs (bh hs hz)⟩
noncomputable def Tt(r:Ru):Str×List Str:=(Txt.join " " ("rule" :: rwd r (frB r 1)), "rule" :: rwd r (frB r 1))
theorem Dv(r:Ru):(Tt r).1.cps.toList=(aG "rule").cps.toList++bF (rwd r (frB r 1)):=by
 unfold Tt
 rw[zN,rP,HM]
theorem Dw{r:Ru}(R:Dt r)(A:Adr):Li (Tt r)/\Oh A (Tt r).2=some (r.d A)/\3<=(Tt r).2.length:=by
 obtain⟨o1,o2,o3,o4,o5⟩:=okR R.ok
 obtain⟨p1,p2,o6⟩:=okP o3
 obtain⟨t1,t2⟩:=wk_T R
 have k3:r.ps.all wk=true:=all_eq_true.mpr λq hq=>SL (o6 q hq)
 have q:wk "rule" = true/\wk "->" = true/\wk ":" = true:=by decide +kernel
 have cn:∀ z,isNm z=true->¬ aG ":" = z:=λz h=>rQ h rR
 have hc:aG ":" ∉ r.ti::r.hd::r.ps:=by simp only[mem_cons,not_or];exact⟨cn _ (Vi o1),cn _ (Sf o2),λh=>cn _ (o6 _ h) rfl⟩
 refine⟨Ts _ _ (Dv r) ?_ ?_ rfl,?_,?_⟩
 ·rw[JQ]
  simp only[all_cons,all_append,q.1,q.2.1,q.2.2,SL (Vi o1),SL (Sf o2),k3,qe R,<-all_append (xs:=RY r.tg),t1]
  rfl
 ·rw[JQ]
  simp at t2⊢
  omega
 ·obtain⟨t,b,a1,a2,a3,a4,a5⟩:=rZ R (n:=1) (by decide) (by decide)
  unfold Oh Tt
  rw[JQ,zQ hc,a1,nN o4]
  show Option.map _ (if Yc r.ti r.hd r.ps r.tg r.t=true then _ else none)=_
  rw[R.ok,if_pos rfl]
  show some (D.obj A.C_Rule (HD r.ti r.hd r.ps (wD (lowP t b) (IJ t b)) r.tg r.t))=_
  rw[a4,a5]
  rfl
 ·unfold Tt
  rw[JQ]
  simp
noncomputable def Fin(A:Adr)(W z st:Str)(rs:List Ru)(W':Str)(hs vs:List (Str×List Str)):Prop:=(∀ p∈hs++vs,Li p)/\vs.length=rs.length/\hs.length<=3/\((W'=W/\Reads A (hs++vs) z st rs)\/(W' = "NoLine" /\ NoG (hs++vs)))
noncomputable def sT8(ns:List Int)(m:Int)(z:Str)(kinds:List Str)(rs:List Ru)(st W':Str)(hs:List (Str×List Str))(zs:List D)(mo:Int)(s10 s11 s12 s13:L2.Slot):DSt:=[.v (.scr (ns.map .int)),.v (.int m),.v (.str z),.v (.tup [.lst (kinds.map .str),.lst (rs.map Ru.row)]),.v (.lst (rs.map Ru.row)),.v (.str st),.v (.str W'),.v (.lst (hs.map λp => .str p.1)),.own zs,.v (.int mo),s10,s11,s12,s13,.un]
theorem jV{n:Nat}{k:Int}(h0:0<=k)(h:k<n):ixN n k=some k.toNat:=by
 unfold ixN
 rw[if_pos h0,if_pos h]
theorem nQ{f:Str->Bool}{d:Str}(hd:f d=false)(xs:List Str)(k:Nat):(UN xs k d).filter f=xs.filter f/\(UN xs k d).length=xs.length+1/\∀ y∈UN xs k d,y=d\/y∈xs:=by
 have e:=List.take_append_drop k xs
 unfold UN
 refine⟨?_,?_,λy hy=>?_⟩
 ·conv=>rhs;rw[<-e]
  rw[List.filter_append,List.filter_append,List.filter_cons_of_neg (by rw[hd];decide)]
 ·have:=congrArg length e
  rw[length_append]at this⊢
  rw[length_cons]
  omega
 ·rcases mem_append.mp hy with h|h
  ·exact .inr (mem_of_mem_take h)
  ·exact(mem_cons.mp h).imp id mem_of_mem_drop
def rd8:String:=rd7 ++ " mi dIns"
local macro_rules | `(tactic| walk_at "rd") => rdM rd8
theorem jW{A:Adr}(T:Txt K mg A):ZL P w K mg base (CXE P w) 10 A.f_law A.d_law sM (spD K gLaw):=by
 haveI:TxC K A:=⟨⟨_,T⟩⟩
 refine T.L_law.F.okJ Xm (by walk_at "ln") (λcdv Ar outer s H E hr=>⟨_,(Zb (ZI 1 Xm.nd (Zw (VM T) T.L_l_mix hr (Zc (Zw (NQ T) T.L_l_at hr (Zc (jv 0) (Zc Zd Za))) (Zc Zd Za))))
   (Zb (ZI 2 Xm.nd (Zj (Yz (Zc Zg (Zc Zg Za))) (Zh Zu (jv 1) Zd)))
   (Zb (ZI 3 Xm.nd (Zw (Jy T) T.VC hr (Zc (jv 0) (Zc (Zh Zu (Zh Zz (jv 1) Zd) Zd) (Zc (jv 2) Za)))))
   (Zb (ZI 4 Xm.nd (Zj (jv 3) Zd))
   (Zb (ZI 5 Xm.nd (Zj (Zj (jv 3) Zd) (Zj (Yz (Zc Zd (Zc Zd Za))) (UK Np (by rfl) T.b_int PyProof.Rows.boot_int (Zc (Xs (Yk hr.Yd) (Zh Zu (Zh Zz (jv 1) Zd) Zd) Zd (Zk _)) Za)))))
   (Zb (Xl (ZC [] (Zm (Yk hr.Yd) (Zh Zu (Zh Zz (jv 1) Zd) Zd) Zd (Zk _)) (Ze (ZI 2 Xm.nd (Zj (Yz (Zc Zg (Zc Zg (Zc Zg (Zc Zg Za))))) (Zh Zu (Zh Zz (jv 1) Zd) Zd)))) Zo))
   (Zb (ZI 6 Xm.nd (Zw (rL T) T.L_l_due hr (Zc (jv 2) (Zc (jv 5) (Zc (jv 4) Za)))))
   (Zb (ZI 7 Xm.nd (ZH (Zc (Zh Zi Zg (jv 2)) (Zc (Zh Zi Zg (jv 5)) Za))))
   (Zb (uB (i:=8) [] ["_law_row"] [] [] Xm.nd rfl (Or.inl rfl) (ZZ (jv 4)) (λ_=>(Yj 0 (nDk ["_law_row"] []))) (λ_=>ZW) (λ_=>(Zw (HN T) T.QP hr (Zc (jv 0) (Zc Zd Za)))))
   (Zb (ZI 9 Xm.nd (Zw (VM T) T.L_l_mix hr (Zc (Zw (NQ T) T.L_l_at hr (Zc (jv 0) (Zc Zd Za))) (Zc Zd Za))))
   (Zb (Xl (ZC [] (Zm (Yk hr.Yd) (Zh Zu (jv 9) Zd) Zd (Zk _)) (Zb (ZI 7 Xm.nd (Zw (Ka T) T.Vg hr (Zc (jv 2) (Zc (jv 5) (Zc (Zh Zz (jv 9) Zd) Za)))))
   (Ze (ZI 6 Xm.nd Zg))) Zo))
   (Zb (Xl (UL PassesOwn.leaving (Xo (by rfl) T.b_range (Zc (Zj (Yz (Zc Zd (Zc Zd (Zc Zd Za)))) (Zh Zu (jv 9) Zd)) Za)) (Yj 10 Xm.nd) (Ze (ZC [8] (Zm (XO hr.Yd) (jv 8) (ZH Za) (Zk _)) (Zb (ZI 11 Xm.nd (Zh Zu (Zh Zz (jv 9) (Zh Zi Zd (Zh VN Zd (jv 10)))) (Yl ZY (by rfl) T.b_len PySem.boot_len (Zc (jv 4) Za))))
   (Zb (pA [] 8 (jv 11) (Zw (IW T) T.Uy hr (Zc (Zj (jv 4) (jv 11)) (Zc (Zh Zz (jv 9) (Zh Zi Zd (Zh VN Zd (jv 10)))) Za))))
   (Ze (ZI 6 Xm.nd Zg)))) Zo))))
   (Zb (Xl (ZC [] (Zm (Yk hr.Yd) (Zh Zu (Zh Zz (jv 9) Zd) Zd) Zd (Zk _)) (Ze (jt [8] 8 (Zc (Zh Zu (Zh Zz (jv 9) Zd) (Zh Zi (Yl ZY (by rfl) T.b_len PySem.boot_len (Zc (jv 8) Za)) Zd)) (Zc Zg Za)))) Zo))
   (Zb (ZI 12 Xm.nd Qb)
   (Zb (ZI 13 Xm.nd (ZH Za))
   (Zb (Xl (uJ (j:=14) rfl T.ER (by rfl) T.EL Xm.nd rfl (λ_ _=>(Ze (AW [8] (i:=12) Xm.nd rfl (Or.inl rfl) (Zw (LZ T) T.Ve hr (Zc (TC PySem.F.plainAttrs_str PySem.F.slot_str_join PySem.F.type_str_join Nm Zg (Zc (Zh Zi (jv 7) (jv 8)) Za)) Za))))) (λ_=>(Ze (ZI 13 Xm.nd (sx (BM T) (hr.mono (by decide)) (by rfl) T.UE.m T.UE.F.kp T.UE.a (Zc (jv 14) Za)))))))
   (Zb (ZC [] (Zm (XO hr.Yd) (jv 6) Zg (Zk _)) (Ze (Zr [] (Xs (Yk hr.Yd) (jv 13) (Zw (IV T) T.Ux hr (Zc (jv 6) Za)) (Zk _)))) Zo)
   (Ze (Zr [] (SR (Xs Nk (jv 12) Qb (Zk _)) (UI (Zw (xC T) T.NP hr (Zc (jv 12) (Zc (jv 2) (Zc (jv 5) (Zc (jv 4) Za)))))))))))))))))))))))))),λxs q x h=>?_⟩)
 ·obtain⟨ns,rfl,hl,hq⟩:=h
  have hsz:az=16777216:=rfl
  walk_at "rd"
  refine⟨_,_,rfl,by decide,_,_,rfl,by decide,by decide,?_⟩
  have m1:=Th (atZ ns 0) 6
  generalize mix (atZ ns 0) 6=m at m1⊢
  walk_at "rd"
  obtain⟨sc,hsc,ecs⟩:∃ sc:Str,YQ sc=true/\atI [D.str (aG "cost"),D.str (aG "chance")] (m%2)=some (.str sc):=by
   rcases (show m%2=0\/m%2=1 by omega) with e|e
   ·rw[e];exact⟨_,(by decide +kernel:YQ "cost" = true),rfl⟩
   ·rw[e];exact⟨_,(by decide +kernel:YQ "chance" = true),rfl⟩
  have s8:∀ {j:Int},0<j->j<1000000->Small j:=λ{j} h0 h1=>XW (by omega) (by omega)
  refine⟨by decide,by decide,_,ecs,by decide,s8 (by decide) (by decide),by decide,ns,_,sc,rfl,λkinds words titles rs hR hlen=>?_⟩
  generalize m/2%7=mode at hR⊢
  have hF:=hR.fine
  have RF:∀ r∈rs,Dt r:=λr hr=>have R:=hR.row r hr;⟨hF.ok r hr,hF.rus.2 r hr,R.wl,R.wa,R.wb,λus e=>(R.t1 us e).2.1⟩
  have l11:=hR.len
  obtain⟨K1,K2,K3⟩:=hR.k
  obtain⟨st,hst,ed⟩:∃ st:Str,YS st=true/\∃ d,atI [D.int 0,D.int 4] (if decide (m/14%9=0)=true then 1 else 0)=some d/\∀ q,q (.str st)->dIx (.lst (kinds.map .str)) d q:=by
   have ka:∀ j:Nat,j<5->∃ z:Str,YS z=true/\atI (kinds.map D.str) j=some (.str z):=λj hj=>⟨kinds[j]'(by omega),(K2 _ (getElem_mem _)).kd,YY (by rw[getElem?_map,aA (by omega)];rfl)⟩
   by_cases e:m/14%9=0
   ·obtain⟨z,h1,h2⟩:=ka 4 (by decide)
    rw[decide_eq_true e]
    exact⟨z,h1,_,rfl,λq hq=>⟨_,h2,hq⟩⟩
   ·obtain⟨z,h1,h2⟩:=ka 0 (by decide)
    rw[decide_eq_false e]
    exact⟨z,h1,_,rfl,λq hq=>⟨_,h2,hq⟩⟩
  clear hR
  obtain⟨dd,ed,hd⟩:=ed
  refine⟨_,rfl,?_⟩
  walk_at "rd"
  refine⟨_,rfl,by decide,by decide,s8 (by decide) (by decide),by decide,_,ed,hd _ ?_⟩
  refine⟨λds'=>∃ z:Str,YQ z=true/\ds'=[.v (.scr (ns.map .int)),.v (.int m),.v (.str z),.v (.tup [.lst (kinds.map .str),.lst (rs.map Ru.row)]),.v (.lst (rs.map Ru.row)),.v (.str st),.un,.un,.un,.un,.un,.un,.un,.un,.un],?_,?_⟩
  ·walk_at "rd"
   refine⟨by decide,s8 (by decide) (by decide),by decide,YG (λ_=>⟨by decide,by decide,s8 (by decide) (by decide),by decide,?_⟩) (λ_=>⟨_,hsc,rfl⟩)⟩
   obtain⟨z,hz,e⟩:=Fx D.str ["costs", "chanc", "c", "0"] (m/1134) (by decide)
   have:∀ z∈[aG "costs", "chanc", "c", "0"],YQ z=true:=by decide +kernel
   exact⟨_,e,z,this z hz,rfl⟩
  rintro _ ⟨z,hz,rfl⟩
  walk_at "rd"
  refine⟨z,st,rs,rfl,hF.rus,hF.fair,?_⟩
  walk_at "rd"
  have k6:(aG "scale ").length=6/\(aG "start ").length=6:=by decide +kernel
  have lz:=Yw (Vi hz)
  have ls:=Yw (Sf hst)
  refine⟨by omega,by omega,by decide,Yu (λr => .str (Tt r).1) (by omega) (λr hr N hN=>?_) ?_⟩
  ·have R:=RF r hr
   refine⟨r,1,rfl,R.ok,R.fit,by decide,by decide,R.wa,R.wb,λy e=>?_⟩
   rw[show y=(Tt r).1 from Fq (by rw[e,Dv,HM])]
   exact hN
  refine⟨_,_,rfl,by decide,_,_,rfl,by decide,by decide,?_⟩
  have m5:=Th (atZ ns 0) 5
  generalize mix (atZ ns 0) 5=mo at m5⊢
  obtain⟨⟨LS,LB⟩,bh⟩:=hds hz hst
  generalize eW:Sz z st rs=W
  obtain⟨M,hM,hM'⟩:∃ M:DSt->Prop,(∀ (W':Str) (hs:List (Str×List Str)),((W'=W/\hs=[(aG "scale " ++ z,[aG "scale",z]),(aG "start " ++ st,[aG "start",st])])\/(W' = "NoLine" /\ xF hs/\mo%3=0))->M (sT8 ns m z kinds rs st W' hs (rs.map λr => .str (Tt r).1) mo .un .un .un .un)) /\
    ∀ ds',M ds'->∃ (W':Str) (hs:List (Str×List Str)),((W'=W/\hs=[(aG "scale " ++ z,[aG "scale",z]),(aG "start " ++ st,[aG "start",st])])\/(W' = "NoLine" /\ xF hs/\mo%3=0))/\ds'=sT8 ns m z kinds rs st W' hs (rs.map λr => .str (Tt r).1) mo .un .un .un .un :=
   ⟨_,λW' hs h=>⟨W',hs,h,rfl⟩,λ_ h=>h⟩
  refine⟨M,?_,λds' h=>?_⟩
  ·walk_at "rd"
   refine⟨by decide,YG (λe=>⟨by decide,s8 (by decide) (by decide),z,st,_,rfl,hz,hst,λhs hh=>?_⟩) (λ_=>hM W _ (.inl ⟨rfl,rfl⟩))⟩
   walk_at "rd"
   exact hM _ hs (.inr ⟨rfl,hh,by omega⟩)
  obtain⟨W',hs,hw,rfl⟩:=hM' _ h
  clear hM hM' h M
  have F0:Fin A W z st rs W' hs (rs.map Tt):=by
   have lv:∀ p∈rs.map Tt,Li p/\3<=p.2.length:=λp hp=>by
    obtain⟨r,hr,rfl⟩:=mem_map.mp hp
    have h:=Dw (RF r hr) A
    exact⟨h.1,h.2.2⟩
   rcases hw with⟨rfl,rfl⟩|⟨rfl,hb,_⟩
   ·refine⟨λp hp=>?_,length_map ..,by simp,.inl ⟨rfl,_,_,_,rfl,Kr hz,Kr hst,?_⟩⟩
    ·rcases mem_cons.mp hp with rfl|hp
     ·exact LS
     ·rcases mem_cons.mp hp with rfl|hp
      ·exact LB
      ·exact(lv p hp).1
    ·show(rs.map Tt).map _=_
     rw[map_map]
     exact List.map_congr_left λr hr=>(Dw (RF r hr) A).2.1
   ·refine⟨λp hp=>?_,length_map ..,hb.2.1,.inr ⟨rfl,hb.2.2 _ λp hp=>(lv p hp).2⟩⟩
    rcases mem_append.mp hp with hp|hp
    ·exact hb.1 p hp
    ·exact(lv p hp).1
  obtain⟨M,hM,hM'⟩:∃ M:DSt->Prop,(∀ W' vs s10 s11,Fin A W z st rs W' hs vs->M (sT8 ns m z kinds rs st W' hs (vs.map λp => .str p.1) mo s10 s11 .un .un)) /\
    ∀ ds',M ds'->∃ W' vs s10 s11,Fin A W z st rs W' hs vs/\ds'=sT8 ns m z kinds rs st W' hs (vs.map λp => .str p.1) mo s10 s11 .un .un:=⟨_,λW' vs s10 s11 h=>⟨W',vs,s10,s11,h,rfl⟩,λ_ h=>h⟩
  refine⟨M,?_,λds' h=>?_⟩
  ·obtain⟨nn,hn,en⟩:∃ nn:Nat,mo%3=nn/\atI [D.int 0,D.int 1,D.int 2] (mo%3)=some (.int nn):=by
    rcases (show mo%3=0\/mo%3=1\/mo%3=2 by omega) with e|e|e
    ·rw[e];exact⟨0,rfl,rfl⟩
    ·rw[e];exact⟨1,rfl,rfl⟩
    ·rw[e];exact⟨2,rfl,rfl⟩
   have h0:M (sT8 ns m z kinds rs st W' hs (rs.map λr => .str (Tt r).1) mo .un .un .un .un):=by
    have:=hM W' _ .un .un F0
    rw[map_map]at this
    exact this
   unfold sT8 at h0⊢
   refine⟨[],?_⟩
   walk_at "rd"
   refine⟨by decide,by decide,_,en,nn,rfl,by omega,by omega,SZ (n:=nn) (λ_=>M) h0 (λi ds N hi h hn'=>?_) (λ_ h=>h)⟩
   obtain⟨W2,vs,s10,s11,F,rfl⟩:=hM' _ h
   unfold sT8
   walk_at "rd"
   rw[HE,De]
   refine⟨by decide,rfl,QU (λe=>?_) (λe=>hn' _ (hM W2 vs _ _ F))⟩
   have vl:=F.2.1
   have lr:0<rs.length:=by
    rw[<-vl]
    cases vs with
    | nil=>cases e
    | cons a l=>simp
   have em:∀ a:Int,Ni a (rs.length:Int)=a%(rs.length:Int):=λa=>by rw[Pm,Int.fmod_eq_emod_of_nonneg a (by omega)]
   obtain⟨j,hj,ej⟩:∃ j:Nat,j<rs.length/\Ni (Nh mo (3+7*(0+(i:Int)))) (rs.length:Int)=j:=by
    rw[em]
    have h1:=Int.emod_nonneg (Nh mo (3+7*(0+(i:Int)))) (b:=(rs.length:Int)) (by omega)
    have h2:=Int.emod_lt_of_pos (Nh mo (3+7*(0+(i:Int)))) (b:=(rs.length:Int)) (by omega)
    exact⟨_,by omega,(Int.toNat_of_nonneg h1).symm⟩
   rw[ej]
   have i2:i<2:=by omega
   refine⟨.r (by omega) (by omega),by omega,s8 (by omega) (by omega),by omega,_,YY (by rw[getElem?_map,aA hj];rfl),.r (by omega) (by omega),by omega,s8 (by omega) (by omega),_,_,rfl,RF _ (getElem_mem hj),λy hy=>⟨j,by rw[jV (by omega) (by omega)];rfl,?_⟩⟩
   obtain⟨ws,hl,hr⟩:=hy
   rcases hw with⟨_,rfl⟩|⟨_,_,h3⟩
   ·have:=hM "NoLine" (vs.set j (y,ws)) (.v (.int (0+(i:Int)))) (.v (.int j)) ⟨λp hp=>?_,by rw[length_set];exact vl,F.2.2.1,.inr ⟨rfl,λa b l e=>?_⟩⟩
    ·rw[List.map_set]at this
     exact hn' _ this
    ·rcases mem_append.mp hp with hp|hp
     ·exact F.1 p (mem_append_left _ hp)
     ·rcases List.mem_or_eq_of_mem_set hp with hp|rfl
      ·exact F.1 p (mem_append_right _ hp)
      ·exact hl
    ·have e':=(List.cons.inj (List.cons.inj e).2).2
     exact .inr (.inr ⟨(y,ws),by rw[<-e'];exact List.mem_set (by omega) _,hr⟩)
   ·omega
  obtain⟨W',vs,s10,s11,hf,rfl⟩:=hM' _ h
  clear hM hM' h M F0
  unfold sT8
  walk_at "rd"
  have fl:∀ p∈vs,10∉p.1.cps.toList/\p.1.length<=30000/\nb p.1=true:=λp hp=>(hf.1 p (mem_append_right _ hp)).ln.2
  have vl:=hf.2.1
  obtain⟨M,hM,hM'⟩:∃ M:DSt->Prop,(∀ zs:List Str,zs.length<=12->zs.filter nb=vs.map (·.1)->(∀ z∈zs,10∉z.cps.toList/\z.length<=30000)->M (sT8 ns m z kinds rs st W' hs (zs.map .str) mo s10 s11 .un .un)) /\
    ∀ ds',M ds'->∃ zs:List Str,(zs.length<=12/\zs.filter nb=vs.map (·.1)/\∀ z∈zs,10∉z.cps.toList/\z.length<=30000)/\ds'=sT8 ns m z kinds rs st W' hs (zs.map .str) mo s10 s11 .un .un:=⟨_,λzs h1 h2 h3=>⟨zs,⟨h1,h2,h3⟩,rfl⟩,λ_ h=>h⟩
  refine⟨M,?_,λds' h=>?_⟩
  ·have hv:(vs.map (·.1)).filter nb=vs.map (·.1):=filter_eq_self.mpr λy hy=>by
    obtain⟨p,hp,rfl⟩:=mem_map.mp hy
    exact(fl p hp).2.2
   have hv2:∀ y∈vs.map (·.1),10∉y.cps.toList/\y.length<=30000:=λy hy=>by
    obtain⟨p,hp,rfl⟩:=mem_map.mp hy
    exact⟨(fl p hp).1,(fl p hp).2.1⟩
   have b2:nb "  " = false/\10∉(aG "  ").cps.toList/\(aG "  ").length<=30000:=by decide +kernel
   unfold sT8 at hM
   walk_at "rd"
   refine⟨by decide,s8 (by decide) (by decide),by decide,YG (λ_=>?_) (λ_=>?_)⟩
   ·have em:Ni (mo/180) ((vs.length:Int)+1)=(mo/180)%((vs.length:Int)+1):=by rw[Pm,Int.fmod_eq_emod_of_nonneg _ (by omega)]
    have h1:=Int.emod_nonneg (mo/180) (b:=(vs.length:Int)+1) (by omega)
    have h2:=Int.emod_lt_of_pos (mo/180) (b:=(vs.length:Int)+1) (by omega)
    rw[em]
    refine⟨by decide,s8 (by decide) (by decide),by omega,by omega,h1,by omega,?_⟩
    obtain⟨i1,i2,i3⟩:=nQ b2.1 (vs.map (·.1)) (mo/180%((vs.length:Int)+1)).toNat
    have:=hM _ (by rw[i2,length_map];omega) (i1.trans hv) (λy hy=>(i3 y hy).elim (λe=>e ▸ b2.2) (hv2 y))
    unfold UN at this⊢
    simp only[map_append,map_take,map_cons,map_drop,map_map]at this
    exact this
   ·have:=hM _ (by rw[length_map];omega) hv hv2
    rw[map_map]at this
    exact this
  obtain⟨zs,⟨z1,z2,z3⟩,rfl⟩:=hM' _ h
  clear hM hM' h M
  unfold sT8
  walk_at "rd"
  have md:∀ {q:List (Str×D)->Prop}{x:Addr->Prop},(W = "" -> q (Jv A z st rs))->(∀ C,(C,W)∈six A->x C)->EX A z st rs q x:=λh0 h1=>made9 hF.kd (by rw[eW];exact h0) (by rw[eW];exact h1)
  have sne:=λC=>jQ (A:=A) (C:=C) (w:=W')
  have sub:∀ C w,(C,w)∈six A->subIn K (.ref C) (.ref A.YJ)=some true:=λC w h=>let ⟨_,_,_,e,_⟩:=rM T h;(T.gv C (mem_of_getElem? e)).2
  obtain⟨M,hM,hM'⟩:∃ M:DSt->Prop,(∀ mk mm s14,((W' = "" /\ mk=Gr A z st rs)\/(W' ≠ "" /\ mm = .lst ((mks W').map .bl)))->M ((sT8 ns m z kinds rs st W' hs (zs.map .str) mo s10 s11 (.v mk) (.v mm)).set 14 s14)) /\
    ∀ ds',M ds'->∃ mk mm s14,((W' = "" /\ mk=Gr A z st rs)\/(W' ≠ "" /\ mm = .lst ((mks W').map .bl)))/\ds'=(sT8 ns m z kinds rs st W' hs (zs.map .str) mo s10 s11 (.v mk) (.v mm)).set 14 s14:=⟨_,λmk mm s14 h=>⟨mk,mm,s14,h,rfl⟩,λ_ h=>h⟩
  refine⟨by decide,M,?_,λds' h=>?_⟩
  ·refine⟨λds' C=>ds'=sT8 ns m z kinds rs st W' hs (zs.map .str) mo s10 s11 (.v .non) (.v (.lst []))/\(C,W')∈six A,?_,?_⟩
   ·unfold sT8
    walk_at "rd"
    have hl:=hf.2.2.1
    have fh:∀ p∈hs,10∉p.1.cps.toList/\p.1.length<=30000/\nb p.1=true:=λp hp=>(hf.1 p (mem_append_left _ hp)).ln.2
    have al:∀ y∈hs.map (·.1)++zs,10∉y.cps.toList/\y.length<=30000:=λy hy=>by
     rcases mem_append.mp hy with hy|hy
     ·obtain⟨p,hp,rfl⟩:=mem_map.mp hy
      exact⟨(fh p hp).1,(fh p hp).2.1⟩
     ·exact z3 y hy
    have sm:=MY _ λy hy=>(al y hy).2
    have n1:(aG "\n").length=1:=by decide +kernel
    rw[length_append,length_map]at sm
    refine⟨by omega,?_⟩
    rw[show hs.map (λp=>D.str p.1)++zs.map D.str=(hs.map (·.1)++zs).map D.str by simp,Bb]
    refine⟨by rw[n1,length_append,length_map];omega,_,hs++vs,rfl,by rw[length_append,length_map];omega,al,?_,hf.1,?_⟩
    ·rw[List.filter_append,z2,map_append,filter_eq_self.mpr]
     intro y hy
     obtain⟨p,hp,rfl⟩:=mem_map.mp hy
     exact(fh p hp).2.2
    ·rcases hf.2.2.2 with⟨rfl,hR⟩|⟨rfl,hN⟩
     ·refine .inl ⟨z,st,rs,hR,hF.rus,md (λe=>?_) (λC h=>h)⟩
      dsimp only
      rw[if_pos (show(D.obj A.ZF (Jv A z st rs)).imm=true from jP A z st rs)]
      exact hM _ _ .un (.inl ⟨e,rfl⟩)
     ·exact .inr ⟨hN,by simp[six]⟩
   rintro _ C ⟨rfl,hC⟩
   refine⟨sub C W' hC,?_⟩
   unfold sT8
   walk_at "rd"
   exact⟨C,W',rfl,hC,hM .non _ _ (.inr ⟨sne C hC,rfl⟩)⟩
  obtain⟨mk,mm,s14,hw',rfl⟩:=hM' _ h
  unfold sT8
  walk_at "rd"
  refine QT (λe=>?_) (λe=>?_)
  ·rcases hw' with⟨e',_⟩|⟨_,rfl⟩
   ·exact absurd e' e
   refine⟨W',rfl,?_⟩
   walk_at "rd"
   rw[(BO 80 (mks W')).2]
   exact⟨(BO 80 (mks W')).1,hq⟩
  ·rcases hw' with⟨_,rfl⟩|⟨e',_⟩
   ·exact⟨z,st,rs,rfl,hF.rus.1,hq⟩
   ·exact absurd e e'
end
theorem all_mk{l:PySem.W.OpenLaw}(X:K.In h)(G:h.Ns mainGlobals mg)(hfa:mg "law" = some (.ref fa))
  (aC_Cost:PySem.W.nsIn K mainGlobals "Cost" = some (some (.ref C_Cost)))(pg_Cost:plainGet K C_Cost Str.empty=true)(hd_Cost:hasDictIn K C_Cost=true)(po_Cost:plainOver K C_Cost=true)(sa_Cost:findIn K (.ref C_Cost) "__setattr__" = some (some (.builtin "object.__setattr__")))(mk_Cost:makesIn K C_Cost=true)(in_Cost:findIn K (.ref C_Cost) "__init__" = some (some (.builtin "object.__init__")))(kc_Cost:keepIn K (.ref C_Cost)=true)
  (xG:PySem.W.nsIn K mainGlobals "Chance" = some (some (.ref YF)))(xH:plainGet K YF Str.empty=true)(xI:hasDictIn K YF=true)(xJ:plainOver K YF=true)(xK:findIn K (.ref YF) "__setattr__" = some (some (.builtin "object.__setattr__")))(MK:makesIn K YF=true)(xM:findIn K (.ref YF) "__init__" = some (some (.builtin "object.__init__")))(xN:keepIn K (.ref YF)=true)
  (aC_Rule:PySem.W.nsIn K mainGlobals "Rule" = some (some (.ref C_Rule)))(pg_Rule:plainGet K C_Rule Str.empty=true)(hd_Rule:hasDictIn K C_Rule=true)(po_Rule:plainOver K C_Rule=true)(sa_Rule:findIn K (.ref C_Rule) "__setattr__" = some (some (.builtin "object.__setattr__")))(mk_Rule:makesIn K C_Rule=true)(kc_Rule:keepIn K (.ref C_Rule)=true)(IX:findIn K (.ref C_Rule) "title" = some none)(Fz:findIn K (.ref C_Rule) "head" = some none)(IY:findIn K (.ref C_Rule) "parts" = some none)(JX:findIn K (.ref C_Rule) "weight" = some none)(Dx:findIn K (.ref C_Rule) "tag" = some none)(IZ:findIn K (.ref C_Rule) "under" = some none)
  (BR:PySem.W.nsIn K mainGlobals "Grammar" = some (some (.ref ZF)))(BU:plainGet K ZF Str.empty=true)(BV:hasDictIn K ZF=true)(BW:plainOver K ZF=true)(BX:findIn K (.ref ZF) "__setattr__" = some (some (.builtin "object.__setattr__")))(OI:makesIn K ZF=true)(BZ:keepIn K (.ref ZF)=true)(La:findIn K (.ref ZF) "scale" = some none)(Lb:findIn K (.ref ZF) "start" = some none)(Lc:findIn K (.ref ZF) "rules" = some none)
  (FA:PySem.W.nsIn K mainGlobals "WoodError" = some (some (.ref YJ)))(FC:typeIn K (.ref YJ)=some (.type "type"))(FD:isClsIn K YJ=true)(FE:subIn K (.ref YJ) (.type "BaseException")=some true)
  (aC_NoNet:PySem.W.nsIn K mainGlobals "NoNet" = some (some (.ref C_NoNet)))
  (xO:PySem.W.nsIn K mainGlobals "NoTree" = some (some (.ref VH)))
  (Aa:PySem.W.nsIn K mainGlobals "TooMany" = some (some (.ref WG)))
  (xP:ExK K "NoLine" ZE)
  (xQ:ExK K "NoRule" ZP)(xR:typeIn K (.ref ZP)=some (.type "type"))(xS:isClsIn K ZP=true)(xT:subIn K (.ref ZP) (.type "BaseException")=some true)(xU:hasDictIn K ZP=true)(xV:typeIn K (.ref ZP)=some (.type "type"))(xW:subIn K (.ref ZP) (.ref ZP)=some true)
  (Ab:ExK K "NoScale" Yp)
  (Dy:ExK K "NoWeight" Yb)
  (xk_Twice:ExK K "Twice" C_Twice)
  (Ad:ExK K "NoTitle" Yi)
  (xX:ExK K "NoKind" YM)
  (xk_Ring:ExK K "Ring" C_Ring)
  (gc:ColR K [Yp,Yb,C_Twice,Yi,YM,C_Ring,ZE,C_NoNet,ZP,VH,WG])(gg:Grid K [Yp,Yb,C_Twice,Yi,YM,C_Ring,ZE,C_NoNet,ZP,VH,WG] 0 [Yp,Yb,C_Twice,Yi,YM,C_Ring,ZE])(gr:RowR K YJ [Yp,Yb,C_Twice,Yi,YM,C_Ring,ZE])
  (SM:subIn K (.ref ZP) (.ref ZP)=some true)
  (Wt:findIn K (.ref C_Rule) "__init__" = some (some (.ref ZQ)))(Qf:isFn K (.ref ZQ)=true)(Kb:K.lookup ZQ=some ⟨xY,xZ,.func (PySem.W.fnOf "__init__" "Rule.__init__" (XI YV) (Ye YV) (Zf YV) (.ref SN) we wg wj wm Ld wo),wq⟩)(Kc:PySem.W.codeIn K Ld "Rule.__init__" = true)(Qg:keepIn K (.ref ZQ)=true)
  (Le:K.lookup SN=some ⟨.type "tuple",wu,.seq ([.str "" YK,.none]:List Value).toArray dn_Rule___init__,dsl_Rule___init__⟩)
  (Xx:findIn K (.ref ZF) "__init__" = some (some (.ref ZJ)))(Tu:isFn K (.ref ZJ)=true)(OT:K.lookup ZJ=some ⟨DL,DM,.func (PySem.W.fnOf "__init__" "Grammar.__init__" (XI Yo) (Ye Yo) (Zf Yo) .none DN DQ DR DU PU DV),DW⟩)(OU:PySem.W.codeIn K PU "Grammar.__init__" = true)(Tv:keepIn K (.ref ZJ)=true)
  (RK:findIn K (.ref C_Cost) "takes" = some (some (.ref Xd)))(FG:isFn K (.ref Xd)=true)(FH:K.lookup Xd=some ⟨qp,qq,.func (PySem.W.fnOf "takes" "Cost.takes" (XI Wa) (Ye Wa) (Zf Wa) .none qt qu qv qw Ha qx),qy⟩)(FI:PySem.W.codeIn K Ha "Cost.takes" = true)(Mf:keepIn K (.ref Xd)=true)
  (Te:findIn K (.ref YF) "takes" = some (some (.ref Yv)))(JY:isFn K (.ref Yv)=true)(JZ:K.lookup Yv=some ⟨wH,wI,.func (PySem.W.fnOf "takes" "Chance.takes" (XI Xp) (Ye Xp) (Zf Xp) .none wJ wK wL wM Kd wN),wO⟩)(Ia:PySem.W.codeIn K Kd "Chance.takes" = true)(Pa:keepIn K (.ref Yv)=true)
  (Lf:LkB K "common_divisor" Vm Wb Wf)
  (Ae:LkB K "fraction" Ov Rc Rt)
  (FJ:LkB K "is_figures" Re Ua Ui)
  (Dz:LkB K "is_bottom" Qz TF TQ)
  (qg:LkB K "is_top" Jf Nr Ny)
  (Ke:LkB K "read_fraction" VQ Wo Wr)
  (Af:LkB K "scale_of" Ow Rf Rx)
  (Ic:LkB K "is_name_sign" UQ WR WX)
  (wx:LkB K "is_name" Mz Pq Py)
  (wy:LkB K "is_kind" MB Pt Pz)
  (wz:LkB K "is_word" MC Pu PB)
  (DB:LkB K "are_parts" QB TH TR)
  (FK:LkB K "are_titles" Rg Ub Uj)
  (Tw:LkB K "check_weights_and_titles" YL Yf Yg)
  (Pb:LkB K "check_titles_under" XR Xb Xe)
  (Hb:LkB K "check_kinds" Ss Vu Vx)
  (Hc:LkB K "check_rings" Su Vv Vy)
  (Lg:LkB K "heads_in_order" Vn Wc Wg)
  (Ie:LkB K "read_grammar" UT WT WY)
  (Ag:LkB K "lines_of" Ox Rh Rz)
  (FL:LkB K "read_lines" Ri Uc Uk)
  (FM:LkB K "read_scale" Rj Ud Ul)
  (FN:LkB K "read_start" Rk Ue Um)
  (DC:LkB K "read_rule" QD TJ TU)
  (Pg:LkB K "read_tag_and_under" XS Xc Xg)
  (h_l_at:LkB K "_law_at" BA GI f_l_at)
  (h_l_mix:LkB K "_law_mix" GJ Ko f_l_mix)
  (wA:LkB K "_law_names" MD Pw PC)
  (Ah:LkB K "_law_lowest" Oy Rl RD)
  (Ai:LkB K "_law_weight" Oz Rm RE)
  (DF:LkB K "_law_is_name" QF TK TV)
  (DH:LkB K "_law_is_kind" QG TL TX)
  (qi:LkB K "_law_ring" Jh Nt Nz)
  (Kf:LkB K "_law_asked_kinds" VR Wq Ws)
  (h_l_due:LkB K "_law_due" GL Kp f_l_due)
  (wC:LkB K "_law_marks" ME Px PD)
  (FO:LkB K "_law_marks_of" Ro Ug Uo)
  (DJ:LkB K "_law_rule_is" QI TN TY)
  (qj:LkB K "_law_kept" Ji Nu NA)
  (Ig:LkB K "_law_wild_parts" UU WU WZ)
  (Hd:LkB K "_law_wild_rows" Sv Vw Vz)
  (qk:LkB K "_law_line" Jj Nv NB)
  (Ih:LkB K "_law_bad_weight" UW WV Va)
  (FP:LkB K "_law_bad_line" Rq Uh Uq)
  (Ii:LkB K "_law_head_lines" UX WW Vb)
  (a_law:PySem.W.nsIn K mainGlobals "law" = some (some (.ref f_law)))(l_law:K.lookup f_law=some ⟨oc_law,od_law,.func (PySem.W.fnOf "law" "law" (XI Nw) (Ye Nw) (Zf Nw) .none kV_law dc_law pm_law an_law cd_law ct_law),sl_law⟩)(c_law:PySem.W.codeIn K cd_law "law" = true)(k_law:keepIn K (.ref f_law)=true)(Ij:PySem.W.nsIn K mainGlobals "MOST_FIGURES" = some (some (.int 40 ql)))(wF:PySem.W.nsIn K mainGlobals "FIGURES" = some (some (.str Yy jX)))(Kg:PySem.W.nsIn K mainGlobals "SMALL_LETTERS" = some (some (.str YB wR)))(Kh:PySem.W.nsIn K mainGlobals "GREAT_LETTERS" = some (some (.str ZD wU)))(Ik:PySem.W.nsIn K mainGlobals "LONGEST_NAME" = some (some (.int 12 qm)))(FQ:PySem.W.nsIn K mainGlobals "MOST_PARTS" = some (some (.int 4 nR)))
  (z_tuple:PySem.W.nsIn K mainGlobals "tuple" = some none)(uK:PySem.W.nsIn K mainGlobals "abs" = some none)(zf:PySem.W.nsIn K mainGlobals "all" = some none)(z_len:PySem.W.nsIn K mainGlobals "len" = some none)(uL:PySem.W.nsIn K mainGlobals "int" = some none)(FR:PySem.W.nsIn K mainGlobals "isinstance" = some none)(uM:PySem.W.nsIn K mainGlobals "str" = some none)(z_list:PySem.W.nsIn K mainGlobals "list" = some none)(z_set:PySem.W.nsIn K mainGlobals "set" = some none)(z_dict:PySem.W.nsIn K mainGlobals "dict" = some none)(z_range:PySem.W.nsIn K mainGlobals "range" = some none)(FT:PySem.W.nsIn K mainGlobals "ValueError" = some none)(z_zip:PySem.W.nsIn K mainGlobals "zip" = some none) :
  ∃ fd:FuncData,(∀ (s:Shared) (v:Value),BindsTo s fd ⟨[v],[]⟩ [("_law_script",v)])/\∀ base:Heap,K.In base->base.Ns mainGlobals mg->ZL l.prog w K mg base CX0 10 fa fd ["_law_script"] (zc K):=by
 have e:=hfa.symm.trans (mg_of X G a_law)
 cases e
 have YX:Ee K "__init__" "Rule.__init__" YV ZQ _ [.str "" YK,.none]:=⟨⟨_,_,_,_,_,_,_,_,_,SN,_,_,rfl,Kb,Kc,Le,rfl⟩,Qg⟩
 have Ki:=YX.binds (ps:=["self", "title", "head", "parts", "weight", "tag", "under"]) (ds':=[]) λD o n kV doc pm an cdv ct s us hD ho hl=>match us,(show us.length=7 by simpa using hl) with | [_,_,_,_,_,_,_],_=>BindsTo.of_defaults rfl hD ho rfl rfl
 have Lh:=YX.binds (ps:=["self", "title", "head", "parts", "weight", "tag", "under"]) (ds':=[.none]) λD o n kV doc pm an cdv ct s us hD ho hl=>match us,(show us.length=6 by simpa using hl) with | [_,_,_,_,_,_],_=>BindsTo.of_defaults rfl hD ho rfl rfl
 have Lj:=YX.binds (ps:=["self", "title", "head", "parts", "weight", "tag", "under"]) (ds':=[.str "" YK,.none]) λD o n kV doc pm an cdv ct s us hD ho hl=>match us,(show us.length=5 by simpa using hl) with | [_,_,_,_,_],_=>BindsTo.of_defaults rfl hD ho rfl rfl
 have Xw:=Mj (st:=Yo) OT OU Tv
 have OV:=Xw.binds (ps:=["self", "scale", "start", "rules"]) λ_ _ _ _ _ _=>us4 λ_ _ _ _=>rfl
 have Ur:=Mj (st:=Wa) FH FI Mf
 have FU:=Ur.binds (ps:=["self", "weight"]) λ_ _ _ _ _ _=>us2 λ_ _=>rfl
 have Vc:=Mj (st:=Xp) JZ Ia Pa
 have Il:=Vc.binds (ps:=["self", "weight"]) λ_ _ _ _ _ _=>us2 λ_ _=>rfl
 obtain⟨Vo,Wh⟩:=Lf.get X G
 obtain⟨OB,RL⟩:=Ae.get X G
 obtain⟨Rv,Us⟩:=FJ.get X G
 obtain⟨QJ,VJ⟩:=Dz.get X G
 obtain⟨Jk,NK⟩:=qg.get X G
 obtain⟨VU,Wu⟩:=Ke.get X G
 obtain⟨OC,RM⟩:=Af.get X G
 obtain⟨UZ,Vd⟩:=Ic.get X G
 obtain⟨MF,UB⟩:=wx.get X G
 obtain⟨MG,UC⟩:=wy.get X G
 obtain⟨MH,WH⟩:=wz.get X G
 obtain⟨QK,TZ⟩:=DB.get X G
 obtain⟨Ry,Ut⟩:=FK.get X G
 obtain⟨YN,Yh⟩:=Tw.get X G
 obtain⟨XT,Xh⟩:=Pb.get X G
 obtain⟨Sw,VA⟩:=Hb.get X G
 obtain⟨Sx,VB⟩:=Hc.get X G
 obtain⟨Vp,Wi⟩:=Lg.get X G
 obtain⟨Ta,Ve⟩:=Ie.get X G
 obtain⟨OD,RN⟩:=Ag.get X G
 obtain⟨RA,Uu⟩:=FL.get X G
 obtain⟨RB,Uv⟩:=FM.get X G
 obtain⟨RC,Uw⟩:=FN.get X G
 obtain⟨QL,Sa⟩:=DC.get X G
 obtain⟨XU,Xi⟩:=Pg.get X G
 obtain⟨d_l_at,L_l_at⟩:=h_l_at.get X G
 obtain⟨d_l_mix,L_l_mix⟩:=h_l_mix.get X G
 obtain⟨MI,UD⟩:=wA.get X G
 obtain⟨OG,RO⟩:=Ah.get X G
 obtain⟨OH,RP⟩:=Ai.get X G
 obtain⟨QM,Sb⟩:=DF.get X G
 obtain⟨QN,VL⟩:=DH.get X G
 obtain⟨Jl,NM⟩:=qi.get X G
 obtain⟨VV,Wv⟩:=Kf.get X G
 obtain⟨d_l_due,L_l_due⟩:=h_l_due.get X G
 obtain⟨MJ,UE⟩:=wC.get X G
 obtain⟨RG,Ux⟩:=FO.get X G
 obtain⟨QO,Sd⟩:=DJ.get X G
 obtain⟨Jm,NP⟩:=qj.get X G
 obtain⟨Tb,Vf⟩:=Ig.get X G
 obtain⟨Sy,VC⟩:=Hd.get X G
 obtain⟨Jn,QP⟩:=qk.get X G
 obtain⟨Tc,Xr⟩:=Ih.get X G
 obtain⟨RH,Uy⟩:=FP.get X G
 obtain⟨Td,Vg⟩:=Ii.get X G
 have F_law:=Mj (st:=Nw) l_law c_law k_law
 have b_law:=F_law.binds (ps:=["_law_script"]) λ_ _ _ _ _ _=>us1 λ_=>rfl
 have T:Txt K mg ⟨YJ,C_NoNet,VH,WG,ZE,ZP,Yp,Yb,C_Twice,Yi,YM,C_Ring,C_Cost,YF,C_Rule,ZF,ZQ,_,ZJ,_,Xd,_,Yv,_,Wf,_,Rt,_,Ui,_,TQ,_,Ny,_,Wr,_,Rx,_,WX,_,Py,_,Pz,_,PB,_,TR,_,Uj,_,Yg,_,Xe,_,Vx,_,Vy,_,Wg,_,WY,_,Rz,_,Uk,_,Ul,_,Um,_,TU,_,Xg,_,f_l_at,_,f_l_mix,_,PC,_,RD,_,RE,_,TV,_,TX,_,Nz,_,Ws,_,f_l_due,_,PD,_,Uo,_,TY,_,NA,_,WZ,_,Vz,_,NB,_,Va,_,Uq,_,Vb,_,f_law,_,YK⟩:=⟨⟨pg_Cost,hd_Cost,po_Cost,sa_Cost⟩,mg_of X G aC_Cost,⟨mk_Cost,in_Cost,kc_Cost⟩,⟨xH,xI,xJ,xK⟩,mg_of X G xG,⟨MK,xM,xN⟩,⟨pg_Rule,hd_Rule,po_Rule,sa_Rule⟩,mg_of X G aC_Rule,⟨mk_Rule,Wt,Qf,kc_Rule⟩,IX,Fz,IY,JX,Dx,IZ,⟨BU,BV,BW,BX⟩,mg_of X G BR,⟨OI,Xx,Tu,BZ⟩,La,Lb,Lc,mg_of X G FA,mg_of X G aC_NoNet,mg_of X G xO,mg_of X G Aa,xP.get X G,xQ.get X G,Ab.get X G,Dy.get X G,xk_Twice.get X G,Ad.get X G,xX.get X G,xk_Ring.get X G,⟨FC,FD,FE⟩,⟨xR,xS,xT⟩,λi j C d a b=>by have:=zr gc gg a b;rw[Nat.zero_add]at this;exact this,zt gr,SM,Aw xU xV SM xW,YX,Lh,Lj,⟨Wt,Qf,Qg⟩,Ki,Xw,⟨Xx,Tu,Tv⟩,OV,Ur,⟨RK,FG,Mf⟩,FU,Vc,⟨Te,JY,Pa⟩,Il,Wh,RL,Us,VJ,NK,Wu,RM,Vd,UB,UC,WH,TZ,Ut,Yh,Xh,VA,VB,Wi,Ve,RN,Uu,Uv,Uw,Sa,Xi,L_l_at,L_l_mix,UD,RO,RP,Sb,VL,NM,Wv,L_l_due,UE,Ux,Sd,NP,Vf,VC,QP,Xr,Uy,Vg,⟨F_law,mg_of X G a_law,b_law⟩,⟨_,mg_of X G Ij⟩,⟨_,mg_of X G wF⟩,⟨_,mg_of X G Kg⟩,⟨_,mg_of X G Kh⟩,⟨_,mg_of X G Ik⟩,⟨_,mg_of X G FQ⟩,mg_none_of X G z_tuple,mg_none_of X G uK,mg_none_of X G zf,mg_none_of X G z_len,mg_none_of X G uL,mg_none_of X G FR,mg_none_of X G uM,mg_none_of X G z_list,mg_none_of X G z_set,mg_none_of X G z_dict,mg_none_of X G z_range,mg_none_of X G FT,mg_none_of X G z_zip⟩
 exact⟨PySem.W.fnOf "law" "law" (XI Nw) (Ye Nw) (Zf Nw) .none kV_law dc_law pm_law an_law cd_law ct_law,λs v => .of_eq rfl,λbase _ _=>(jW T).law⟩
theorem walk{l:PySem.W.OpenLaw}{q:Program}{loose:List Str}{XP:(Str->Option Value)->Heap->Prop}{YP:World->Heap->Prop}{d:DefRec}{K:Params->aa}(hn:l.most=some 63)(hdf:d.params.defaults=[])
  (hY:∀ (w:World) (h:Heap),YP w h->(K w.params).In h)
  (F:∀ (w:World) (mg:Str->Option Value) (fa:Addr) (h:Heap),(K w.params).In h->h.Ns mainGlobals mg->mg d.name=some (.ref fa) ->
   ∃ fd:FuncData,(∀ (s:Shared) (u:Value),BindsTo s fd ⟨[u],[]⟩ [("_law_script",u)])/\∀ base:Heap,(K w.params).In base->base.Ns mainGlobals mg->ZL l.prog w (K w.params) mg base CX0 10 fa fd ["_law_script"] (zc (K w.params))) :
  PySem.W.WalkO q loose XP YP l.row.toRowW d [] (λf vs=>PySem.call f vs) :=
 L2.Av (n:=63) (k:=10) (x := "_law_script") (CX:=λ_=>CX0) (sp:=λw=>zc (K w.params)) hn (by decide) hdf ⟨rfl,by decide,by decide⟩ hY F (λ_ _ a ns hl _ hS=>⟨a,ns,rfl,hS,hl,λ_=>rfl⟩) λ_ _ _ _ _ z=>z
end My
local macro_rules | `(tactic| walk_at "lk") => `(tactic| (refine' L2.ju ?a ?l ?c ?k ?b; (case a => k_is); (case l => k_is); (case c => k_is); (case k => k_is); (case b => (intro _ _ _ _ _ _; first | (refine L2.us1 λ_ => ?_; rfl) | (refine L2.us2 λ_ _ => ?_; rfl) | (refine L2.us3 λ_ _ _ => ?_; rfl) | (refine L2.us4 λ_ _ _ _ => ?_; rfl) | (refine L2.us5 λ_ _ _ _ _ => ?_; rfl) | (refine L2.us6 λ_ _ _ _ _ _ => ?_; rfl)))))
local macro_rules | `(tactic| walk_at "xk") => `(tactic| (refine' L2.jw ?a ?b ?c ?d ?e ?f ?g ?h; (case a => k_is); (case b => k_exc); (case c => k_is); (case d => k_is); (case e => k_is); (case f => k_is); (case g => k_is); (case h => k_is)))
local macro_rules | `(tactic| walk_at "gr") => `(tactic| ((repeat' first | exact trivial | refine And.intro ?_ ?_); (all_goals first | (show _ = some true; k_is) | (show _ = some false; k_is) | k_is)))
namespace PySem.W.Fast
def tw12563070603238120057:=0
def tw16383909370263175844:=0
def tw8323809434255204187:=0
def tw9051327288485903790:=0
def tw7391825245479030851:=0
def tw16893114223538033289:=0
def tw2810700191391284778:=0
def tw16443154282687952111:=0
def tw654784631952259784:=0
def tw587259456069961456:=0
def tw13587973921543519473:=0
def tw16728434632465649120:=0
def tw14349199131174521783:=0
def tw5716698875636562967:=0
def tw9140520314477432360:=0
def tw1397072366100075906:=0
def tw15716194154978877429:=0
def tw9480410811451756496:=0
def tw16649307781791603239:=0
def tw12811182267228704868:=0
def tw11624770822964578271:=0
def tw3709126380586098240:=0
def tw14275464038888054509:=0
def tw782649791442150273:=0
def tw3629787289540517032:=0
def tw2923676794006615332:=0
def tw3164914075419165302:=0
def tw13670239774924845729:=0
def tw1555574012963197571:=0
def tw13669117678060013698:=0
def tw12340634727531214567:=0
def tw4910749657432187556:=0
def tw12692187588205501851:=0
def tw13738750451230520469:=0
def tw10133716022677901967:=0
def tw17672726375684772802:=0
def tw15424734703982194649:=0
def tw5372533597162053497:=0
def tw9939079235766291024:=0
def tw14061343368801959378:=0
def tw16888623406948677426:=0
def tw2632978059115294612:=0
def tw18166402930627996687:=0
def tw404317035442070798:=0
def tw3238877652888945004:=0
def tw13786023486603821841:=0
def tw8331940488124639358:=0
def tw971324186841131784:=0
def tw12248830721777029456:=0
def tw1302259285426583072:=0
def tw8174068182625093572:=0
def tw7403771884381474447:=0
def tw9382600691414157701:=0
def tw16129678794837000319:=0
def tw15661193407819563227:=0
def tw12275899379847669576:=0
def tw8608509177076785783:=0
def tw7613705690082991980:=0
def tw16713605078640328466:=0
def tw11845283117933792973:=0
def tw18133761870450519805:=0
def tw4154122500095813278:=0
def tw16527286438429269223:=0
def tw1301132605037127267:=0
def tw16695760495701719028:=0
def tw14623269802747607467:=0
def tw16382560355325819555:=0
def tw2820643020160847220:=0
def tw1766626459998191422:=0
def tw4049000107416398493:=0
def tw15999433931583175696:=0
def tw2588335855356008388:=0
def tw13935908847630797574:=0
def tw3787139717094453694:=0
def tw17922938347497712124:=0
def tw13009025590958937669:=0
def tw7016803905537293498:=0
def tw15371045167209827959:=0
def tw2846835201101054910:=0
def tw16996968894472585148:=0
def tw18250772421860297966:=0
def tw17584890222691616183:=0
def tw16120591046577458698:=0
def tw495882105795158715:=0
def tw6037289914320476785:=0
def tw5890234634371511566:=0
def tw5868354040379371554:=0
def tw8605207034702315332:=0
def tw18078730837983688930:=0
def tw18166465708478438763:=0
def tw14768163977811698618:=0
def tw17549129496160867463:=0
def tw6150825852996655229:=0
def tw21732931207207637:=0
def tw12716399385555055668:=0
def tw3883155493635872967:=0
def tw14769048463891445688:=0
def tw10927487917040560590:=0
def tw5072056043765130134:=0
def tw6963815466813511427:=0
def tw12125543971824944420:=0
def tw17600441775161529993:=0
def tw9854219259868820972:=0
def tw16569317746709293294:=0
def tw9375393091725683398:=0
def tw5661326637255363615:=0
def tw1848014016894289841:=0
def tw8873433805644989444:=0
def tw16231614222066344311:=0
def tw13855141337960193259:=0
def tw8213246039399481609:=0
def tw11967728593923190821:=0
def tw2184315750447392579:=0
def tw15832875888422735595:=0
def tw13720453661063414045:=0
def tw15290037916926888475:=0
def tw12253677402770433518:=0
def tw16772980765427216424:=0
def tw12439828386130962372:=0
def tw7250080254706030038:=0
def tw4195716013569419244:=0
def tw789878318476470114:=0
def tw18412962698984654809:=0
def tw4418557731980163931:=0
def tw13028893675831379474:=0
def tw3571364372244759686:=0
def tw5353597295481041458:=0
def tw8960993228393149968:=0
def tw4991366987922878809:=0
def tw10226344463089831258:=0
def tw4205399150975925043:=0
def tw18249288871275748632:=0
def tw10609541895075683344:=0
def tw881596635819197241:=0
def tw13475440410651069221:=0
def tw9808014163747280156:=0
def tw15690567663450097846:=0
def tw17454371520214932612:=0
def tw6442111040995469744:=0
def tw17824318406394532867:=0
def tw10350263009211070320:=0
def tw14736594791874860160:=0
def tw9951223046379015902:=0
def tw11499946592030803123:=0
def tw17362723310449204228:=0
def tw6879226716727319317:=0
def tw4868393214349414070:=0
def tw11853587781168446853:=0
def tw11023932198416049701:=0
def tw2592211654600940798:=0
def tw2646225367596744361:=0
def tw10496548420278312407:=0
def tw6088102235640591629:=0
def tw17006129727266186505:=0
def tw13971644897077832731:=0
def tw9680760444020491517:=0
def tw9826853340482913158:=0
def tw17457793297688002171:=0
def tw8894708994129886704:=0
def tw4022948536824292284:=0
def tw7798593421274638145:=0
def tw12679140830941920839:=0
def tw4826391181670550805:=0
def tw3470595685495663:=0
def tw9994583029366277169:=0
def tw8579447590653570121:=0
def tw16122940285758001873:=0
def tw14843628655045948553:=0
def tw3763781646412675658:=0
def tw1524376615125101248:=0
def tw8844338939095006609:=0
def tw11289029698824940464:=0
def tw8406163137637382077:=0
def tw206760225368874476:=0
def tw8530738160670683113:=0
def tw12191204384061740864:=0
def tw10414218002672258186:=0
def tw9183753447413250418:=0
def tw8373167256698912454:=0
def tw13817495401974578896:=0
def tw17203740301944809732:=0
def tw6744497942534746964:=0
def tw15953484822714256470:=0
def tw1082162844991816217:=0
def tw10795889098519500230:=0
def tw1179617486487347168:=0
def tw2099030138545143233:=0
def tw13854002741657979756:=0
def tw9848025431339036329:=0
def tw8474474027087650164:=0
def tw5348416118447282629:=0
def tw12386311590733441803:=0
def tw1420107712836075449:=0
def tw11993045777517676197:=0
def tw662222623517611433:=0
def tw17315092929632957708:=0
def tw82846503787282373:=0
def tw1834909386030794514:=0
def tw16764129372699063592:=0
def tw18139001136402854216:=0
def tw6083763744508737436:=0
def tw10886824892671347365:=0
def tw3291049646006387941:=0
def tw18028039590117586855:=0
def tw367379204199793638:=0
def tw5936892416308622553:=0
def tw8243290323155649257:=0
def tw2449465976304849220:=0
def tw18152836043810466639:=0
def tw3393834104828843704:=0
def tw17625436461528143497:=0
def tw2976251121884146388:=0
def tw12274910722412879909:=0
def tw10124290279861266837:=0
def tw3216945241239285065:=0
def tw15516876215196206834:=0
def tw14365973235658335330:=0
def tw3832453739536926127:=0
def tw14333969457529101593:=0
def tw14203011013985975894:=0
def tw11967552031162400432:=0
def tw17611530167895246685:=0
def tw11817676543984538436:=0
def tw904985773200143287:=0
def tw6400520687159399461:=0
def tw5168016349517274743:=0
def tw3299088974900727884:=0
def tw17286882375693337775:=0
def tw13870355072333003333:=0
def tw13196678247618620113:=0
def tw12699836791565249825:=0
def tw12113494584744367744:=0
def tw13549021290096596365:=0
def tw11787480571137415970:=0
def tw7776699747046198910:=0
def tw16416562765304219927:=0
def tw707295744162606327:=0
def tw14784227673322875890:=0
def tw15510266097398289287:=0
def tw12020137643219264131:=0
def tw16424607089380699882:=0
def tw18441300703351874400:=0
def tw1879398046770890152:=0
def tw16806922445984006434:=0
def tw13741459252767763101:=0
def tw5904431948934677900:=0
def tw10435332266106384900:=0
def tw15262649521651651175:=0
def tw14258712259407016278:=0
def tw8144733114598621817:=0
def tw87547203958293249:=0
def tw3425948938906591658:=0
def tw2129271444008718640:=0
def tw12780789832947099473:=0
def tw11344727317293252489:=0
def tw6760548049347904585:=0
def tw7479865603126097403:=0
def tw18114135288705812048:=0
def tw16533581928696979559:=0
def tw13483868816411404682:=0
def tw9247199275656329910:=0
def tw5999715814604784335:=0
def tw5656256435121349817:=0
def tw2893362756139641825:=0
def tw8653806255383839955:=0
def tw10129615134454242602:=0
def tw16811609078400880755:=0
def tw14739512683286056838:=0
def tw12447571776564691093:=0
def tw1623044336872626605:=0
def tw10446446710804750194:=0
def tw9034921833250879920:=0
def tw12182591330420196931:=0
def tw1191182025077664167:=0
def tw6558363077905807003:=0
def tw11125418543041652120:=0
def tw5782992729423936982:=0
def tw1940391267643778065:=0
def tw12848565537332883306:=0
def tw463538974731842791:=0
def tw7262648237298658037:=0
def tw2006834263220394686:=0
def tw7634293565696470500:=0
def tw4132071636078302406:=0
def tw12388060846685365161:=0
def tw11356778653539223002:=0
def tw4244644007513872756:=0
def tw12352521229474274449:=0
def tw14524137682960168670:=0
def tw6374038787716347622:=0
def tw8510474835455972574:=0
def tw18444482736211991418:=0
def tw3655448676699205448:=0
def tw5471543363475416688:=0
def tw14325530643207460040:=0
def tw10363522058137155204:=0
def tw3436915619341502854:=0
def tw10927353268179962601:=0
def tw7780932194722956228:=0
def tw3497082628450468791:=0
def tw12486128256089511520:=0
def tw8396227929520275389:=0
def tw10852843664514407088:=0
def tw8150782472094566841:=0
def tw7453955383528470069:=0
def tw4446292798593335395:=0
def tw3121109227253283988:=0
def tw13998051098255655582:=0
def tw13392046535518893414:=0
def tw2793804288173950365:=0
def tw7755273685060119932:=0
def tw7524509728610090672:=0
def tw17831008614758300407:=0
def tw486059057460248498:=0
def tw2879809104018508803:=0
def tw13367262855140662713:=0
def tw12869191023828394961:=0
def tw8962469711322439008:=0
def tw4522115469771935935:=0
def tw15937622653209265375:=0
def tw11520738637767511658:=0
def tw11175683603517813392:=0
def tw10166014769702220219:=0
def tw5759799388914203254:=0
def tw5906389786931636840:=0
def tw2846047752871852857:=0
def tw9307803311556329814:=0
def tw3660150810214914603:=0
def tw17375555497083304683:=0
def tw2716635812090600486:=0
def tw2671354767986480345:=0
def tw596595468616323375:=0
def tw2438569999153186890:=0
def tw9673971608134985332:=0
def tw14138814689440671430:=0
def tw17142673323124056119:=0
def tw15607869215770439299:=0
def tw1041334228804824710:=0
def tw4684082627293663694:=0
def tw16541173013258487882:=0
def tw2347840138302266066:=0
def tw10879177915912892379:=0
def tw15653837428163063320:=0
def tw12040833349750953342:=0
def tw498827132824783312:=0
def tw8650832147015525521:=0
def tw6111053334101483070:=0
def tw16548852139850979973:=0
def tw1541905395486622683:=0
def tw6891383349083543700:=0
def tw1231987800865481471:=0
def tw2927610318475608673:=0
def tw8038282424369110843:=0
def tw2439614297767003318:=0
def tw9679814829290925625:=0
def tw9252194573811449787:=0
def tw4824679468775465711:=0
def tw5945088839111959038:=0
def tw18052560928248150614:=0
def tw11084500806709877804:=0
def tw9714813901634305637:=0
def tw17045063044202765352:=0
def tw2869701134882099324:=0
def tw13736080631615646843:=0
def tw11333684792921892748:=0
def tw7692696803039279378:=0
def tw7563270077939532414:=0
def tw234163032662437401:=0
def tw7612556605881859272:=0
def tw4203937226860830244:=0
def tw5016275878087783522:=0
def tw285370363189644301:=0
def tw10826541485356133334:=0
def tw1958342714365904198:=0
def tw14614433496757648283:=0
def tw11057488427681877953:=0
def tw14849670301864337492:=0
def tw6977501368527985138:=0
def tw5491639311155623183:=0
def tw249225731083142401:=0
def tw12248323427210899975:=0
def tw9307579613051247816:=0
def tw14120255200320264288:=0
def tw874485003804389567:=0
def tw1518764468720841009:=0
def tw11542905576590986728:=0
def tw2802983702332638524:=0
def tw12730515369528274516:=0
def tw15499910200593345775:=0
def tw8824896930751580313:=0
def tw8270781766661257533:=0
def tw1444399654300999135:=0
def tw4299627247972960185:=0
def tw620323237395135158:=0
def tw6973217583680832132:=0
def tw5689936096740165669:=0
def tw4552540130490265082:=0
def tw17778989806024856871:=0
def tw16114123962600526052:=0
def tw15688908372038920514:=0
end PySem.W.Fast
open PySem PySem.W PyProof.Rows
set_option maxRecDepth 100000 in
set_option maxHeartbeats 0 in
theorem PySem.Challenge.cw_kbestwood_k13_texts_refused_holds : PySem.Challenge.rw_kbestwood_k13_texts_refused.Holds := by
  w_on; o_law; k_head; (case hw => w_witness2)
  k_fill
  refine My.walk (l := PySem.Challenge.rw_kbestwood_k13_texts_refused) rfl rfl (fun w h Y => PySem.W.kIn_of Y) ?F
  case F =>
    intro w mg fa h KX G hmg
    refine' My.all_mk KX G hmg ..
    all_goals try first | k_is | walk_at "xk" | walk_at "lk" | walk_at "gr"
