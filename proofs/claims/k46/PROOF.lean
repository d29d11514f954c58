import PyProof.Rows.All
import Wide.All
import OpenK.AllK
import Wide.FinOn
import Lean
import PyProof.EqAt
import PyProof.EqKinds
import PyProof.TupleCall
import PyProof.NeKinds
import PyProof.EnumFor
import PyProof.EnumMake
import PyProof.NsDelKeeps
import OpenK.KOwn
import KE.KIsBytes
import PyProof.CompFree
import PyProof.StrWalks
import PyProof.ConsumeWalk
import PyProof.StrBlockI
import KE.KRevIter
import KE.KDictList
import PyProof.ZipIter
import KE.KIntText
import PySem.Challenge.RW_kbestwood_k46_grammars_taught
set_option Elab.async false
set_option linter.all false
set_option maxRecDepth 100000
set_option maxHeartbeats 4000000
open PySem.W (instObj methodObj hideAll lookIn plainGet hasDictIn findIn plainGet_of isFn plainOver takerIn Looks makesIn typeIn emptyDict makes_of looks_findIn keepIn specialIn takesIn mroIn kitOne kia_one kitx_list mg_of subIn kitCls callWith_K excIn nsOkIn clsIn isClsIn kitAny kia_tup mg_none_of)
open List (mem_filter mem_range filterMap_cons mem_cons_self mem_cons_of_mem mem_cons mem_append mem_append_left getElem?_set_self getElem?_set_ne mem_append_right size_toArray length_cons map_cons length_map append_nil nodup_cons of_mem_zip replicate length length_take getElem?_append_right getElem?_replicate getElem?_append_left getElem?_map mem_of_getElem? length_append length_replicate length_drop map_nil length_set all_cons any_cons reverse_cons replicate_succ flatten_cons foldl append_assoc foldl_cons nil_append find?_cons length_nil filter_cons forIn_cons all_eq_true lookup_cons all_map sum_cons mem_of_mem_take cons_append sum_append eq_nil_of_length_eq_zero any_map not_mem_nil drop_eq_getElem_cons map_map foldl_append take_length take_add_one mem_singleton length_zip find?_cons_of_neg getD_eq_getElem?_getD all_append mem_map map_append length_filter_le getElem_mem reverse_reverse zip_map take_zero map_take idxOf_lt_length_of_mem filter_append)
open PySem.W renaming Frag→aj
open PySem renaming wpAny_bind→ak
open PySem renaming wpAny_pure→ao
open PySem.Heap renaming get?_push_of_some→aq
open PySem.Heap renaming get?_push_size→au
open PySem.Heap renaming lt_size→az
open PySem renaming sizeLine→aA
open List renaming getElem?_eq_getElem→aC
open Bool renaming false_ne_true→aD
open Bool renaming and_eq_true→aF
open PySem.Heap renaming SameBut→aG
def auR:Lean.Syntax:=.node .none `Lean.Parser.Tactic.tacticSeq #[.node .none `Lean.Parser.Tactic.tacticSeq1Indented #[.node .none `null #[.node .none `Lean.Parser.Tactic.tacticRfl #[.atom .none "rfl"]]]]
def auD:Lean.Syntax:=.node .none `Lean.Parser.Tactic.tacticSeq #[.node .none `Lean.Parser.Tactic.tacticSeq1Indented #[.node .none `null #[.node .none `Lean.Parser.Tactic.decide #[.atom .none "decide",.node .none `Lean.Parser.Tactic.optConfig #[.node .none `null #[]]]]]]
noncomputable section
namespace L2
open PySem PySem.Spec PyProof.Rows
abbrev Key:=Sum Int Str
noncomputable def TV:Key->Value->Bool
 | .inl k,v=>Value.isInt k v
 | .inr x,v=>Value.isStrOf x v
noncomputable def keyH (w:World):Key->Int
 | .inl k=>hashInt k
 | .inr x=>hashStr w x
theorem Yq:∀ {k:Key}{v:Value},TV k v=true->(∃ i t,k=Sum.inl i/\v=Value.int i t)\/(∃ x t,k=Sum.inr x/\v=Value.str x t)
 | .inl i,v,h=>by
  obtain ⟨t,e⟩:=Value.isInt_shape (k:=i) (v:=v) h
  exact .inl ⟨i,t,rfl,e⟩
 | .inr x,v,h=>by
  obtain ⟨t,e⟩:=Value.isStrOf_shape (x:=x) (v:=v) h
  exact .inr ⟨x,t,rfl,e⟩
theorem MI (i:Int) (t:Tok):TV (.inl i) (.int i t)=true:=by simp [TV,Value.isInt]
theorem MJ (x:Str) (t:Tok):TV (.inr x) (.str x t)=true:=by simp [TV,Value.isStrOf]
theorem lW (a b:Int):decide ((Sum.inl a:Key)=Sum.inl b)=(a == b):=by
 by_cases e:a=b
 ·subst e;simp
 ·have h:¬ (Sum.inl a:Key)=Sum.inl b:=λq=>e (Sum.inl.inj q)
  rw [decide_eq_false h]
  exact (beq_eq_false_iff_ne.mpr e).symm
theorem lX (a b:Str):decide ((Sum.inr a:Key)=Sum.inr b)=decide (a=b):=by
 by_cases e:a=b
 ·subst e;simp
 ·have h:¬ (Sum.inr a:Key)=Sum.inr b:=λq=>e (Sum.inr.inj q)
  rw [decide_eq_false h,decide_eq_false e]
theorem lY (a:Int) (b:Str):decide ((Sum.inl a:Key)=Sum.inr b)=false:=decide_eq_false (λq=>nomatch q)
theorem lZ (a:Str) (b:Int):decide ((Sum.inr a:Key)=Sum.inl b)=false:=decide_eq_false (λq=>nomatch q)
noncomputable def ZG (prog:Program) (w:World):PySem.KeyKind prog w Key where
 is:=TV
 hash:=keyH w
 inj:=λv a b ha hb=>by
  rcases Yq ha with ⟨i,t,rfl,rfl⟩ | ⟨x,t,rfl,rfl⟩
  ·rcases Yq hb with ⟨j,u,rfl,e⟩ | ⟨y,u,rfl,e⟩
   ·injection e with e1 _;rw [e1]
   ·exact nomatch e
  ·rcases Yq hb with ⟨j,u,rfl,e⟩ | ⟨y,u,rfl,e⟩
   ·exact nomatch e
   ·injection e with e1 _;rw [e1]
 byValue:=λk v h=>by
  rcases Yq h with ⟨i,t,rfl,rfl⟩ | ⟨x,t,rfl,rfl⟩ <;> rfl
 pyHash:=λhv h=>by
  rcases Yq hv with ⟨i,t,rfl,rfl⟩ | ⟨x,t,rfl,rfl⟩
  ·exact wpAny_pyHash_int h
  ·exact wpAny_pyHash_str h
 eqBool:=λhu hv h=>by
  rcases Yq hu with ⟨i,t,rfl,rfl⟩ | ⟨x,t,rfl,rfl⟩
  ·rcases Yq hv with ⟨j,u,rfl,rfl⟩ | ⟨y,u,rfl,rfl⟩
   ·rw [lW] at h;exact wpAny_eqBool_int h
   ·rw [lY] at h;exact SeqAt.EqAt.int_str i t y u _ _ _ _ h
  ·rcases Yq hv with ⟨j,u,rfl,rfl⟩ | ⟨y,u,rfl,rfl⟩
   ·rw [lZ] at h;exact SeqAt.EqAt.str_int x t j u _ _ _ _ h
   ·rw [lX] at h;exact wpAny_eqBool_str h
 «strs»:=λk x t v h=>by
  rcases Yq h with ⟨i,u,rfl,e⟩ | ⟨y,u,rfl,e⟩
  ·exact nomatch e
  ·injection e with e1 _
   subst e1
   cases v <;> rfl
theorem El (prog:Program) (w:World) (i:Int) (t:Tok):(ZG prog w).is (.inl i) (.int i t)=true:=MI i t
theorem Em (prog:Program) (w:World) (x:Str) (t:Tok):(ZG prog w).is (.inr x) (.str x t)=true:=MJ x t
inductive V where
 | non | bl (b:Bool) | int (i:Int) | str (x:Str) | byt (b:Array UInt8) | flt (b:UInt64) | ref (a:Addr) | ty (n:String)
 deriving DecidableEq
noncomputable def RelV:V->Value->Prop
 | .non,u=>u=Value.none
 | .bl b,u=>u=Value.bool b
 | .int i,u=>∃ t,u=Value.int i t
 | .str x,u=>∃ t,u=Value.str x t
 | .byt b,u=>∃ t,u=Value.bytes b t
 | .flt b,u=>∃ t,u=Value.float b t
 | .ref a,u=>u=Value.ref a
 | .ty n,u=>u=Value.type n
abbrev Vals:List V->List Value->Prop:=Paired RelV
theorem Vals.length (r:Vals xs us):xs.length=us.length:=Paired.length r
theorem Vals.get:∀ {xs:List V}{us:List Value}{i:Nat}{x:V},Vals xs us->xs[i]?=some x->∃ u,us[i]?=some u/\RelV x u
 | _,_,_,_,.nil,e=>by simp at e
 | _,_,0,_,.cons r _,e=>by simp at e;subst e;exact ⟨_,rfl,r⟩
 | _,_,i + 1,x,.cons _ t,e=>by
  obtain ⟨u,h1,h2⟩:=Vals.get (i:=i) (x:=x) t (by simpa using e)
  exact ⟨u,by simpa using h1,h2⟩
theorem Vals.set (r:RelV x u):∀ {xs:List V}{us:List Value}(i:Nat),Vals xs us->Vals (xs.set i x) (us.set i u)
 | _,_,_,.nil => .nil
 | _,_,0,.cons _ t => .cons r t
 | _,_,i + 1,.cons q t => .cons q (Vals.set r i t)
theorem Vals.append:∀ {xs ys:List V}{us ws:List Value},Vals xs us->Vals ys ws->Vals (xs++ys) (us++ws)
 | _,_,_,_,.nil,s=>s
 | _,_,_,_,.cons r t,s => .cons r (Vals.append t s)
theorem Vals.take:∀ {xs:List V}{us:List Value}(n:Nat),Vals xs us->Vals (xs.take n) (us.take n)
 | _,_,0,_ => .nil
 | _,_,_ + 1,.nil => .nil
 | _,_,n + 1,.cons r t => .cons r (Vals.take n t)
theorem Vals.drop:∀ {xs:List V}{us:List Value}(n:Nat),Vals xs us->Vals (xs.drop n) (us.drop n)
 | _,_,0,r=>r
 | _,_,_ + 1,.nil => .nil
 | _,_,n + 1,.cons _ t=>Vals.drop n t
noncomputable def RQ:Option V->Option Value->Prop
 | some v,some u=>RelV v u
 | none,none=>True
 | _,_=>False
noncomputable def KV:List (κ × V)->List (κ × Value)->Prop:=Paired λ(p:κ × V) (q:κ × Value)=>p.1=q.1/\RelV p.2 q.2
noncomputable def kV:Key->V
 | .inl i => .int i
 | .inr x => .str x
inductive HO where
 /-- a list -/
 | lst (xs:List V)
 /-- a tuple (never changes) -/
 | tup (xs:List V)
 /-- a dict whose keys are ints and texts;one whose keys are tuples of ints and texts (the empty one is both) -/
 | dK (kvs:List (Key × V)) | dT (kvs:List (List Key × V))
 /-- a set of ints: its members,its size -/
 | set (S:Int->Bool) (n:Nat)
 /-- an instance of the class at C,its dict at dx,its attributes -/
 | ins (C dx:Addr) (fs:List (Str × V))
 /-- the dict of the instance at x -/
 | own (x:Addr)
 /-- the dict of an exception -/
 | xd (fs:List (Str × V))
 /-- a bound method,f of x -/
 | met (f x:Addr)
 /-- a range object lo,lo + 1,.. below hi -/
 | rng (lo hi:Int)
 /-- a thing that is known to the object (the script;a dict while a loop walks it): read,never written while it is so -/
 | frz (o:Obj) (u:HO)
 /-- a code object's table -/
 | tbl (ps:Array Value)
 /-- any other thing,by what is true of its one object (a def of one's own: SetO a S n:=HO.ext λh => ..) -/
 | ext (φ:Heap->Prop)
abbrev Hp:=Addr->Option HO
noncomputable def upd (H:Hp) (a:Addr) (o:HO):Hp:=λb=>if b=a then some o else H b
theorem Zy:upd H a o a=some o:=by unfold upd;rw [if_pos rfl]
theorem Zj (h:b≠a):upd H a o b=H b:=by unfold upd;rw [if_neg h]
theorem ne_of {H:Hp}(h:H a=some o) (h':H b=some u) (d:o≠u):a≠b:=by
 intro e;subst e;rw [h] at h';exact d (Option.some.inj h')
theorem ZC {H:Hp}(h:H a=some o) (h':H b=none):a≠b:=by
 intro e;subst e;rw [h] at h';cases h'
section
variable (P:Program) (w:World)
noncomputable def Yj (H:Hp) (h:Heap) (a:Addr):HO->Prop
 | .lst xs=>xs.length<=aA/\∃ (its:List Value) (n:Nat),Vals xs its/\h.get? a=some { cls := .type "list",data := .seq its.toArray n }
 | .tup xs=>xs.length<=aA/\∃ its:List Value,Vals xs its/\IsTup h a its.toArray
 | .dK kvs=>kvs.length<=aA/\(a == sysModules)=false/\∃ vs,KV kvs vs/\h.DictOf (ZG P w) a vs
 | .dT kvs=>kvs.length<=aA/\(a == sysModules)=false/\∃ xs:List (List Key × Addr × Value),
   Paired (λ(p:List Key × V) (q:List Key × Addr × Value)=>p.1=q.1/\H q.2.1=some (.tup (p.1.map kV))/\RelV p.2 q.2.2) kvs xs /\
   ∃ o es ep,h.get? a=some o/\o.ExactDict/\o.data = .dict es ep/\es.toList=xs.map (entryOfKey (tupleKind (ZG P w)))/\(xs.map (·.1)).Nodup
 | .set S n=>h.SetOf (intKind P w) a S n
 | .ins C dx fs=>H dx=some (.own a)/\fs.length<=1000/\dx≠a/\h.get? a=some (instObj C dx) /\
   ∃ mA,h.Ns1 dx mA/\(∀ f,RQ (fs.lookup f) (mA f))/\PySem.Within mA (fs.map (·.1))
 | .own _=>∃ o,h.get? a=some o
 | .xd fs=>∃ mA,h.Ns1 a mA/\∀ f,RQ (fs.lookup f) (mA f)
 | .rng lo hi=>∃ t u v,h.get? a=some { cls := .type "range",data := .fields #[.int lo t,.int hi u,.int 1 v] }
 | .frz o u=>h.get? a=some o/\Yj H h a u
 | .tbl ps=>h.get? a=some { cls := .none,data := .fields ps }
 | .met f x=>h.get? a=some (methodObj (.ref f) (.ref x))
 | .ext φ=>φ h/\(∃ o,h.get? a=some o)/\∀ h1 h2:Heap,φ h1->(∀ o,h1.get? a=some o->h2.get? a=some o)->φ h2
noncomputable def HOk (H:Hp) (h:Heap):Prop:=∀ a o,H a=some o->Yj P w H h a o
end
section
variable {P:Program}{w:World}{H H':Hp}{h h':Heap}{a:Addr}{o:HO}
theorem Yj.lt (x:Yj P w H h a o):a < h.objs.size:=by
 cases o with
 | lst xs=>obtain ⟨_,_,_,_,e⟩:=x;exact az e
 | tup xs=>obtain ⟨_,_,_,p⟩:=x;exact p.lt
 | dK kvs=>obtain ⟨_,_,_,_,o,_,_,e,_⟩:=x;exact az e
 | dT kvs=>obtain ⟨_,_,_,_,o,_,_,e,_⟩:=x;exact az e
 | set S n=>obtain ⟨o,_,_,_,e,_⟩:=x;exact az e
 | ins C dx fs=>obtain ⟨_,_,_,e,_⟩:=x;exact az e
 | own y=>obtain ⟨_,e⟩:=x;exact az e
 | xd fs=>obtain ⟨_,⟨_,_,_,e,_⟩,_⟩:=x;exact az e
 | rng lo hi=>obtain ⟨_,_,_,e⟩:=x;exact az e
 | frz ob u=>obtain ⟨e,_⟩:=x;exact az e
 | tbl ps=>exact az (show h.get? a=some _ from x)
 | met f y=>exact az (show h.get? a=some _ from x)
 | ext φ=>obtain ⟨_,⟨_,e⟩,_⟩:=x;exact az e
theorem Paired.mapP:∀ {l₁:List α}{l₂:List β},Paired F l₁ l₂->(∀ a b,F a b->G a b)->Paired G l₁ l₂
 | _,_,.nil,_ => .nil
 | _,_,.cons r t,f => .cons (f _ _ r) (Paired.mapP t f)
theorem Yj.stay (x:Yj P w H h a o) (k:∀ b u,(b=a\/H b=some (.own a))->h.get? b=some u->h'.get? b=some u)
  (ho:∀ b,H b=some (.own a)->H' b=some (.own a)) (ht:∀ b xs,H b=some (.tup xs)->H' b=some (.tup xs)):Yj P w H' h' a o:=by
 induction o with
 | lst xs=>obtain ⟨z,its,n,r,e⟩:=x;exact ⟨z,its,n,r,k _ _ (.inl rfl) e⟩
 | tup xs=>obtain ⟨z,its,r,ob,e,c⟩:=x;exact ⟨z,its,r,ob,k _ _ (.inl rfl) e,c⟩
 | dK kvs=>obtain ⟨z,y,vs,r,ob,es,ep,e,c⟩:=x;exact ⟨z,y,vs,r,ob,es,ep,k _ _ (.inl rfl) e,c⟩
 | dT kvs =>
  obtain ⟨z,y,xs,r,ob,es,ep,e,c⟩:=x
  exact ⟨z,y,xs,Paired.mapP r λp q z=>⟨z.1,ht _ _ z.2.1,z.2.2⟩,ob,es,ep,k _ _ (.inl rfl) e,c⟩
 | set S n=>obtain ⟨ob,es,ep,t,e,c⟩:=x;exact ⟨ob,es,ep,t,k _ _ (.inl rfl) e,c⟩
 | ins C dx fs =>
  obtain ⟨d,z,ne,e,mA,⟨od,es,ep,e2,c⟩,r⟩:=x
  exact ⟨ho _ d,z,ne,k _ _ (.inl rfl) e,mA,⟨od,es,ep,k _ _ (.inr d) e2,c⟩,r⟩
 | own y=>obtain ⟨ob,e⟩:=x;exact ⟨ob,k _ _ (.inl rfl) e⟩
 | xd fs=>obtain ⟨mA,⟨od,es,ep,e,c⟩,r⟩:=x;exact ⟨mA,⟨od,es,ep,k _ _ (.inl rfl) e,c⟩,r⟩
 | rng lo hi=>obtain ⟨t,u,v,e⟩:=x;exact ⟨t,u,v,k _ _ (.inl rfl) e⟩
 | frz ob u ih=>obtain ⟨e,q⟩:=x;exact ⟨k _ _ (.inl rfl) e,ih q⟩
 | tbl ps =>
  have e:h.get? a=some { cls := .none,data := .fields ps }:=x
  show h'.get? a=some { cls := .none,data := .fields ps }
  exact k a _ (.inl rfl) e
 | met f y =>
  have e:h.get? a=some (methodObj (.ref f) (.ref y)):=x
  show h'.get? a=some (methodObj (.ref f) (.ref y))
  exact k a _ (.inl rfl) e
 | ext φ=>obtain ⟨p,⟨o,e⟩,st⟩:=x;exact ⟨st _ _ p λo q=>k _ _ (.inl rfl) q,⟨o,k _ _ (.inl rfl) e⟩,st⟩
theorem HOk.lt (x:HOk P w H h) (e:H a=some o):a < h.objs.size:=(x a o e).lt
theorem HOk.fresh (x:HOk P w H h) (e:h.objs.size<=a):H a=none:=by
 cases q:H a with
 | none=>rfl
 | some u=>exact absurd (Nat.lt_of_lt_of_le (x.lt q) e) (Nat.lt_irrefl _)
theorem HOk.kept (x:HOk P w H h) (k:∀ b u,h.get? b=some u->h'.get? b=some u):HOk P w H h':=λa o e =>
 (x a o e).stay (λb u _ q=>k b u q) (λ_ q=>q) λ_ _ q=>q
theorem HOk.laid (x:HOk P w H h) (k:∀ b u,h.get? b=some u->h'.get? b=some u) (hp:h.objs.size<=a) (new:Yj P w (upd H a o) h' a o):HOk P w (upd H a o) h':=λb u e=>by
 have hn:=x.fresh hp
 by_cases hb:b=a
 ·subst hb;rw [Zy] at e;cases e;exact new
 ·rw [Zj hb] at e
  exact (x b u e).stay (λc v _ q=>k c v q) (λc q=>by rw [Zj (ZC q hn)];exact q) λc xs q=>by rw [Zj (ZC q hn)];exact q
end
noncomputable def Rd (H:Hp) (a:Addr) (u:HO):Prop:=H a=some u\/∃ o,H a=some (.frz o u)
theorem Rd.of (h:H a=some u):Rd H a u := .inl h
theorem Rd.ok (r:Rd H a u) (x:HOk P w H h):Yj P w H h a u:=by
 rcases r with r | ⟨o,r⟩
 ·exact x a u r
 ·obtain ⟨_,q⟩:=x a _ r
  exact q
noncomputable def Mut:Option HO->Prop
 | some (.lst _)=>True
 | some (.dK _)=>True
 | some (.dT _)=>True
 | some (.set _ _)=>True
 | some (.ins _ _ _)=>True
 | some (.ext _)=>True
 | _=>False
section
variable {P:Program}{w:World}{H:Hp}{h h':Heap}{x e:Addr}{o':HO}
theorem HOk.write (ok:HOk P w H h) (mu:Mut (H x)) (he:e=x\/H e=some (.own x)) (k:∀ b u,b≠e->h.get? b=some u->h'.get? b=some u) (heo:∃ u,h'.get? e=some u)
  (new:Yj P w (upd H x o') h' x o'):HOk P w (upd H x o') h':=λb u q=>by
 have nown:∀ c y,H c=some (.own y)->c≠x:=λc y r z=>by subst z;rw [r] at mu;exact mu
 have ntup:∀ c xs,H c=some (.tup xs)->c≠x:=λc xs r z=>by subst z;rw [r] at mu;exact mu
 by_cases hb:b=x
 ·subst hb;rw [Zy] at q;cases q;exact new
 ·rw [Zj hb] at q
  by_cases hbe:b=e
  ·have q':H b=some (.own x):=by
    rcases he with z | z
    ·exact absurd (hbe.trans z) hb
    ·rw [hbe];exact z
   rw [q] at q';cases q'
   obtain ⟨v,hv⟩:=heo
   exact ⟨v,by rw [hbe];exact hv⟩
  ·refine (ok b u q).stay (λc v hc r=>k c v ?_ r) (λc r=>by rw [Zj (nown c b r)];exact r) λc xs r=>by rw [Zj (ntup c xs r)];exact r
   rcases hc with rfl | hc
   ·exact hbe
   ·rintro rfl
    rcases he with z | z
    ·exact nown c b hc z
    ·rw [hc] at z;cases z;exact hb rfl
end
structure Un (fs ex:List Addr) (H H':Hp) (h h':Heap):Prop where
 keep:∀ b o,h.get? b=some o->H b=none->b∉fs->b∉ex->h'.get? b=some o
 slot:∀ b o,h.get? b=some o->H b=none->b∈fs->b∉ex->∃ sl,h'.get? b=some { o with slots:=sl }
 free:∀ b o,h.get? b=some o->H b=none->b∉ex->H' b=none
 there:∀ b o,h.get? b=some o->b∉ex->∃ o',h'.get? b=some o'
 tups:∀ b xs,H b=some (.tup xs)->H' b=some (.tup xs)
 frzs:∀ b o u,H b=some (.frz o u)->H' b=some (.frz o u)
 tbls:∀ b ps,H b=some (.tbl ps)->∃ more,H' b=some (.tbl (ps++more))
section
variable {fs fs' ex ex':List Addr}{H H1 H2:Hp}{h h1 h2 h':Heap}{a x e:Addr}{o:HO}
theorem Un.any (u:Un fs ex H H1 h h1) (q:h.get? b=some ob) (n:H b=none) (hx:b∉ex):∃ sl,h1.get? b=some { ob with slots:=sl }:=by
 by_cases hb:b∈fs
 ·exact u.slot b ob q n hb hx
 ·exact ⟨ob.slots,u.keep b ob q n hb hx⟩
theorem Un.trans (a:Un fs ex H H1 h h1) (b:Un fs ex H1 H2 h1 h2):Un fs ex H H2 h h2 where
 keep:=λc ob q n hc hx=>b.keep c ob (a.keep c ob q n hc hx) (a.free c ob q n hx) hc hx
 slot:=λc ob q n hc hx=>by
  obtain ⟨sl,e1⟩:=a.slot c ob q n hc hx
  obtain ⟨sl',e2⟩:=b.slot c _ e1 (a.free c ob q n hx) hc hx
  exact ⟨sl',e2⟩
 free:=λc ob q n hx=>by
  obtain ⟨o',e1⟩:=a.there c ob q hx
  exact b.free c o' e1 (a.free c ob q n hx) hx
 there:=λc ob q hx=>by
  obtain ⟨o',e1⟩:=a.there c ob q hx
  exact b.there c o' e1 hx
 tups:=λc xs q=>b.tups c xs (a.tups c xs q)
 frzs:=λc ob xs q=>b.frzs c ob xs (a.frzs c ob xs q)
 tbls:=λc ps q=>by
  obtain ⟨m1,e1⟩:=a.tbls c ps q
  obtain ⟨m2,e2⟩:=b.tbls c _ e1
  exact ⟨m1++m2,by rw [e2,Array.append_assoc]⟩
theorem Un.kept (k:∀ b u,h.get? b=some u->h'.get? b=some u):Un fs ex H H h h' :=
 ⟨λb ob q _ _ _=>k b ob q,λb ob q _ _ _=>⟨ob.slots,k b ob q⟩,λ_ _ _ n _=>n,λb ob q _=>⟨ob,k b ob q⟩,λ_ _ q=>q,λ_ _ _ q=>q,λ_ ps q=>⟨#[],by rw [q];simp⟩⟩
theorem Un.refl:Un fs ex H H h h:=Un.kept λ_ _ q=>q
theorem Un.laid (k:∀ b u,h.get? b=some u->h'.get? b=some u) (hp:h.objs.size<=a) (hn:H a=none):Un fs ex H (upd H a o) h h' where
 keep:=λb u q _ _ _=>k b u q
 slot:=λb u q _ _ _=>⟨u.slots,k b u q⟩
 free:=λb u q n _=>by rw [Zj (Nat.ne_of_lt (Nat.lt_of_lt_of_le (az q) hp))];exact n
 there:=λb u q _=>⟨u,k b u q⟩
 tups:=λb xs q=>by rw [Zj (ZC q hn)];exact q
 frzs:=λb u xs q=>by rw [Zj (ZC q hn)];exact q
 tbls:=λb ps q=>⟨#[],by rw [Zj (ZC q hn),q];simp⟩
theorem Un.write (mu:Mut (H x)) (he:e=x\/H e=some (.own x)) (k:∀ b u,b≠e->h.get? b=some u->h'.get? b=some u) (heo:∃ u,h'.get? e=some u):Un fs ex H (upd H x o) h h':=by
 have hx:∀ b,H b=none->b≠x:=λb n z=>by subst z;rw [n] at mu;exact mu
 have hb:∀ b,H b=none->b≠e:=λb n z=>by
  subst z
  rcases he with r | r
  ·exact hx b n r
  ·rw [n] at r;cases r
 have hm:∀ b u,H b=some u->¬ Mut (some u)->b≠x:=λb u q nm z=>by subst z;rw [q] at mu;exact nm mu
 refine ⟨λb u q n _ _=>k b u (hb b n) q,λb u q n _ _=>⟨u.slots,k b u (hb b n) q⟩,λb u q n _=>by rw [Zj (hx b n)];exact n,λb u q _=>?_,
  λb xs q=>by rw [Zj (hm b _ q λz=>z)];exact q,λb u xs q=>by rw [Zj (hm b _ q λz=>z)];exact q,λb ps q=>⟨#[],by rw [Zj (hm b _ q λz=>z),q];simp⟩⟩
 by_cases hbe:b=e
 ·subst hbe;exact heo
 ·exact ⟨u,k b u hbe q⟩
theorem Un.mono (u:Un fs ex H H1 h h1) (hs:∀ b∈fs,b∈fs') (hx:∀ b∈ex,b∈ex'):Un fs' ex' H H1 h h1 :=
 ⟨λb ob q n hb he=>u.keep b ob q n (λz=>hb (hs b z)) λz=>he (hx b z),λ_ _ q n _ he=>u.any q n λz=>he (hx _ z),λb ob q n he=>u.free b ob q n λz=>he (hx b z),λb ob q he=>u.there b ob q λz=>he (hx b z),u.tups,u.frzs,u.tbls⟩
end
noncomputable def trk (h:Heap) (H:Hp):List Addr:=(List.range h.objs.size).filter λa=>(H a).isSome
noncomputable def GA (h:Heap) (H:Hp):Heap:=hideAll h (trk h H)
theorem yB (h:Heap) (H:Hp):(GA h H).objs.size=h.objs.size:=PySem.W.hideAll_size _ _
theorem vU (e:h.get? b=some o) (n:H b=none):(GA h H).get? b=some o :=
 PySem.W.hideAll_get _ e λhm=>by
  have q:(H b).isSome=true:=(mem_filter.mp hm).2
  rw [n] at q;simp at q
theorem qY (e:(GA h H).get? b=some o):h.get? b=some o/\H b=none:=by
 have e':h.get? b=some o:=PySem.W.of_hideAll (trk h H) e
 refine ⟨e',?_⟩
 cases q:H b with
 | none=>rfl
 | some x =>
  have hm:b∈trk h H:=mem_filter.mpr ⟨mem_range.mpr (az e'),by simp [q]⟩
  have z:(GA h H).get? b=none:=PySem.W.hideAll_none (trk h H) hm
  rw [z] at e;cases e
noncomputable def qZ (g h:Heap) (L:Addr):List (Addr × Obj):=(List.range h.objs.size).filterMap λa=>if a=L\/(g.get? a).isSome=true then none else (h.get? a).map λo=>(a,o)
noncomputable def rest (g h:Heap) (L d:Addr):List (Addr × Obj):=(qZ g h L).filter λp=>decide (p.1≠d)
structure Mod (K:aj) (mg:Str->Option Value) (base:Heap):Prop where
 kin:K.In base
 glob:base.Ns mainGlobals mg
 blt:∃ mb,base.Ns builtinsNs mb/\∀ x:Str,x ≠ "__name__" -> mb x=bootBuiltins x
 nolimit:base.NoLimit
structure Cx where
 prog:Program
 w:World
 K:aj
 mg:Str->Option Value
 base:Heap
 A:Around
 N:List Str
 s₀:Shared
 H₀:Hp
 env:Env
 outer:List Env
 stack:List Env
 ex:List Addr
 fn:Str->Bool
 calm:Bool
 pn:List (Addr × Obj)
 xe:Value->Shared->Prop
noncomputable def frs (l:List Env):List Addr:=l.filterMap (·.frame)
abbrev Cx.fs (X:Cx):List Addr:=frs X.outer
noncomputable def Vis (sc:Scope) (x:Str):Prop:=sc.names.lookup x=some .local\/sc.names.lookup x=some .cell\/sc.names.lookup x=some .free
noncomputable def Loc (sc:Scope) (x:Str):Prop:=sc.names.lookup x=some .local\/sc.names.lookup x=some .cell
noncomputable def Look (env:Env) (h:Heap) (m:Str->Option Value) (x:Str) (u:Value):Prop :=
 (env.kindOf x=some .local/\m x=some u)\/((env.kindOf x=some .cell\/env.kindOf x=some .free)/\∃ c,env.cells.lookup x=some c/\h.IsCell c (some u))
structure Cx.Ok (X:Cx):Prop where
 mod:Mod X.K X.mg X.base
 kind:X.env.scope.kind = .function
 glob:X.env.globals=mainGlobals
 blt:X.env.builtins=builtinsNs
 above:X.s₀.heap.objs.size<=X.env.locals
 inj:∀ x y c,X.env.cells.lookup x=some c->X.env.cells.lookup y=some c->x=y
 has:∀ x,(X.env.kindOf x=some .cell\/X.env.kindOf x=some .free)->∃ c,X.env.cells.lookup x=some c
 cab:∀ x c,X.fn x=true->X.env.cells.lookup x=some c->X.s₀.heap.objs.size<=c
 hd:X.calm=true->X.A.handled=none
 frames:X.A.frames=some X.stack
 stk:X.stack=X.outer\/(X.stack=X.env::X.outer/\X.env.frame=some X.env.locals)
 exf:∀ b∈X.ex,b≠X.env.locals/\∀ x c,X.env.cells.lookup x=some c->c≠b
 bs:∀ b o,X.base.get? b=some o->X.s₀.heap.get? b=some o/\X.H₀ b=none
 bsz:X.base.objs.size<=X.s₀.heap.objs.size
 noex:∀ b o,X.base.get? b=some o->b∉X.ex
 exfs:∀ b∈X.ex,b∉X.fs
 RV:X.s₀.heap.FunFrames X.base X.outer
 frf:∀ b∈X.fs,X.H₀ b=none
structure Inv (X:Cx) (pins:List (Addr × Obj)) (σ:List (Option V)) (H:Hp) (s:Shared):Prop where
 ok:X.Ok
 os:s.os=X.s₀.os
 bare:AllBare s.gens
 base:Un X.fs X.ex X.H₀ H X.s₀.heap s.heap
 loc:∃ m,s.heap.Ns X.env.locals m/\∀ (i:Nat) (x:Str) (v:V),X.N[i]?=some x->σ[i]?=some (some v)->Vis X.env.scope x->∃ u,RelV v u/\Look X.env s.heap m x u
 cell:∀ x c,X.env.cells.lookup x=some c->∃ v,s.heap.IsCell c v
 free:H X.env.locals=none
 freeC:∀ x c,X.env.cells.lookup x=some c->H c=none
 pin:∀ p∈X.pn++pins,s.heap.get? p.1=some p.2/\H p.1=none/\p.1≠X.env.locals/\p.1∉X.fs/\∀ v,p.2.data ≠ .cell v
 hok:HOk X.prog X.w H s.heap
 len:σ.length=X.N.length
section
variable {X:Cx}{pins:List (Addr × Obj)}{σ:List (Option V)}{H H':Hp}{s:Shared}{h':Heap}
theorem Cx.Ok.nofr (ok:X.Ok) (e:X.base.get? b=some o):b∉X.fs:=λhb=>by
 have:=(ok.RV.mem hb).1
 rw [e] at this;cases this
theorem Inv.bs (I:Inv X pins σ H s):∀ b o,X.base.get? b=some o->s.heap.get? b=some o/\H b=none:=λb o e =>
 ⟨I.base.keep b o (I.ok.bs b o e).1 (I.ok.bs b o e).2 (I.ok.nofr e) (I.ok.noex b o e),I.base.free b o (I.ok.bs b o e).1 (I.ok.bs b o e).2 (I.ok.noex b o e)⟩
theorem Inv.bk (I:Inv X pins σ H s):∀ b o,X.base.get? b=some o->s.heap.get? b=some o:=λb o e=>(I.bs b o e).1
theorem Inv.mod (I:Inv X pins σ H s):Mod X.K X.mg X.base:=I.ok.mod
theorem Inv.kIn (I:Inv X pins σ H s):X.K.In s.heap:=I.ok.mod.kin.keeps I.bk
theorem Inv.fr (I:Inv X pins σ H s):∃ m,Fr X.base X.env.locals s.heap m :=
 let ⟨m,hn,_⟩:=I.loc
 ⟨m,hn,I.bk,Nat.le_trans I.ok.bsz I.ok.above⟩
theorem Inv.lt (I:Inv X pins σ H s):X.env.locals < s.heap.objs.size:=let ⟨_,hn,_⟩:=I.loc;hn.lt
theorem Inv.sz (I:Inv X pins σ H s):X.s₀.heap.objs.size<=s.heap.objs.size:=Nat.le_trans I.ok.above (Nat.le_of_lt I.lt)
theorem Inv.nofs (I:Inv X pins σ H s) (h:s.heap.objs.size<=a):a∉X.fs:=λhb=>by
 obtain ⟨_,o,ho,_⟩:=I.ok.RV.mem hb
 exact absurd (Nat.lt_of_lt_of_le (az ho) (Nat.le_trans I.sz h)) (Nat.lt_irrefl _)
theorem Inv.cne (I:Inv X pins σ H s):∀ x c,X.env.cells.lookup x=some c->c≠X.env.locals:=λx c e z=>by
 obtain ⟨v,o,ho,hd⟩:=I.cell x c e
 obtain ⟨m,⟨o',es,ep,ho',hd',_⟩,_⟩:=I.loc
 rw [z,ho'] at ho;cases ho;rw [hd'] at hd;cases hd
theorem Inv.RV (I:Inv X pins σ H s):s.heap.FunFrames X.base X.outer:=by
 have all:∀ (l:List Env),(∀ b∈frs l,b∈X.fs)->X.s₀.heap.FunFrames X.base l->s.heap.FunFrames X.base l:=by
  intro l
  induction l with
  | nil=>intro _ _;trivial
  | cons env r ih =>
   intro hs hl
   obtain ⟨hk,⟨L,o,hf,hn,ho,hd⟩,hr⟩:=hl
   have hL:L∈X.fs:=hs L (by unfold frs;rw [filterMap_cons,hf];exact mem_cons_self)
   obtain ⟨sl,e⟩:=I.base.slot L o ho (I.ok.frf L hL) hL λz=>I.ok.exfs L z hL
   exact ⟨hk,⟨L,_,hf,hn,e,hd⟩,ih (λb hb=>hs b (by unfold frs;rw [filterMap_cons,hf];exact mem_cons_of_mem _ hb)) hr⟩
 exact all X.outer (λ_ hb=>hb) I.ok.RV
theorem Inv.stack (I:Inv X pins σ H s):s.heap.FunFrames X.base X.stack:=by
 rcases I.ok.stk with e | ⟨e,hf⟩
 ·rw [e];exact I.RV
 ·rw [e]
  obtain ⟨m,hn,_⟩:=I.loc
  refine .cons (by rw [I.ok.kind];decide) hf hn ?_ I.RV
  exact Heap.get?_none_of_le (Nat.le_trans I.ok.bsz I.ok.above)
theorem Inv.MK (I:Inv X pins σ H s):∀ b∈frs X.stack,b∈X.env.locals::X.fs:=λb hb=>by
 rcases I.ok.stk with e | ⟨e,hf⟩
 ·rw [e] at hb;exact mem_cons_of_mem _ hb
 ·rw [e] at hb
  unfold frs at hb
  rw [filterMap_cons,hf] at hb
  exact hb
theorem Inv.zo (I:Inv X pins σ H s):∀ b∈frs X.stack,H b=none:=λb hb=>by
 rcases mem_cons.mp (I.MK b hb) with e | hb
 ·rw [e];exact I.free
 ·obtain ⟨_,o,ho,_⟩:=I.ok.RV.mem hb
  exact I.base.free b o ho (I.ok.frf b hb) λz=>I.ok.exfs b z hb
theorem Inv.step {ch:List Addr}(I:Inv X pins σ H s)
  (hch:∀ b∈ch,(b∈X.ex\/X.s₀.heap.objs.size<=b)/\b≠X.env.locals/\(∀ x c,X.env.cells.lookup x=some c->c≠b)/\∀ p∈X.pn++pins,p.1≠b)
  (keep:∀ b o,b≠X.env.locals->b∉X.fs->b∉ch->s.heap.get? b=some o->H b=none->h'.get? b=some o)
  (slot:∀ b o,b≠X.env.locals->b∈X.fs->b∉ch->s.heap.get? b=some o->H b=none->∃ sl,h'.get? b=some { o with slots:=sl }) (free:∀ b o,b∉ch->s.heap.get? b=some o->H b=none->H' b=none)
  (there:∀ b o,b∉ch->s.heap.get? b=some o->∃ o',h'.get? b=some o')
  (tups:∀ b xs,H b=some (.tup xs)->H' b=some (.tup xs)) (frzs:∀ b o u,H b=some (.frz o u)->H' b=some (.frz o u)) (tbls:∀ b ps,H b=some (.tbl ps)->∃ more,H' b=some (.tbl (ps++more)))
  (ns:∀ m,s.heap.Ns X.env.locals m->h'.Ns X.env.locals m) (hok:HOk X.prog X.w H' h') (hg:AllBare g') :
  Inv X pins σ H' { s with heap:=h',gens:=g',drawn:=d',toks:=t' }:=by
 have neL:∀ b o,X.s₀.heap.get? b=some o->b≠X.env.locals:=λb o e=>Nat.ne_of_lt (Nat.lt_of_lt_of_le (az e) I.ok.above)
 have neC:∀ b o,X.s₀.heap.get? b=some o->b∉X.ex->b∉ch:=λb o e hx hb=>by
  rcases (hch b hb).1 with z | z
  ·exact hx z
  ·exact absurd (Nat.lt_of_lt_of_le (az e) z) (Nat.lt_irrefl _)
 have cellK:∀ x c,X.env.cells.lookup x=some c->∀ v,s.heap.IsCell c v->h'.IsCell c v:=λx c e v ⟨o,ho,hd⟩=>by
  have nch:c∉ch:=λz=>(hch c z).2.2.1 x c e rfl
  by_cases hc:c∈X.fs
  ·obtain ⟨sl,q⟩:=slot c o (I.cne x c e) hc nch ho (I.freeC x c e)
   exact ⟨_,q,hd⟩
  ·exact ⟨o,keep c o (I.cne x c e) hc nch ho (I.freeC x c e),hd⟩
 refine ⟨I.ok,I.os,hg,⟨λb o e n hb hx=>?_,λb o e n hb hx=>?_,λb o e n hx=>?_,λb o e hx=>?_,λb xs e=>tups b xs (I.base.tups b xs e),λb o xs e=>frzs b o xs (I.base.frzs b o xs e),λb ps e=>?_⟩,?_,λx c e=>?_,?_,λx c e=>?_,λp hp=>?_,hok,I.len⟩
 ·exact keep b o (neL b o e) hb (neC b o e hx) (I.base.keep b o e n hb hx) (I.base.free b o e n hx)
 ·obtain ⟨sl,e1⟩:=I.base.slot b o e n hb hx
  obtain ⟨sl',e2⟩:=slot b _ (neL b o e) hb (neC b o e hx) e1 (I.base.free b o e n hx)
  exact ⟨sl',e2⟩
 ·obtain ⟨o',e1⟩:=I.base.there b o e hx
  exact free b o' (neC b o e hx) e1 (I.base.free b o e n hx)
 ·obtain ⟨o',e1⟩:=I.base.there b o e hx
  exact there b o' (neC b o e hx) e1
 ·obtain ⟨m1,e1⟩:=I.base.tbls b ps e
  obtain ⟨m2,e2⟩:=tbls b _ e1
  exact ⟨m1++m2,by rw [e2,Array.append_assoc]⟩
 ·obtain ⟨m,hn,hl⟩:=I.loc
  refine ⟨m,ns m hn,λi x v e1 e2 e3=>?_⟩
  obtain ⟨u,r,l⟩:=hl i x v e1 e2 e3
  refine ⟨u,r,?_⟩
  rcases l with l | ⟨k,c,e,z⟩
  ·exact .inl l
  ·exact .inr ⟨k,c,e,cellK x c e _ z⟩
 ·obtain ⟨v,z⟩:=I.cell x c e
  exact ⟨v,cellK x c e v z⟩
 ·obtain ⟨m,⟨o,_,_,ho,_⟩,_⟩:=I.loc
  exact free _ o (λz=>(hch _ z).2.1 rfl) ho I.free
 ·obtain ⟨v,o,ho,hd⟩:=I.cell x c e
  exact free c o (λz=>(hch c z).2.2.1 x c e rfl) ho (I.freeC x c e)
 ·obtain ⟨e,n,ne,nf,d⟩:=I.pin p hp
  have nch:p.1∉ch:=λz=>(hch p.1 z).2.2.2 p hp rfl
  exact ⟨keep p.1 p.2 ne nf nch e n,free p.1 p.2 nch e n,ne,nf,d⟩
theorem Inv.un {t':Nat}(I:Inv X pins σ H s) (u:Un X.fs [] H H' s.heap h') (hok:HOk X.prog X.w H' h'):Inv X pins σ H' { s with heap:=h',toks:=t' }:=by
 obtain ⟨m,⟨o,es,ep,ho,r⟩,_⟩:=id I.loc
 obtain ⟨sl,hL⟩:=u.any ho I.free (by simp)
 exact I.step (g':=s.gens) (d':=s.drawn) (ch:=[]) (λ_ z=>nomatch z) (λb o _ hb _ e n=>u.keep b o e n hb (by simp)) (λb o _ hb _ e n=>u.slot b o e n hb (by simp)) (λb o _ e n=>u.free b o e n (by simp)) (λb o _ e=>u.there b o e (by simp)) u.tups u.frzs u.tbls (λm' hm=>by
  obtain ⟨o',es',ep',ho',r'⟩:=hm
  rw [ho] at ho';cases ho'
  exact ⟨_,es',ep',hL,r'⟩) hok I.bare
theorem Inv.call {ch:List Addr}(I:Inv X pins σ H s) (u:Un (frs X.stack) ch H H' s.heap h') (hok:HOk X.prog X.w H' h') (hg:AllBare g')
  (hch:∀ b∈ch,(b∈X.ex\/X.s₀.heap.objs.size<=b)/\b≠X.env.locals/\(∀ x c,X.env.cells.lookup x=some c->c≠b)/\∀ p∈X.pn++pins,p.1≠b) :
  Inv X pins σ H' { s with heap:=h',gens:=g',drawn:=d',toks:=t' }:=by
 obtain ⟨m,⟨o,es,ep,ho,r⟩,_⟩:=id I.loc
 obtain ⟨sl,hL⟩:=u.any ho I.free λz=>(hch _ z).2.1 rfl
 exact I.step (ch:=ch) hch (λb o hL hb hc e n=>u.keep b o e n (λz=>(mem_cons.mp (I.MK b z)).elim hL hb) hc) (λb o _ _ hc e n=>u.any e n hc) (λb o hc e n=>u.free b o e n hc) (λb o hc e=>u.there b o e hc) u.tups u.frzs u.tbls (λm' hm=>by
  obtain ⟨o',es',ep',ho',r'⟩:=hm
  rw [ho] at ho';cases ho'
  exact ⟨_,es',ep',hL,r'⟩) hok hg
theorem Inv.turned (I:Inv X pins σ H s) (k:∀ b o,b≠it->s.heap.get? b=some o->h'.get? b=some o) (hn:H it=none) (hL:it≠X.env.locals)
  (h1:it∈X.ex\/X.s₀.heap.objs.size<=it) (h2:∀ x c,X.env.cells.lookup x=some c->c≠it) (h3:∀ p∈X.pn++pins,p.1≠it):Inv X pins σ H { s with heap:=h',toks:=t' }:=by
 have nit:∀ b u,H b=some u->b≠it:=λb u e z=>by rw [z,hn] at e;cases e
 refine I.step (g':=s.gens) (d':=s.drawn) (ch:=[it]) (λb hb=>?_) (λb o _ _ hc e _=>k b o (λz=>hc (by simp [z])) e) (λb o _ _ hc e _=>⟨o.slots,k b o (λz=>hc (by simp [z])) e⟩) (λ_ _ _ _ n=>n)
  (λb o hc e=>⟨o,k b o (λz=>hc (by simp [z])) e⟩) (λ_ _ e=>e) (λ_ _ _ e=>e) (λb ps e=>⟨#[],by rw [e];simp⟩) (λm hm=>?_) (λb u e=>?_) I.bare
 ·have e:b=it:=by simpa using hb
  subst e
  exact ⟨h1,hL,h2,h3⟩
 ·obtain ⟨o,es,ep,ho,r⟩:=hm
  exact ⟨o,es,ep,k _ o (Ne.symm hL) ho,r⟩
 ·refine (I.hok b u e).stay (λc v hc q=>k c v ?_ q) (λ_ q=>q) λ_ _ q=>q
  rcases hc with z | z
  ·rw [z];exact nit b u e
  ·exact nit c _ z
theorem Inv.tok (I:Inv X pins σ H s) (t:Nat):Inv X pins σ H { s with toks:=t }:=I.un (h':=s.heap) (t':=t) Un.refl I.hok
theorem Inv.kept (I:Inv X pins σ H s) (k:∀ b u,s.heap.get? b=some u->h'.get? b=some u):Inv X pins σ H { s with heap:=h',toks:=t' }:=I.un (Un.kept k) (I.hok.kept k)
theorem Inv.laid (I:Inv X pins σ H s) (k:∀ b u,s.heap.get? b=some u->h'.get? b=some u) (hp:s.heap.objs.size<=a) (new:Yj X.prog X.w (upd H a o) h' a o) :
  Inv X pins σ (upd H a o) { s with heap:=h',toks:=t' }:=I.un (Un.laid k hp (I.hok.fresh hp)) (I.hok.laid k hp new)
theorem Inv.write (I:Inv X pins σ H s) (mu:Mut (H x)) (he:e=x\/H e=some (.own x)) (k:∀ b u,b≠e->s.heap.get? b=some u->h'.get? b=some u) (heo:∃ u,h'.get? e=some u)
  (new:Yj X.prog X.w (upd H x o) h' x o):Inv X pins σ (upd H x o) { s with heap:=h',toks:=t' }:=I.un (Un.write mu he k heo) (I.hok.write mu he k heo new)
theorem Inv.zr (I:Inv X pins σ H s) (h:∀ p∈pins',s.heap.get? p.1=some p.2/\H p.1=none/\p.1≠X.env.locals/\p.1∉X.fs/\∀ v,p.2.data ≠ .cell v):Inv X pins' σ H s :=
 ⟨I.ok,I.os,I.bare,I.base,I.loc,I.cell,I.free,I.freeC,λp hp=>(mem_append.mp hp).elim (λz=>I.pin p (mem_append_left _ z)) (h p),I.hok,I.len⟩
theorem JD {N:List Str}(hN:N.Nodup) {i j:Nat}(a:N[i]?=some x) (b:N[j]?=some x):i=j:=by
 obtain ⟨h1,e1⟩:=List.getElem?_eq_some_iff.mp a
 obtain ⟨h2,e2⟩:=List.getElem?_eq_some_iff.mp b
 exact (List.getElem_inj hN).mp (e1.trans e2.symm)
theorem HN {M:Model}{A:Around}{u:Value}{Q:Unit->Shared->Prop}(I:Inv X pins σ H s) (hN:X.N.Nodup) (hi:X.N[i]?=some x) (hx:Loc X.env.scope x) (r:RelV v u)
  (h:∀ s',Inv X pins (σ.set i (some v)) H s'->(∃ a,aG a s.heap s'.heap/\(a=X.env.locals\/X.env.cells.lookup x=some a))->Q () s') (hf:X.fn x=true\/X.env.scope.names.lookup x=some .local:=by first | exact .inl rfl | exact .inr rfl | assumption):wpAny M A (storeName X.env x u) Q E s:=by
 obtain ⟨m,hn,hl⟩:=id I.loc
 have hcls:(X.env.scope.kind == .class || (X.env.scope.kind == .module && X.env.locals != X.env.globals))=false:=by rw [I.ok.kind];rfl
 have hiσ:i < σ.length:=by rw [I.len];exact (List.getElem?_eq_some_iff.mp hi).1
 have cne:=I.cne
 have tracked:∀ {a:Addr}{h':Heap},(∃ o,s.heap.get? a=some o/\H a=none)->aG a s.heap h'->HOk X.prog X.w H h':=λ{a h'} ha hs b ob e=>by
  obtain ⟨_,_,hfree⟩:=ha
  refine (I.hok b ob e).stay (λc w' hc q=>(hs.2 c ?_).trans q) (λ_ q=>q) λ_ _ q=>q
  rintro rfl
  rcases hc with rfl | hc
  ·rw [hfree] at e;cases e
  ·rw [hfree] at hc;cases hc
 rcases hx with hk | hk
 ·refine wpAny_storeName_local hk hn (λh' hn' hs=>?_) hcls
  obtain ⟨oL,_,_,hoL,_⟩:=id hn
  refine h _ ⟨I.ok,I.os,I.bare,⟨λb o e n hb hx=>?_,λb o e n hb hx=>?_,I.base.free,λb o e hx=>?_,I.base.tups,I.base.frzs,I.base.tbls⟩,⟨_,hn',λj y v' e1 e2 e3=>?_⟩,λy c e=>?_,I.free,I.freeC,λp hp=>?_,tracked ⟨oL,hoL,I.free⟩ hs,by simpa using I.len⟩ ⟨_,hs,.inl rfl⟩
  ·exact (hs.2 b (Nat.ne_of_lt (Nat.lt_of_lt_of_le (az e) I.ok.above))).trans (I.base.keep b o e n hb hx)
  ·obtain ⟨sl,e1⟩:=I.base.slot b o e n hb hx
   exact ⟨sl,(hs.2 b (Nat.ne_of_lt (Nat.lt_of_lt_of_le (az e) I.ok.above))).trans e1⟩
  ·obtain ⟨o',e1⟩:=I.base.there b o e hx
   exact ⟨o',(hs.2 b (Nat.ne_of_lt (Nat.lt_of_lt_of_le (az e) I.ok.above))).trans e1⟩
  ·by_cases hj:j=i
   ·subst hj
    rw [hi] at e1;cases e1
    rw [getElem?_set_self hiσ] at e2
    cases e2
    exact ⟨u,r,.inl ⟨hk,by simp⟩⟩
   ·rw [getElem?_set_ne (Ne.symm hj)] at e2
    obtain ⟨u',r',q⟩:=hl j y v' e1 e2 e3
    refine ⟨u',r',?_⟩
    rcases q with ⟨k,e⟩ | ⟨k,c,e,z⟩
    ·refine .inl ⟨k,?_⟩
     have:y≠x:=λe=>hj (JD hN e1 (e ▸ hi))
     simp [this,e]
    ·exact .inr ⟨k,c,e,z.sameBut hs (cne y c e)⟩
  ·obtain ⟨w',z⟩:=I.cell y c e
   exact ⟨w',z.sameBut hs (cne y c e)⟩
  ·obtain ⟨e,n,ne,nf,d⟩:=I.pin p hp
   exact ⟨(hs.2 p.1 ne).trans e,n,ne,nf,d⟩
 ·have hfn:X.fn x=true:=by
   rcases hf with z | z
   ·exact z
   ·rw [z] at hk;cases hk
  obtain ⟨c,hc⟩:=I.ok.has x (.inl hk)
  obtain ⟨w',z⟩:=I.cell x c hc
  refine wpAny_storeName_cell I.ok.kind hk hc z (λh' hc' hs=>?_)
  obtain ⟨oc,hoc,hocd⟩:=id z
  refine h { s with heap:=h' } ⟨I.ok,I.os,I.bare,⟨λb o e n hb hx=>?_,λb o e n hb hx=>?_,I.base.free,λb o e hx=>?_,I.base.tups,I.base.frzs,I.base.tbls⟩,⟨m,hn.sameBut hs (Ne.symm (cne x c hc)),λj y v' e1 e2 e3=>?_⟩,λy c' e=>?_,I.free,I.freeC,λp hp=>?_,tracked ⟨oc,hoc,I.freeC x c hc⟩ hs,by simpa using I.len⟩ ⟨c,hs,.inr hc⟩
  ·exact (hs.2 b (Nat.ne_of_lt (Nat.lt_of_lt_of_le (az e) (I.ok.cab x c hfn hc)))).trans (I.base.keep b o e n hb hx)
  ·obtain ⟨sl,e1⟩:=I.base.slot b o e n hb hx
   exact ⟨sl,(hs.2 b (Nat.ne_of_lt (Nat.lt_of_lt_of_le (az e) (I.ok.cab x c hfn hc)))).trans e1⟩
  ·obtain ⟨o',e1⟩:=I.base.there b o e hx
   exact ⟨o',(hs.2 b (Nat.ne_of_lt (Nat.lt_of_lt_of_le (az e) (I.ok.cab x c hfn hc)))).trans e1⟩
  ·by_cases hj:j=i
   ·subst hj
    rw [hi] at e1;cases e1
    rw [getElem?_set_self hiσ] at e2
    cases e2
    exact ⟨u,r,.inr ⟨.inl hk,c,hc,hc'⟩⟩
   ·rw [getElem?_set_ne (Ne.symm hj)] at e2
    obtain ⟨u',r',q⟩:=hl j y v' e1 e2 e3
    refine ⟨u',r',?_⟩
    rcases q with q | ⟨k,c',e,z'⟩
    ·exact .inl q
    ·refine .inr ⟨k,c',e,z'.sameBut hs ?_⟩
     rintro rfl
     exact hj (JD hN e1 (I.ok.inj _ _ _ e hc ▸ hi))
  ·by_cases hcc:c'=c
   ·subst hcc;exact ⟨_,hc'⟩
   ·obtain ⟨w2,z2⟩:=I.cell y c' e
    exact ⟨w2,z2.sameBut hs hcc⟩
  ·obtain ⟨e,n,ne,nf,d⟩:=I.pin p hp
   refine ⟨(hs.2 p.1 ?_).trans e,n,ne,nf,d⟩
   intro q
   rw [q,hoc] at e
   have q':oc=p.2:=Option.some.inj e
   exact d w' (by rw [<-q'];exact hocd)
theorem RX (I:Inv X pins σ H s) (hN:X.N.Nodup) (hi:X.N[i]?=some x) (hx:Loc X.env.scope x) (r:RelV v u)
  (h:∀ s',Inv X pins (σ.set i (some v)) H s'->Q () s') (hf:X.fn x=true\/X.env.scope.names.lookup x=some .local:=by first | exact .inl rfl | exact .inr rfl | assumption):wpAny M A (storeName X.env x u) Q E s :=
 HN I hN hi hx r (λs' I' _=>h s' I') hf
theorem Inv.call' (I:Inv X pins σ H s) (ho:s'.os=s.os) (u:Un (frs X.stack) ch H H' s.heap s'.heap) (hok:HOk X.prog X.w H' s'.heap) (hg:AllBare s'.gens)
  (hch:∀ b∈ch,(b∈X.ex\/X.s₀.heap.objs.size<=b)/\b≠X.env.locals/\(∀ x c,X.env.cells.lookup x=some c->c≠b)/\∀ p∈X.pn++pins,p.1≠b):Inv X pins σ H' s':=by
 obtain ⟨h',g',d',t',o'⟩:=s'
 have e:o'=s.os:=ho
 subst e
 exact I.call (g':=g') (t':=t') (d':=d') u hok hg hch
end
abbrev XK:=Value->Option Addr->Hp->Prop
abbrev St:=List (Option V)
abbrev VK:=V->Hp->Prop
abbrev TE:=St->Hp->VK->Prop
abbrev TT:=St->Hp->(Bool->Hp->Prop)->Prop
abbrev TA:=St->Hp->(List V->Hp->Prop)->Prop
structure Ends where
 nx:St->Hp->Prop
 rt:VK
 bk:St->Hp->Prop:=λ_ _=>False
 ct:St->Hp->Prop:=λ_ _=>False
abbrev TS:=Ends->St->Hp->Prop
noncomputable def EP (X:Cx) (pins:List (Addr × Obj)) (σ:St) (Q:VK) (u:Value) (s':Shared):Prop:=∃ v H',Inv X pins σ H' s'/\RelV v u/\Q v H'
noncomputable def TP (X:Cx) (pins:List (Addr × Obj)) (σ:St) (Q:Bool->Hp->Prop) (b:Bool) (s':Shared):Prop:=∃ H',Inv X pins σ H' s'/\Q b H'
noncomputable def AP (X:Cx) (pins:List (Addr × Obj)) (σ:St) (Q:List V->Hp->Prop) (us:List Value) (s':Shared):Prop:=∃ vs H',Inv X pins σ H' s'/\Vals vs us/\Q vs H'
noncomputable def SP (X:Cx) (pins:List (Addr × Obj)) (D:Ends) (f:Flow) (s':Shared):Prop :=
 match f with
 | .next=>∃ σ' H',Inv X pins σ' H' s'/\D.nx σ' H'
 | .brk=>∃ σ' H',Inv X pins σ' H' s'/\D.bk σ' H'
 | .cont=>∃ σ' H',Inv X pins σ' H' s'/\D.ct σ' H'
 | .ret u=>∃ v σ' H',Inv X pins σ' H' s'/\RelV v u/\D.rt v H'
noncomputable def PE (X:Cx) (e:Expr) (t:TE):Prop :=
 ∀ (pins:List (Addr × Obj)) (s:Shared) (σ:St) (H:Hp) (Q:VK),Inv X pins σ H s->t σ H Q->wpAny (model X.prog X.w) X.A (eval e X.env) (EP X pins σ Q) X.xe s
noncomputable def PT (X:Cx) (e:Expr) (t:TT):Prop :=
 ∀ (pins:List (Addr × Obj)) (s:Shared) (σ:St) (H:Hp) (Q:Bool->Hp->Prop),Inv X pins σ H s->t σ H Q->wpAny (model X.prog X.w) X.A (isTrue e X.env (eval e X.env)) (TP X pins σ Q) X.xe s
noncomputable def PW (X:Cx) (e:Expr) (t:TT):Prop :=
 ∀ (whole:Sem Value) (pins:List (Addr × Obj)) (s:Shared) (σ:St) (H:Hp) (Q:Bool->Hp->Prop),Inv X pins σ H s->t σ H Q->wpAny (model X.prog X.w) X.A (isTrue e X.env whole) (TP X pins σ Q) X.xe s
theorem PW.pt (h:PW X e t):PT X e t:=h _
noncomputable def PA (X:Cx) (es:List Expr) (t:TA):Prop :=
 ∀ (pos:Pos) (pins:List (Addr × Obj)) (s:Shared) (σ:St) (H:Hp) (Q:List V->Hp->Prop),Inv X pins σ H s->t σ H Q->wpAny (model X.prog X.w) X.A (spliced (backTo pos (starEach es X.env))) (AP X pins σ Q) X.xe s
noncomputable def PS (X:Cx) (st:Stmt) (t:TS):Prop :=
 ∀ (pins:List (Addr × Obj)) (s:Shared) (σ:St) (H:Hp) (D:Ends),Inv X pins σ H s->t D σ H->wpAny (model X.prog X.w) X.A (exec st X.env) (SP X pins D) X.xe s
noncomputable def PSs (X:Cx) (st:List Stmt) (t:TS):Prop :=
 ∀ (pins:List (Addr × Obj)) (s:Shared) (σ:St) (H:Hp) (D:Ends),Inv X pins σ H s->t D σ H->wpAny (model X.prog X.w) X.A (execs st X.env) (SP X pins D) X.xe s
theorem thn (h:wpAny M A t Q E s) (hQ:∀ a s,Q a s->Q' a s):wpAny M A t Q' E s:=wpAny_mono h hQ λ_ _ x=>x
section
variable {X:Cx}
noncomputable def tVar (i:Nat):TE:=λσ H Q=>∃ v,σ[i]?=some (some v)/\Q v H
noncomputable def tC (v:V):TE:=λ_ H Q=>Q v H
theorem kc (hN:X.N[i]?=some x) (hv:Vis X.env.scope x) (hd:autoParam ((x == ("__debug__" : Str))=false) auD) (hcd:autoParam ((x == ("__classdict__" : Str))=false) auD):PE X (.Name x pos) (tVar i):=by
 intro pins s σ H Q I h
 obtain ⟨v,e,h⟩:=h
 obtain ⟨m,hn,hl⟩:=I.loc
 obtain ⟨u,r,l⟩:=hl i x v hN e hv
 have fin:EP X pins σ Q u s:=⟨v,H,I,r,h⟩
 rcases l with ⟨hk,hm⟩ | ⟨hk,c,hc,hcell⟩
 ·exact wpAny_Name (wpAny_loadName_local I.ok.kind hk hn hm fin) hd
 ·rcases hk with hk | hk
  ·exact wpAny_Name (wpAny_loadName_cell I.ok.kind hk hc hcell fin) hd
  ·exact wpAny_Name (wpAny_loadName_free I.ok.kind hk hc hcell fin hcd) hd
theorem kh:PE X (.Constant (.int i) j pos) (tC (.int i)):=λ_ _ _ H _ I h=>wpAny_Constant_int ⟨.int i,H,I.tok _,⟨_,rfl⟩,h⟩
theorem pe_bl:PE X (.Constant (.bool b) j pos) (tC (.bl b)):=λ_ _ _ H _ I h=>Constant_bool ⟨.bl b,H,I,rfl,h⟩
theorem kj:PE X (.Constant .none j pos) (tC .non):=λ_ _ _ H _ I h=>Constant_none ⟨.non,H,I,rfl,h⟩
theorem kr:PE X (.Constant (.str x) j pos) (tC (.str x)):=λ_ _ _ H _ I h=>Calls.Constant_str ⟨.str x,H,I.tok _,⟨_,rfl⟩,h⟩
noncomputable def Gl (X:Cx) (x:Str):Prop:=X.env.kindOf x=some .globalImplicit
theorem QP (I:Inv X pins σ H s) (hg:Gl X x) (hm:X.mg x=some u) (h:Q u s)
  (hd:autoParam ((x == ("__debug__" : Str))=false) auD):wpAny (model X.prog X.w) X.A (eval (.Name x pos) X.env) Q E s :=
 Calls.Name_function_global I.ok.kind hg (Calls.loadGlobal_global (by rw [I.ok.glob];exact I.mod.glob.keeps I.bk) hm h) hd
theorem ML (I:Inv X pins σ H s) (hg:Gl X x) (hm:X.mg x=none) (hv:bootBuiltins x=some u) (h:Q u s)
  (hn:autoParam (x ≠ "__name__" ) auD) (hd:autoParam ((x == ("__debug__" : Str))=false) auD):wpAny (model X.prog X.w) X.A (eval (.Name x pos) X.env) Q E s:=by
 obtain ⟨mb,h1,h2⟩:=I.mod.blt
 exact Calls.Name_function_global I.ok.kind hg (Calls.loadGlobal_builtin (by rw [I.ok.glob];exact I.mod.glob.keeps I.bk) hm (by rw [I.ok.blt];exact h1.keeps I.bk) ((h2 x hn).trans hv) h) hd
theorem pd (hg:Gl X x) (hm:X.mg x=some u) (r:RelV v u) (hd:autoParam ((x == ("__debug__" : Str))=false) auD):PE X (.Name x pos) (tC v) :=
 λ_ _ _ H _ I h=>QP I hg hm ⟨v,H,I,r,h⟩ hd
theorem ph (hg:Gl X x) (hm:X.mg x=none) (hv:bootBuiltins x=some u) (r:RelV v u) (hn:autoParam (x ≠ "__name__" ) auD) (hd:autoParam ((x == ("__debug__" : Str))=false) auD):PE X (.Name x pos) (tC v) :=
 λ_ _ _ H _ I h=>ML I hg hm hv ⟨v,H,I,r,h⟩ hn hd
variable {a b:Expr}{ta tb:TE}{pos:Pos}
variable {tA tB':TT}{rest:List Expr}
noncomputable def tAnd (t u:TT):TT:=λσ H Q=>t σ H λc H1=>if c=true then u σ H1 Q else Q false H1
noncomputable def tOr (t u:TT):TT:=λσ H Q=>t σ H λc H1=>if c=true then Q true H1 else u σ H1 Q
noncomputable def tNot (t:TT):TT:=λσ H Q=>t σ H λc H1=>Q (!c) H1
theorem pw_and1 (ha:PT X a tA):PW X (.BoolOp .And [a] pos) tA:=by
 intro wh pins s σ H Q I h
 refine isTrue_and (thn (ha pins s σ H Q I h) λc s1 e=>?_)
 cases c with
 | true=>exact isTrue_and_nil e
 | false=>exact e
theorem pw_or1 (ha:PT X a tA):PW X (.BoolOp .Or [a] pos) tA:=by
 intro wh pins s σ H Q I h
 refine isTrue_or (thn (ha pins s σ H Q I h) λc s1 e=>?_)
 cases c with
 | false=>exact isTrue_or_nil e
 | true=>exact e
theorem pw_and (ha:PT X a tA) (hb:PW X (.BoolOp .And (b::rest) pos) tB'):PW X (.BoolOp .And (a::b::rest) pos) (tAnd tA tB'):=by
 intro wh pins s σ H Q I h
 refine isTrue_and (thn (ha pins s σ H _ I h) λc s1 zq=>?_)
 obtain ⟨H1,I1,q1⟩:=zq
 cases c with
 | true=>exact hb wh pins s1 σ H1 Q I1 q1
 | false=>exact ⟨H1,I1,q1⟩
theorem pw_or (ha:PT X a tA) (hb:PW X (.BoolOp .Or (b::rest) pos) tB'):PW X (.BoolOp .Or (a::b::rest) pos) (tOr tA tB'):=by
 intro wh pins s σ H Q I h
 refine isTrue_or (thn (ha pins s σ H _ I h) λc s1 zq=>?_)
 obtain ⟨H1,I1,q1⟩:=zq
 cases c with
 | true=>exact ⟨H1,I1,q1⟩
 | false=>exact hb wh pins s1 σ H1 Q I1 q1
theorem ky (ha:PT X a tA):PT X (.UnaryOp .Not a pos) (tNot tA):=by
 intro pins s σ H Q I h
 exact isTrue_not (ha pins s σ H (λc H1=>Q (!c) H1) I h)
noncomputable def tAndV (ta tb:TE):TE:=λσ H Q=>ta σ H λx H1=>∃ c,x = .bl c/\if c=true then tb σ H1 Q else Q (.bl false) H1
noncomputable def tOrV (ta tb:TE):TE:=λσ H Q=>ta σ H λx H1=>∃ c,x = .bl c/\if c=true then Q (.bl true) H1 else tb σ H1 Q
noncomputable def tNotV (ta:TE):TE:=λσ H Q=>ta σ H λx H1=>∃ c,x = .bl c/\Q (.bl (!c)) H1
theorem kH (h:PE X a t):PE X (.BoolOp op [a] pos) t:=λpins s σ H Q I hw=>BoolOp_one (h pins s σ H Q I hw)
theorem kI (ha:PE X a ta) (hb:PE X (.BoolOp .And (b::rest) pos) tb):PE X (.BoolOp .And (a::b::rest) pos) (tAndV ta tb):=by
 intro pins s σ H Q I h
 refine BoolOp_and (thn (ha pins s σ H _ I h) λv s1 zq=>?_)
 obtain ⟨x,H1,I1,r1,q1⟩:=zq
 obtain ⟨c,rfl,q1⟩:=q1
 cases r1
 refine wpAny_truthy_bool ?_
 cases c with
 | true=>exact hb pins s1 σ H1 Q I1 q1
 | false=>exact ⟨.bl false,H1,I1,rfl,q1⟩
theorem pe_or (ha:PE X a ta) (hb:PE X (.BoolOp .Or (b::rest) pos) tb):PE X (.BoolOp .Or (a::b::rest) pos) (tOrV ta tb):=by
 intro pins s σ H Q I h
 refine BoolOp_or (thn (ha pins s σ H _ I h) λv s1 zq=>?_)
 obtain ⟨x,H1,I1,r1,q1⟩:=zq
 obtain ⟨c,rfl,q1⟩:=q1
 cases r1
 refine wpAny_truthy_bool ?_
 cases c with
 | false=>exact hb pins s1 σ H1 Q I1 q1
 | true=>exact ⟨.bl true,H1,I1,rfl,q1⟩
theorem kJ (ha:PE X a ta):PE X (.UnaryOp .Not a pos) (tNotV ta):=by
 intro pins s σ H Q I h
 refine UnaryOp_ (thn (ha pins s σ H _ I h) λv s1 zq=>?_)
 obtain ⟨x,H1,I1,r1,q1⟩:=zq
 obtain ⟨c,rfl,q1⟩:=q1
 cases r1
 exact not_of (wpAny_truthy_bool ⟨.bl (!c),H1,I1,rfl,q1⟩)
noncomputable def tIf (t:TT) (ta tb:TE):TE:=λσ H Q=>t σ H λc H1=>if c=true then ta σ H1 Q else tb σ H1 Q
theorem vV (hc:PT X c tA) (ha:PE X a ta) (hb:PE X b tb):PE X (.IfExp c a b pos) (tIf tA ta tb):=by
 intro pins s σ H Q I h
 refine wpAny_IfExp (thn (hc pins s σ H _ I h) λd s1 zq=>?_)
 obtain ⟨H1,I1,q1⟩:=zq
 cases d with
 | true=>exact ha pins s1 σ H1 Q I1 q1
 | false=>exact hb pins s1 σ H1 Q I1 q1
end
noncomputable def SqL (K:aj) (H:Hp) (a:Addr) (xs:List V):Prop :=
 Rd H a (.lst xs) \/
  ∃ (o:Obj) (its:Array Value) (n:Nat),K.lookup a=some o/\o.cls = .type "list" /\ o.dict=none/\o.data = .seq its n/\its.size<=aA/\Vals xs its.toList
noncomputable def SqT (K:aj) (H:Hp) (a:Addr) (xs:List V):Prop :=
 Rd H a (.tup xs) \/
  ∃ (o:Obj) (its:Array Value) (n:Nat),K.lookup a=some o/\o.cls = .type "tuple" /\ o.data = .seq its n/\its.size<=aA/\Vals xs its.toList
noncomputable def absV:Value->Option V
 | .none=>some .non
 | .bool b=>some (.bl b)
 | .int i _=>some (.int i)
 | .str x _=>some (.str x)
 | .bytes b _=>some (.byt b)
 | .float b _=>some (.flt b)
 | .ref a=>some (.ref a)
 | .type n=>some (.ty n)
 | _=>none
theorem RelV.abs (r:RelV x u):absV u=some x:=by
 cases x with
 | non=>cases r;rfl
 | bl _=>cases r;rfl
 | int _=>obtain ⟨t,rfl⟩:=r;rfl
 | str _=>obtain ⟨t,rfl⟩:=r;rfl
 | byt _=>obtain ⟨t,rfl⟩:=r;rfl
 | flt _=>obtain ⟨t,rfl⟩:=r;rfl
 | ref _=>cases r;rfl
 | ty _=>cases r;rfl
theorem RelV.inj (r:RelV x u) (q:RelV y u):x=y:=Option.some.inj (r.abs.symm.trans q.abs)
theorem Vals.inj:∀ {xs ys:List V}{us:List Value},Vals xs us->Vals ys us->xs=ys
 | _,_,_,.nil,.nil=>rfl
 | _,_,_,.cons r t,.cons r' t'=>by rw [r.inj r',Vals.inj t t']
section
variable {X:Cx}{pins:List (Addr × Obj)}{σ:St}{H:Hp}{s:Shared}{a:Addr}{xs ys:List V}
theorem SqL.of {K:aj}(h:H a=some (.lst xs)):SqL K H a xs := .inl (.inl h)
theorem SqT.of {K:aj}(h:H a=some (.tup xs)):SqT K H a xs := .inl (.inl h)
theorem Inv.list (I:Inv X pins σ H s) (h:SqL X.K H a xs):∃ its:List Value,Vals xs its/\PlainL s.heap a its.toArray/\xs.length<=aA:=by
 rcases h with h | ⟨o,its,n,hk,hc,hd,hs,hz,r⟩
 ·obtain ⟨z,its,n,r,e⟩:=h.ok I.hok
  exact ⟨its,r,⟨_,n,e,rfl,rfl,rfl⟩,z⟩
 ·refine ⟨its.toList,r,⟨o,n,I.kIn a o hk,hc,hd,by simpa using hs⟩,?_⟩
  have e:=r.length
  simp only [Array.length_toList] at e
  omega
theorem Inv.tuple (I:Inv X pins σ H s) (h:SqT X.K H a xs):∃ its:List Value,Vals xs its/\IsTup s.heap a its.toArray/\xs.length<=aA:=by
 rcases h with h | ⟨o,its,n,hk,hc,hs,hz,r⟩
 ·obtain ⟨z,its,r,p⟩:=h.ok I.hok
  exact ⟨its,r,p,z⟩
 ·refine ⟨its.toList,r,⟨o,I.kIn a o hk,hc,n,by simpa using hs⟩,?_⟩
  have e:=r.length
  simp only [Array.length_toList] at e
  omega
theorem Inv.Nu (I:Inv X pins σ H s) (h:SqL X.K H a xs) (h':SqL X.K H a ys):xs=ys:=by
 obtain ⟨its,r,⟨o,n,e,_,_,d⟩,_⟩:=I.list h
 obtain ⟨its',r',⟨o',n',e',_,_,d'⟩,_⟩:=I.list h'
 rw [e] at e';cases e'
 rw [d] at d'
 injection d' with d1 _
 have:its=its':=by simpa using congrArg Array.toList d1
 subst this
 exact r.inj r'
theorem Inv.QQ (I:Inv X pins σ H s) (h:SqT X.K H a xs) (h':SqT X.K H a ys):xs=ys:=by
 obtain ⟨its,r,⟨o,e,_,n,d⟩,_⟩:=I.tuple h
 obtain ⟨its',r',⟨o',e',_,n',d'⟩,_⟩:=I.tuple h'
 rw [e] at e';cases e'
 rw [d] at d'
 injection d' with d1 _
 have:its=its':=by simpa using congrArg Array.toList d1
 subst this
 exact r.inj r'
end
abbrev Cx.wish (X:Cx) (E:Value->Shared->Prop):Cx:={ X with xe:=E }
abbrev Cx.nox (X:Cx):Cx:=X.wish λ_ _=>False
theorem Cx.Ok.wish {X:Cx}(ok:X.Ok) (E:Value->Shared->Prop):(X.wish E).Ok :=
 ⟨ok.mod,ok.kind,ok.glob,ok.blt,ok.above,ok.inj,ok.has,ok.cab,ok.hd,ok.frames,ok.stk,ok.exf,ok.bs,ok.bsz,ok.noex,ok.exfs,ok.RV,ok.frf⟩
theorem Cx.Ok.Tq {X:Cx}(ok:(X.wish E).Ok):X.Ok :=
 ⟨ok.mod,ok.kind,ok.glob,ok.blt,ok.above,ok.inj,ok.has,ok.cab,ok.hd,ok.frames,ok.stk,ok.exf,ok.bs,ok.bsz,ok.noex,ok.exfs,ok.RV,ok.frf⟩
section
variable {X:Cx}{pins:List (Addr × Obj)}{σ:St}{H:Hp}{s:Shared}{E:Value->Shared->Prop}
theorem Inv.wish (I:Inv X pins σ H s) (E:Value->Shared->Prop):Inv (X.wish E) pins σ H s:=⟨I.ok.wish E,I.os,I.bare,I.base,I.loc,I.cell,I.free,I.freeC,I.pin,I.hok,I.len⟩
theorem Inv.Tq (I:Inv (X.wish E) pins σ H s):Inv X pins σ H s:=⟨I.ok.Tq,I.os,I.bare,I.base,I.loc,I.cell,I.free,I.freeC,I.pin,I.hok,I.len⟩
theorem SP.Tq (h:SP (X.wish E) pins D f s'):SP X pins D f s':=by
 cases f with
 | next=>obtain ⟨σ',H',I,q⟩:=h;exact ⟨σ',H',I.Tq,q⟩
 | brk=>obtain ⟨σ',H',I,q⟩:=h;exact ⟨σ',H',I.Tq,q⟩
 | cont=>obtain ⟨σ',H',I,q⟩:=h;exact ⟨σ',H',I.Tq,q⟩
 | ret u=>obtain ⟨v,σ',H',I,r,q⟩:=h;exact ⟨v,σ',H',I.Tq,r,q⟩
theorem PE.nox (h:PE X.nox e t):PE X e t:=λpins s σ H Q I hw =>
 wpAny_mono (h pins s σ H Q (I.wish _) hw) (λ_ _ ⟨v,H',I',r,q⟩=>⟨v,H',I'.Tq,r,q⟩) λ_ _ z=>False.elim z
theorem PT.nox (h:PT X.nox e t):PT X e t:=λpins s σ H Q I hw =>
 wpAny_mono (h pins s σ H Q (I.wish _) hw) (λ_ _ ⟨H',I',q⟩=>⟨H',I'.Tq,q⟩) λ_ _ z=>False.elim z
theorem PSs.nox {st:List Stmt}(h:PSs X.nox st t):PSs X st t:=λpins s σ H D I hw =>
 wpAny_mono (h pins s σ H D (I.wish _) hw) (λ_ _ q=>q.Tq) λ_ _ z=>False.elim z
end
section
variable {X:Cx}{st:Stmt}{rest:List Stmt}{t u:TS}{e:Expr}{te:TE}{pos:Pos}
noncomputable def tNext:TS:=λD σ H=>D.nx σ H
noncomputable def tSeq (t u:TS):TS:=λD σ H=>t { D with nx:=u D } σ H
theorem zt:PSs X [] tNext:=λ_ _ σ H _ I h=>wpAny_execs_nil ⟨σ,H,I,h⟩
theorem vW (h1:PS X st t) (h2:PSs X rest u):PSs X (st::rest) (tSeq t u):=by
 intro pins s σ H D I h
 refine wpAny_execs_cons (thn (h1 pins s σ H { D with nx:=u D } I h) λf s1 q=>?_)
 cases f with
 | next =>
  obtain ⟨σ',H',I',q⟩:=q
  exact h2 pins s1 σ' H' D I' q
 | ret v=>exact q
 | brk=>exact q
 | cont=>exact q
theorem pj (h1:PS X st t):PSs X [st] t:=by
 intro pins s σ H D I h
 refine wpAny_execs_cons (thn (h1 pins s σ H D I h) λf s1 q=>?_)
 cases f with
 | next=>exact wpAny_execs_nil q
 | ret v=>exact q
 | brk=>exact q
 | cont=>exact q
theorem Inv.quiet (I:Inv X pins σ H s):interactive X.env=false:=by simp [interactive,I.ok.kind]
noncomputable def tDrop (te:TE):TS:=λD σ H=>te σ H λ_ H1=>D.nx σ H1
theorem Nv (he:PE X e te) (hs:autoParam (swapsWith e none pos.line X.env=pure false) auR):PS X (.Expr e pos) (tDrop te):=by
 intro pins s σ H D I h
 exact wpAny_Expr_any (thn (he pins s σ H _ I h) λv s1 ⟨x,H1,I1,r1,q1⟩=>⟨σ,H1,I1,q1⟩) I.quiet hs
noncomputable def tRet (te:TE):TS:=λD σ H=>te σ H D.rt
theorem JH (he:PE X e te):PS X (.Return (some e) pos) (tRet te):=by
 intro pins s σ H D I h
 exact wpAny_Return_some (thn (he pins s σ H _ I h) λv s1 ⟨x,H1,I1,r1,q1⟩=>⟨x,σ,H1,I1,r1,q1⟩)
noncomputable def tIfS (c:TT) (t u:TS):TS:=λD σ H=>c σ H λb H1=>if b=true then t D σ H1 else u D σ H1
theorem ps_if (hc:PT X c tc) (ha:PSs X a t) (hb:PSs X b u):PS X (.If c a b pos) (tIfS tc t u):=by
 intro pins s σ H D I h
 refine wpAny_If (thn (hc pins s σ H _ I h) λd s1 zq=>?_)
 obtain ⟨H1,I1,q1⟩:=zq
 cases d with
 | true=>exact ha pins s1 σ H1 D I1 q1
 | false=>exact hb pins s1 σ H1 D I1 q1
end
abbrev TG:=V->St->Hp->(St->Hp->Prop)->Prop
abbrev TGs:=List V->St->Hp->(St->Hp->Prop)->Prop
noncomputable def PG (X:Cx) (target:Expr) (t:TG):Prop :=
 ∀ (pins:List (Addr × Obj)) (s:Shared) (σ:St) (H:Hp) (v:V) (u:Value) (Q:St->Hp->Prop),Inv X pins σ H s->RelV v u->t v σ H Q ->
  wpAny (model X.prog X.w) X.A (assign target X.env u) (λ_ s'=>∃ σ' H',Inv X pins σ' H' s'/\Q σ' H') X.xe s
noncomputable def PGs (X:Cx) (ts:List Expr) (t:TGs):Prop :=
 ∀ (pins:List (Addr × Obj)) (s:Shared) (σ:St) (H:Hp) (vs:List V) (us:List Value) (Q:St->Hp->Prop),Inv X pins σ H s->Vals vs us->t vs σ H Q ->
  wpAny (model X.prog X.w) X.A (assignInOrder ((assignEach ts X.env).map (·.2)) us) (λ_ s'=>∃ σ' H',Inv X pins σ' H' s'/\Q σ' H') X.xe s
abbrev TSet:=V->V->V->Hp->(Hp->Prop)->Prop
noncomputable def PSet (X:Cx) (t:TSet):Prop :=
 ∀ (pins:List (Addr × Obj)) (s:Shared) (σ:St) (H:Hp) (o i v:V) (ov iv u:Value) (Q:Hp->Prop),Inv X pins σ H s->RelV o ov->RelV i iv->RelV v u->t o i v H Q ->
  wpAny (model X.prog X.w) X.A (setItem ov iv u) (λ_ s'=>∃ H',Inv X pins σ H' s'/\Q H') X.xe s
abbrev TIp:=V->V->Hp->VK->Prop
noncomputable def PIp (X:Cx) (op:Operator) (t:TIp):Prop :=
 ∀ (pins:List (Addr × Obj)) (s:Shared) (σ:St) (H:Hp) (x y:V) (v u:Value) (Q:VK),Inv X pins σ H s->RelV x v->RelV y u->t x y H Q ->
  wpAny (model X.prog X.w) X.A (inplaceOp op v u) (EP X pins σ Q) X.xe s
section
variable {X:Cx}{pos:Pos}
noncomputable def JK (i:Nat):TG:=λv σ H Q=>Q (σ.set i (some v)) H
theorem pq (hN:X.N.Nodup) (hi:X.N[i]?=some x) (hx:Loc X.env.scope x) (hf:X.fn x=true\/X.env.scope.names.lookup x=some .local:=by first | exact .inl rfl | exact .inr rfl | assumption):PG X (.Name x pos) (JK i):=by
 intro pins s σ H v u Q I r h
 exact wpAny_assign_Name (RX I hN hi hx r (λs' I'=>⟨_,H,I',h⟩) hf)
noncomputable def gNil:TGs:=λvs σ H Q=>vs=[]/\Q σ H
noncomputable def gCons (t:TG) (u:TGs):TGs:=λvs σ H Q=>∃ v r,vs=v::r/\t v σ H λσ' H'=>u r σ' H' Q
theorem pw:PGs X [] gNil:=by
 intro pins s σ H vs us Q I r h
 obtain ⟨e,h⟩:=h
 subst e
 cases r
 exact assignInOrder_nil ⟨σ,H,I,h⟩
theorem vX (h1:PG X e t) (h2:PGs X es u)
  (hs:autoParam ((assignEach (e::es) X.env).map (·.2)=assign e X.env::(assignEach es X.env).map (·.2)) auR):PGs X (e::es) (gCons t u):=by
 intro pins s σ H vs us Q I r h
 obtain ⟨v,vr,e1,h⟩:=h
 subst e1
 cases r with
 | cons r rr =>
  rw [hs]
  refine assignInOrder_cons (thn (h1 pins s σ H _ _ _ I r h) λ_ s1 zq=>?_)
  obtain ⟨σ1,H1,I1,q1⟩:=zq
  exact h2 pins s1 σ1 H1 _ _ Q I1 rr q1
noncomputable def gTup (K:aj) (n:Nat) (t:TGs):TG:=λv σ H Q=>∃ a xs,v = .ref a/\SqT K H a xs/\xs.length=n/\t xs σ H Q
theorem kL (hc:X.calm=true) (h:PGs X es t)
  (hn:autoParam ((assignEach es X.env).length=n) auR) (hst:autoParam ((assignEach es X.env).findIdx? (·.1)=none) auR):PG X (.Tuple es k pos) (gTup X.K n t):=by
 intro pins s σ H v u Q I r hw
 obtain ⟨a,xs,e1,hq,hl,hw⟩:=hw
 subst e1
 cases r
 obtain ⟨its,rv,ht,hz⟩:=I.tuple hq
 refine assign_Tuple_tuple (I.ok.hd hc) ht (by simp [hn,<-hl,rv.length]) hst λh' hx=>?_
 have I1:Inv X pins σ H { s with heap:=h' }:=I.kept (t':=s.toks) λb o e=>hx b o (Nat.ne_of_lt (az e)) e
 exact h pins _ σ H xs _ Q I1 (by simpa using rv) hw
noncomputable def gSub (to ti:TE) (t:TSet):TG:=λv σ H Q=>to σ H λo H1=>ti σ H1 λi H2=>t o i v H2 λH3=>Q σ H3
theorem vY (ho:PE X o to) (hi:PE X i ti) (hs:PSet X t)
  (ha:∀ v,assign (.Subscript o i pos) X.env v=(do
   let ov <- holding [v] (eval o X.env)
   let iv <- holding [v,ov] (eval i X.env)
   standAt pos
   holding [v,ov,iv] (setItem ov iv v)
   release [v,ov,iv] []):=by intro _;rfl):PG X (.Subscript o i pos) (gSub to ti t):=by
 intro pins s σ H v u Q I r h
 rw [ha]
 refine ak (wpAny_holding (thn (ho pins s σ H _ I h) λov s1 zq=>?_))
 obtain ⟨x,H1,I1,r1,q1⟩:=zq
 refine ak (wpAny_holding (thn (hi pins s1 σ H1 _ I1 q1) λiv s2 zq=>?_))
 obtain ⟨y,H2,I2,r2,q2⟩:=zq
 refine ak (wpAny_standAt (ak (wpAny_holding (thn (hs pins s2 σ H2 x y v ov iv u _ I2 r1 r2 r q2) λ_ s3 zq=>?_))))
 obtain ⟨H3,I3,q3⟩:=zq
 exact wpAny_release ⟨σ,H3,I3,q3⟩
noncomputable def GB (te:TE) (g:TG):TS:=λD σ H=>te σ H λx H1=>g x σ H1 D.nx
theorem GC (he:PE X e te) (hg:PG X tg g) (hs:autoParam (swapsWithSole [tg] e pos.line X.env=pure false) auR) (hw:autoParam (swappedStores [tg] e X.env=pure none) auR)
  (h1:autoParam ((assignEach [tg] X.env).map (·.2)=[assign tg X.env]) auR):PS X (.Assign [tg] e pos) (GB te g):=by
 intro pins s σ H D I h
 refine wpAny_Assign_stores (thn (he pins s σ H _ I h) λv s1 zq=>?_) hs hw
 obtain ⟨x,H1,I1,r1,q1⟩:=zq
 rw [h1]
 exact thn (hg pins s1 σ H1 x v _ I1 r1 q1) λ_ s2 q=>q
theorem MM (hN:X.N.Nodup) (hi:X.N[i]?=some x) (hx:Loc X.env.scope x) (he:PE X e te) (hs:autoParam (swapsWith e (some (.Name x pos')) pos.line X.env=pure false) auR) (hf:X.fn x=true\/X.env.scope.names.lookup x=some .local:=by first | exact .inl rfl | exact .inr rfl | assumption) :
  PS X (.Assign [.Name x pos'] e pos) (GB te (JK i)):=by
 intro pins s σ H D I h
 refine wpAny_Assign_Name (thn (he pins s σ H _ I h) λv s1 zq=>?_) hs
 obtain ⟨y,H1,I1,r1,q1⟩:=zq
 exact RX I1 hN hi hx r1 (λs2 I2=>⟨_,H1,I2,q1⟩) hf
noncomputable def tPar (i j:Nat) (ta:TA):TS:=λD σ H=>ta σ H λvs H1=>∃ v w,vs=[v,w]/\D.nx ((σ.set i (some v)).set j (some w)) H1
theorem kO (hc:X.calm=true) (hN:X.N.Nodup) (hi:X.N[i]?=some x) (hj:X.N[j]?=some y) (hij:i≠j)
  (hx:X.env.scope.names.lookup x=some .local) (hy:X.env.scope.names.lookup y=some .local) (ha:PA X [a,b] ta)
  (hw:swappedStores [.Tuple [.Name x px,.Name y py] kt pt] (.Tuple [a,b] k2 pt2) X.env=pure (some [x,y]))
  (hs:autoParam (swapsWithSole [.Tuple [.Name x px,.Name y py] kt pt] (.Tuple [a,b] k2 pt2) pos.line X.env=pure false) auR) :
  PS X (.Assign [.Tuple [.Name x px,.Name y py] kt pt] (.Tuple [a,b] k2 pt2) pos) (tPar i j ta):=by
 intro pins s σ H D I h
 rw [exec_Assign_arm]
 refine ak (wpAny_standAt ?_)
 rw [hs]
 refine ak (ao ?_)
 rw [if_neg (by decide)]
 refine ak (Tuple_ (thn (ha _ pins s σ H _ I h) λus s1 zq=>?_))
 obtain ⟨vs,H1,I1,r1,q1⟩:=zq
 obtain ⟨v,w,e1,q1⟩:=q1
 subst e1
 obtain ⟨u1,u2,rfl,rv,rw'⟩:∃ u1 u2,us=[u1,u2]/\RelV v u1/\RelV w u2:=by
  cases r1 with
  | cons p q =>
   cases q with
   | cons p' q' =>
    cases q'
    exact ⟨_,_,rfl,p,p'⟩
 refine wpAny_newObj_type ?_ (by show 2<=aA;decide)
 have I2:Inv X pins σ H1 { s1 with heap:=s1.heap.push { cls := .type "tuple",data := .seq [u1,u2].toArray } }:=I1.kept (t':=s1.toks) λb o e=>aq _ e
 rw [hw]
 refine ak (ao ?_)
 show wpAny (model X.prog X.w) X.A (do rule "assign.swapped-stores";let items <- unpackItems (.ref s1.heap.objs.size) 2 none;assignInOrder [λv=>bindName X.env y v,λv=>bindName X.env x v] items.reverse;pure Flow.next) _ _ _
 refine ak (wpAny_rule (ak (unpackItems_tuple (items:=#[u1,u2]) (I.ok.hd hc) (IsTup.new s1.heap _) λh' hx'=>?_)))
 have I3:=I2.kept (h':=h') (t':=s1.toks) λb o e=>hx' b o (Nat.ne_of_lt (az e)) e
 show wpAny _ _ (assignInOrder [λv=>bindName X.env y v,λv=>bindName X.env x v] [u2,u1] >>= λ_=>pure Flow.next) _ _ _
 refine ak (assignInOrder_cons (wpAny_bindName (RX I3 hN hj (.inl hy) rw' (λs2 I4=>?_) (.inr hy))))
 refine assignInOrder_cons (wpAny_bindName (RX I4 hN hi (.inl hx) rv (λs3 I5=>assignInOrder_nil (ao ?_)) (.inr hx)))
 rw [List.set_comm _ _ (Ne.symm hij)] at I5
 exact ⟨_,H1,I5,q1⟩
noncomputable def tAugS (to ti te:TE) (tget:V->V->Hp->VK->Prop) (tip:TIp) (tset:TSet):TS:=λD σ H=>to σ H λo H1=>ti σ H1 λi H2=>tget o i H2 λx H3=>te σ H3 λy H4=>tip x y H4 λz H5=>tset o i z H5 λH6=>D.nx σ H6
noncomputable def PGet (X:Cx) (t:V->V->Hp->VK->Prop):Prop :=
 ∀ (pins:List (Addr × Obj)) (s:Shared) (σ:St) (H:Hp) (o i:V) (ov iv:Value) (Q:VK),Inv X pins σ H s->RelV o ov->RelV i iv->t o i H Q ->
  wpAny (model X.prog X.w) X.A (getItem ov iv) (EP X pins σ Q) X.xe s
theorem pz (ho:PE X o to) (hi:PE X i ti) (hg:PGet X tget) (he:PE X e te) (hp:PIp X op tip) (hs:PSet X tset)
  (ha:∀ ov iv new,augStore i ov iv new=(do holding [new,ov,iv] (setItem ov iv new);release [new,ov,iv] [];pure .next):=by intros;rfl):PS X (.AugAssign (.Subscript o i tpos) op e pos) (tAugS to ti te tget tip tset):=by
 intro pins s σ H D I h
 refine wpAny_AugAssign_SubscriptAny (thn (ho pins s σ H _ I h) λov s1 zq=>?_) ha
 obtain ⟨x1,H1,I1,r1,q1⟩:=zq
 refine thn (hi pins s1 σ H1 _ I1 q1) λiv s2 zq=>?_
 obtain ⟨x2,H2,I2,r2,q2⟩:=zq
 refine thn (hg pins s2 σ H2 x1 x2 ov iv _ I2 r1 r2 q2) λold s3 zq=>?_
 obtain ⟨x3,H3,I3,r3,q3⟩:=zq
 refine thn (he pins s3 σ H3 _ I3 q3) λv s4 zq=>?_
 obtain ⟨x4,H4,I4,r4,q4⟩:=zq
 refine thn (hp pins s4 σ H4 x3 x4 old v _ I4 r3 r4 q4) λnew s5 zq=>?_
 obtain ⟨x5,H5,I5,r5,q5⟩:=zq
 exact thn (hs pins s5 σ H5 x1 x2 x5 ov iv new _ I5 r1 r2 r5 q5) λ_ s6 ⟨H6,I6,q6⟩=>⟨σ,H6,I6,q6⟩
noncomputable def ipI (f:Int->Int->Int):TIp:=λx y H Q=>∃ i j,x = .int i/\y = .int j/\Q (.int (f i j)) H
theorem kU:PIp X .Add (ipI λi j=>i + j):=by
 intro pins s σ H x y v u Q I r1 r2 h
 obtain ⟨i,j,e1,e2,q⟩:=h
 subst e1;subst e2
 obtain ⟨t,rfl⟩:=r1
 obtain ⟨t',rfl⟩:=r2
 exact iadd_int ⟨.int _,H,I.tok _,⟨_,rfl⟩,q⟩
end
section
variable {X:Cx}{pos:Pos}
noncomputable def kW (c:TT) (tb:TS):TS:=λD σ H=>∃ W:Nat->St->Hp->Prop,(∃ m,W m σ H)/\∀ m σ H,W m σ H ->
 c σ H λb H1=>if b=true then ∃ N:St->Hp->Prop,(∀ σ' H',N σ' H'->∃ m',m' < m/\W m' σ' H')/\tb { D with nx:=N,ct:=N,bk:=D.nx } σ H1 else D.nx σ H1
theorem vZ (hp:PassesOwn (model X.prog X.w) X.A X.env X.xe) (hc:PT X c tc) (hb:PSs X body tb):PS X (.While c body [] pos) (kW tc tb):=by
 intro pins s σ H D I h
 obtain ⟨W,⟨m0,w0⟩,turn⟩:=h
 refine wpAny_While (codeAny_whileLoop (λn s'=>∃ σ' H',Inv X pins σ' H' s'/\W n σ' H') ?_ m0 ⟨σ,H,I,w0⟩)
 rintro n s1 ⟨σ1,H1,I1,w1⟩
 refine wpAny_passesOwn hp (thn (hc pins s1 σ1 H1 _ I1 (turn n σ1 H1 w1)) λb s2 zq=>?_)
 obtain ⟨H2,I2,q2⟩:=zq
 cases b with
 | true =>
  obtain ⟨N,hN,q2⟩:=q2
  rw [if_pos rfl]
  refine wpAny_passesOwn hp (thn (hb pins s2 σ1 H2 _ I2 q2) λf s3 q3=>?_)
  cases f with
  | next =>
   obtain ⟨σ3,H3,I3,n3⟩:=q3
   obtain ⟨m',hm,w3⟩:=hN σ3 H3 n3
   exact ⟨m',hm,σ3,H3,I3,w3⟩
  | cont =>
   obtain ⟨σ3,H3,I3,n3⟩:=q3
   obtain ⟨m',hm,w3⟩:=hN σ3 H3 n3
   exact ⟨m',hm,σ3,H3,I3,w3⟩
  | brk=>exact q3
  | ret v=>exact q3
 | false =>
  rw [if_neg aD]
  exact wpAny_execs_nil ⟨σ1,H2,I2,q2⟩
end
structure It where
 go:Nat->Hp->Prop
 yld:Nat->Hp->V->Hp->Prop
 stop:Nat->Hp->Prop
noncomputable def MN (X:Cx) (pins:List (Addr × Obj)) (H:Hp) (b:Addr):Prop :=
 H b=none/\b≠X.env.locals/\b∉X.fs/\(b∈X.ex\/X.s₀.heap.objs.size<=b)/\(∀ x c,X.env.cells.lookup x=some c->c≠b)/\∀ p∈X.pn++pins,p.1≠b
theorem Inv.CM (I:Inv X pins σ H s) (hb:s.heap.objs.size<=b) (hn:H' b=none):MN X pins H' b:=by
 refine ⟨hn,Nat.ne_of_gt (Nat.lt_of_lt_of_le I.lt hb),I.nofs hb,.inr (Nat.le_trans I.sz hb),λx c e z=>?_,λp hp z=>?_⟩
 ·obtain ⟨v,q⟩:=I.cell x c e
  exact absurd (Nat.lt_of_lt_of_le q.lt (by rw [z];exact hb)) (Nat.lt_irrefl _)
 ·exact absurd (Nat.lt_of_lt_of_le (az (I.pin p hp).1) (by rw [z];exact hb)) (Nat.lt_irrefl _)
structure Turn (P:Program) (w:World) (K:aj) (tg:Expr) (J:It) (fp:List Addr) (it:Addr) (tn:Nat->Heap->Prop):Prop where
 mem:it∈fp
 obj:∀ i h,tn i h->∀ b∈fp,∃ o,h.get? b=some o/\∀ v,o.data ≠ .cell v
 keep:∀ i h h',tn i h->(∀ b∈fp,∀ o,h.get? b=some o->h'.get? b=some o)->tn i h'
 item:∀ (X:Cx),X.prog=P->X.w=w->X.K=K->X.calm=true->∀ (i:Nat) (pins:List (Addr × Obj)) (s:Shared) (σ:St) (H:Hp) (E:Value->Shared->Prop),Inv X pins σ H s->(∀ b∈fp,MN X pins H b)->tn i s.heap->J.go i H ->
  wpAny (model P w) X.A (pyNext (.ref it)) (λr s1=>∃ u,r=some u /\
   wpAny (model P w) X.A (letOwnedTupleGo tg (.ref it) u) (λ_ s2=>∃ x H',Inv X pins σ H' s2/\RelV x u/\J.yld i H x H'/\tn (i + 1) s2.heap/\∀ b∈fp,H' b=none) E s1) E s
 done:∀ (X:Cx),X.prog=P->X.w=w->X.K=K->X.calm=true->∀ (i:Nat) (pins:List (Addr × Obj)) (s:Shared) (σ:St) (H:Hp) (E:Value->Shared->Prop),Inv X pins σ H s->(∀ b∈fp,MN X pins H b)->tn i s.heap->J.stop i H ->
  wpAny (model P w) X.A (pyNext (.ref it)) (λr s1=>r=none/\Inv X pins σ H s1) E s
 self:∀ (A:Around) (i:Nat) (s:Shared) (Q:Value->Shared->Prop) (E:Value->Shared->Prop),tn i s.heap->Q (.ref it) s->wpAny (model P w) A (pyIter (.ref it)) Q E s
abbrev TI:=St->Hp->(It->Hp->Prop)->Prop
noncomputable def PIE (X:Cx) (pins:List (Addr × Obj)) (σ:St) (tg:Expr) (R:It->Hp->Prop) (itv:Value) (s2:Shared):Prop :=
 ∃ (it:Addr) (fp:List Addr) (tn:Nat->Heap->Prop) (J:It) (H':Hp),itv = .ref it/\Inv X pins σ H' s2/\Turn X.prog X.w X.K tg J fp it tn/\tn 0 s2.heap/\(∀ b∈fp,MN X pins H' b)/\R J H'
noncomputable def PI (X:Cx) (tg iter:Expr) (wi:TI):Prop :=
 ∀ (pins:List (Addr × Obj)) (s:Shared) (σ:St) (H:Hp) (R:It->Hp->Prop),Inv X pins σ H s->wi σ H R ->
  wpAny (model X.prog X.w) X.A (eval iter X.env) (λv s1=>wpAny (model X.prog X.w) X.A (pyIter v) (PIE X pins σ tg R) X.xe s1) X.xe s
theorem zu (ho:s.heap.get? it=some o) (hc:o.cls = .type n) (hd:o.data = .fields vs)
    (hn:["enumerate", "zip", "dict_itemiterator", "dict_reverseitemiterator", "odict_iterator", "itertools.zip_longest", "itertools.pairwise"].contains n=false) (hQ:Q () s):wpAny M A (letOwnedTupleGo tg (.ref it) u) Q E s:=by
  unfold letOwnedTupleGo
  cases tg <;> first
    | exact ao hQ
    | (cases u <;> first
        | exact ao hQ
        | (refine ak (wpAny_load ho ?_)
           rw [hc,hd]
           show wpAny M A (if (["enumerate", "zip", "dict_itemiterator", "dict_reverseitemiterator", "odict_iterator", "itertools.zip_longest", "itertools.pairwise"].contains n && vs[0]? == some (rawInt _))=true then _ else _) Q E s
           rw [if_neg (by intro h;rw [hn,Bool.false_and] at h;cases h)]
           exact ao hQ))
noncomputable def Itl (K:aj) (a:Addr):It :=
 ⟨λi H=>∃ xs x,SqL K H a xs/\xs[i]?=some x,λi H x H'=>H'=H/\∀ xs,SqL K H a xs->xs[i]?=some x,λi H=>∃ xs,SqL K H a xs/\xs.length<=i⟩
noncomputable def Itt (K:aj) (a:Addr):It :=
 ⟨λi H=>∃ xs x,SqT K H a xs/\xs[i]?=some x,λi H x H'=>H'=H/\∀ xs,SqT K H a xs->xs[i]?=some x,λi H=>∃ xs,SqT K H a xs/\xs.length<=i⟩
noncomputable def Itr (lo:Int) (n:Nat):It:=⟨λi _=>i < n,λi H x H'=>H'=H/\x = .int (lo + i),λi _=>n<=i⟩
theorem yC {K:aj}(a it:Addr):Turn P w K tg (Itl K a) [it] it (λi h=>h.IsListIter it a i) where
 mem:=by simp
 obj:=λi h st b hb=>by
  have e:b=it:=by simpa using hb
  subst e
  obtain ⟨o,e,c,d⟩:=st
  exact ⟨o,e,λv z=>by rw [d] at z;cases z⟩
 keep:=λi h h' st k=>st.at λo e=>k it (by simp) o e
 item:=by
  intro X hP hw hK hc i pins s σ H E I hf st hg
  subst hP hw hK
  obtain ⟨xs,x,hq,hx⟩:=hg
  obtain ⟨its,rv,p,hz⟩:=I.list hq
  obtain ⟨u,hu,ru⟩:=rv.get hx
  obtain ⟨f0,f1,f2,f3,f4,f5⟩:=hf it (by simp)
  refine wpAny_pyNext_list_item st p.isList (x:=u) (by simpa using hu) λh' st' sb=>?_
  have I1:Inv X pins σ H { s with heap:=h' }:=I.turned (t':=s.toks) (λb o hb e=>(sb.2 b hb).trans e) f0 f1 f3 f4 f5
  obtain ⟨o,e,c,d⟩:=id st'
  exact ⟨u,rfl,zu (s:={ s with heap:=h' }) e c d (by decide) ⟨x,H,I1,ru,⟨rfl,λys hy=>by rw [I.Nu hy hq];exact hx⟩,st',λb hb=>(hf b hb).1⟩⟩
 done:=by
  intro X hP hw hK hc i pins s σ H E I hf st hg
  subst hP hw hK
  obtain ⟨xs,hq,hx⟩:=hg
  obtain ⟨its,rv,p,hz⟩:=I.list hq
  obtain ⟨f0,f1,f2,f3,f4,f5⟩:=hf it (by simp)
  have hl:=rv.length
  exact wpAny_pyNext_list_end (I.ok.hd hc) st p.isList (by simp;omega) λh' eb=>⟨rfl,I.turned (t':=s.toks) (λb o hb e=>eb b o hb e) f0 f1 f3 f4 f5⟩
 self:=λ_ _ _ _ _ st h=>wpAny_pyIter_listiter st h
theorem CN {K:aj}(a it:Addr):Turn P w K tg (Itt K a) [it] it (λi h=>h.IsTupleIter it a i) where
 mem:=by simp
 obj:=λi h st b hb=>by
  have e:b=it:=by simpa using hb
  subst e
  obtain ⟨o,e,c,d⟩:=st
  exact ⟨o,e,λv z=>by rw [d] at z;cases z⟩
 keep:=λi h h' st k=>st.at λo e=>k it (by simp) o e
 item:=by
  intro X hP hw hK hc i pins s σ H E I hf st hg
  subst hP hw hK
  obtain ⟨xs,x,hq,hx⟩:=hg
  obtain ⟨its,rv,p,hz⟩:=I.tuple hq
  obtain ⟨u,hu,ru⟩:=rv.get hx
  obtain ⟨f0,f1,f2,f3,f4,f5⟩:=hf it (by simp)
  refine wpAny_pyNext_tuple_item st (show s.heap.IsTuple a its.toArray from p) (x:=u) (by simpa using hu) λh' st' sb=>?_
  have I1:Inv X pins σ H { s with heap:=h' }:=I.turned (t':=s.toks) (λb o hb e=>(sb.2 b hb).trans e) f0 f1 f3 f4 f5
  obtain ⟨o,e,c,d⟩:=id st'
  exact ⟨u,rfl,zu (s:={ s with heap:=h' }) e c d (by decide) ⟨x,H,I1,ru,⟨rfl,λys hy=>by rw [I.QQ hy hq];exact hx⟩,st',λb hb=>(hf b hb).1⟩⟩
 done:=by
  intro X hP hw hK hc i pins s σ H E I hf st hg
  subst hP hw hK
  obtain ⟨xs,hq,hx⟩:=hg
  obtain ⟨its,rv,p,hz⟩:=I.tuple hq
  obtain ⟨f0,f1,f2,f3,f4,f5⟩:=hf it (by simp)
  have hl:=rv.length
  exact wpAny_pyNext_tuple_end (I.ok.hd hc) st (show s.heap.IsTuple a its.toArray from p) (by simp;omega) λh' eb=>⟨rfl,I.turned (t':=s.toks) (λb o hb e=>eb b o hb e) f0 f1 f3 f4 f5⟩
 self:=λ_ _ _ _ _ st h=>wpAny_pyIter_tupleiter st h
theorem CO {K:aj}(it:Addr) (lo:Int) (n:Nat):Turn P w K tg (Itr lo n) [it] it (λi h=>IsRangeIter h it (lo + (i:Nat) * 1) ((n:Int) - (i:Nat)) 1) where
 mem:=by simp
 obj:=λi h st b hb=>by
  have e:b=it:=by simpa using hb
  subst e
  exact ⟨_,st,λv z=>by
   have z':Data.fields _=Data.cell v:=z
   cases z'⟩
 keep:=λi h h' st k=>k it (by simp) _ st
 item:=by
  intro X hP hw hK hc i pins s σ H E I hf st hg
  subst hP hw hK
  obtain ⟨f0,f1,f2,f3,f4,f5⟩:=hf it (by simp)
  have W:=Walks.range (prog:=X.prog) (w:=X.w) (I.ok.hd hc) it lo 1 n
  refine W.item i s _ _ hg st λv h' tk hv st' kk=>?_
  obtain ⟨t,rfl⟩:=hv
  have I1:Inv X pins σ H { s with heap:=h',toks:=tk }:=I.turned (λb o hb e=>kk b o (by simpa using hb) e) f0 f1 f3 f4 f5
  refine ⟨_,rfl,zu (s:={ s with heap:=h',toks:=tk }) (n := "range_iterator") st' rfl rfl (by decide) ⟨.int (lo + i),H,I1,⟨t,?_⟩,⟨rfl,rfl⟩,st',λb hb=>(hf b hb).1⟩⟩
  rw [Int.mul_one]
 done:=by
  intro X hP hw hK hc i pins s σ H E I hf st hg
  subst hP hw hK
  obtain ⟨f0,f1,f2,f3,f4,f5⟩:=hf it (by simp)
  exact wpAny_pyNext_range_end (I.ok.hd hc) st (by have:n<=i:=hg;omega) λh' eb=>⟨rfl,I.turned (t':=s.toks) (λb o hb e=>eb b o hb e) f0 f1 f3 f4 f5⟩
 self:=λ_ _ _ _ _ st h=>wpAny_pyIter_rangeiter st h
section
variable {X:Cx}{tg:Expr}
theorem ua {lo hi:Int}{t u v:Tok}{tk:Nat}(I:Inv X pins σ H s) (h1 : -(2 ^ 62)<=lo) (h2:lo < 2 ^ 62) (h3 : -(2 ^ 62)<=hi) (h4:hi < 2 ^ 62)
  (q:R (Itr lo (hi - lo).toNat) H):wpAny (model X.prog X.w) X.A (pyIter (.ref s.heap.objs.size)) (PIE X pins σ tg R) E { s with heap:=s.heap.push { cls := .type "range",data := .fields #[.int lo t,.int hi u,.int 1 v] },toks:=tk }:=by
 refine wpAny_pyIter_range (IsRange.new ..) (small_one h1 h2 h3 h4) ?_
 have I1:Inv X pins σ H { s with heap:=s.heap.push { cls := .type "range",data := .fields #[.int lo t,.int hi u,.int 1 v] },toks:=tk }:=I.kept λb o e=>aq _ e
 refine ⟨(s.heap.push { cls := .type "range",data := .fields #[.int lo t,.int hi u,.int 1 v] }).objs.size,[(s.heap.push { cls := .type "range",data := .fields #[.int lo t,.int hi u,.int 1 v] }).objs.size],_,_,H,rfl,
  I1.kept (t':=tk) λb o e=>aq _ e,CO _ lo (hi - lo).toNat,?_,λb hb=>?_,q⟩
 ·have e1:lo + ((0:Nat):Int) * 1=lo:=by simp
  have e2:(((hi - lo).toNat:Nat):Int) - ((0:Nat):Int)=Builtin.Range.rangeSize lo hi 1:=by rw [rangeSize_one];split <;> omega
  show IsRangeIter _ _ (lo + ((0:Nat):Int) * 1) ((((hi - lo).toNat:Nat):Int) - ((0:Nat):Int)) 1
  rw [e1,e2]
  exact au _ rfl
 ·have e:b=(s.heap.push { cls := .type "range",data := .fields #[.int lo t,.int hi u,.int 1 v] }).objs.size:=by simpa using hb
  subst e
  exact I1.CM (Nat.le_refl _) (I1.hok.fresh (Nat.le_refl _))
noncomputable def iRng1 (ta:TA):TI:=λσ H R=>ta σ H λvs H1=>∃ j:Int,vs=[.int j] /\ -(2 ^ 62)<=j/\j < 2 ^ 62/\R (Itr 0 j.toNat) H1
theorem yD (hg:Gl X "range") (hm:X.mg "range" = none) (ha:PA X [a] ta) (hs:autoParam (starEach [a] X.env=[(false,eval a X.env)]) auR):PI X tg (.Call (.Name "range" p) [a] [] pos) (iRng1 ta):=by
 intro pins s σ H R I h
 refine Call_ (ML I hg hm boot_range (PyProof.Rows.callWith_type1 (thn (ha pos pins s σ H _ I h) λus s1 zq=>?_) hs rfl))
 obtain ⟨vs,H1,I1,r1,q1⟩:=zq
 obtain ⟨j,e,q1,q2,q⟩:=q1
 subst e
 cases r1 with
 | cons r rr =>
  cases rr
  obtain ⟨t,rfl⟩:=r
  exact call_range_1 (ua I1 (by omega) (by omega) q1 q2 (by simpa using q))
noncomputable def tFor (wi:TI) (g:TG) (tb:TS):TS:=λD σ H=>wi σ H λJ H1=>∃ W:Nat->Nat->St->Hp->Prop,(∃ m,W 0 m σ H1)/\∀ i m σ H,W i m σ H ->
 (J.stop i H/\D.nx σ H)\/(J.go i H/\∃ N:St->Hp->Prop,(∀ σ' H',N σ' H'->∃ m',m' < m/\W (i + 1) m' σ' H')/\∀ x H',J.yld i H x H'->g x σ H' λσ2 H2=>tb { D with nx:=N,ct:=N,bk:=D.nx } σ2 H2)
noncomputable def JL (fp:List Addr) (h:Heap):List (Addr × Obj):=fp.filterMap λb=>(h.get? b).map λo=>(b,o)
theorem Sq (hb:b∈fp) (e:h.get? b=some o):(b,o)∈JL fp h:=List.mem_filterMap.mpr ⟨b,hb,by rw [e];rfl⟩
theorem yE (hp:p∈JL fp h):p.1∈fp/\h.get? p.1=some p.2:=by
 obtain ⟨b,hb,e⟩:=List.mem_filterMap.mp hp
 cases q:h.get? b with
 | none=>rw [q] at e;cases e
 | some o =>
  rw [q] at e
  have e':(b,o)=p:=Option.some.inj e
  subst e'
  exact ⟨hb,q⟩
theorem Inv.pinned (I:Inv X pins σ H s) (hf:∀ b∈fp,MN X pins H b) (ho:∀ b∈fp,∃ o,s.heap.get? b=some o/\∀ v,o.data ≠ .cell v):Inv X (pins++JL fp s.heap) σ H s :=
 I.zr λp hp=>(mem_append.mp hp).elim (λz=>I.pin p (mem_append_right _ z)) λz=>by
  obtain ⟨hb,e⟩:=yE z
  obtain ⟨f0,f1,f2,_⟩:=hf p.1 hb
  obtain ⟨o,e',d⟩:=ho p.1 hb
  rw [e] at e';cases e'
  exact ⟨e,f0,f1,f2,d⟩
theorem Inv.Nw (I:Inv X (pins++pl) σ H s):Inv X pins σ H s:=I.zr λp hp=>I.pin p (mem_append_right _ (mem_append_left _ hp))
theorem kY (hp:PassesOwn (model X.prog X.w) X.A X.env X.xe) (hc:X.calm=true) (hi:PI X tg iter wi) (hg:PG X tg g) (hb:PSs X body tb)
  (hs:∀ x,foldedSetIterable iter X.env x=pure x:=by intro _;rfl):PS X (.For tg iter body [] pos) (tFor wi g tb):=by
 intro pins s σ H D I h
 refine wpAny_For (thn (hi pins s σ H _ I h) λv s1 h1=>thn h1 λitv s2 h2=>?_) hs
 obtain ⟨it,fp,tn,J,H2,e,I2,T,st2,f2,W,⟨m0,w0⟩,turn⟩:=h2
 subst e
 -- what stays true of the iterator's objects through the loop
 have stat:∀ {H':Hp},(∀ b∈fp,H' b=none)->∀ b∈fp,MN X pins H' b:=λhn b hb=>⟨hn b hb,(f2 b hb).2⟩
 refine codeAny_forLoop_any (λn s'=>∃ i σ' H',Inv X pins σ' H' s'/\tn i s'.heap/\(∀ b∈fp,H' b=none)/\W i n σ' H') ?_ m0 ⟨0,σ,H2,I2,st2,λb hb=>(f2 b hb).1,w0⟩
 rintro n s3 ⟨i,σ3,H3,I3,st3,fr3,w3⟩
 rcases turn i n σ3 H3 w3 with ⟨stop,qn⟩ | ⟨go,N,hN,step⟩
 ·refine wpAny_passesOwn hp (thn (T.done X rfl rfl rfl hc i pins s3 σ3 H3 X.xe I3 (stat fr3) st3 stop) λr s4 zq=>?_)
  obtain ⟨hr,I4⟩:=zq
  subst hr
  exact wpAny_execs_nil ⟨σ3,H3,I4,qn⟩
 ·refine wpAny_passesOwn hp (thn (T.item X rfl rfl rfl hc i pins s3 σ3 H3 X.xe I3 (stat fr3) st3 go) λr s4 zq=>?_)
  obtain ⟨u,hr,h4⟩:=zq
  subst hr
  refine wpAny_passesOwn hp (thn h4 λ_ s5 zq=>?_)
  obtain ⟨x,H5,I5,r5,y5,st5,fr5⟩:=zq
  have I5':=I5.pinned (stat fr5) (T.obj _ _ st5)
  refine wpAny_passesOwn hp (thn (hg _ s5 σ3 H5 x u _ I5' r5 (step x H5 y5)) λ_ s6 zq=>?_)
  obtain ⟨σ6,H6,I6,q6⟩:=zq
  refine wpAny_passesOwn hp (thn (hb _ s6 σ6 H6 _ I6 q6) λf s7 q7=>?_)
  have again:∀ {σ7:St}{H7:Hp},Inv X (pins++JL fp s5.heap) σ7 H7 s7->N σ7 H7->∃ m,m < n/\∃ i σ' H',Inv X pins σ' H' s7/\tn i s7.heap/\(∀ b∈fp,H' b=none)/\W i m σ' H':=λ{σ7 H7} I7 n7=>by
   obtain ⟨m',hm,w7⟩:=hN σ7 H7 n7
   refine ⟨m',hm,i + 1,σ7,H7,I7.Nw,T.keep _ _ _ st5 λb hb o e=>(I7.pin (b,o) (mem_append_right _ (mem_append_right _ (Sq hb e)))).1,λb hb=>?_,w7⟩
   obtain ⟨o,e,d⟩:=T.obj _ _ st5 b hb
   exact (I7.pin (b,o) (mem_append_right _ (mem_append_right _ (Sq hb e)))).2.1
  cases f with
  | next=>obtain ⟨σ7,H7,I7,n7⟩:=q7;exact again I7 n7
  | cont=>obtain ⟨σ7,H7,I7,n7⟩:=q7;exact again I7 n7
  | brk=>obtain ⟨σ7,H7,I7,q7⟩:=q7;exact ⟨σ7,H7,I7.Nw,q7⟩
  | ret v=>obtain ⟨x7,σ7,H7,I7,r7,q7⟩:=q7;exact ⟨x7,σ7,H7,I7.Nw,r7,q7⟩
end
abbrev R2:=V->V->Hp->VK->Prop
noncomputable def OpR (X:Cx) (f:Value->Value->Sem Value) (r:R2):Prop :=
 ∀ (pins:List (Addr × Obj)) (s:Shared) (σ:St) (H:Hp) (x y:V) (v u:Value) (Q:VK),Inv X pins σ H s->RelV x v->RelV y u->r x y H Q ->
  wpAny (model X.prog X.w) X.A (f v u) (EP X pins σ Q) X.xe s
noncomputable def UnR (X:Cx) (f:Value->Sem Value) (r:V->Hp->VK->Prop):Prop :=
 ∀ (pins:List (Addr × Obj)) (s:Shared) (σ:St) (H:Hp) (x:V) (v:Value) (Q:VK),Inv X pins σ H s->RelV x v->r x H Q ->
  wpAny (model X.prog X.w) X.A (f v) (EP X pins σ Q) X.xe s
noncomputable def Xs (X:Cx) (f:Value) (r:List V->Hp->VK->Prop):Prop :=
 ∀ (pins:List (Addr × Obj)) (s:Shared) (σ:St) (H:Hp) (xs:List V) (us:List Value) (Q:VK),Inv X pins σ H s->Vals xs us->r xs H Q ->
  wpAny (model X.prog X.w) X.A (call f us) (EP X pins σ Q) X.xe s
noncomputable def TruR (X:Cx) (r:V->Hp->(Bool->Hp->Prop)->Prop):Prop :=
 ∀ (pins:List (Addr × Obj)) (s:Shared) (σ:St) (H:Hp) (x:V) (v:Value) (Q:Bool->Hp->Prop),Inv X pins σ H s->RelV x v->r x H Q ->
  wpAny (model X.prog X.w) X.A (truthy v) (TP X pins σ Q) X.xe s
noncomputable def tOp (r:R2) (ta tb:TE):TE:=λσ H Q=>ta σ H λx H1=>tb σ H1 λy H2=>r x y H2 Q
noncomputable def tUn (r:V->Hp->VK->Prop) (ta:TE):TE:=λσ H Q=>ta σ H λx H1=>r x H1 Q
noncomputable def rI (C:Int->Int->Prop) (g:Int->Int->V):R2:=λx y H Q=>∃ i j,x = .int i/\y = .int j/\C i j/\Q (g i j) H
noncomputable def rI0 (g:Int->Int->V):R2:=λx y H Q=>∃ i j,x = .int i/\y = .int j/\Q (g i j) H
noncomputable def rU (g:Int->V):V->Hp->VK->Prop:=λx H Q=>∃ i,x = .int i/\Q (g i) H
section
variable {X:Cx}{a b c:Expr}{ta tb tc:TE}{pos:Pos}
theorem binT (ha:PE X a ta) (hb:PE X b tb) {R:V->V->Hp->Prop}(I:Inv X pins σ H s)
  (h:ta σ H λx H1=>tb σ H1 λy H2=>R x y H2) {f:Value->Value->Sem Value}
  (hf:∀ v u s2 x y H2,Inv X pins σ H2 s2->RelV x v->RelV y u->R x y H2->wpAny (model X.prog X.w) X.A (f v u) Q X.xe s2) :
  wpAny (model X.prog X.w) X.A (eval a X.env) (λv s₁=>wpAny (model X.prog X.w) X.A (eval b X.env) (λu s₂=>wpAny (model X.prog X.w) X.A (f v u) Q X.xe s₂) X.xe s₁) X.xe s:=by
 refine thn (ha pins s σ H _ I h) λv s1 zq=>?_
 obtain ⟨x,H1,I1,r1,q1⟩:=zq
 refine thn (hb pins s1 σ H1 _ I1 q1) λu s2 zq=>?_
 obtain ⟨y,H2,I2,r2,q2⟩:=zq
 exact hf v u s2 x y H2 I2 r1 r2 q2
theorem ub (ho:OpR X (binaryOp op) r) (ha:PE X a ta) (hb:PE X b tb):PE X (.BinOp a op b pos) (tOp r ta tb):=by
 intro pins s σ H Q I h
 exact wpAny_BinOp (binT ha hb I h λv u s2 x y H2 I2 rx ry q=>ho pins s2 σ H2 x y v u Q I2 rx ry q)
theorem pe_un (ho:UnR X (unaryOp op) r) (ha:PE X a ta):PE X (.UnaryOp op a pos) (tUn r ta):=by
 intro pins s σ H Q I h
 exact UnaryOp_ (thn (ha pins s σ H _ I h) λv s1 ⟨x,H1,I1,r1,q1⟩=>ho pins s1 σ H1 x v Q I1 r1 q1)
theorem opI {g:Int->Int->Int}
  (rule:∀ (i j:Int) (t u:Tok) (s:Shared) (Q:Value->Shared->Prop) (E:Value->Shared->Prop),C i j->Q (.int (g i j) s.toks) { s with toks:=s.toks + 1 }->wpAny (model X.prog X.w) X.A (f (.int i t) (.int j u)) Q E s) :
  OpR X f (rI C λi j => .int (g i j)):=by
 intro pins s σ H x y v u Q I rx ry h
 obtain ⟨i,j,rfl,rfl,hc,q⟩:=h
 obtain ⟨t,rfl⟩:=rx
 obtain ⟨t',rfl⟩:=ry
 exact rule i j t t' s _ _ hc ⟨.int (g i j),H,I.tok _,⟨_,rfl⟩,q⟩
theorem opI0 {g:Int->Int->Int}
  (rule:∀ (i j:Int) (t u:Tok) (s:Shared) (Q:Value->Shared->Prop) (E:Value->Shared->Prop),Q (.int (g i j) s.toks) { s with toks:=s.toks + 1 }->wpAny (model X.prog X.w) X.A (f (.int i t) (.int j u)) Q E s) :
  OpR X f (rI0 λi j => .int (g i j)):=by
 intro pins s σ H x y v u Q I rx ry h
 obtain ⟨i,j,rfl,rfl,q⟩:=h
 obtain ⟨t,rfl⟩:=rx
 obtain ⟨t',rfl⟩:=ry
 exact rule i j t t' s _ _ ⟨.int (g i j),H,I.tok _,⟨_,rfl⟩,q⟩
theorem opB0 {g:Int->Int->Bool}
  (rule:∀ (i j:Int) (t u:Tok) (s:Shared) (Q:Value->Shared->Prop) (E:Value->Shared->Prop),Q (.bool (g i j)) s->wpAny (model X.prog X.w) X.A (f (.int i t) (.int j u)) Q E s) :
  OpR X f (rI0 λi j => .bl (g i j)):=by
 intro pins s σ H x y v u Q I rx ry h
 obtain ⟨i,j,rfl,rfl,q⟩:=h
 obtain ⟨t,rfl⟩:=rx
 obtain ⟨t',rfl⟩:=ry
 exact rule i j t t' s _ _ ⟨.bl (g i j),H,I,rfl,q⟩
noncomputable def CPow (i j:Int):Prop:=0<=j/\j<=1000000/\i.natAbs < 2 ^ 64
noncomputable def CMul (i j:Int):Prop:=(-(2 ^ 64) < i/\i < 2 ^ 64)\/(-(2 ^ 64) < j/\j < 2 ^ 64)
theorem CMul.ok (h:CMul i j):IntMulOk i j:=by
 rcases h with ⟨h1,h2⟩ | ⟨h1,h2⟩
 ·exact .of_left (intBits_le_64 h1 h2)
 ·exact .of_right (intBits_le_64 h1 h2)
theorem kZ:OpR X (binaryOp .Add) (rI0 λi j => .int (i + j)):=opI0 λ_ _ _ _ _ _ _ q=>add_int q
theorem ja:OpR X (binaryOp .Sub) (rI0 λi j => .int (i - j)):=opI0 λ_ _ _ _ _ _ _ q=>sub_int q
theorem pA:OpR X (binaryOp .Mod) (rI (λ_ j=>j≠0) λi j => .int (i.fmod j)):=opI λ_ _ _ _ _ _ _ hc q=>mod_int' hc q
theorem jb:OpR X (binaryOp .Pow) (rI CPow λi j => .int (i ^ j.toNat)):=opI λ_ _ _ _ _ _ _ hc q=>pow_int_small hc.1 hc.2.1 hc.2.2 q
theorem unI {g:Int->Int}
  (rule:∀ (i:Int) (t:Tok) (s:Shared) (Q:Value->Shared->Prop) (E:Value->Shared->Prop),Q (.int (g i) s.toks) { s with toks:=s.toks + 1 }->wpAny (model X.prog X.w) X.A (f (.int i t)) Q E s) :
  UnR X f (rU λi => .int (g i)):=by
 intro pins s σ H x v Q I rx h
 obtain ⟨i,rfl,q⟩:=h
 obtain ⟨t,rfl⟩:=rx
 exact rule i t s _ _ ⟨.int (g i),H,I.tok _,⟨_,rfl⟩,q⟩
theorem jc:UnR X (unaryOp .USub) (rU λi => .int (-i)):=unI λ_ _ _ _ _ q=>neg_int q
end
noncomputable def scal:V->V->Bool
 | .non,.non=>true | .non,.int _=>true | .int _,.non=>true | .non,.bl _=>true | .bl _,.non=>true | .non,.str _=>true | .str _,.non=>true
 | .int _,.int _=>true | .bl _,.bl _=>true | .str _,.str _=>true | .byt _,.byt _=>true
 | .int _,.str _=>true | .str _,.int _=>true | .bl _,.str _=>true | .str _,.bl _=>true
 | _,_=>false
noncomputable def rEq:R2:=λx y H Q=>scal x y=true/\Q (.bl (decide (x=y))) H
noncomputable def rNe:R2:=λx y H Q=>scal x y=true/\Q (.bl (!decide (x=y))) H
theorem zv:decide (V.int i=V.int j)=(i == j):=by
 rw [Bool.eq_iff_iff]
 simp
theorem uc:decide (V.bl i=V.bl j)=(i == j):=by
 rw [Bool.eq_iff_iff]
 simp
theorem zx:decide (V.str i=V.str j)=(i == j):=by
 rw [Bool.eq_iff_iff]
 simp
theorem zy:decide (V.byt i=V.byt j)=(i.toList == j.toList):=by
 rw [Bool.eq_iff_iff]
 cases i
 cases j
 simp
section
variable {X:Cx}{a b c:Expr}{ta tb tc:TE}{pos:Pos}
theorem ZV (I:Inv X pins σ H s) (q:Q (.bl k) H) (e:k=k'):EP X pins σ Q (.bool k') s:=by
 subst e
 exact ⟨.bl k,H,I,rfl,q⟩
theorem op_eq:OpR X (compareOp .Eq) rEq:=by
 intro pins s σ H x y v u Q I rx ry h
 obtain ⟨hs,q⟩:=h
 cases x with
 | non =>
  cases rx
  cases y with
  | non=>cases ry;exact PySem.EqNone.eq_none_none (ZV I q (by simp))
  | bl j=>cases ry;exact PySem.EqNone.eq_none_bool (ZV I q (by simp))
  | int j=>obtain ⟨t',rfl⟩:=ry;exact PySem.EqNone.eq_none_int (ZV I q (by simp))
  | str j=>obtain ⟨t',rfl⟩:=ry;exact PySem.EqNone.eq_none_str (ZV I q (by simp))
  | _=>exact absurd (show false=true from hs) aD
 | bl i =>
  cases rx
  cases y with
  | non=>cases ry;exact PySem.EqNone.eq_bool_none (ZV I q (by simp))
  | bl j=>cases ry;exact eq_bool (ZV I q uc)
  | str j=>obtain ⟨t',rfl⟩:=ry;exact PySem.EqMixed.eq_bool_str (ZV I q (by simp))
  | _=>exact absurd (show false=true from hs) aD
 | int i =>
  obtain ⟨t,rfl⟩:=rx
  cases y with
  | non=>cases ry;exact PySem.EqNone.eq_int_none (ZV I q (by simp))
  | int j=>obtain ⟨t',rfl⟩:=ry;exact eq_int (ZV I q zv)
  | str j=>obtain ⟨t',rfl⟩:=ry;exact PySem.EqMixed.eq_int_str (ZV I q (by simp))
  | _=>exact absurd (show false=true from hs) aD
 | str i =>
  obtain ⟨t,rfl⟩:=rx
  cases y with
  | non=>cases ry;exact PySem.EqNone.eq_str_none (ZV I q (by simp))
  | bl j=>cases ry;exact PySem.EqMixed.eq_str_bool (ZV I q (by simp))
  | int j=>obtain ⟨t',rfl⟩:=ry;exact PySem.EqMixed.eq_str_int (ZV I q (by simp))
  | str j=>obtain ⟨t',rfl⟩:=ry;exact eq_str (ZV I q zx)
  | _=>exact absurd (show false=true from hs) aD
 | byt i =>
  obtain ⟨t,rfl⟩:=rx
  cases y with
  | byt j=>obtain ⟨t',rfl⟩:=ry;exact PySem.W.eq_bytes (ZV I q zy)
  | _=>exact absurd (show false=true from hs) aD
 | _=>cases y <;> exact absurd (show false=true from hs) aD
theorem op_ne:OpR X (compareOp .NotEq) rNe:=by
 intro pins s σ H x y v u Q I rx ry h
 obtain ⟨hs,q⟩:=h
 cases x with
 | non =>
  cases rx
  cases y with
  | non=>cases ry;exact PySem.EqNone.ne_none_none (ZV I q (by simp))
  | bl j=>cases ry;exact PySem.EqNone.ne_none_bool (ZV I q (by simp))
  | int j=>obtain ⟨t',rfl⟩:=ry;exact PySem.EqNone.ne_none_int (ZV I q (by simp))
  | str j=>obtain ⟨t',rfl⟩:=ry;exact PySem.EqNone.ne_none_str (ZV I q (by simp))
  | _=>exact absurd (show false=true from hs) aD
 | bl i =>
  cases rx
  cases y with
  | non=>cases ry;exact PySem.EqNone.ne_bool_none (ZV I q (by simp))
  | bl j=>cases ry;exact ne_bool (ZV I q (congrArg not uc))
  | str j=>obtain ⟨t',rfl⟩:=ry;exact PySem.EqMixed.ne_bool_str (ZV I q (by simp))
  | _=>exact absurd (show false=true from hs) aD
 | int i =>
  obtain ⟨t,rfl⟩:=rx
  cases y with
  | non=>cases ry;exact PySem.EqNone.ne_int_none (ZV I q (by simp))
  | int j=>obtain ⟨t',rfl⟩:=ry;exact ne_int (ZV I q (congrArg not zv))
  | str j=>obtain ⟨t',rfl⟩:=ry;exact PySem.EqMixed.ne_int_str (ZV I q (by simp))
  | _=>exact absurd (show false=true from hs) aD
 | str i =>
  obtain ⟨t,rfl⟩:=rx
  cases y with
  | non=>cases ry;exact PySem.EqNone.ne_str_none (ZV I q (by simp))
  | bl j=>cases ry;exact PySem.EqMixed.ne_str_bool (ZV I q (by simp))
  | int j=>obtain ⟨t',rfl⟩:=ry;exact PySem.EqMixed.ne_str_int (ZV I q (by simp))
  | str j=>obtain ⟨t',rfl⟩:=ry;exact ne_str (ZV I q (congrArg not zx))
  | _=>exact absurd (show false=true from hs) aD
 | byt i =>
  obtain ⟨t,rfl⟩:=rx
  cases y with
  | byt j=>obtain ⟨t',rfl⟩:=ry;exact PySem.W.ne_bytes (ZV I q (congrArg not zy))
  | _=>exact absurd (show false=true from hs) aD
 | _=>cases y <;> exact absurd (show false=true from hs) aD
theorem op_lt:OpR X (compareOp .Lt) (rI0 λi j => .bl (decide (i < j))):=opB0 λ_ _ _ _ _ _ _ q=>lt_int q
theorem op_le:OpR X (compareOp .LtE) (rI0 λi j => .bl (decide (i<=j))):=opB0 λ_ _ _ _ _ _ _ q=>le_int q
theorem op_gt:OpR X (compareOp .Gt) (rI0 λi j => .bl (decide (j < i))):=opB0 λ_ _ _ _ _ _ _ q=>gt_int q
theorem op_ge:OpR X (compareOp .GtE) (rI0 λi j => .bl (decide (j<=i))):=opB0 λ_ _ _ _ _ _ _ q=>ge_int q
theorem yF:OpR X (compareOp .In) (λx y H Q=>∃ i j,x = .str i/\y = .str j/\Q (.bl (!(Builtin.Str.occurrences j i 0 j.length 1).isEmpty)) H):=by
 intro pins s σ H x y v u Q I rx ry h
 obtain ⟨i,j,rfl,rfl,q⟩:=h
 obtain ⟨t,rfl⟩:=rx
 obtain ⟨t',rfl⟩:=ry
 exact in_str (ZV I q rfl)
theorem jd:OpR X (compareOp .Is) (λx y H Q=>y = .non/\Q (.bl (decide (x = .non))) H):=by
 intro pins s σ H x y v u Q I rx ry h
 obtain ⟨rfl,q⟩:=h
 cases ry
 refine is_none_gen (ZV I q ?_)
 cases x <;> first
  | (cases rx;rfl)
  | (obtain ⟨t,rfl⟩:=rx;rfl)
theorem pB:OpR X (compareOp .IsNot) (λx y H Q=>y = .non/\Q (.bl (!decide (x = .non))) H):=by
 intro pins s σ H x y v u Q I rx ry h
 obtain ⟨rfl,q⟩:=h
 cases ry
 refine isnot_none_gen (ZV I q ?_)
 cases x <;> first
  | (cases rx;rfl)
  | (obtain ⟨t,rfl⟩:=rx;rfl)
theorem GD:OpR X (compareOp .NotIn) (λx y H Q=>∃ i j,x = .str i/\y = .str j/\Q (.bl (!(!(Builtin.Str.occurrences j i 0 j.length 1).isEmpty))) H):=by
 intro pins s σ H x y v u Q I rx ry h
 obtain ⟨i,j,rfl,rfl,q⟩:=h
 obtain ⟨t,rfl⟩:=rx
 obtain ⟨t',rfl⟩:=ry
 exact notIn_str (ZV I q rfl)
theorem OpR.or (h:OpR X f r) (h':OpR X f r'):OpR X f (λx y H Q=>r x y H Q\/r' x y H Q):=by
 intro pins s σ H x y v u Q I rx ry q
 rcases q with q | q
 ·exact h pins s σ H x y v u Q I rx ry q
 ·exact h' pins s σ H x y v u Q I rx ry q
theorem Zr (b:Expr) (h:autoParam (op ≠ .In) auD) (h2:autoParam (op ≠ .NotIn) auD):behindInMarks op b=false:=by
 have e1:(op == CmpOp.In)=false:=by cases op <;> first | rfl | exact absurd rfl h
 have e2:(op == CmpOp.NotIn)=false:=by cases op <;> first | rfl | exact absurd rfl h2
 cases b <;> simp [behindInMarks,e1,e2]
theorem pC (ho:OpR X (compareOp op) r) (ha:PE X a ta) (hb:PE X b tb) (hm:behindInMarks op b=false):PE X (.Compare a [op] [b] pos) (tOp r ta tb):=by
 intro pins s σ H Q I h
 exact wpAny_Compare1 (binT ha hb I h λv u s2 x y H2 I2 rx ry q=>ho pins s2 σ H2 x y v u Q I2 rx ry q) hm
noncomputable def ud (t:TE):TT:=λσ H Q=>t σ H λx H'=>∃ k,x = .bl k/\Q k H'
theorem pD (ho:OpR X (compareOp op) r) (ha:PE X a ta) (hb:PE X b tb) (hm:behindInMarks op b=false):PT X (.Compare a [op] [b] pos) (ud (tOp r ta tb)):=by
 intro pins s σ H Q I h
 refine wpAny_isTrue_Compare1 (thn (ha pins s σ H _ I h) λv s1 ⟨x,H1,I1,r1,q1⟩=>thn (hb pins s1 σ H1 _ I1 q1) λu s2 ⟨y,H2,I2,r2,q2⟩ =>
  thn (ho pins s2 σ H2 x y v u _ I2 r1 r2 q2) λc s3 ⟨z,H3,I3,r3,k,e,q3⟩=>?_) hm
 subst e
 cases r3
 exact wpAny_truthy_bool ⟨H3,I3,q3⟩
noncomputable def jf (r r':R2) (ta tb tc:TE):TE:=λσ H Q=>ta σ H λx H1=>tb σ H1 λy H2=>r x y H2 λz H3=>∃ k,z = .bl k /\
 (if k=true then tc σ H3 λw' H4=>r' y w' H4 Q else Q (.bl false) H3)
theorem ue (ho:OpR X (compareOp op) r) (ho':OpR X (compareOp op') r') (ha:PE X a ta) (hb:PE X b tb) (hc:PE X c tc)
  (hm:lastMarks [op,op'] [b,c]=false:=by with_unfolding_all rfl):PT X (.Compare a [op,op'] [b,c] pos) (ud (jf r r' ta tb tc)):=by
 intro pins s σ H Q I h
 refine isTrue_chain (thn (ha pins s σ H _ I h) λv s1 ⟨x,H1,I1,r1,q1⟩=>test_link (thn (hb pins s1 σ H1 _ I1 q1) λu s2 ⟨y,H2,I2,r2,q2⟩ =>
  thn (ho pins s2 σ H2 x y v u _ I2 r1 r2 q2) λd s3 ⟨z,H3,I3,r3,k,e,q3⟩=>?_)) hm
 subst e
 cases r3
 refine wpAny_truthy_bool ?_
 cases k with
 | false =>
  obtain ⟨k',e',q'⟩:=q3
  cases e'
  exact ite_ff ⟨H3,I3,q'⟩
 | true =>
  refine ite_tt (test_last (thn (hc pins s3 σ H3 _ I3 q3) λw' s4 ⟨z',H4,I4,r4,q4⟩=>thn (ho' pins s4 σ H4 y z' u w' _ I4 r2 r4 q4) λd' s5 zq=>?_))
  obtain ⟨z2,H5,I5,r5,k2,e2,q5⟩:=zq
  subst e2
  cases r5
  exact wpAny_truthy_bool ⟨H5,I5,q5⟩
noncomputable def TruV (K:aj) (x:V) (H:Hp) (k:Bool):Prop :=
 match x with
 | .non=>k=false
 | .bl b=>k=b
 | .int i=>k=(i != 0)
 | .str y=>y.length<=aA/\k=((y.length:Int) != 0)
 | .byt y=>y.size<=aA/\k=((y.size:Int) != 0)
 | .ref p=>(∃ xs,SqL K H p xs/\k = !xs.isEmpty)\/(∃ xs,SqT K H p xs/\k = !xs.isEmpty)\/∃ kvs,H p=some (.dK kvs)/\k = !kvs.isEmpty
 | _=>False
theorem CP (r:KV kvs vs):(!vs.isEmpty) = !kvs.isEmpty:=by
 cases r <;> rfl
theorem JM (r:Vals xs its):(!its.toArray.isEmpty) = !xs.isEmpty:=by
 cases r <;> simp
theorem RY:(aA:Nat) < 2 ^ 63:=by rw [sizeLine_eq];decide
theorem jg:TruR X (λx H Q=>∃ k,TruV X.K x H k/\Q k H):=by
 intro pins s σ H x v Q I rx h
 obtain ⟨k,e,q⟩:=h
 have hl:=RY
 have hs:aA=16777216:=sizeLine_eq
 cases x with
 | non =>
  cases rx
  have e':k=false:=e
  subst e'
  exact truthy_none ⟨H,I,q⟩
 | bl b =>
  cases rx
  have e':k=b:=e
  subst e'
  exact wpAny_truthy_bool ⟨H,I,q⟩
 | int i =>
  obtain ⟨t,rfl⟩:=rx
  have e':k=(i != 0):=e
  subst e'
  exact PySem.P.truthy_int ⟨H,I,q⟩
 | str y =>
  obtain ⟨t,rfl⟩:=rx
  obtain ⟨hy,e'⟩:y.length<=aA/\k=((y.length:Int) != 0):=e
  subst e'
  exact PySem.P.truthy_str (by omega) ⟨H,I.tok _,q⟩
 | byt y =>
  obtain ⟨t,rfl⟩:=rx
  obtain ⟨hy,e'⟩:y.size<=aA/\k=((y.size:Int) != 0):=e
  subst e'
  exact PySem.W.truthy_bytes (by omega) ⟨H,I.tok _,q⟩
 | ref p =>
  cases rx
  have e':(∃ xs,SqL X.K H p xs/\k = !xs.isEmpty)\/(∃ xs,SqT X.K H p xs/\k = !xs.isEmpty)\/∃ kvs,H p=some (.dK kvs)/\k = !kvs.isEmpty:=e
  rcases e' with ⟨xs,hx,e'⟩ | ⟨xs,hx,e'⟩ | ⟨kvs,hx,e'⟩
  ·subst e'
   obtain ⟨its,r,pl,hz⟩:=I.list hx
   have hlen:=r.length
   exact wpAny_truthy_list pl.isList (by simp only [size_toArray];omega) ⟨H,I.tok _,by rw [JM r];exact q⟩
  ·subst e'
   obtain ⟨its,r,pl,hz⟩:=I.tuple hx
   have hlen:=r.length
   exact truthy_tuple pl (by simp only [size_toArray];omega) ⟨H,I.tok _,by rw [JM r];exact q⟩
  ·subst e'
   obtain ⟨hz,hS,vs,r,m⟩:kvs.length<=aA/\(p == sysModules)=false/\∃ vs,KV kvs vs/\s.heap.DictOf (ZG X.prog X.w) p vs:=I.hok p _ hx
   have hlen:kvs.length=vs.length:=Paired.length r
   exact wpAny_truthy_dict hS m (by omega) ⟨H,I.tok _,by rw [CP r];exact q⟩
 | _=>exact (show False from e).elim
theorem uf (ha:PE X a ta) (he:∀ whole,isTrue a X.env whole=(do let v <- whole;standAt a.pos;holding [v] (truthy v))) :
  PT X a (λσ H Q=>ta σ H λx H'=>∃ k,TruV X.K x H' k/\Q k H'):=by
 intro pins s σ H Q I h
 exact isTrue_plain (thn (ha pins s σ H _ I h) λv s1 ⟨x,H1,I1,r1,q1⟩=>jg pins s1 σ H1 x v Q I1 r1 q1) (he _)
theorem CQ:OpR X (binaryOp .Add) (λx y H Q=>∃ i j,x = .str i/\y = .str j/\i.length + j.length<=aA/\Q (.str (i++j)) H):=by
 intro pins s σ H x y v u Q I rx ry h
 obtain ⟨i,j,rfl,rfl,hz,q⟩:=h
 obtain ⟨t,rfl⟩:=rx
 obtain ⟨t',rfl⟩:=ry
 exact add_str (λt' tk=>⟨.str (i++j),H,I.tok _,⟨_,rfl⟩,q⟩) hz
theorem vals1 (r:Vals [x] us):∃ u,us=[u]/\RelV x u:=by
 cases r with
 | cons r1 r2=>cases r2;exact ⟨_,rfl,r1⟩
theorem vals2 (r:Vals [x,y] us):∃ u w',us=[u,w']/\RelV x u/\RelV y w':=by
 cases r with
 | cons r1 r2 =>
  cases r2 with
  | cons r3 r4=>cases r4;exact ⟨_,_,rfl,r1,r3⟩
theorem ug:Xs X (.builtin "abs") (λxs H Q=>∃ i,xs=[.int i]/\Q (.int (if i < 0 then -i else i)) H):=by
 intro pins s σ H xs us Q I r h
 obtain ⟨i,rfl,q⟩:=h
 obtain ⟨u,rfl,t,rfl⟩:=vals1 r
 exact call_abs_int λu tk=>⟨.int (if i < 0 then -i else i),H,I.tok _,⟨_,rfl⟩,q⟩
theorem yG (hc:X.calm=true):Xs X (.builtin "max") (λxs H Q=>∃ i j,xs=[.int i,.int j]/\Q (.int (if j > i then j else i)) H):=by
 intro pins s σ H xs us Q I r h
 obtain ⟨i,j,rfl,q⟩:=h
 obtain ⟨u,w',rfl,⟨t,rfl⟩,⟨t',rfl⟩⟩:=vals2 r
 refine max_two_ints (I.ok.hd hc) λh' tk k=>⟨_,H,I.kept k,?_,q⟩
 by_cases hj:j > i
 ·rw [if_pos hj,if_pos hj];exact ⟨_,rfl⟩
 ·rw [if_neg hj,if_neg hj];exact ⟨_,rfl⟩
theorem yH:Xs X (.type "int") (λxs H Q=>(∃ i,xs=[.int i]/\Q (.int i) H)\/∃ k,xs=[.bl k]/\Q (.int (if k then 1 else 0)) H):=by
 intro pins s σ H xs us Q I r h
 rcases h with ⟨i,rfl,q⟩ | ⟨k,rfl,q⟩
 ·obtain ⟨u,rfl,t,rfl⟩:=vals1 r
  exact call_int_int ⟨.int i,H,I,⟨_,rfl⟩,q⟩
 ·obtain ⟨u,rfl,r1⟩:=vals1 r
  cases r1
  exact call_int_bool ⟨.int (if k then 1 else 0),H,I.tok _,⟨_,rfl⟩,q⟩
end
structure CT (h:Heap) (x dx C:Addr) (mA:Str->Option Value):Prop where
 obj:h.get? x=some (instObj C dx)
 ns:h.Ns1 dx mA
 ne:dx≠x
theorem yI {h:Heap}(n:h.Ns1 dx mA):∃ od,h.get? dx=some od/\∀ name,lookIn name od=some (mA name):=by
 obtain ⟨o,es,ep,ho,hd,hk,_,hm⟩:=n
 refine ⟨o,ho,λname=>?_⟩
 have e:=hm name
 unfold nsFind findBy at e
 rw [<-Array.find?_toList] at e
 unfold lookIn
 rw [hd]
 dsimp only
 split
 ·rename_i y q
  rw [q] at e
  exact congrArg some e
 ·rename_i q
  rw [q] at e
  have a:es.toList.any (·.refKey)=false:=by
   rw [List.any_eq_false]
   intro y hy
   obtain ⟨z,t,hkey⟩:=hk y (Array.mem_toList_iff.mp hy)
   simp [DictEntry.refKey,hkey]
  have a':¬ es.toList.any (·.refKey)=true:=by rw [a];exact aD
  rw [if_neg a']
  exact congrArg some e
theorem CT.look (I:CT h x dx C mA):∃ od,PySem.W.InstAt h x (instObj C dx) C (some od)/\∀ name,lookIn name od=some (mA name) :=
 let ⟨od,ho,hl⟩:=yI I.ns
 ⟨od,⟨I.obj,rfl,rfl,ho⟩,hl⟩
section
variable {prog:Program}{w:World}{A:Around}{E:Value->Shared->Prop}{s:Shared}{K:aj}{x dx C f:Addr}{mA:Str->Option Value}{name:Str}{v:Value}
theorem get_map (X:K.In s.heap) (I:CT s.heap x dx C mA) (hg:plainGet K C name=true) (hh:hasDictIn K C=true)
  (ha:findIn K (.ref C) name=some none) (hv:mA name=some v) (hv':PySem.W.handedIn v=true) (h:Q v { s with toks:=s.toks + 1 }) :
  wpAny (model prog w) A (getAttr (.ref x) name expr) Q E s:=by
 obtain ⟨od,J,hl⟩:=I.look
 exact PySem.W.get_value X J (plainGet_of hg).1 (PySem.W.findObj_own hh ha rfl (by rw [hl,hv])) hv' h
theorem uh (X:K.In s.heap) (I:CT s.heap x dx C mA) (hg:plainGet K C name=true)
  (hf:findIn K (.ref C) name=some (some (.ref f))) (ht:isFn K (.ref f)=true) (hv:mA name=none) (h:Q (.ref f,[.ref x]) s) :
  wpAny (model prog w) A (getMethod (.ref x) name pl) Q E s:=by
 obtain ⟨od,J,hl⟩:=I.look
 exact PySem.W.method_fn X J (plainGet_of hg).1 (plainGet_of hg).2 hf (beq_iff_eq.mp ht) (by show (lookIn name od).map (·.isSome)=some false;rw [hl,hv];rfl) h
theorem pE (X:K.In s.heap) (I:CT s.heap x dx C mA)
  (hs:findIn K (.ref C) "__setattr__" = some (some (.builtin "object.__setattr__"))) (hp:plainOver K C=true) (ht:takerIn K C name=some none) (hh:hasDictIn K C=true)
  (hw:PySem.Within mA ns) (hsz:ns.length<=aA)
  (h:∀ h',CT h' x dx C (λy=>if y=name then some v else mA y)->aG dx s.heap h'->Q () { s with heap:=h',toks:=s.toks + 2 }) :
  wpAny (model prog w) A (setAttr (.ref x) name v) Q E s:=by
 obtain ⟨od,J,hl⟩:=I.look
 refine PySem.W.set_plain X J hs (PySem.W.osa_open (s:={ s with toks:=s.toks + 1 }) (r:=none) X J hp ht λb=>?_)
 obtain ⟨cd,hc,hd'⟩:=PySem.W.any_some hh
 have hx:s.heap.get? x=some ⟨.ref C,some dx,.plain,#[]⟩:=I.obj
 refine ak (ao (ak (ak (wpAny_loadPart hx (ak (Looks.here (s:={ s with toks:=s.toks + 1 }) (PySem.W.looks_clsIn X hc) ?_))))))
 rw [hd']
 refine ao (a:=some dx) (ak (ao (ak ?_)))
 refine wpAny_nsSet1 (s:={ s with toks:=s.toks + 1 }) I.ns λh' hn2 hs2=>?_
 obtain ⟨oD,esD,epD,hoD,hdD,hcD⟩:=hn2.count (PySem.Within.cons name v hw)
 refine ak (wpAny_lookBehind hoD (by rw [hdD];exact pastItsLine_dict (Nat.le_trans hcD (by rw [length_cons];omega))) ?_)
 exact ao (h _ ⟨(hs2.2 _ (Ne.symm I.ne)).trans I.obj,hn2,I.ne⟩ hs2)
theorem uk (X:K.In s.heap) (hm:makesIn K C=true)
  (hi:findIn K (.ref C) "__init__" = some (some (.ref f))) (hf:typeIn K (.ref f)=some (.type "function"))
  (h:codeAny (model prog w) (A.under (.builtin "type.__call__" ⟨.ref C::vs,kw⟩)) (.call (.ref f) ⟨.ref (s.heap.objs.size + 1)::vs,kw⟩) (PySem.W.InitBack (s.heap.objs.size + 1) R)
   { s with heap:=(s.heap.push emptyDict).push (instObj C s.heap.objs.size) }) :
  codeAny (model prog w) A (.call (.ref C) ⟨vs,kw⟩) R s:=by
 obtain ⟨hh,g,d,t,os⟩:=s
 exact PySem.W.make_core (makes_of X hm) (looks_findIn X hi) (λself=>PySem.W.bind_fn X self hf) (.inl rfl) h
theorem yJ (X:K.In s.heap) (hm:makesIn K C=true)
  (hi:findIn K (.ref C) "__init__" = some (some (.builtin "object.__init__")))
  (hb:∀ self,Looks (model prog w) s.heap (bindSpecial (.builtin "object.__init__") self) (.builtin "object.__init__",[self]))
  (h:codeAny (model prog w) (A.under (.builtin "type.__call__" ⟨[.ref C],[]⟩)) (.call (.builtin "object.__init__") ⟨[.ref (s.heap.objs.size + 1)],[]⟩) (PySem.W.InitBack (s.heap.objs.size + 1) R)
   { s with heap:=(s.heap.push emptyDict).push (instObj C s.heap.objs.size) }) :
  codeAny (model prog w) A (.call (.ref C) ⟨[],[]⟩) R s:=by
 obtain ⟨hh,g,d,t,os⟩:=s
 exact PySem.W.make_core (makes_of X hm) (looks_findIn X hi) hb (.inr ⟨rfl,rfl⟩) h
end
noncomputable def Sr (f:Str) (v:V):List (Str × V)->List (Str × V)
 | []=>[(f,v)]
 | (g,x)::r=>if g=f then (g,v)::r else (g,x)::Sr f v r
theorem Kv (f g:Str) (v:V):∀ fs:List (Str × V),(Sr f v fs).lookup g=if g=f then some v else fs.lookup g
 | []=>by
  show List.lookup g [(f,v)]=_
  by_cases h:g=f
  ·have hb:(g == f)=true:=beq_iff_eq.mpr h
   simp only [List.lookup,hb,if_pos h]
  ·have hb:(g == f)=false:=beq_eq_false_iff_ne.mpr h
   simp only [List.lookup,hb,if_neg h]
 | (k,x)::r=>by
  have ih:=Kv f g v r
  rw [show Sr f v ((k,x)::r)=(if k=f then (k,v)::r else (k,x)::Sr f v r) from rfl]
  by_cases hk:k=f
  ·rw [if_pos hk]
   by_cases h:g=k
   ·have hb:(g == k)=true:=beq_iff_eq.mpr h
    simp only [List.lookup,hb,if_pos (h.trans hk)]
   ·have hb:(g == k)=false:=beq_eq_false_iff_ne.mpr h
    simp only [List.lookup,hb,if_neg (λe:g=f=>h (e.trans hk.symm))]
  ·rw [if_neg hk]
   by_cases h:g=k
   ·have hb:(g == k)=true:=beq_iff_eq.mpr h
    simp only [List.lookup,hb,if_neg (λe:g=f=>hk (h.symm.trans e))]
   ·have hb:(g == k)=false:=beq_eq_false_iff_ne.mpr h
    simp only [List.lookup,hb]
    exact ih
theorem MP (f:Str) (v:V):∀ fs:List (Str × V),f∈(Sr f v fs).map (·.1)/\∀ g,g∈fs.map (·.1)->g∈(Sr f v fs).map (·.1)
 | []=>⟨by simp [Sr],λg h=>by simp at h⟩
 | (k,x)::r=>by
  obtain ⟨i1,i2⟩:=MP f v r
  rw [show Sr f v ((k,x)::r)=(if k=f then (k,v)::r else (k,x)::Sr f v r) from rfl]
  by_cases hk:k=f
  ·rw [if_pos hk]
   subst hk
   exact ⟨by simp,λg h=>by simpa using h⟩
  ·rw [if_neg hk]
   refine ⟨?_,λg h=>?_⟩
   ·rw [map_cons]
    exact mem_cons_of_mem _ i1
   ·rw [map_cons] at h ⊢
    rcases mem_cons.mp h with e | e
    ·exact mem_cons.mpr (.inl e)
    ·exact mem_cons_of_mem _ (i2 g e)
theorem Kw (f:Str) (v:V):∀ fs:List (Str × V),(Sr f v fs).length<=fs.length + 1
 | []=>by simp [Sr]
 | (k,x)::r=>by
  have ih:=Kw f v r
  rw [show Sr f v ((k,x)::r)=(if k=f then (k,v)::r else (k,x)::Sr f v r) from rfl]
  by_cases hk:k=f
  ·rw [if_pos hk,length_cons,length_cons];omega
  ·rw [if_neg hk,length_cons,length_cons];omega
theorem RQ.some_of (r:RQ (some v) o):∃ u,o=some u/\RelV v u:=by
 cases o with
 | none=>exact (show False from r).elim
 | some u=>exact ⟨u,rfl,r⟩
theorem RQ.none_of (r:RQ none o):o=none:=by
 cases o with
 | none=>rfl
 | some u=>exact (show False from r).elim
theorem yK (r:RelV v u):PySem.W.handedIn u=true:=by
 cases v with
 | non=>cases (show u=Value.none from r);rfl
 | bl b=>cases (show u=Value.bool b from r);rfl
 | int i=>obtain ⟨t,e⟩:=(show ∃ t,u=Value.int i t from r);cases e;rfl
 | str x=>obtain ⟨t,e⟩:=(show ∃ t,u=Value.str x t from r);cases e;rfl
 | byt b=>obtain ⟨t,e⟩:=(show ∃ t,u=Value.bytes b t from r);cases e;rfl
 | flt b=>obtain ⟨t,e⟩:=(show ∃ t,u=Value.float b t from r);cases e;rfl
 | ref a=>cases (show u=Value.ref a from r);rfl
 | ty n=>cases (show u=Value.type n from r);rfl
section
variable {P:Program}{w:World}{H H':Hp}{h h':Heap}{a C dx:Addr}{fs fs':List (Str × V)}
theorem Jp (hok:HOk P w H h) (e:H a=some (.ins C dx fs)):∃ mA,CT h a dx C mA/\(∀ f,RQ (fs.lookup f) (mA f))/\PySem.Within mA (fs.map (·.1))/\fs.length<=1000/\H dx=some (.own a):=by
 obtain ⟨d,z,ne,ob,mA,n,r,q⟩:=(show Yj P w H h a (.ins C dx fs) from hok a _ e)
 exact ⟨mA,⟨ob,n,ne⟩,r,q,z,d⟩
end
structure Cls (K:aj) (C:Addr):Prop where
 pg:plainGet K C Str.empty=true
 hd:hasDictIn K C=true
 po:plainOver K C=true
 sa:findIn K (.ref C) "__setattr__" = some (some (.builtin "object.__setattr__"))
theorem Cls.get {K:aj}(c:Cls K C) (f:Str):plainGet K C f=true:=c.pg
noncomputable def Xm (K:aj) (C:Addr) (f:Str):Prop:=findIn K (.ref C) f=some none
theorem Xm.taker {K:aj}(n:Xm K C f):takerIn K C f=some none:=by
 unfold takerIn
 rw [show findIn K (.ref C) f=some none from n]
 rfl
structure Meth (K:aj) (C:Addr) (m:Str) (f:Addr):Prop where
 at_:findIn K (.ref C) m=some (some (.ref f))
 fn:isFn K (.ref f)=true
 kp:keepIn K (.ref f)=true
section
variable {X:Cx}{pins:List (Addr × Obj)}{σ:St}{H:Hp}{s:Shared}{a C dx:Addr}{fs:List (Str × V)}{f:Str}{v:V}{A:Around}{E:Value->Shared->Prop}
theorem CU (I:Inv X pins σ H s) (e:H a=some (.ins C dx fs)) (c:Cls X.K C) (n:Xm X.K C f) (l:fs.lookup f=some v)
  (h:∀ u s',Inv X pins σ H s'->RelV v u->Q u s'):wpAny (model X.prog X.w) A (getAttr (.ref a) f b) Q E s:=by
 obtain ⟨mA,O,r,_,_,_⟩:=Jp I.hok e
 obtain ⟨u,hu,ru⟩:=RQ.some_of (v:=v) (o:=mA f) (by rw [<-l];exact r f)
 exact get_map I.kIn O (c.get f) c.hd n hu (yK ru) (h u _ (I.tok _) ru)
theorem CV (I:Inv X pins σ H s) (e:H a=some (.ins C dx fs)) (c:Cls X.K C) (k:Meth X.K C m g) (l:fs.lookup m=none)
  (h:Q (.ref g,[.ref a]) s):wpAny (model X.prog X.w) A (getMethod (.ref a) m pl) Q E s:=by
 obtain ⟨mA,O,r,_,_,_⟩:=Jp I.hok e
 have hn:mA m=none:=RQ.none_of (by rw [<-l];exact r m)
 exact uh I.kIn O (c.get m) k.at_ k.fn hn h
theorem CW (I:Inv X pins σ H s) (e:H a=some (.ins C dx fs)) (c:Cls X.K C) (n:Xm X.K C f) (hl:fs.length < 1000) (ry:RelV y u)
  (h:∀ s',Inv X pins σ (upd H a (.ins C dx (Sr f y fs))) s'->Q () s'):wpAny (model X.prog X.w) A (setAttr (.ref a) f u) Q E s:=by
 obtain ⟨mA,O,r,wi,_,ho⟩:=Jp I.hok e
 have hz:(fs.map (·.1)).length<=aA:=by rw [length_map,sizeLine_eq];omega
 refine pE I.kIn O c.sa c.po n.taker c.hd wi hz λh' O' sb=>h _ ?_
 have hd:∃ o,h'.get? dx=some o:=let ⟨o,_,_,e',_⟩:=O'.ns;⟨o,e'⟩
 refine I.write (x:=a) (e:=dx) (by rw [e];exact True.intro) (.inr ho) (λb q hb z=>(sb.2 b hb).trans z) hd ?_
 refine ⟨by rw [Zj O.ne];exact ho,?_,O.ne,O'.obj,_,O'.ns,λg=>?_,λg hg=>?_⟩
 ·have:=Kw f y fs;omega
 ·show RQ ((Sr f y fs).lookup g) (if g=f then some u else mA g)
  rw [Kv]
  by_cases q:g=f
  ·rw [if_pos q,if_pos q];exact ry
  ·rw [if_neg q,if_neg q];exact r g
 ·by_cases q:g=f
  ·rw [q];exact (MP f y fs).1
  ·refine (MP f y fs).2 g (wi g λz=>hg ?_)
   show (if g=f then some u else mA g)=none
   rw [if_neg q];exact z
theorem Inv.made (I:Inv X pins σ H s):Inv X pins σ (upd (upd H s.heap.objs.size (.own (s.heap.objs.size + 1))) (s.heap.objs.size + 1) (.ins C s.heap.objs.size []))
  { s with heap:=(s.heap.push emptyDict).push (instObj C s.heap.objs.size) }:=by
 have e1:(s.heap.push emptyDict).get? s.heap.objs.size=some emptyDict:=au s.heap rfl
 have e2:((s.heap.push emptyDict).push (instObj C s.heap.objs.size)).get? (s.heap.objs.size + 1)=some (instObj C s.heap.objs.size):=by
  have:=au (s.heap.push emptyDict) (o:=instObj C s.heap.objs.size) rfl
  rwa [Heap.size_push] at this
 have e3:(s.heap.push emptyDict).Ns s.heap.objs.size (λ_=>none):=⟨emptyDict,#[],_,e1,rfl,(λe he=>absurd he (by simp)),λ_=>rfl⟩
 have I1:=I.laid (a:=s.heap.objs.size) (o := .own (s.heap.objs.size + 1)) (h':=s.heap.push emptyDict) (t':=s.toks) (λb u q=>aq _ q) (Nat.le_refl _) ⟨_,e1⟩
 refine I1.laid (a:=s.heap.objs.size + 1) (o := .ins C s.heap.objs.size []) (t':=s.toks) (λb u q=>aq _ q) (Nat.le_of_eq (Heap.size_push _ _)) ?_
 have ne:s.heap.objs.size≠s.heap.objs.size + 1:=Nat.ne_of_lt (Nat.lt_succ_self _)
 refine ⟨by rw [Zj ne,Zy],Nat.zero_le _,ne,e2,λ_=>none,(Heap.Ns1.of_empty e3).at λo q=>aq _ q,λ_=>True.intro,λy hy=>absurd rfl hy⟩
theorem pF (hb:attributeBase e f env (eval e env)=eval e env)
  (h:wpAny (model prog w) A (eval e env) (λo s₁=>wpAny (model prog w) A (getAttr o f true) Q E s₁) E s):wpAny (model prog w) A (eval (.Attribute e f pos) env) Q E s :=
 Attribute_any_ h (by rw [arm_eval_Attribute,hb])
end
noncomputable def tFld (K:aj) (ta:TE) (f:Str):TE:=λσ H Q=>ta σ H λx H1=>∃ a C dx fs v,x = .ref a/\H1 a=some (.ins C dx fs)/\Cls K C/\Xm K C f/\fs.lookup f=some v/\Q v H1
noncomputable def sFld (K:aj) (ta tv:TE) (f:Str):TS:=λD σ H=>tv σ H λy H1=>ta σ H1 λx H2=>∃ a C dx fs,x = .ref a/\H2 a=some (.ins C dx fs)/\Cls K C/\Xm K C f/\fs.length < 1000 /\
 D.nx σ (upd H2 a (.ins C dx (Sr f y fs)))
section
variable {X:Cx}{o e value:Expr}{f:Str}{pos pos' tpos:Pos}{ta tv:TE}
theorem jh (he:PE X e ta) (hb:attributeBase e f X.env (eval e X.env)=eval e X.env):PE X (.Attribute e f pos) (tFld X.K ta f):=by
 intro pins s σ H Q I h
 refine pF hb (thn (he pins s σ H _ I h) λu s1 zq=>?_)
 obtain ⟨x,H1,I1,rx,a,C,dx,fs,v,ex,ea,c,n,l,q⟩:=zq
 subst ex
 obtain rfl:u=Value.ref a:=rx
 exact CU I1 ea c n l λu' s2 I2 ru=>⟨v,H1,I2,ru,q⟩
theorem ji (ha:PE X o ta) (hv:PE X value tv) (hs:swapsWith value (some (.Attribute o f pos')) pos.line X.env=pure false):PS X (.Assign [.Attribute o f pos'] value pos) (sFld X.K ta tv f):=by
 intro pins s σ H D I h
 refine plainObj_wpAny_Assign_Attribute (thn (hv pins s σ H _ I h) λu s1 ⟨y,H1,I1,ry,q⟩=>thn (ha pins s1 σ H1 _ I1 q) λov s2 zq=>?_) hs
 obtain ⟨x,H2,I2,rx,a,C,dx,fs,ex,ea,c,n,l,q2⟩:=zq
 subst ex
 obtain rfl:ov=Value.ref a:=rx
 exact CW I2 ea c n l ry λs3 I3=>⟨σ,_,I3,q2⟩
end
section
variable {X:Cx}{pins:List (Addr × Obj)}{σ:St}{H:Hp}{s:Shared}{A:Around}{E:Value->Shared->Prop}{Q:Value->Shared->Prop}{c:Value}{b:Bool}
inductive Oh (K:aj) (H:Hp):V->Value->Prop where
 | non:Oh K H .non (.type "NoneType")
 | bl (x:Bool):Oh K H (.bl x) (.type "bool")
 | int (i:Int):Oh K H (.int i) (.type "int")
 | str (x:Str):Oh K H (.str x) (.type "str")
 | flt (x:UInt64):Oh K H (.flt x) (.type "float")
 | lst {a:Addr}{xs:List V}(e:H a=some (.lst xs)):Oh K H (.ref a) (.type "list")
 | frz {a:Addr}{o:Obj}{xs:List V}(e:H a=some (.frz o (.lst xs))):Oh K H (.ref a) (.type "list")
 | tup {a:Addr}{xs:List V}(e:H a=some (.tup xs)):Oh K H (.ref a) (.type "tuple")
 | dK {a:Addr}{kvs:List (Key × V)}(e:H a=some (.dK kvs)):Oh K H (.ref a) (.type "dict")
 | dT {a:Addr}{kvs:List (List Key × V)}(e:H a=some (.dT kvs)):Oh K H (.ref a) (.type "dict")
 | ins {a C dx:Addr}{fs:List (Str × V)}(e:H a=some (.ins C dx fs)) (cl:Cls K C) (ha:findIn K (.ref C) "__class__" = some (some (.builtin "object.__class__")))
   (hn:specialIn K (.builtin "object.__class__") "__get__" = some (some (.builtin "getset_descriptor.__get__"))) (htk:takesIn K (.builtin "object.__class__")=some true)
   (hm:mroIn K C (.type "object")=some true):Oh K H (.ref a) (.ref C)
theorem yL (I:Inv X pins σ H s) (rx:RelV x u) (ty:Oh X.K H x t) (e:kitOne X.K t c=some b) (h:∀ tk,Q (.bool b) { s with toks:=tk }) :
  wpAny (model X.prog X.w) A (call (.builtin "isinstance") [u,c]) Q E s:=by
 cases ty with
 | non=>cases (show u=Value.none from rx);exact kia_one PySem.W.kitx_none I.kIn True.intro e (λz=>nomatch z) h
 | bl y=>cases (show u=Value.bool y from rx);exact kia_one PySem.W.kitx_bool I.kIn True.intro e (λz=>nomatch z) h
 | int i=>obtain ⟨t,q⟩:=(show ∃ t,u=Value.int i t from rx);cases q;exact kia_one PySem.W.kitx_int I.kIn True.intro e (λz=>nomatch z) h
 | str y=>obtain ⟨t,q⟩:=(show ∃ t,u=Value.str y t from rx);cases q;exact kia_one PySem.W.kitx_str I.kIn True.intro e (λz=>nomatch z) h
 | flt y=>obtain ⟨t,q⟩:=(show ∃ t,u=Value.float y t from rx);cases q;exact kia_one PySem.W.kitx_float I.kIn True.intro e (λz=>nomatch z) h
 | @lst a xs ea =>
  cases (show u=Value.ref a from rx)
  obtain ⟨_,_,n,_,h1⟩:=(show Yj X.prog X.w H s.heap a (.lst xs) from I.hok a _ ea)
  exact kia_one kitx_list I.kIn ⟨_,h1,rfl⟩ e (λz=>nomatch z) h
 | @frz a ob xs ea =>
  cases (show u=Value.ref a from rx)
  obtain ⟨_,_,_,n,_,h1⟩:=(show Yj X.prog X.w H s.heap a (.frz ob (.lst xs)) from I.hok a _ ea)
  exact kia_one kitx_list I.kIn ⟨_,h1,rfl⟩ e (λz=>nomatch z) h
 | @tup a xs ea =>
  cases (show u=Value.ref a from rx)
  obtain ⟨_,_,_,p⟩:=(show Yj X.prog X.w H s.heap a (.tup xs) from I.hok a _ ea)
  obtain ⟨o,h1,h2,_⟩:=p
  exact kia_one PySem.W.kitx_tuple I.kIn ⟨o,h1,h2⟩ e (λz=>nomatch z) h
 | @dK a kvs ea =>
  cases (show u=Value.ref a from rx)
  obtain ⟨_,_,vs,_,p⟩:=(show Yj X.prog X.w H s.heap a (.dK kvs) from I.hok a _ ea)
  obtain ⟨o,es,ep,h1,h2,_⟩:=p
  exact kia_one PySem.W.kitx_dict I.kIn ⟨o,h1,h2.1⟩ e (λz=>nomatch z) h
 | @dT a kvs ea =>
  cases (show u=Value.ref a from rx)
  obtain ⟨_,_,xs,_,o,es,ep,h1,h2,_⟩:=(show Yj X.prog X.w H s.heap a (.dT kvs) from I.hok a _ ea)
  exact kia_one PySem.W.kitx_dict I.kIn ⟨o,h1,h2.1⟩ e (λz=>nomatch z) h
 | @ins a C dx fs ea cl ha hn htk hm =>
  cases (show u=Value.ref a from rx)
  obtain ⟨mA,O,_⟩:=Jp I.hok ea
  obtain ⟨od,J,_⟩:=O.look
  exact kia_one (PySem.W.kitx_own (cl.get _) cl.hd ha hn htk hm) I.kIn J e (λz=>nomatch z) h
end
structure YZ (k:Nat) (A:Around):Prop where
 hd:A.handled=none
 dp:A.depth + 3 * k + 5 < recursionLimit
 un:A.units + 16 * k + 200 < cLine
theorem YZ.mono (r:YZ k A) (h:j<=k):YZ j A:=⟨r.hd,by have:=r.dp;omega,by have:=r.un;omega⟩
theorem YZ.deeper (r:YZ (k + 1) A) (env:Env):YZ k (A.deeper env) :=
 ⟨r.hd,by have:=r.dp;show A.depth + 1 + 3 * k + 5 < _;omega,by have:=r.un;show A.units + 3 + 16 * k + 200 < _;omega⟩
theorem CY {A:Around}:(A.under (.builtin "type.__call__" ⟨.ref C::us,kw⟩)).depth=A.depth + 1:=by
 first | rfl | simp [Around.under,Code.weight,Code.isCreation,Code.isGuard,Code.isCaller,Code.frames,Code.isFrame,guardIds]
theorem Ba {A:Around}:(A.under (.builtin "type.__call__" ⟨.ref C::us,kw⟩)).units=A.units + 1:=by
 first | rfl | simp [Around.under,Code.cUnits,Code.frames,Code.isFrame]
theorem YZ.make (r:YZ (k + 1) A) (C:Addr) (us:List Value) (kw:List (Str × Value)):YZ k (A.under (.builtin "type.__call__" ⟨.ref C::us,kw⟩)) :=
 ⟨r.hd,by have:=r.dp;rw [CY];omega,by have:=r.un;rw [Ba];omega⟩
theorem YZ.depth (r:YZ k A):A.depth < recursionLimit:=by have:=r.dp;omega
theorem YZ.units (r:YZ k A):A.units + 64 < cLine:=by have:=r.un;omega
noncomputable def tNil:TA:=λ_ H Q=>Q [] H
noncomputable def mK (ta:TE) (tr:TA):TA:=λσ H Q=>ta σ H λx H1=>tr σ H1 λxs H2=>Q (x::xs) H2
section
variable {X:Cx}{e:Expr}{es:List Expr}{te:TE}{t:TA}{pos:Pos}
theorem Oi:PA X [] tNil:=λ_ _ _ _ H Q I h=>Calls.spliced_nil ⟨[],H,I,.nil,h⟩
theorem pG (ha:PE X e te) (hr:PA X es t) (hs:autoParam (starEach (e::es) X.env=(false,eval e X.env)::starEach es X.env) auR):PA X (e::es) (mK te t):=by
 intro pos pins s σ H Q I h
 rw [hs]
 show wpAny _ _ (spliced ((false,eval e X.env)::backTo pos (starEach es X.env))) _ _ s
 refine Calls.spliced_cons (thn (ha pins s σ H _ I h) λu s1 zq=>?_)
 obtain ⟨x,H1,I1,r1,q1⟩:=zq
 exact thn (hr pos pins s1 σ H1 _ I1 q1) λus s2 ⟨xs,H2,I2,r2,q2⟩=>⟨x::xs,H2,I2,.cons r1 r2,q2⟩
noncomputable def tTup (t:TA):TE:=λσ H Q=>t σ H λxs H1=>xs.length<=aA/\∀ p,H1 p=none->Q (.ref p) (upd H1 p (.tup xs))
noncomputable def tLst (t:TA):TE:=λσ H Q=>t σ H λxs H1=>xs.length<=aA/\∀ p,H1 p=none->Q (.ref p) (upd H1 p (.lst xs))
theorem jj (h:PA X es t):PE X (.Tuple es x1 pos) (tTup t):=by
 intro pins s σ H Q I hq
 refine wpAny_Tuple_spliced (thn (h pos pins s σ H _ I hq) λus s1 ⟨xs,H1,I1,r,z,q⟩=>⟨by rw [<-r.length];exact z,?_⟩)
 have hf:H1 s1.heap.objs.size=none:=I1.hok.fresh (Nat.le_refl _)
 refine ⟨.ref s1.heap.objs.size,upd H1 s1.heap.objs.size (.tup xs),I1.laid (t':=s1.toks) (λb u e=>aq _ e) (Nat.le_refl _) ?_,rfl,q _ hf⟩
 exact ⟨z,us,r,⟨_,au _ rfl,rfl,_,rfl⟩⟩
theorem uo (h:PA X es t):PE X (.List es pos) (tLst t):=by
 intro pins s σ H Q I hq
 refine wpAny_List_spliced (thn (h pos pins s σ H _ I hq) λus s1 ⟨xs,H1,I1,r,z,q⟩=>⟨by rw [<-r.length];exact z,?_⟩)
 have hf:H1 s1.heap.objs.size=none:=I1.hok.fresh (Nat.le_refl _)
 refine ⟨.ref s1.heap.objs.size,upd H1 s1.heap.objs.size (.lst xs),I1.laid (t':=s1.toks) (λb u e=>aq _ e) (Nat.le_refl _) ?_,rfl,q _ hf⟩
 exact ⟨z,us,0,r,au _ rfl⟩
end
abbrev Sp:=List V->Hp->VK->XK->Prop
abbrev CXT:=List Env->Hp->Shared->XK->Value->Shared->Prop
structure Bb (P:Program) (w:World) (K:aj) (mg:Str->Option Value) (base:Heap) (A:Around) (outer:List Env) (s:Shared) (H:Hp):Prop where
 frames:A.frames=some outer
 mod:Mod K mg base
 bs:∀ b o,base.get? b=some o->s.heap.get? b=some o/\H b=none
 bsz:base.objs.size<=s.heap.objs.size
 RV:s.heap.FunFrames base outer
 frf:∀ b∈frs outer,H b=none
 hok:HOk P w H s.heap
 bare:AllBare s.gens
noncomputable def CE (outer:List Env) (P:Program) (w:World) (H:Hp) (s:Shared) (Q:VK) (u:Value) (s':Shared):Prop :=
 ∃ v H',s'.os=s.os/\AllBare s'.gens/\Un (frs outer) [] H H' s.heap s'.heap/\HOk P w H' s'.heap/\RelV v u/\Q v H'
noncomputable def CR (CX:CXT) (outer:List Env) (P:Program) (w:World) (H:Hp) (s:Shared) (Q:VK) (E:XK) (r:Result) (s':Shared):Prop :=
 match r with
 | .ok (.ret u)=>CE outer P w H s Q u s'
 | .ok _=>False
 | .error e=>CX outer H s E e s'
structure Zx (P:Program) (w:World) (K:aj) (mg:Str->Option Value) (base:Heap) (CX:CXT) (k:Nat) (f:Addr) (fd:FuncData) (ps:List Str) (sp:Sp):Prop where
 len:∀ vs H Q E,sp vs H Q E->vs.length=ps.length
 run:∀ (A:Around) (outer:List Env) (s:Shared) (H:Hp) (args:Args) (us:List Value) (vs:List V) (Q:VK) (E:XK),YZ k A->Bb P w K mg base A outer s H->BindsTo s fd args (ps.zip us)->Vals vs us->sp vs H Q E ->
  codeAny (model P w) A (.call (.ref f) args) (CR CX outer P w H s Q E) s
theorem Zx.mono {K:aj}{j k:Nat}{f:Addr}{fd:FuncData}{ps:List Str}{sp:Sp}(F:Zx P w K mg base CX j f fd ps sp) (h:j<=k) :
  Zx P w K mg base CX k f fd ps sp:=⟨F.len,λA outer s H args us vs Q E hr=>F.run A outer s H args us vs Q E (hr.mono h)⟩
theorem Zx.imp {K:aj}{k:Nat}{f:Addr}{fd:FuncData}{ps:List Str}{sp sp':Sp}(F:Zx P w K mg base CX k f fd ps sp)
  (h:∀ vs H Q E,sp' vs H Q E->sp vs H Q E):Zx P w K mg base CX k f fd ps sp' :=
 ⟨λvs H Q E q=>F.len vs H Q E (h _ _ _ _ q),λA outer s H args us vs Q E hr he hb hv hs=>F.run A outer s H args us vs Q E hr he hb hv (h _ _ _ _ hs)⟩
theorem Bb.make {K:aj}{outer:List Env}{s:Shared}{H:Hp}(e:Bb P w K mg base A outer s H) (C:Addr) (us:List Value) (kw:List (Str × Value)) :
  Bb P w K mg base (A.under (.builtin "type.__call__" ⟨.ref C::us,kw⟩)) outer s H:=⟨by first | exact e.frames | (simpa [Around.under,Code.envs,Code.isFrame,pushEnvs] using e.frames),e.mod,e.bs,e.bsz,e.RV,e.frf,e.hok,e.bare⟩
section
variable {X:Cx}{pins:List (Addr × Obj)}{σ:St}{H:Hp}{s s':Shared}
theorem Inv.env0 (I:Inv X pins σ H s):Bb X.prog X.w X.K X.mg X.base X.A X.stack s H :=
 ⟨I.ok.frames,I.ok.mod,I.bs,Nat.le_trans I.ok.bsz I.sz,I.stack,I.zo,I.hok,I.bare⟩
theorem Inv.after (I:Inv X pins σ H s) (h:CE X.stack X.prog X.w H s Q u s'):EP X pins σ Q u s':=by
 obtain ⟨v,H',os,bare,un,hok,r,q⟩:=h
 obtain ⟨hh,g,d,t,os'⟩:=s'
 obtain rfl:os'=s.os:=os
 exact ⟨v,H',I.call (h':=hh) (g':=g) (d':=d) (t':=t) (ch:=[]) un hok bare (λb z=>absurd z (by simp)),r,q⟩
end
noncomputable def Binds (K:aj) (fd:FuncData) (ps:List Str) (ds:List Value):Prop :=
 ∀ (s:Shared) (us:List Value),K.In s.heap->(us++ds).length=ps.length->BindsTo s fd ⟨us,[]⟩ (ps.zip (us++ds))
theorem Binds.all {K:aj}(h:∀ us:List Value,us.length=ps.length->bindArgs fd ⟨us,[]⟩=pure (ps.zip us)):Binds K fd ps []:=λs us _ hl=>by
 rw [append_nil] at hl ⊢
 exact .of_eq (h us hl)
section
variable {X:Cx}{CX:CXT}{k:Nat}{f C:Addr}{fd:FuncData}{ps:List Str}{sp:Sp}{dvs:List V}{ds:List Value}{E:XK}{x m:Str}{p pos apos:Pos}{e o:Expr}{es:List Expr}{ta:TE}{t:TA}
structure Mk (K:aj) (C f:Addr):Prop where
 makes:makesIn K C=true
 init:findIn K (.ref C) "__init__" = some (some (.ref f))
 fn:isFn K (.ref f)=true
 kp:keepIn K (.ref C)=true
end
section
variable {X:Cx}{CX:CXT}{k:Nat}{f C:Addr}{fd:FuncData}{ps ks:List Str}{sp:Sp}{E:XK}{x m:Str}{p pos apos kpos:Pos}{e o:Expr}{es:List Expr}{kws:List Keyword}{te ta:TE}{t tk:TA}{nm:Option Str}
variable {g:List Value->List Value->List Value}{gV:List V->List V->List V}
end
structure Zh (N P:List Str) (sc:Scope):Prop where
 kind:sc.kind = .function
 co:sc.isCoroutine=false
 gen:sc.isGenerator=false
 nd:N.Nodup
 pre:N.take P.length=P
 par:∀ x∈P,sc.names.lookup x=some .local\/sc.names.lookup x=some .cell
 nofree:∀ y∈sc.names,y.2 ≠ .free
theorem HP {kindOf:Str->Option NameKind}:∀ {binds:List (Str × Value)}{m:Str->Option Value},(∀ v,(x,v)∉binds)->bindL kindOf binds m x=m x
 | [],_,_=>rfl
 | (n,v)::r,m,h=>by
  unfold bindL
  rw [HP λw hw=>h w (mem_cons_of_mem _ hw)]
  split
  ·have:x≠n:=by rintro rfl;exact h v mem_cons_self
   simp [this]
  ·rfl
theorem HQ {kindOf:Str->Option NameKind}:∀ {binds:List (Str × Value)}{m:Str->Option Value},(∀ v,(x,v)∉binds)->bindC kindOf binds m x=m x
 | [],_,_=>rfl
 | (n,v)::r,m,h=>by
  unfold bindC
  rw [HQ λw hw=>h w (mem_cons_of_mem _ hw)]
  split
  ·rfl
  ·have:x≠n:=by rintro rfl;exact h v mem_cons_self
   simp [this]
theorem HR {kindOf:Str->Option NameKind}:∀ {P:List Str}{vs:List Value}{i:Nat}{m:Str->Option Value},P.Nodup->P[i]?=some x->vs[i]?=some v->kindOf x=some .local ->
  bindL kindOf (P.zip vs) m x=some v
 | [],_,_,_,_,h,_,_=>by simp at h
 | _::_,[],_,_,_,_,h,_=>by simp at h
 | p::P,w::vs,0,m,nd,h1,h2,hk=>by
  simp at h1 h2;subst h1;subst h2
  show bindL kindOf ((p,w)::P.zip vs) m p=_
  unfold bindL
  rw [HP λv hv=>(nodup_cons.mp nd).1 (of_mem_zip hv).1,if_pos hk]
  simp
 | p::P,w::vs,i + 1,m,nd,h1,h2,hk=>by
  show bindL kindOf ((p,w)::P.zip vs) m x=_
  unfold bindL
  exact HR (i:=i) (nodup_cons.mp nd).2 (by simpa using h1) (by simpa using h2) hk
theorem HS {kindOf:Str->Option NameKind}:∀ {P:List Str}{vs:List Value}{i:Nat}{m:Str->Option Value},P.Nodup->P[i]?=some x->vs[i]?=some v->kindOf x≠some .local ->
  bindC kindOf (P.zip vs) m x=some v
 | [],_,_,_,_,h,_,_=>by simp at h
 | _::_,[],_,_,_,_,h,_=>by simp at h
 | p::P,w::vs,0,m,nd,h1,h2,hk=>by
  simp at h1 h2;subst h1;subst h2
  show bindC kindOf ((p,w)::P.zip vs) m p=_
  unfold bindC
  rw [HQ λv hv=>(nodup_cons.mp nd).1 (of_mem_zip hv).1,if_neg hk]
  simp
 | p::P,w::vs,i + 1,m,nd,h1,h2,hk=>by
  show bindC kindOf ((p,w)::P.zip vs) m x=_
  unfold bindC
  exact HS (i:=i) (nodup_cons.mp nd).2 (by simpa using h1) (by simpa using h2) hk
noncomputable def start (N:List Str) (vs:List V):St:=vs.map some++replicate (N.length - vs.length) none
noncomputable def XG (CX:CXT) (P:Program) (w:World) (K:aj) (mg:Str->Option Value) (base:Heap) (N:List Str) (qual:Str) (scope:Scope) (f:Addr) (cd:Value) (A:Around) (outer:List Env) (s:Shared) (H:Hp) (E:XK):Cx where
 prog:=P
 w:=w
 K:=K
 mg:=mg
 base:=base
 A:=A.deeper (envOfC qual scope s.heap.objs.size f cd)
 N:=N
 s₀:=s
 H₀:=H
 env:=envOfC qual scope s.heap.objs.size f cd
 outer:=outer
 stack:=envOfC qual scope s.heap.objs.size f cd::outer
 ex:=[]
 calm:=true
 fn:=λ_=>true
 pn:=[]
 xe:=λe s'=>wpAny (model P w) (A.deeper (envOfC qual scope s.heap.objs.size f cd)) (leaving (envOfC qual scope s.heap.objs.size f cd) e) (λ_ s''=>CX outer H s E e s'') (λe' s''=>CX outer H s E e' s'') s'
theorem En {sc:Scope}(h:sc.names.lookup x=some .cell):∃ c,(cellsFrom n sc.names []).lookup x=some c:=by
 have q:=PySem.W.cellsFrom_some sc.names n [] (.inl h)
 exact Option.isSome_iff_exists.mp q
theorem yM {CX:CXT}{K:aj}{N ps:List Str}{qual:Str}{scope:Scope}{f:Addr}{cd:Value}{A:Around}{outer:List Env}{s s1:Shared}{H:Hp}{E:XK}{us:List Value}{vs:List V}
  (S:Zh N ps scope) (hd:A.handled=none) (e0:Bb P w K mg base A outer s H) (hl:vs.length=ps.length) (r:Vals vs us)
  (x:InCallC s s.heap.objs.size (bindL (envOfC qual scope s.heap.objs.size f cd).kindOf (ps.zip us) λ_=>none) (cellsFrom (s.heap.objs.size + 1) scope.names []) (bindC (envOfC qual scope s.heap.objs.size f cd).kindOf (ps.zip us) λ_=>none) s1) :
  Inv (XG CX P w K mg base N qual scope f cd A outer s H E) [] (start N vs) H s1:=by
 have hpl:ps.length<=N.length:=by have:=congrArg length S.pre;rw [length_take] at this;omega
 obtain ⟨h1,tk,rfl,hk⟩:=x.done
 have noA:∀ b:Addr,b∉(XG CX P w K mg base N qual scope f cd A outer s H E).ex:=λb z=>absurd (show b∈([]:List Addr) from z) (by simp)
 refine ⟨⟨e0.mod,S.kind,rfl,rfl,Nat.le_refl _,λy z c h1 h2=>?_,λy hy=>?_,λy c _ h=>?_,λ_=>hd,Around.frames_deeper e0.frames,.inr ⟨rfl,rfl⟩,λb z=>absurd z (noA b),e0.bs,e0.bsz,λb _ _=>noA b,λb z=>absurd z (noA b),e0.RV,e0.frf⟩,
  rfl,e0.bare,Un.kept hk,⟨_,x.toInCall.ns,λi y v h1 h2 h3=>?_⟩,λy c h=>⟨_,x.cell y c h⟩,e0.hok.fresh (Nat.le_refl _),λy c h=>?_,λp hp=>absurd (show p∈([]:List (Addr × Obj)) from hp) (by simp),e0.hok.kept hk,?_⟩
 ·exact name_of_addr x.apart (PySem.mem_of_lookup h1) (PySem.mem_of_lookup h2)
 ·have hy:scope.names.lookup y=some .cell\/scope.names.lookup y=some .free:=hy
  rcases hy with hy | hy
  ·exact En hy
  ·exact absurd rfl (S.nofree _ (PySem.mem_of_lookup hy))
 ·exact Nat.le_of_lt (x.above y c (PySem.mem_of_lookup h))
 ·have hi:i < vs.length:=by
   unfold start at h2
   by_cases hi:i < vs.length
   ·exact hi
   ·rw [getElem?_append_right (by simpa using hi)] at h2
    rw [getElem?_replicate] at h2
    split at h2 <;> cases h2
  have ha:vs[i]?=some v:=by
   unfold start at h2
   rw [getElem?_append_left (by simpa using hi),getElem?_map] at h2
   cases e:vs[i]? with
   | none=>rw [e] at h2;cases h2
   | some a=>rw [e] at h2;cases h2;rfl
  obtain ⟨u,hu,rv⟩:=r.get ha
  have hp:ps[i]?=some y:=by
   rw [<-S.pre,List.getElem?_take_of_lt (by omega)];exact h1
  have ndP:ps.Nodup:=by rw [<-S.pre];exact S.nd.sublist (List.take_sublist _ _)
  refine ⟨u,rv,?_⟩
  rcases S.par y (mem_of_getElem? hp) with k | k
  ·exact .inl ⟨k,HR ndP hp hu k⟩
  ·obtain ⟨c,e⟩:=En (n:=s.heap.objs.size + 1) k
   refine .inr ⟨.inl k,c,e,?_⟩
   have q:=x.cell y c e
   rw [HS ndP hp hu (by show scope.names.lookup y≠_;rw [k];decide)] at q
   exact q
 ·exact e0.hok.fresh (Nat.le_of_lt (x.above y c (PySem.mem_of_lookup h)))
 ·unfold start
  show _=N.length
  rw [length_append,length_map,length_replicate]
  omega
theorem uq {K:aj}{k:Nat}{f:Addr}{name qual:Str}{params:Arguments}{body:List Stmt}{scope:Scope}{dV kV doc pm cdv ct oc:Value}{an od:Option Addr}
  {osl:Array (Option Value)}{N ps:List Str}{sp:Sp}(lk:K.lookup f=some ⟨oc,od,.func (PySem.W.fnOf name qual params body scope dV kV doc pm an cdv ct),osl⟩) (hcd:PySem.W.codeIn K cdv qual=true) (S:Zh N ps scope)
  (len:∀ vs H Q E,sp vs H Q E->vs.length=ps.length)
  (hbody:∀ (A:Around) (outer:List Env) (s:Shared) (H:Hp) (vs:List V) (Q:VK) (E:XK),YZ k (A.deeper (envOfC qual scope s.heap.objs.size f cdv))->sp vs H Q E ->
   ∃ t,PSs (XG CX P w K mg base N qual scope f cdv A outer s H E) body t/\t { nx:=λ_ H'=>Q .non H',rt:=Q } (start N vs) H) :
  Zx P w K mg base CX (k + 1) f (PySem.W.fnOf name qual params body scope dV kV doc pm an cdv ct) ps sp:=by
 refine ⟨len,λA outer s H args us vs Q E hr e0 hb r hsp=>?_⟩
 have hl:=len _ _ _ _ hsp
 have KX:K.In s.heap:=e0.mod.kin.keeps λb o e=>(e0.bs b o e).1
 have lim:s.heap.NoLimit:=e0.mod.nolimit.keeps λb o e=>(e0.bs b o e).1
 have hkind:∀ y∈ps.zip us,scope.names.lookup y.1=some .local\/(scope.names.lookup y.1=some .cell/\((cellsFrom (s.heap.objs.size + 1) scope.names []).lookup y.1).isSome=true):=λ⟨n,v⟩ hy=>by
  rcases S.par n (of_mem_zip hy).1 with q | q
  ·exact .inl q
  ·exact .inr ⟨q,PySem.W.cellsFrom_some _ _ _ (.inl q)⟩
 refine codeAny_call_function hr.depth (KX _ _ lk) rfl S.co S.gen rfl (PySem.W.codeRec_of KX hcd) (hb _ _ _ _ ?_)
 refine wpAny_newFunctionEnv_cells S.kind hkind λenv he s1 x=>?_
 subst he
 refine ⟨lim.keeps x.toInCall.keep,codeAny_func ?_⟩
 obtain ⟨t,ht,hq⟩:=hbody A outer s H vs Q E (hr.deeper _) hsp
 have I:Inv (XG CX P w K mg base N qual scope f cdv A outer s H E) [] (start N vs) H s1:=yM S hr.hd e0 hl r x
 refine wpAny_mono (ht [] s1 (start N vs) H _ I hq) (λfl s' hs=>?_) λe s' hs=>hs
 have fin:∀ {σ':St}{H':Hp}{v:V}{u:Value},Inv (XG CX P w K mg base N qual scope f cdv A outer s H E) [] σ' H' s'->RelV v u->Q v H'->CE outer P w H s Q u s' :=
  λ{σ' H' v u} J rv q=>⟨v,H',J.os,J.bare,J.base,J.hok,rv,q⟩
 cases fl with
 | ret u =>
  obtain ⟨v,σ',H',J,rv,q⟩:=hs
  exact fin J rv q
 | next =>
  obtain ⟨σ',H',J,q⟩:=hs
  exact fin (v:=V.non) (u:=Value.none) J rfl q
 | brk =>
  obtain ⟨_,_,_,q⟩:=hs
  exact False.elim q
 | cont =>
  obtain ⟨_,_,_,q⟩:=hs
  exact False.elim q
section
variable {X:Cx}{x:Str}{p pos:Pos}{e:Expr}{es:List Expr}{t:TA}{id T:String}{r:List V->Hp->VK->Prop}
noncomputable def tCB (r:List V->Hp->VK->Prop) (t:TA):TE:=λσ H Q=>t σ H λvs H1=>r vs H1 Q
theorem ur (hc:Xs X (.builtin id) r) (hg:Gl X x) (hm:X.mg x=none) (hv:bootBuiltins x=some (.builtin id)) (ha:PA X (e::es) t) (hn:autoParam (x ≠ "__name__" ) auD) (hdb:autoParam ((x == ("__debug__" : Str))=false) auD)
  (he:autoParam (starEach (e::es) X.env=(false,eval e X.env)::starEach es X.env) auR) (hpl:autoParam ((backTo pos (starEach es X.env)).any (·.1)=false) auR):PE X (.Call (.Name x p) (e::es) [] pos) (tCB r t):=by
 intro pins s σ H Q I h
 refine wpAny_Call_Name_kw (ML I hg hm hv ?_ hn hdb)
 exact PyProof.Rows.callWith_builtin1 (thn (ha pos pins s σ H _ I h) λus s1 ⟨vs,H1,I1,r1,q1⟩=>hc pins s1 σ H1 vs us Q I1 r1 q1) he hpl
theorem yN (hc:Xs X (.type T) r) (hg:Gl X x) (hm:X.mg x=none) (hv:bootBuiltins x=some (.type T)) (ha:PA X (e::es) t) (hn:autoParam (x ≠ "__name__" ) auD) (hdb:autoParam ((x == ("__debug__" : Str))=false) auD)
  (he:autoParam (starEach (e::es) X.env=(false,eval e X.env)::starEach es X.env) auR) (hpl:autoParam ((backTo pos (starEach es X.env)).any (·.1)=false) auR):PE X (.Call (.Name x p) (e::es) [] pos) (tCB r t):=by
 intro pins s σ H Q I h
 refine wpAny_Call_Name_kw (ML I hg hm hv ?_ hn hdb)
 exact PyProof.Rows.callWith_type1 (thn (ha pos pins s σ H _ I h) λus s1 ⟨vs,H1,I1,r1,q1⟩=>hc pins s1 σ H1 vs us Q I1 r1 q1) he hpl
end
end L2
namespace HT
open PySem PyProof.Rows
section
open PySem.SeqAt
open PySem.AutoSeq1 (wpAny_loadPart')
open PySem.MeetsSeq PySem.MeetsSeq2 PySem.MeetsSeq3
end
section
variable {prog:Program}{w:World}{A:Around}{E:Value->Shared->Prop}{s:Shared}
theorem pH (ht:IsTup s.heap t vs.toArray) (hb:IsTup s.heap b ws.toArray) (hv:vs≠[])
  (h1:ws=[]->Q (.ref t) s) (h2:ws≠[]->Q (.ref s.heap.objs.size) { s with heap:=s.heap.push { cls := .type "tuple",data := .seq (vs++ws).toArray } })
  (hsz:vs.length + ws.length<=aA):wpAny (model prog w) A (binaryOp .Add (.ref t) (.ref b)) Q E s:=by
 obtain ⟨⟨cls,dd,data,sl⟩,ho,hc,n,hd⟩:=id ht
 obtain ⟨⟨cls2,dd2,data2,sl2⟩,ho2,hc2,n2,hd2⟩:=id hb
 simp only at hc hd hc2 hd2
 subst hc hd hc2 hd2
 have e:vs.toArray++ws.toArray=(vs++ws).toArray:=by simp
 by_cases hw:ws=[]
 ·exact concat_meets ⟨_,ho,rfl⟩ ⟨_,ho2,rfl⟩ noFill_tuple_add seq_tuple_add PySem.F.slot_tuple_add PySem.F.entry_tuple_add (PySem.F.args_tuple_add_2 _ _)
   (tuple_addW1 t b vs.toArray ws.toArray n n2 dd dd2 sl sl2 (by simpa using hv) (by simp [hw])) ⟨ho,ho2,h1 hw⟩
 ·refine concat_meets ⟨_,ho,rfl⟩ ⟨_,ho2,rfl⟩ noFill_tuple_add seq_tuple_add PySem.F.slot_tuple_add PySem.F.entry_tuple_add (PySem.F.args_tuple_add_2 _ _)
   (tuple_addW2 t b vs.toArray ws.toArray n n2 dd dd2 sl sl2 (by simpa using hv) (by simpa using hw) (by rw [size_toArray,size_toArray];exact hsz)) ⟨ho,ho2,?_⟩
  rw [e]
  exact h2 hw
noncomputable def sIx (n d:Nat):Option Int->Nat
 | none=>d
 | some v=>if v < 0 then (v + (n:Int)).toNat else min v.toNat n
theorem Eo (n d:Nat):sIx n d none=d:=rfl
theorem Jq (n d k:Nat):sIx n d (some (k:Int))=min k n:=by
 show (if (k:Int) < 0 then ((k:Int) + (n:Int)).toNat else min (k:Int).toNat n)=min k n
 rw [if_neg (by omega),Int.toNat_natCast]
theorem jk (n d:Nat) (hd:d<=n) (o:Option Int):sIx n d o<=n:=by
 cases o with
 | none=>exact hd
 | some v =>
  show (if v < 0 then (v + (n:Int)).toNat else min v.toNat n)<=n
  by_cases hv:v < 0
  ·rw [if_pos hv];omega
  ·rw [if_neg hv];exact Nat.min_le_right _ _
theorem zz (v:Int) (n d:Nat):(if v < 0 then max (v + (n:Int)) 0 else min v (n:Int))=((sIx n d (some v):Nat):Int):=by
 show (if v < 0 then max (v + (n:Int)) 0 else min v (n:Int))=(((if v < 0 then (v + (n:Int)).toNat else min v.toNat n):Nat):Int)
 by_cases hv:v < 0
 ·simp only [if_pos hv];omega
 ·simp only [if_neg hv];omega
theorem Bc (lo hi:Option Int) (n:Nat):Builtin.Slice.sliceAdjust lo hi 1 (n:Int)=(((sIx n 0 lo:Nat):Int),((sIx n n hi:Nat):Int)):=by
 have h1:¬ ((1:Int) < 0):=by omega
 unfold Builtin.Slice.sliceAdjust
 simp only [h1,if_false]
 refine Prod.ext ?_ ?_
 ·cases lo with
  | none=>rfl
  | some v=>exact zz v n 0
 ·cases hi with
  | none=>rfl
  | some v=>exact zz v n n
theorem Be (i j:Nat):Builtin.Slice.slicePlaces (i:Int) (j:Int) 1=j - i:=by
 unfold Builtin.Slice.slicePlaces
 have h1:(1:Int) > 0:=by omega
 simp only [h1,if_true,Int.ediv_one]
 split <;> omega
theorem Oj (p:IsPart v o) (h:Q o s):wpAny (model prog w) A (Builtin.Slice.slicePartIndex v) Q E s:=by
 cases p with
 | none=>exact slicePart_none h
 | int i t=>exact slicePart_int h
theorem TX {lo hi:Option Int}{Q:Int × Int × Nat->Shared->Prop}(hs:s.heap.IsSliceOf sl vl vu .none) (pl:IsPart vl lo) (pu:IsPart vu hi)
  (h:Q (((sIx n 0 lo:Nat):Int),1,sIx n n hi - sIx n 0 lo) s):wpAny (model prog w) A (Builtin.Slice.sliceApplied (.ref sl) (pure (n:Int))) Q E s:=by
 obtain ⟨os,hos,hcs,hds⟩:=id hs
 unfold Builtin.Slice.sliceApplied Builtin.Slice.sliceFields
 refine ak (ak (wpAny_field hos hds (x:=vl) rfl (ak (wpAny_field hos hds (x:=vu) rfl (ak (wpAny_field hos hds (x := .none) rfl (ao ?_)))))))
 refine ak (slicePart_none ?_)
 show wpAny _ _ (if ((1:Int) == 0)=true then _ else _) _ _ s
 rw [if_neg (by decide)]
 refine ak (Oj pl (ak (Oj pu (ak (ao ?_)))))
 show wpAny _ _ (match Builtin.Slice.sliceAdjust lo hi 1 (n:Int) with | (lo,hi)=>pure (lo,(1:Int),Builtin.Slice.slicePlaces lo hi 1)) _ _ s
 rw [Bc lo hi n]
 show wpAny _ _ (pure (((sIx n 0 lo:Nat):Int),(1:Int),Builtin.Slice.slicePlaces ((sIx n 0 lo:Nat):Int) ((sIx n n hi:Nat):Int) 1)) _ _ s
 rw [Be]
 exact ao h
theorem uv (xs:Array Value) (i k:Nat):((List.range k).filterMap λ(m:Nat)=>xs[((i:Int) + (m:Int) * 1).toNat]?).toArray=((xs.toList.drop i).take k).toArray:=by
 have e:(λ(m:Nat)=>xs[((i:Int) + (m:Int) * 1).toNat]?)=λm=>xs[i + m]?:=by
  funext m
  have:((i:Int) + (m:Int) * 1).toNat=i + m:=by omega
  rw [this]
 rw [e]
 have:=pick_run xs i k
 rw [List.filterMap_map] at this
 have e2:((λx=>xs[x]?) ∘ λx=>i + x)=λm=>xs[i + m]?:=rfl
 rw [e2] at this
 rw [this]
theorem Ny {lo hi:Option Int}(ht:IsTup s.heap t items) (hs:s.heap.IsSliceOf sl vl vu .none) (pl:IsPart vl lo) (pu:IsPart vu hi)
  (hw:¬ (sIx items.size 0 lo=0/\sIx items.size items.size hi=items.size))
  (h:Q (.ref s.heap.objs.size) { s with heap:=s.heap.push { cls := .type "tuple",data := .seq ((items.toList.drop (sIx items.size 0 lo)).take (sIx items.size items.size hi - sIx items.size 0 lo)).toArray } })
  (hsz:items.size<=aA):wpAny (model prog w) A (getItem (.ref t) (.ref sl)) Q E s:=by
 have htake:sizeOk (.seq ((items.toList.drop (sIx items.size 0 lo)).take (sIx items.size items.size hi - sIx items.size 0 lo)).toArray):=by
  show ((items.toList.drop (sIx items.size 0 lo)).take (sIx items.size items.size hi - sIx items.size 0 lo)).toArray.size<=aA
  rw [size_toArray,length_take,length_drop,Array.length_toList]
  omega
 have hj:sIx items.size items.size hi<=items.size:=jk _ _ (Nat.le_refl _) hi
 obtain ⟨os,hos,hcs,hds⟩:=id hs
 have hTs:s.TypeIs (.ref sl) "slice" := ⟨os,hos,hcs⟩
 unfold getItem
 try with_reducible refine wpAny_holding ?_
 first | refine ak (ao ?_) | skip
 refine ak (wpAny_sequenceKey ht.typeIs (by decide) ?_)
 refine ak (wpAny_callSpecial?_slot (name:=Str.ofString "__getitem__") ht.typeIs PyProof.Rows.slot_tuple_getitem
  (wpAny_call_entry PyProof.Rows.slot_tuple_getitem ht.typeIs entry_tuple_getitem ?_ (args_tuple_getitem _ _)))
 show wpAny _ _ (Builtin.Tuple.tupleItemsOf (.ref t) >>= _) _ _ s
 refine ak (tupleItemsOf_ ht ?_)
 refine ak (wpAny_typeOf hTs ?_)
 rw [if_pos (by decide)]
 refine ak (TX hs pl pu ?_)
 have hno:¬ ((((sIx items.size 0 lo:Nat):Int) == 0 && (1:Int) == 1 && (sIx items.size items.size hi - sIx items.size 0 lo) == items.size)=true):=by
  intro q
  rw [aF,aF] at q
  have q1:((sIx items.size 0 lo:Nat):Int)=0:=eq_of_beq q.1.1
  have q2:sIx items.size items.size hi - sIx items.size 0 lo=items.size:=eq_of_beq q.2
  exact hw ⟨by omega,by omega⟩
 show wpAny _ _ (if (((sIx items.size 0 lo:Nat):Int) == 0 && (1:Int) == 1 && (sIx items.size items.size hi - sIx items.size 0 lo) == items.size)=true then _ else _) _ _ s
 rw [if_neg hno,uv]
 first
  | exact ak (m:=Builtin.Tuple.tupleExact _) (wpAny_newObj_type (ao ⟨_,rfl,ao h⟩) htake)
  | exact ak (m:=Builtin.Tuple.tupleExact _) (wpAny_newObj_type (ak (ao (ao ⟨_,rfl,ao h⟩))) htake)
  | exact ak (ak (m:=Builtin.Tuple.tupleExact _) (wpAny_newObj_type (ao (ao ⟨_,rfl,ao h⟩)) htake))
  | exact ak (ak (m:=Builtin.Tuple.tupleExact _) (wpAny_newObj_type (ao ⟨_,rfl,ao h⟩) htake))
end
end HT
namespace L2
open PySem PySem.Spec PyProof.Rows
abbrev TO:=St->Hp->(Option Int->Hp->Prop)->Prop
noncomputable def PO (X:Cx) (e:Option Expr) (t:TO):Prop :=
 ∀ (pins:List (Addr × Obj)) (s:Shared) (σ:St) (H:Hp) (Q:Option Int->Hp->Prop),Inv X pins σ H s->t σ H Q ->
  wpAny (model X.prog X.w) X.A (evalPart e X.env) (λu s'=>∃ o H',Inv X pins σ H' s'/\IsPart u o/\Q o H') X.xe s
noncomputable def pI:TO:=λ_ H Q=>Q none H
noncomputable def mL (t:TE):TO:=λσ H Q=>t σ H λx H1=>∃ i,x = .int i/\Q (some i) H1
theorem intsAre_of:∀ {us:List Value},Vals (ns.map V.int) us->IntsAre us ns:=by
 induction ns with
 | nil=>intro us r;rw [map_nil] at r;cases r;exact .nil
 | cons n ns ih =>
  intro us r
  rw [map_cons] at r
  cases r with
  | cons r1 r2 =>
   obtain ⟨t,e⟩:=r1
   subst e
   exact .cons n t (ih r2)
section
variable {X:Cx}{e:Expr}{te:TE}{lo hi:Option Expr}{tl th:TO}{pos p2:Pos}
theorem pJ:PO X none pI:=by
 intro pins s σ H Q I h
 rw [evalPart_none]
 exact ao ⟨none,H,I,.none,h⟩
theorem zF (h:PE X e te):PO X (some e) (mL te):=by
 intro pins s σ H Q I hw
 rw [evalPart_some]
 refine thn (h pins s σ H _ I hw) λu s1 zq=>?_
 obtain ⟨x,H1,I1,r1,q1⟩:=zq
 obtain ⟨i,rfl,q⟩:=q1
 obtain ⟨t,rfl⟩:=r1
 exact ⟨some i,H1,I1,.int i t,q⟩
noncomputable def SlR (X:Cx) (r:V->Option Int->Option Int->Hp->VK->Prop):Prop :=
 ∀ (pins:List (Addr × Obj)) (s:Shared) (σ:St) (H:Hp) (x:V) (v vl vu:Value) (lo hi:Option Int) (sl:Addr) (Q:VK),Inv X pins σ H s->RelV x v->s.heap.IsSliceOf sl vl vu .none->IsPart vl lo->IsPart vu hi->r x lo hi H Q ->
  ∃ T id,typeLookup (.type T) "__getitem__" = pure (some (.builtin id))/\s.TypeIs v T/\wpAny (model X.prog X.w) X.A (getItem v (.ref sl)) (EP X pins σ Q) X.xe s
theorem SlR.or (h:SlR X r) (h':SlR X r'):SlR X (λx lo hi H Q=>r x lo hi H Q\/r' x lo hi H Q):=by
 intro pins s σ H x v vl vu lo hi sl Q I rx hs pl pu q
 rcases q with q | q
 ·exact h pins s σ H x v vl vu lo hi sl Q I rx hs pl pu q
 ·exact h' pins s σ H x v vl vu lo hi sl Q I rx hs pl pu q
noncomputable def tSl (r:V->Option Int->Option Int->Hp->VK->Prop) (te:TE) (tl th:TO):TE:=λσ H Q=>te σ H λx H1=>tl σ H1 λl H2=>th σ H2 λu H3=>r x l u H3 Q
theorem Ep (hr:SlR X r) (he:PE X e te) (hl:PO X lo tl) (hu:PO X hi th):PE X (.Subscript e (.Slice lo hi none p2) pos) (tSl r te tl th):=by
 intro pins s σ H Q I h
 refine Subscript_ (thn (he pins s σ H _ I h) λv s1 zq=>?_)
 obtain ⟨x,H1,I1,r1,q1⟩:=zq
 refine wpAny_Slice (thn (hl pins s1 σ H1 _ I1 q1) λvl s2 ⟨l,H2,I2,pl,q2⟩=>thn (hu pins s2 σ H2 _ I2 q2) λvu s3 zq=>?_)
 obtain ⟨u,H3,I3,pu,q3⟩:=zq
 rw [evalPart_none]
 refine ao ?_
 have I4:Inv X pins σ H3 { s3 with heap:=s3.heap.push { cls := .type "slice",data := .fields #[vl,vu,.none] } }:=I3.kept (t':=s3.toks) λb ob q=>aq _ q
 obtain ⟨T,id,hT,ht,hg⟩:=hr pins { s3 with heap:=s3.heap.push { cls := .type "slice",data := .fields #[vl,vu,.none] } } σ H3 x v vl vu l u s3.heap.objs.size Q I4 r1 (Heap.IsSliceOf.new ..) pl pu q3
 show wpAny (model X.prog X.w) X.A (subscriptTail e (.Slice lo hi none p2) v (.ref s3.heap.objs.size)) (EP X pins σ Q) X.xe { s3 with heap:=s3.heap.push { cls := .type "slice",data := .fields #[vl,vu,.none] } }
 exact tail_any (ops:=[.ref s3.heap.objs.size,v]) ht hT hg (by with_unfolding_all rfl)
noncomputable def Er (xs:List V) (lo hi:Option Int):List V:=(xs.drop (HT.sIx xs.length 0 lo)).take (HT.sIx xs.length xs.length hi - HT.sIx xs.length 0 lo)
theorem Kx (xs:List V) (lo hi:Option Int):(Er xs lo hi).length<=xs.length:=by
 unfold Er
 rw [length_take,length_drop]
 omega
noncomputable def rSlT (K:aj):V->Option Int->Option Int->Hp->VK->Prop:=λx lo hi H Q=>∃ a xs,x = .ref a/\SqT K H a xs /\
 ¬ (HT.sIx xs.length 0 lo=0/\HT.sIx xs.length xs.length hi=xs.length)/\∀ p,H p=none->Q (.ref p) (upd H p (.tup (Er xs lo hi)))
theorem jl:SlR X (rSlT X.K):=by
 intro pins s σ H x v vl vu lo hi sl Q I rx hs pl pu h
 obtain ⟨a,xs,rfl,hx,hw,q⟩:=h
 cases rx
 obtain ⟨its,r,ht,hz⟩:=I.tuple hx
 have hlen:its.toArray.size=xs.length:=by rw [size_toArray];exact r.length.symm
 refine ⟨"tuple",_,PyProof.Rows.slot_tuple_getitem.lookup,ht.typeIs,?_⟩
 refine HT.Ny ht hs pl pu (by rw [hlen];exact hw) ?_ (by rw [hlen];exact hz)
 rw [hlen]
 refine ⟨.ref s.heap.objs.size,_,I.laid (t':=s.toks) (o := .tup (Er xs lo hi)) (λb ob q=>aq _ q) (Nat.le_refl _) ?_,rfl,q _ (I.hok.fresh (Nat.le_refl _))⟩
 exact ⟨Nat.le_trans (Kx xs lo hi) hz,_,(r.drop (HT.sIx xs.length 0 lo)).take (HT.sIx xs.length xs.length hi - HT.sIx xs.length 0 lo),IsTup.new _ _⟩
noncomputable def rCatT (K:aj):R2:=λx y H Q=>∃ a b xs ys,x = .ref a/\y = .ref b/\SqT K H a xs/\SqT K H b ys/\xs≠[]/\xs.length + ys.length<=aA /\
 (ys=[]->Q (.ref a) H)/\(ys≠[]->∀ p,H p=none->Q (.ref p) (upd H p (.tup (xs++ys))))
theorem Vals.GF (r:Vals xs us):us=[]↔xs=[]:=by
 cases r with
 | nil=>simp
 | cons _ _=>simp
theorem pK:OpR X (binaryOp .Add) (rCatT X.K):=by
 intro pins s σ H x y v u Q I rx ry h
 obtain ⟨a,b,xs,ys,rfl,rfl,ha,hb,hx,hz,q1,q2⟩:=h
 cases rx
 cases ry
 obtain ⟨its,r1,p1,_⟩:=I.tuple ha
 obtain ⟨its2,r2,p2,_⟩:=I.tuple hb
 refine HT.pH p1 p2 (λz=>hx (r1.GF.mp z)) (λz=>⟨.ref a,H,I,rfl,q1 (r2.GF.mp z)⟩) (λz=>?_) (by rw [<-r1.length,<-r2.length];exact hz)
 refine ⟨.ref s.heap.objs.size,_,I.laid (t':=s.toks) (o := .tup (xs++ys)) (λb ob q=>aq _ q) (Nat.le_refl _) ?_,rfl,q2 (λw=>z (r2.GF.mpr w)) _ (I.hok.fresh (Nat.le_refl _))⟩
 exact ⟨by rw [length_append];exact hz,_,r1.append r2,IsTup.new _ _⟩
end
noncomputable def ixN (n:Nat) (i:Int):Option Nat:=if 0<=i then (if i < n then some i.toNat else none) else if -(n:Int)<=i then some (i + n).toNat else none
noncomputable def atI (xs:List α) (i:Int):Option α:=(ixN xs.length i).bind λj=>xs[j]?
theorem zG (h:ixN n i=some j):seqIndex? i n=some j/\j < n /\ -(n:Int)<=i/\i < n:=by
 unfold ixN at h
 by_cases h0:0<=i
 ·rw [if_pos h0] at h
  by_cases h1:i < n
  ·rw [if_pos h1] at h
   have e:i.toNat=j:=Option.some.inj h
   exact ⟨by rw [seqIndex_of h0 h1,e],by omega,by omega,h1⟩
  ·rw [if_neg h1] at h;cases h
 ·rw [if_neg h0] at h
  by_cases h1 : -(n:Int)<=i
  ·rw [if_pos h1] at h
   have e:(i + n).toNat=j:=Option.some.inj h
   exact ⟨by rw [seqIndex_neg (by omega) h1,e],by omega,h1,by omega⟩
  ·rw [if_neg h1] at h;cases h
theorem Jr (h:atI xs i=some v):∃ j,seqIndex? i xs.length=some j/\xs[j]?=some v/\j < xs.length /\ -(xs.length:Int)<=i/\i < xs.length:=by
 unfold atI at h
 cases e:ixN xs.length i with
 | none=>rw [e] at h;cases h
 | some j =>
  rw [e] at h
  obtain ⟨h1,h2,h3,h4⟩:=zG e
  exact ⟨j,h1,h,h2,h3,h4⟩
theorem Xn {j:Nat}(h:xs[j]?=some v):atI xs (j:Int)=some v:=by
 have hj:j < xs.length:=(List.getElem?_eq_some_iff.mp h).1
 have e:ixN xs.length (j:Int)=some j:=by
  unfold ixN
  rw [if_pos (by omega),if_pos (by omega)];simp
 unfold atI;rw [e];exact h
noncomputable def GH (b:Expr):Prop:=∀ o i,subscripted b false o i=operate [o,i] (getItem o i)
noncomputable def IxR (X:Cx) (r:R2):Prop :=
 ∀ (value slice:Expr) (pins:List (Addr × Obj)) (s:Shared) (σ:St) (H:Hp) (x y:V) (v u:Value) (Q:VK),Inv X pins σ H s->RelV x v->RelV y u->r x y H Q ->
  subscripted slice false v u=operate [v,u] (getItem v u)->wpAny (model X.prog X.w) X.A (subscriptTail value slice v u) (EP X pins σ Q) X.xe s
noncomputable def MtR (X:Cx) (id:String) (r:V->List V->Hp->VK->Prop):Prop :=
 ∀ (pins:List (Addr × Obj)) (s:Shared) (σ:St) (H:Hp) (x:V) (xs:List V) (v:Value) (us:List Value) (Q:VK),Inv X pins σ H s->RelV x v->Vals xs us->r x xs H Q ->
  wpAny (model X.prog X.w) X.A (call (.builtin id) (v::us)) (EP X pins σ Q) X.xe s
section
variable {X:Cx}{a b:Expr}{ta tb:TE}{pos:Pos}
theorem IxR.or (h:IxR X r) (h':IxR X r'):IxR X (λx y H Q=>r x y H Q\/r' x y H Q):=by
 intro value slice pins s σ H x y v u Q I rx ry q hs
 rcases q with q | q
 ·exact h value slice pins s σ H x y v u Q I rx ry q hs
 ·exact h' value slice pins s σ H x y v u Q I rx ry q hs
theorem MtR.or {id:String}(h:MtR X id r) (h':MtR X id r'):MtR X id (λx xs H Q=>r x xs H Q\/r' x xs H Q):=by
 intro pins s σ H x xs v us Q I rx rs q
 rcases q with q | q
 ·exact h pins s σ H x xs v us Q I rx rs q
 ·exact h' pins s σ H x xs v us Q I rx rs q
theorem mM (hr:IxR X r) (ha:PE X a ta) (hb:PE X b tb) (hs:GH b):PE X (.Subscript a b pos) (tOp r ta tb):=by
 intro pins s σ H Q I h
 exact Subscript_ (binT ha hb I h λv u s2 x y H2 I2 rx ry q=>hr a b pins s2 σ H2 x y v u Q I2 rx ry q (hs _ _))
noncomputable def rIxL (K:aj):R2:=λx y H Q=>∃ p xs i v,x = .ref p/\y = .int i/\SqL K H p xs/\atI xs i=some v/\Q v H
noncomputable def rIxT (K:aj):R2:=λx y H Q=>∃ p xs i v,x = .ref p/\y = .int i/\SqT K H p xs/\atI xs i=some v/\Q v H
noncomputable def rIxS:R2:=λx y H Q=>∃ z i c,x = .str z/\y = .int i/\z.length<=aA/\atI z.cps.toList i=some c/\Q (.str ⟨#[c]⟩) H
theorem pL:IxR X (rIxL X.K):=by
 intro value slice pins s σ H x y v u Q I rx ry h hs
 obtain ⟨p,xs,i,z,rfl,rfl,hq,he,q⟩:=h
 cases rx
 obtain ⟨t,rfl⟩:=ry
 obtain ⟨its,r,pl,hz⟩:=I.list hq
 obtain ⟨j,h1,h2,h3,h4,h5⟩:=Jr he
 obtain ⟨w,ew,rw'⟩:=r.get h2
 have hl:=r.length
 have hn:=RY
 have fin:EP X pins σ Q w s:=⟨z,H,I,rw',q⟩
 by_cases h0:0<=i
 ·have hj:i.toNat=j:=by
   rw [seqIndex_of h0 h5] at h1
   exact Option.some.inj h1
  exact item_listR pl.isList h0 (by omega) (by rw [hj];simpa using ew) fin hs
 ·have hj:(i + (its.toArray.size:Int)).toNat=j:=by
   rw [seqIndex_neg (by omega) h4] at h1
   rw [size_toArray,<-hl]
   exact Option.some.inj h1
  exact subscriptTail_builtinR (x:=w) pl.isList.typeIs slot_list_getitem.lookup
   (wpAny_getItem_list_neg (Q:=λr s'=>r=w/\EP X pins σ Q r s') pl.isList (by omega) (by rw [size_toArray] <;> omega) (by omega) (by rw [hj];simpa using ew) ⟨rfl,fin⟩) hs
theorem jm:IxR X (rIxT X.K):=by
 intro value slice pins s σ H x y v u Q I rx ry h hs
 obtain ⟨p,xs,i,z,rfl,rfl,hq,he,q⟩:=h
 cases rx
 obtain ⟨t,rfl⟩:=ry
 obtain ⟨its,r,pl,hz⟩:=I.tuple hq
 obtain ⟨j,h1,h2,h3,h4,h5⟩:=Jr he
 obtain ⟨w,ew,rw'⟩:=r.get h2
 have hl:=r.length
 have hn:=RY
 have fin:EP X pins σ Q w s:=⟨z,H,I,rw',q⟩
 exact subscriptTail_builtinR (x:=w) pl.typeIs slot_tuple_getitem.lookup
  (getItem_tuple (j:=j) (Q:=λr s'=>r=w/\EP X pins σ Q r s') pl (by omega) (by omega) (by rw [size_toArray,<-hl];exact h1) (by simpa using ew) ⟨rfl,fin⟩) hs
theorem jn:IxR X rIxS:=by
 intro value slice pins s σ H x y v u Q I rx ry h hs
 obtain ⟨z,i,c,rfl,rfl,hz,he,q⟩:=h
 obtain ⟨t,rfl⟩:=rx
 obtain ⟨t',rfl⟩:=ry
 obtain ⟨j,h1,h2,h3,h4,h5⟩:=Jr he
 have hl:z.cps.toList.length=z.length:=by simp [Str.length]
 rw [hl] at h1 h4 h5
 have hn:=RY
 exact tail_any (typeIs_str s z t) slot_str_getitem.lookup (getItem_str (c:=c) (by
  have e1:decide (i < -(2 ^ 63:Int))=false:=decide_eq_false (by omega)
  have e2:decide (i >= 2 ^ 63)=false:=decide_eq_false (by omega)
  rw [e1,e2,Bool.or_false]) (by rw [h1];simpa using h2) ⟨.str ⟨#[c]⟩,H,I.tok _,⟨_,rfl⟩,q⟩) hs
noncomputable def rIx (K:aj):R2:=λx y H Q=>rIxL K x y H Q\/rIxT K x y H Q\/rIxS x y H Q
theorem uw:IxR X (rIx X.K):=pL.or (jm.or jn)
theorem Bf (its:List Value) (n j:Nat) (u:Value):Obj.mapSeq (·.setIfInBounds j u) { cls := .type "list",data := .seq its.toArray n }={ cls := .type "list",data := .seq (its.set j u).toArray n }:=by
 simp [Obj.mapSeq]
theorem Inv.lst (I:Inv X pins σ H s) (h:H p=some (.lst xs)) :
  ∃ (its:List Value) (n:Nat),Vals xs its/\s.heap.get? p=some { cls := .type "list",data := .seq its.toArray n }/\xs.length<=aA:=by
 obtain ⟨z,its,n,r,e⟩:=I.hok p _ h
 exact ⟨its,n,r,e,z⟩
theorem Inv.jo {its its':List Value}{n n':Nat}{f:Obj->Obj}(I:Inv X pins σ H s) (h:H p=some (.lst xs))
  (ho:s.heap.get? p=some { cls := .type "list",data := .seq its.toArray n }) (hf:f { cls := .type "list",data := .seq its.toArray n }={ cls := .type "list",data := .seq its'.toArray n' }) (r:Vals ys its') (hz:ys.length<=aA) (t:Nat) :
  Inv X pins σ (upd H p (.lst ys)) { s with heap:=s.heap.update p f,toks:=t }:=by
 have e:(s.heap.update p f).get? p=some { cls := .type "list",data := .seq its'.toArray n' }:=by
  rw [Heap.get?_update_self f ho (by rw [hf] <;> rfl),hf]
 refine I.write (x:=p) (e:=p) (by rw [h];trivial) (.inl rfl) (λb u hb q=>(Heap.get?_update_other _ _ (Ne.symm hb)).trans q) ⟨_,e⟩ ?_
 exact ⟨hz,its',n',r,e⟩
noncomputable def ux:V->V->V->Hp->(Hp->Prop)->Prop:=λo i v H Q=>∃ p xs k j,o = .ref p/\i = .int k/\H p=some (.lst xs)/\ixN xs.length k=some j/\Q (upd H p (.lst (xs.set j v)))
theorem set_list:PSet X ux:=by
 intro pins s σ H o i v ov iv u Q I ro ri rv h
 obtain ⟨p,xs,k,j,rfl,rfl,hp,hj,q⟩:=h
 cases ro
 obtain ⟨t,rfl⟩:=ri
 obtain ⟨its,n,r,ho,hz⟩:=I.lst hp
 obtain ⟨h1,h2,h3,h4⟩:=zG hj
 have hl:=r.length
 have hn:=RY
 have I':Inv X pins σ (upd H p (.lst (xs.set j v))) { s with heap:=s.heap.update p (Obj.mapSeq (·.setIfInBounds j u)) } :=
  I.jo hp ho (Bf its n j u) (r.set rv j) (by rw [length_set];exact hz) s.toks
 by_cases h0:0<=k
 ·have hk:k.toNat=j:=by
   rw [seqIndex_of h0 h4] at h1
   exact Option.some.inj h1
  exact PySem.W.ki_setAt ho h0 (by omega) (by rw [size_toArray,<-hl];exact h4) (by rw [hk];exact ⟨_,I',q⟩)
 ·have hk:(k + (its.toArray.size:Int)).toNat=j:=by
   rw [seqIndex_neg (by omega) h3] at h1
   rw [size_toArray,<-hl]
   exact Option.some.inj h1
  exact PySem.W.ki_setBack ho (by omega) (by rw [size_toArray,<-hl];exact h3) (by omega) (by rw [hk];exact ⟨_,I',q⟩)
theorem GI (lo hi:Option Int) (n:Nat):(sliceBounds lo hi none n).1=((HT.sIx n 0 lo:Nat):Int)/\(sliceBounds lo hi none n).2.1=((HT.sIx n n hi:Nat):Int)/\(sliceBounds lo hi none n).2.2=1:=by
 refine ⟨?_,?_,rfl⟩
 ·cases lo with
  | none=>simp [sliceBounds,HT.sIx]
  | some i =>
   simp only [sliceBounds,HT.sIx,Option.getD_none,show (1:Int) > 0 by decide,if_true]
   by_cases h:i < 0
   ·simp only [h,if_true] <;> omega
   ·simp only [h,if_false] <;> omega
 ·cases hi with
  | none=>simp [sliceBounds,HT.sIx]
  | some i =>
   simp only [sliceBounds,HT.sIx,Option.getD_none,show (1:Int) > 0 by decide,if_true]
   by_cases h:i < 0
   ·simp only [h,if_true] <;> omega
   ·simp only [h,if_false] <;> omega
theorem Hm (its:List Value) (lo hi:Option Int):slicePick its.toArray lo hi none=((its.drop (HT.sIx its.length 0 lo)).take (HT.sIx its.length its.length hi - HT.sIx its.length 0 lo)).toArray:=by
 obtain ⟨h1,h2,h3⟩:=GI lo hi its.toArray.size
 unfold slicePick
 rw [h1,h2,h3]
 simp only [sliceRange_one,pick_run,size_toArray] <;> rfl
noncomputable def rSlL (K:aj):V->Option Int->Option Int->Hp->VK->Prop:=λx lo hi H Q=>∃ a xs,x = .ref a/\SqL K H a xs/\∀ p,H p=none->Q (.ref p) (upd H p (.lst (Er xs lo hi)))
theorem pM:SlR X (rSlL X.K):=by
 intro pins s σ H x v vl vu lo hi sl Q I rx hs pl pu h
 obtain ⟨a,xs,rfl,hx,q⟩:=h
 cases rx
 obtain ⟨its,r,ht,hz⟩:=I.list hx
 have hlen:=r.length
 refine ⟨"list",_,slot_list_getitem.lookup,ht.isList.typeIs,?_⟩
 refine wpAny_getItem_list_slice ht.isList hs pl pu .none (by simp) ?_ (by rw [size_toArray] <;> omega)
 rw [Hm,<-hlen]
 refine ⟨.ref s.heap.objs.size,_,I.laid (t':=s.toks) (o := .lst (Er xs lo hi)) (λb ob q=>aq _ q) (Nat.le_refl _) ?_,rfl,q _ (I.hok.fresh (Nat.le_refl _))⟩
 exact ⟨Nat.le_trans (Kx xs lo hi) hz,_,0,(r.drop (HT.sIx xs.length 0 lo)).take (HT.sIx xs.length xs.length hi - HT.sIx xs.length 0 lo),au _ rfl⟩
noncomputable def UI:V->Bool
 | .non=>true
 | .bl _=>true
 | .int _=>true
 | .str _=>true
 | _=>false
noncomputable def eqV:V->V->Bool
 | .non,.non=>true
 | .bl a,.bl b=>a == b
 | .bl a,.int b=>(if a then 1 else 0) == b
 | .int a,.bl b=>a == (if b then 1 else 0)
 | .int a,.int b=>a == b
 | .str a,.str b=>a == b
 | _,_=>false
theorem uy (ry:RelV y u) (rx:RelV x v) (fy:UI y=true) (fx:UI x=true):SeqAt.EqAt A s u v (eqV y x):=by
 cases y with
 | non =>
  cases ry
  cases x with
  | non=>cases rx;exact SeqAt.EqAt.same _
  | bl b=>cases rx;exact SeqAt.EqAt.none_bool b
  | int b=>obtain ⟨t,rfl⟩:=rx;exact SeqAt.EqAt.none_int b t
  | str b=>obtain ⟨t,rfl⟩:=rx;exact SeqAt.EqAt.none_str b t
  | _=>exact absurd (show false=true from fx) aD
 | bl a =>
  cases ry
  cases x with
  | non=>cases rx;exact SeqAt.EqAt.bool_none a
  | bl b=>cases rx;exact SeqAt.EqAt.bool_bool a b
  | int b=>obtain ⟨t,rfl⟩:=rx;exact SeqAt.EqAt.bool_int a b t
  | str b=>obtain ⟨t,rfl⟩:=rx;exact SeqAt.EqAt.bool_str a b t
  | _=>exact absurd (show false=true from fx) aD
 | int a =>
  obtain ⟨t',rfl⟩:=ry
  cases x with
  | non=>cases rx;exact SeqAt.EqAt.int_none a t'
  | bl b=>cases rx;exact SeqAt.EqAt.int_bool a t' b
  | int b=>obtain ⟨t,rfl⟩:=rx;exact SeqAt.EqAt.int_int a t' b t
  | str b=>obtain ⟨t,rfl⟩:=rx;exact SeqAt.EqAt.int_str a t' b t
  | _=>exact absurd (show false=true from fx) aD
 | str a =>
  obtain ⟨t',rfl⟩:=ry
  cases x with
  | non=>cases rx;exact SeqAt.EqAt.str_none a t'
  | bl b=>cases rx;exact SeqAt.EqAt.str_bool a t' b
  | int b=>obtain ⟨t,rfl⟩:=rx;exact SeqAt.EqAt.str_int a t' b t
  | str b=>obtain ⟨t,rfl⟩:=rx;exact SeqAt.EqAt.str_str a t' b t
  | _=>exact absurd (show false=true from fx) aD
 | _=>exact absurd (show false=true from fy) aD
noncomputable def eqU (x:V) (u:Value):Bool:=match u with
 | .none=>eqV .non x
 | .bool b=>eqV (.bl b) x
 | .int i _=>eqV (.int i) x
 | .str z _=>eqV (.str z) x
 | _=>false
theorem uz (r:RelV y u) (f:UI y=true):eqU x u=eqV y x:=by
 cases y with
 | non=>cases r;rfl
 | bl b=>cases r;rfl
 | int i=>obtain ⟨t,rfl⟩:=r;rfl
 | str z=>obtain ⟨t,rfl⟩:=r;rfl
 | _=>exact absurd (show false=true from f) aD
theorem Nz:∀ {xs:List V}{us:List Value},Vals xs us->xs.all UI=true->us.any (eqU x)=xs.any λy=>eqV y x
 | _,_,.nil,_=>rfl
 | y::xs,u::us,.cons r t,f=>by
  rw [all_cons,aF] at f
  rw [any_cons,any_cons,uz r f.1,Nz t f.2]
theorem RZ (rx:RelV x v) (fx:UI x=true):∀ {xs:List V}{us:List Value},Vals xs us->xs.all UI=true->∀ u∈us,SeqAt.EqAt A s u v (eqU x u)
 | _,_,.nil,_=>λu hu=>by cases hu
 | y::xs,u::us,.cons r t,f=>λu' hu=>by
  rw [all_cons,aF] at f
  rcases mem_cons.mp hu with rfl | hu
  ·rw [uz r f.1];exact uy r rx f.1 fx
  ·exact RZ rx fx t f.2 u' hu
noncomputable def inV (x:V) (xs:List V):Bool:=xs.any λy=>eqV y x
noncomputable def rIn (K:aj) (neg:Bool):R2:=λx y H Q=>∃ p xs,y = .ref p/\(SqL K H p xs\/SqT K H p xs)/\UI x=true/\xs.all UI=true/\Q (.bl (if neg then !inV x xs else inV x xs)) H
theorem yO:OpR X (compareOp .In) (rIn X.K false):=by
 intro pins s σ H x y v u Q I rx ry h
 obtain ⟨p,xs,rfl,hq,fx,fs,q⟩:=h
 cases ry
 rcases hq with hq | hq
 ·obtain ⟨its,r,pl,hz⟩:=I.list hq
  refine SeqAt.in_listAt (eqU x) pl.isList (λw hw=>RZ rx fx r fs w (by simpa using hw)) ⟨.bl _,H,I,rfl,?_⟩
  rw [show its.toArray.any (eqU x)=its.any (eqU x) by simp,Nz r fs]
  exact q
 ·obtain ⟨its,r,pl,hz⟩:=I.tuple hq
  refine SeqAt.in_tupleAt (eqU x) pl (λw hw=>RZ rx fx r fs w (by simpa using hw)) ⟨.bl _,H,I,rfl,?_⟩
  rw [show its.toArray.any (eqU x)=its.any (eqU x) by simp,Nz r fs]
  exact q
theorem GJ:OpR X (compareOp .NotIn) (rIn X.K true):=by
 intro pins s σ H x y v u Q I rx ry h
 obtain ⟨p,xs,rfl,hq,fx,fs,q⟩:=h
 cases ry
 rcases hq with hq | hq
 ·obtain ⟨its,r,pl,hz⟩:=I.list hq
  refine SeqAt.notIn_listAt (eqU x) pl.isList (λw hw=>RZ rx fx r fs w (by simpa using hw)) ⟨.bl _,H,I,rfl,?_⟩
  rw [show its.toArray.any (eqU x)=its.any (eqU x) by simp,Nz r fs]
  exact q
 ·obtain ⟨its,r,pl,hz⟩:=I.tuple hq
  refine SeqAt.notIn_tupleAt (eqU x) pl (λw hw=>RZ rx fx r fs w (by simpa using hw)) ⟨.bl _,H,I,rfl,?_⟩
  rw [show its.toArray.any (eqU x)=its.any (eqU x) by simp,Nz r fs]
  exact q
theorem GK:Xs X (.builtin "len") (λxs H Q=>∃ p ys,xs=[.ref p]/\(SqL X.K H p ys\/SqT X.K H p ys)/\Q (.int ys.length) H):=by
 intro pins s σ H xs us Q I r h
 obtain ⟨p,ys,rfl,hq,q⟩:=h
 obtain ⟨u,rfl,rx⟩:=vals1 r
 cases rx
 have hn:=RY
 rcases hq with hq | hq
 ·obtain ⟨its,r',pl,hz⟩:=I.list hq
  have hlen:=r'.length
  exact Calls.call_len_list pl.isList (by simp only [size_toArray] <;> omega) ⟨.int ys.length,H,I.tok _,⟨s.toks + 1,by rw [size_toArray,hlen]⟩,q⟩
 ·obtain ⟨its,r',pl,hz⟩:=I.tuple hq
  have hlen:=r'.length
  exact len_tuple pl (by simp only [size_toArray] <;> omega) ⟨.int ys.length,H,I.tok _,⟨s.toks + 1,by rw [size_toArray,hlen]⟩,q⟩
theorem GM:Xs X (.builtin "len") (λxs H Q=>∃ z,xs=[.str z]/\z.length<=aA/\Q (.int z.length) H):=by
 intro pins s σ H xs us Q I r h
 obtain ⟨z,rfl,hz,q⟩:=h
 obtain ⟨u,rfl,t,rfl⟩:=vals1 r
 have hn:=RY
 exact len_str (by omega) ⟨.int z.length,H,I.tok _,⟨_,rfl⟩,q⟩
theorem Xs.or (h:Xs X f r) (h':Xs X f r'):Xs X f (λxs H Q=>r xs H Q\/r' xs H Q):=by
 intro pins s σ H xs us Q I rs q
 rcases q with q | q
 ·exact h pins s σ H xs us Q I rs q
 ·exact h' pins s σ H xs us Q I rs q
theorem GN:Xs X (.type "list") (λxs H Q=>∃ p ys,xs=[.ref p]/\(SqL X.K H p ys\/SqT X.K H p ys)/\∀ l,H l=none->Q (.ref l) (upd H l (.lst ys))):=by
 intro pins s σ H xs us Q I r h
 obtain ⟨p,ys,rfl,hq,q⟩:=h
 obtain ⟨u,rfl,rx⟩:=vals1 r
 cases rx
 have fin:∀ (its:List Value),Vals ys its->ys.length<=aA->∀ (h':Heap) (c':Nat),(∀ b o',s.heap.get? b=some o'->h'.get? b=some o') ->
   h'.get? s.heap.objs.size=some { cls := .type "list",dict:=none,data := .seq its.toArray c',slots:=#[] }->EP X pins σ Q (.ref s.heap.objs.size) { s with heap:=h' }:=λits r' hz h' c' kp e =>
  ⟨.ref s.heap.objs.size,_,I.laid (t':=s.toks) kp (Nat.le_refl _) (show Yj X.prog X.w _ h' _ (.lst ys) from ⟨hz,its,c',r',e⟩),rfl,q _ (I.hok.fresh (Nat.le_refl _))⟩
 rcases hq with hq | hq
 ·obtain ⟨its,r',pl,hz⟩:=I.list hq
  have hlen:=r'.length
  obtain ⟨o,ho,hc,n,hd⟩:=pl.isList
  exact call_list_seq p (.inl rfl) ho hc hd (λh' c' kp e=>fin its r' hz h' c' kp e) (by simp only [size_toArray] <;> omega)
 ·obtain ⟨its,r',pl,hz⟩:=I.tuple hq
  have hlen:=r'.length
  obtain ⟨o,ho,hc,n,hd⟩:=pl
  exact call_list_seq p (.inr rfl) ho hc hd (λh' c' kp e=>fin its r' hz h' c' kp e) (by simp only [size_toArray] <;> omega)
theorem Hn:Xs X (.type "tuple") (λxs H Q=>∃ p ys,xs=[.ref p]/\((SqL X.K H p ys/\∀ l,H l=none->Q (.ref l) (upd H l (.tup ys)))\/(SqT X.K H p ys/\Q (.ref p) H))):=by
 intro pins s σ H xs us Q I r h
 obtain ⟨p,ys,rfl,h⟩:=h
 obtain ⟨u,rfl,rx⟩:=vals1 r
 cases rx
 rcases h with ⟨hq,q⟩ | ⟨hq,q⟩
 ·obtain ⟨its,r',pl,hz⟩:=I.list hq
  have hlen:=r'.length
  refine call_tuple_list pl.isList (λh' kp=>?_) (by simp only [size_toArray] <;> omega)
  have I1:Inv X pins σ H { s with heap:=h' }:=I.kept (t':=s.toks) kp
  have I2:Inv X pins σ (upd H h'.objs.size (.tup ys)) { s with heap:=h'.push { cls := .type "tuple",data := .seq its.toArray } } :=
   I1.laid (t':=s.toks) (λb o e=>aq _ e) (Nat.le_refl _) (show Yj X.prog X.w _ _ _ (.tup ys) from ⟨hz,its,r',IsTup.new _ _⟩)
  exact ⟨.ref h'.objs.size,_,I2,rfl,q _ (I1.hok.fresh (Nat.le_refl _))⟩
 ·obtain ⟨its,r',pl,hz⟩:=I.tuple hq
  exact call_tuple_same pl ⟨.ref p,H,I,rfl,q⟩
noncomputable def tyV (K:aj) (T:String) (x:V) (H:Hp):Prop:=match x with
 | .str _=>T = "str"
 | .int _=>T = "int"
 | .ref p=>(T = "list" /\ ∃ xs,SqL K H p xs)\/(T = "tuple" /\ ∃ o,K.lookup p=some o/\o.cls = .type "tuple" /\ o.dict=none) \/
   (T = "dict" /\ ((∃ kvs,H p=some (.dK kvs))\/∃ kvs,H p=some (.dT kvs)))\/(T = "set" /\ ∃ S n,H p=some (.set S n))
 | _=>False
theorem uA (I:Inv X pins σ H s) (r:RelV x v) (ty:tyV X.K T x H) :
  s.TypeIs v T/\∀ a,v = .ref a->∃ ob,s.heap.get? a=some ob/\ob.dict=none:=by
 cases x with
 | str z =>
  obtain ⟨t,rfl⟩:=r
  cases (show T = "str" from ty)
  exact ⟨typeIs_str s z t,λ_ e=>nomatch e⟩
 | int i =>
  obtain ⟨t,rfl⟩:=r
  cases (show T = "int" from ty)
  exact ⟨typeIs_int s i t,λ_ e=>nomatch e⟩
 | ref p =>
  cases r
  rcases ty with ⟨rfl,xs,hq⟩ | ⟨rfl,o,hk,hc,hd⟩ | ⟨rfl,hk⟩ | ⟨rfl,S,n,hk⟩
  ·obtain ⟨its,_,pl,_⟩:=I.list hq
   refine ⟨pl.isList.typeIs,λa e=>?_⟩
   cases e
   obtain ⟨o,n,e,c,hd,_⟩:=pl
   exact ⟨o,e,hd⟩
  ·refine ⟨⟨o,I.kIn p o hk,hc⟩,λa e=>?_⟩
   cases e
   exact ⟨o,I.kIn _ o hk,hd⟩
  ·have z:∃ o,s.heap.get? p=some o/\o.ExactDict:=by
    rcases hk with ⟨kvs,hk⟩ | ⟨kvs,hk⟩
    ·obtain ⟨_,_,_,_,o,_,_,e,ex,_⟩:=I.hok p _ hk
     exact ⟨o,e,ex⟩
    ·obtain ⟨_,_,_,_,o,_,_,e,ex,_⟩:=I.hok p _ hk
     exact ⟨o,e,ex⟩
   obtain ⟨o,e,ex⟩:=z
   refine ⟨⟨o,e,ex.1⟩,λa e2=>?_⟩
   cases e2
   exact ⟨o,e,ex.2.1⟩
  ·obtain ⟨o,_,_,_,e,ex,_⟩:=I.hok p _ hk
   refine ⟨⟨o,e,ex.1⟩,λa e2=>?_⟩
   cases e2
   exact ⟨o,e,ex.2.1⟩
 | _=>exact False.elim ty
noncomputable def tBM0 (K:aj) (T:String) (r:V->List V->Hp->VK->Prop) (to:TE):TE:=λσ H Q=>to σ H λx H1=>tyV K T x H1/\r x [] H1 Q
noncomputable def tBM (K:aj) (T:String) (r:V->List V->Hp->VK->Prop) (to:TE) (t:TA):TE:=λσ H Q=>to σ H λx H1=>tyV K T x H1/\t σ H1 λxs H2=>r x xs H2 Q
variable {o e:Expr}{es:List Expr}{to:TE}{t:TA}{name:Str}{apos cpos:Pos}{T id:String}{r:V->List V->Hp->VK->Prop}
theorem jq (pa:PlainAttrs T) (slot:Slot T name id) (hty:typeOf (.builtin id)=pure (.type "method_descriptor")) (hm:MtR X id r) (ho:PE X o to)
  (hbase:autoParam (attributeBase o name X.env (eval o X.env)=eval o X.env) auR) (hline:autoParam ((apos.endLine == cpos.line)=true) auR):PE X (.Call (.Attribute o name apos) [] [] cpos) (tBM0 X.K T r to):=by
 intro pins s σ H Q I h
 refine wpAny_Call_method0_late hbase hline (thn (ho pins s σ H _ I h) λv s1 zq=>?_)
 obtain ⟨x,H1,I1,r1,ty,q1⟩:=zq
 obtain ⟨h1,h2⟩:=uA I1 r1 ty
 exact ⟨T,id,pa,slot,hty,h1,h2,Calls.callWith_builtin rfl (PySem.evalArgs_none (hm pins s1 σ H1 x [] v [] Q I1 r1 .nil q1))⟩
theorem zH (pa:PlainAttrs T) (slot:Slot T name id) (hty:typeOf (.builtin id)=pure (.type "method_descriptor")) (hm:MtR X id r) (ho:PE X o to) (ha:PA X (e::es) t)
  (hbase:autoParam (attributeBase o name X.env (eval o X.env)=eval o X.env) auR)
  (hfew:autoParam (((backTo cpos (starEach (e::es) X.env)).all (λx => !x.1) && (backToKw cpos (keywordEach [] X.env)).all (λx=>x.1.isSome)
   && decide ((e::es).length + ([]:List Keyword).length + (if ([]:List Keyword).isEmpty then 0 else 1) < 30))=true) auR)
  (hline:autoParam ((apos.endLine == cpos.line)=true) auR) (hs:autoParam (starEach (e::es) X.env=(false,eval e X.env)::starEach es X.env) auR) (hplain:autoParam ((backTo cpos (starEach es X.env)).any (·.1)=false) auR) :
  PE X (.Call (.Attribute o name apos) (e::es) [] cpos) (tBM X.K T r to t):=by
 intro pins s σ H Q I h
 refine wpAny_Call_method_late hbase hfew hline rfl (thn (ho pins s σ H _ I h) λv s1 zq=>?_)
 obtain ⟨x,H1,I1,r1,ty,q1⟩:=zq
 obtain ⟨h1,h2⟩:=uA I1 r1 ty
 refine ⟨T,id,pa,slot,hty,h1,h2,?_⟩
 have hA:=ha cpos pins s1 σ H1 _ I1 q1
 rw [hs] at hA ⊢
 refine Calls.callWith_builtin (by show (false || (backTo cpos (starEach es X.env)).any (·.1))=false;rw [hplain] <;> rfl) (Calls.evalArgs_plain ?_)
 exact thn hA λus s2 ⟨vs,H2,I2,r2,q2⟩=>hm pins s2 σ H2 x vs v us Q I2 r1 r2 q2
/- xs.append(e),list.index on a module's tuple .. are MtR facts of 06m -/
end
noncomputable def MtM (X:Cx) (id:String) (r:V->List V->Hp->VK->Prop):Prop :=
 ∀ (pins:List (Addr × Obj)) (s:Shared) (σ:St) (H:Hp) (x:V) (xs:List V) (v:Value) (us:List Value) (Q:VK),Inv X pins σ H s->RelV x v->Vals xs us->r x xs H Q ->
  wpAny (model X.prog X.w) X.A (call (.builtin id) (v::us)) (EP X pins σ Q) X.xe s
theorem Vals.one (h:Vals [x] us):∃ u,us=[u]/\RelV x u:=by
 cases h with | cons r t=>cases t;exact ⟨_,rfl,r⟩
theorem Vals.two (h:Vals [x,y] us):∃ u v,us=[u,v]/\RelV x u/\RelV y v:=by
 cases h with | cons r t=>cases t with | cons q t=>cases t;exact ⟨_,_,rfl,r,q⟩
theorem Vals.zero:∀ {us:List Value},Vals [] us->us=[]
 | _,.nil=>rfl
theorem Vals.dropLast (h:Vals xs us):Vals xs.dropLast us.dropLast:=by
 induction h with
 | nil=>exact .nil
 | cons r t ih =>
  cases t with
  | nil=>exact .nil
  | cons q t'=>exact .cons r ih
theorem Vals.reverse (h:Vals xs us):Vals xs.reverse us.reverse:=by
 induction h with
 | nil=>exact .nil
 | cons r t ih=>rw [reverse_cons,reverse_cons];exact Vals.append ih (.cons r .nil)
theorem Vals.rep (h:Vals xs us):∀ k:Nat,Vals (replicate k xs).flatten (replicate k us).flatten
 | 0 => .nil
 | k + 1=>by
  rw [replicate_succ,replicate_succ,flatten_cons,flatten_cons]
  exact Vals.append h (Vals.rep h k)
theorem Bg (l:List α):l.eraseIdx (l.length - 1)=l.dropLast:=by
 induction l with
 | nil=>rfl
 | cons a r ih =>
  cases r with
  | nil=>rfl
  | cons b r =>
   have e:(a::b::r).length - 1=((b::r).length - 1) + 1:=by
    have h1:(a::b::r).length=r.length + 2:=rfl
    have h2:(b::r).length=r.length + 1:=rfl
    omega
   rw [e,List.eraseIdx_cons_succ,ih]
   all_goals rfl
theorem foldl_rep (its:List Value):∀ (k:Nat) (acc:List Value),
  foldl (λx1 x2=>x1++x2) acc.toArray (replicate k its.toArray)=(acc++(replicate k its).flatten).toArray
 | 0,acc=>by simp
 | k + 1,acc=>by
  have e:acc.toArray++its.toArray=(acc++its).toArray:=by simp
  have e2:(acc++its)++(replicate k its).flatten=acc++(replicate (k + 1) its).flatten:=by
   rw [replicate_succ,flatten_cons,append_assoc]
  rw [<-e2,<-foldl_rep its k (acc++its),<-e,replicate_succ,foldl_cons]
section
variable {X:Cx}{pins:List (Addr × Obj)}{σ:St}{H:Hp}{s:Shared}{l b:Addr}{xs ys zs:List V}
theorem Inv.lset {its its':List Value}(I:Inv X pins σ H s) (hH:H l=some (.lst xs))
  (e:s.heap.get? l=some { cls := .type "list",data := .seq its.toArray n }) (hf:f its.toArray=its'.toArray) (hv:Vals ys its') (hz:ys.length<=aA) :
  Inv X pins σ (upd H l (.lst ys)) { s with heap:=s.heap.update l (Obj.mapSeq f),toks:=t' }:=by
 have q:=PySem.IsL.update e f
 rw [hf] at q
 refine I.write (x:=l) (e:=l) (by rw [hH];exact trivial) (.inl rfl) (λb' u hb hu=>(Heap.get?_update_other s.heap (Obj.mapSeq f) (Ne.symm hb)).trans hu) ⟨_,q⟩ ?_
 exact ⟨hz,its',_,hv,q⟩
theorem Inv.lnew (I:Inv X pins σ H s) (hv:Vals ys its) (hz:ys.length<=aA) :
  Inv X pins σ (upd H s.heap.objs.size (.lst ys)) { s with heap:=s.heap.push { cls := .type "list",data := .seq its.toArray },toks:=t' } :=
 I.laid (λ_ _ q=>aq _ q) (Nat.le_refl _) ⟨hz,its,0,hv,au _ rfl⟩
theorem Inv.fresh (I:Inv X pins σ H s):H s.heap.objs.size=none:=I.hok.fresh (Nat.le_refl _)
theorem Inv.uB (I:Inv X pins σ H s) (hH:H l=some (.lst xs)):xs.length<=aA/\∃ (its:List Value) (n:Nat),Vals xs its/\xs.length=its.length/\s.heap.get? l=some { cls := .type "list",data := .seq its.toArray n }:=by
 obtain ⟨z,its,n,r,e⟩:=I.hok l _ hH
 exact ⟨z,its,n,r,r.length,e⟩
theorem NB (h:n<=aA):Builtin.List.listTooLong n=false:=by
 unfold Builtin.List.listTooLong
 exact decide_eq_false (by omega)
end
section
variable {X:Cx}
noncomputable def GO:V->List V->Hp->VK->Prop:=λx vs H Q=>∃ l xs y,x = .ref l/\vs=[y]/\H l=some (.lst xs)/\xs.length < aA/\Q .non (upd H l (.lst (xs++[y])))
theorem HU:MtM X "list.append" GO:=by
 intro pins s σ H x vs v us Q I rx rv h
 obtain ⟨l,xs,y,rfl,rfl,hH,hz,q⟩:=h
 cases rx
 obtain ⟨u,rfl,ru⟩:=rv.one
 obtain ⟨z,its,n,r,hl,e⟩:=I.uB hH
 refine call_meets F.slot_list_append ⟨_,e,rfl⟩ F.entry_list_append (F.args_list_append_2 _ _) (PySem.list_append l its.toArray n u (by rw [size_toArray];omega)) ⟨e,?_⟩
 refine ⟨.non,_,I.lset (its':=its++[u]) hH e (by simp) (r.append (.cons ru .nil)) ?_,rfl,q⟩
 rw [length_append,List.length_singleton]
 omega
noncomputable def GP:V->List V->Hp->VK->Prop:=λx vs H Q=>∃ l b xs zs,x = .ref l/\vs=[.ref b]/\H l=some (.lst xs)/\H b=some (.lst zs)/\xs.length + zs.length<=aA/\Q .non (upd H l (.lst (xs++zs)))
theorem yP:MtM X "list.extend" GP:=by
 intro pins s σ H x vs v us Q I rx rv h
 obtain ⟨l,b,xs,zs,rfl,rfl,hH,hB,hz,q⟩:=h
 cases rx
 obtain ⟨u,rfl,ru⟩:=rv.one
 cases ru
 obtain ⟨z,its,n,r,hl,e⟩:=I.uB hH
 obtain ⟨z2,its2,n2,r2,hl2,e2⟩:=I.uB hB
 have hsz:its.toArray.size + its2.toArray.size<=aA:=by rw [size_toArray,size_toArray];omega
 have hlong:¬ (!its.toArray.isEmpty && Builtin.List.listTooLong (its.toArray.size + its2.toArray.size))=true:=by
  rw [NB hsz,Bool.and_false]
  exact aD
 refine call_meets F.slot_list_extend ⟨_,e,rfl⟩ F.entry_list_extend (F.args_list_extend_2 _ _)
  (AutoSeq1.list_extend_list_list_0 l its.toArray n b its2.toArray n2 hlong (by rw [size_toArray];omega) (by omega)) ⟨e,e2,?_⟩
 refine ⟨.non,_,I.lset (its':=its++its2) hH e (by simp) (r.append r2) ?_,rfl,q⟩
 rw [length_append]
 omega
noncomputable def rPop:V->List V->Hp->VK->Prop:=λx vs H Q=>∃ l xs y,x = .ref l/\vs=[]/\H l=some (.lst xs)/\xs[xs.length - 1]?=some y/\Q y (upd H l (.lst xs.dropLast))
theorem jr:MtM X "list.pop" rPop:=by
 intro pins s σ H x vs v us Q I rx rv h
 obtain ⟨l,xs,y,rfl,rfl,hH,hy,q⟩:=h
 cases rx
 have hus:=rv.zero
 subst hus
 obtain ⟨z,its,n,r,hl,e⟩:=I.uB hH
 obtain ⟨u,hu,ru⟩:=r.get hy
 have hy':its.toArray[its.toArray.size - 1]?=some u:=by
  show its.toArray[its.length - 1]?=some u
  rw [<-Array.getElem?_toList,<-hl]
  exact hu
 refine call_meets F.slot_list_pop ⟨_,e,rfl⟩ F.entry_list_pop (F.args_list_pop_1 _) (MeetsSeq.list_pop_last l its.toArray n u hy' (by rw [size_toArray];omega)) ⟨e,?_⟩
 refine ⟨y,_,I.lset (its':=its.dropLast) hH e ?_ r.dropLast ?_,ru,q⟩
 ·show its.toArray.eraseIdxIfInBounds (its.toArray.size - 1)=its.dropLast.toArray
  rw [size_toArray,List.eraseIdxIfInBounds_toArray,Bg]
 ·rw [List.length_dropLast]
  omega
noncomputable def rRep:R2:=λx y H Q=>∃ l k xs,x = .ref l/\y = .int k/\H l=some (.lst xs) /\ -(2 ^ 63)<=k/\k < 2 ^ 63/\xs.length * k.toNat<=aA /\
 ∀ p,H p=none->Q (.ref p) (upd H p (.lst (replicate k.toNat xs).flatten))
theorem len_rep (xs:List α) (k:Nat):(replicate k xs).flatten.length=k * xs.length:=by
 induction k with
 | zero=>simp
 | succ k ih=>rw [replicate_succ,flatten_cons,length_append,ih,Nat.succ_mul,Nat.add_comm]
theorem uC:OpR X (binaryOp .Mult) rRep:=by
 intro pins s σ H x y v u Q I rx ry h
 obtain ⟨l,k,xs,rfl,rfl,hH,h1,h2,hz,q⟩:=h
 cases rx
 obtain ⟨t,rfl⟩:=ry
 obtain ⟨z,its,n,r,hl,e⟩:=I.uB hH
 have hlen:its.toArray.size * k.toNat<=aA:=by rw [size_toArray,<-hl];exact hz
 have hcap:¬ its.toArray.size * k.toNat > (2 ^ 63 - 1) / 8:=by
  have:(aA:Nat)<=(2 ^ 63 - 1) / 8:=by decide
  omega
 have hfit:¬ (!Builtin.List.listFitsIndex k)=true:=by
  rw [fitsIndex_both h1 h2]
  exact aD
 have hlong:¬ Builtin.List.listTooLong (its.toArray.size * k.toNat)=true:=by
  rw [NB hlen]
  exact aD
 have hnew:foldl (λx1 x2=>x1++x2) #[] (replicate (if its.toArray.isEmpty=true then 0 else k.toNat) its.toArray)=(replicate k.toNat its).flatten.toArray:=by
  have f0:∀ m:Nat,foldl (λx1 x2=>x1++x2) #[] (replicate m its.toArray)=(replicate m its).flatten.toArray:=λm=>by
   have:=foldl_rep its m []
   rw [nil_append] at this
   exact this
  rw [f0]
  cases its with
  | nil=>simp
  | cons a r'=>rw [if_neg (by simp)]
 refine wpAny_binaryOp_repeat_ref (T := "list") (U := "int") (by decide) ⟨_,e,rfl⟩ (λs'=>typeIs_int s' k t) noFill_list_mul F.fills_int_mul F.slot_int_rmul repeat_list F.slot_int_index.lookup
  (call_meets F.slot_int_rmul (typeIs_int s k t) F.entry_int_rmul (F.args_int_rmul_2 _ _) (int___rmul___int_list k t l its.toArray n)
   ⟨e,rfl,⟨_,e,rfl⟩,call_meets F.slot_list_mul ⟨_,e,rfl⟩ F.entry_list_mul (F.args_list_mul_2 _ _) (AutoListH.list___mul___list_int_3 l its.toArray n k t hfit hcap hlong) ⟨e,?_⟩⟩)
 rw [hnew]
 exact ⟨.ref _,_,I.lnew (t':=s.toks) (r.rep k.toNat) (by rw [len_rep,Nat.mul_comm];exact hz),rfl,q _ I.fresh⟩
end
section
variable {prog:Program}{w:World}{A:Around}{E:Value->Shared->Prop}{s:Shared}
theorem Bh {a c n:Nat}(hac:a<=c) (hc:c<=n):sliceBounds (some (a:Int)) (some (c:Int)) none n=((a:Int),(c:Int),1):=by
 simp only [sliceBounds,Option.getD_none]
 have h1:¬ ((a:Int) < 0):=by omega
 have h2:¬ ((c:Int) < 0):=by omega
 simp only [h1,h2,if_false,show (1:Int) > 0 by decide,if_true]
 congr 1
 ·omega
 ·congr 1;omega
set_option maxRecDepth 100000 in
/-- list.__setitem__ with a slice of step one and another list -/
theorem qP {a c:Nat} 
    (e:s.heap.get? l=some { cls := .type "list",data := .seq items n }) (e2:s.heap.get? b=some { cls := .type "list",data := .seq new n2 }) (hne:l≠b)
    (hs:s.heap.IsSliceOf sl vl vu .none) (pl:IsPart vl (some (a:Int))) (pu:IsPart vu (some (c:Int))) (hac:a<=c) (hc:c<=items.size)
    (hsz:items.size + new.size<=aA) (h:Q () { s with heap:=s.heap.update l (Obj.mapSeq λxs=>xs.extract 0 a++new++xs.extract c xs.size) }) :
    wpAny (model prog w) A (setItem (.ref l) (.ref sl) (.ref b)) Q E s:=by
  have hl:s.heap.IsList l items:=PySem.IsL.isList e
  have hb:s.heap.IsList b new:=PySem.IsL.isList e2
  obtain ⟨os,hos,hcs,hds⟩:=id hs
  have hTs:s.TypeIs (.ref sl) "slice" := ⟨os,hos,hcs⟩
  have hstep:¬ ((rawPart none == rawInt 0)=true):=aD
  have hsame:Builtin.List.listSameRef (.ref l) (.ref b)=false:=by
    unfold Builtin.List.listSameRef
    exact beq_eq_false_iff_ne.mpr hne
  have hmax:(max (a:Int) (c:Int)).toNat=c:=by omega
  have hz':((λxs:Array Value=>xs.extract 0 a++new++xs.extract c xs.size) items).size<=aA + 1:=by
    simp only [Array.size_append,Array.size_extract]
    omega
  unfold setItem
  try with_reducible refine wpAny_holding ?_
  first | refine ak (ao ?_) | skip
  refine ak (wpAny_sequenceKey hl.typeIs (by decide) ?_)
  refine ak (wpAny_callSpecial?_slot (name:=Str.ofString "__setitem__") hl.typeIs slot_list_setitem
    (wpAny_call_entry slot_list_setitem hl.typeIs entry_list_setitem ?_ (args_list_setitem _ _ _)))
  show wpAny _ _ (Builtin.List.listSubscript? (.ref sl) >>= _) _ _ s
  refine ak ?_
  unfold Builtin.List.listSubscript?
  refine ak (wpAny_specialOf hTs slice_no_index ?_)
  simp only [Option.isNone_none,if_true]
  refine ao ?_
  show wpAny _ _ (typeOf (.ref sl) >>= _) _ _ s
  refine ak (wpAny_typeOf hTs ?_)
  first
    | rw [if_neg (by decide)]
    | refine PySem.W.KFB.if_not (by decide) ?_
  rw [listSliceParts_eq]
  refine ak (ak (wpAny_field hos hds (x := .none) rfl (ak (wpAny_listPart .none ?_))))
  rw [if_neg hstep]
  refine ak (wpAny_field hos hds (x:=vl) rfl (ak (wpAny_listPart pl ?_)))
  refine ak (wpAny_field hos hds (x:=vu) rfl (ak (wpAny_listPart pu (ao ?_))))
  first
    | simp only [hsame,Bool.false_eq_true,if_false]
    | refine PySem.W.KFB.if_not hsame ?_
    | (dsimp only
       rw [if_neg (by rw [hsame];exact aD)])
  refine ak (m:=Builtin.List.listAllItems (.ref b) "must assign iterable to extended slice") ?_
  unfold Builtin.List.listAllItems
  refine ak (wpAny_typeOf hb.typeIs ?_)
  first
    | refine PySem.W.KFB.if_so (by decide) ?_
    | rw [if_pos (by decide)]
    | simp only [beq_self_eq_true,Bool.true_or,if_true]
  unfold Builtin.List.listItems
  refine ak (wpAny_seqItems e2 rfl (ao ?_))
  refine ak (ak (wpAny_seqItems e rfl (ao ?_)))
  refine ak (wpAny_of_eq ((sliceIndices_raw (some (a:Int)) (some (c:Int)) none items.size (by simp)).trans (congrArg (pure:Int × Int × Int->Sem (Int × Int × Int)) (Bh hac hc))) ?_)
  show wpAny _ _ (if ((1:Int) == 1)=true then _ else _) _ _ s
  rw [if_pos (by decide)]
  refine ak (wpAny_rule ?_)
  first
    | simp only [NB hsz,Bool.false_eq_true,if_false]
    | refine PySem.W.KFB.if_not (NB hsz) ?_
  first | refine ak (ao ?_) | skip
  show wpAny _ _ (updateSeq l (λxs=>xs.extract 0 ((a:Int)).toNat++new++xs.extract (max (a:Int) (c:Int)).toNat xs.size) >>= _) _ _ s
  rw [hmax,Int.toNat_natCast]
  refine ak (wpAny_updateSeq (hz:=Nat.le_trans (Nat.le_add_right _ _) hsz) (_hz':=hz') e rfl ?_)
  refine ak (wpAny_letGo ?_)
  first
    | exact ak (ao (ao ⟨.none,rfl,ao h⟩))
    | exact ao ⟨.none,rfl,ao h⟩
end
section
variable {X:Cx}
end
end L2
namespace Att
open PySem PySem.W PySem.Calls PyProof.Rows
theorem KN:∀ (ns:List Int) (vs:List Value),WellAll P h vs (ns.map WData.int)->IntsAre vs ns:=by
 intro ns
 induction ns with
 | nil =>
  intro vs w
  rw [map_nil] at w
  cases w
  exact .nil
 | cons n ns ih =>
  intro vs w
  rw [map_cons] at w
  cases w with
  | cons a b =>
   cases a
   exact .cons _ _ (ih _ b)
theorem yQ {l:OpenLaw}(hn:l.most=some n) 
  (hpre:l.row.toRowW.claim.pre args=true) (hwl:WellAll P h vals args) :
  ∃ a vs ns,vals=[Value.ref a]/\args=[WData.list (ns.map WData.int)]/\h.get? a=some { cls := .type "list",data := .seq vs.toArray }/\IntsAre vs ns/\ns.length<=n:=by
 have hsh:WShape.hasAll [] args [.list .int]=true:=(pre_splitW hpre).1
 have hc:l.pre.holds [] { args:=args }=true:=(pre_splitW hpre).2
 obtain ⟨d,r,rfl,h1,h2⟩:=hasAllW_cons hsh
 obtain rfl:=hasAllW_nil h2
 obtain ⟨xs,rfl,h3⟩:=hasW_list h1
 obtain ⟨ns,rfl⟩:=items_int h3
 have hlen:ns.length<=n:=by
  unfold OpenLaw.pre at hc
  have h4:(WTm.not (.lt (.lit (.int (n:Int))) (.len (.arg 0)))).holds [] { args:=[.list (ns.map .int)] }=true:=by
   have h4:=(holds_andW hc).1
   rw [hn] at h4
   exact h4
  have h5:=condW_of h4 (w_not (w_lt w_lit (w_len_list (w_arg rfl))))
  rw [length_map] at h5
  refine Nat.le_of_not_lt λq=>?_
  have q':(n:Int) < ((ns.length:Nat):Int):=by omega
  first
   | (rw [decide_eq_true q'] at h5;exact absurd h5 (by decide))
   | (simp at h5;omega)
 cases hwl with
 | cons w1 w2 =>
  cases w2
  cases w1 with
  | list ho hall=>exact ⟨_,_,ns,rfl,rfl,ho,KN ns _ hall,hlen⟩
theorem yR (l:OpenLaw) (args:List WData):l.row.toRowW.claim.post args (.bool true) args=true :=
 postW_of (r:=l.row.toRowW) (X:=(true == true))
  (show WShape.has [] (.bool true) .bool=true by first | rfl | decide | simp [WShape.has,WShape.arms,WShape.armsAll])
  (show (WTm.eq .res (.lit (.bool true))).value [] { args:=args,res:=some (.bool true),after:=args }=some (.bool (true == true)) from w_eq_bool (w_res rfl) w_lit) rfl
theorem Es {l:OpenLaw}{d:DefRec}
  (hn:l.most=some n) (hdf:d.params.defaults=[])
  (call:∀ (w:World) (s₀ s₁:Shared) (mg mb:Str->Option Value) (fa:Addr) (o:Obj) (pm cd doc:Value) (a:Addr) (vs:List Value) (ns:List Int),
   Ground q loose [] XP w s₀ mg mb s₁.heap->YP w s₁.heap ->
   s₁.heap.get? fa=some o->o.data = .func (docDef d.name d.params d.body d.scope pm cd doc)->s₁.heap.CodeRec cd d.name->mg d.name=some (.ref fa) ->
   s₁.heap.get? a=some { cls := .type "list",data := .seq vs.toArray }->IntsAre vs ns->ns.length<=n->s₁.gens=#[] ->
   codeAny (model l.prog w) callerA (.call (.ref fa) ⟨[.ref a],[]⟩) (λr s'=>r = .ok (.ret (.bool true))/\OldK s₁.heap s'.heap/\s'.os=s₁.os/\AllBare s'.gens) s₁) :
  WalkO q loose XP YP l.row.toRowW d [] (λf vs=>PySem.call f vs):=by
 intro w s₀ s₁ mg mb G Y fa o pm cd doc dV kV ho hd hcd hD hmg hg args vals as hpre hlay hrd hwl hlo
 obtain rfl:dV = .none:=Dflts.none hD hdf
 obtain rfl:kV = .none:=Dflts.noKw hD
 obtain ⟨a,vs,ns,rfl,rfl,hobj,hints,hlen⟩:=yQ hn hpre hwl
 refine enter_call (codeAny_mono (call w s₀ s₁ mg mb fa o pm cd doc a vs ns G Y ho (fd_plain hd) hcd hmg hobj hints hlen hg) λr s' hq=>?_)
 obtain ⟨rfl,h2,h3,h4⟩:=hq
 exact ⟨.inl ⟨.bool true,.bool true,[],rfl,λ_=>rfl,.bool true,yR l _,λ_=>⟨List.Pairwise.nil,λ_ hm=>(nomatch hm)⟩⟩,h2,h3,h4⟩
section
variable {prog:Program}{w:World}{A:Around}{E:Value->Shared->Prop}{s:Shared}{K:Frag}
noncomputable def ledger (h:Heap) (L d:Addr):List (Addr × Obj):=(List.range h.objs.size).filterMap λa=>if a=L\/a=d then none else (h.get? a).map λo=>(a,o)
end
end Att
namespace L2
open PySem PySem.Spec PyProof.Rows
theorem HV:∀ {vs:List Value}{ns:List Int},IntsAre vs ns->Vals (ns.map V.int) vs
 | _,_,.nil => .nil
 | _,_,.cons n t h => .cons ⟨t,rfl⟩ (HV h)
noncomputable def Only (H:Hp):Prop:=∀ b,H b=none\/∃ o xs,H b=some (.frz o (.lst xs))
theorem uD {K:aj}{fa a:Addr}{fd:FuncData}{x:Str}{sp:Sp}{s₁:Shared}{vs:List Value}{ns:List Int}
  (KX:K.In s₁.heap) (hns:s₁.heap.Ns mainGlobals mg) (hb:s₁.heap.Ns builtinsNs mb) (hbb:∀ x:Str,x ≠ "__name__" -> mb x=bootBuiltins x) (hlim:s₁.heap.NoLimit) (hg:s₁.gens=#[])
  (ha:s₁.heap.get? a=some { cls := .type "list",data := .seq vs.toArray }) (hi:IntsAre vs ns) (hl:ns.length<=aA) (hr:YZ k callerA)
  (F:∀ base:Heap,K.In base->base.Ns mainGlobals mg->Zx P w K mg base CX k fa fd [x] sp) (hbind:∀ (s:Shared) (u:Value),BindsTo s fd ⟨[u],[]⟩ [(x,u)])
  (hsp:∀ H:Hp,Only H->SqL K H a (ns.map V.int)->sp [.ref a] H (λv _=>v = .bl true) λ_ _ _=>False)
  (hCX:∀ H e s',CX [] H s₁ (λ_ _ _=>False) e s'->False) :
  codeAny (model P w) callerA (.call (.ref fa) ⟨[.ref a],[]⟩) (λr s'=>r = .ok (.ret (.bool true))/\OldK s₁.heap s'.heap/\s'.os=s₁.os/\AllBare s'.gens) s₁:=by
 have rv:=HV hi
 have lenV:=hi.length
 -- from an abstract heap in which nothing but the script may be tracked
 have core:∀ H:Hp,Only H->SqL K H a (ns.map V.int)->HOk P w H s₁.heap->(∀ b,H b≠none->b=a)->(H a≠none->K.lookup a=none) ->
   codeAny (model P w) callerA (.call (.ref fa) ⟨[.ref a],[]⟩) (λr s'=>r = .ok (.ret (.bool true))/\OldK s₁.heap s'.heap/\s'.os=s₁.os/\AllBare s'.gens) s₁:=by
  intro H hO hS hok hA hK
  have base_of:∀ {b:Addr}{o:Obj},s₁.heap.get? b=some o->H b=none->(GA s₁.heap H).get? b=some o:=λe n=>vU e n
  have noA:∀ {b:Addr}{o:Obj}{es:Array DictEntry}{ep:Nat},s₁.heap.get? b=some o->o.data = .dict es ep->H b=none:=λ{b o es ep} e d=>by
   cases q:H b with
   | none=>rfl
   | some u =>
    have e':b=a:=hA b (by rw [q];simp)
    subst e'
    rw [ha] at e;cases e
    have d':Data.seq vs.toArray _=Data.dict es ep:=d
    cases d'
  have nsK:∀ {b:Addr}{m:Str->Option Value},s₁.heap.Ns b m->(GA s₁.heap H).Ns b m:=λ{b m} ⟨o,es,ep,e,d,r⟩=>⟨o,es,ep,base_of e (noA e d),d,r⟩
  have hKb:K.In (GA s₁.heap H):=λb o e=>base_of (KX b o e) (by
   cases q:H b with
   | none=>rfl
   | some u =>
    have e':b=a:=hA b (by rw [q];simp)
    subst e'
    rw [hK (by rw [q];simp)] at e;cases e)
  have hM:Mod K mg (GA s₁.heap H):=⟨hKb,nsK hns,⟨mb,nsK hb,hbb⟩,let ⟨mc,h1,h2⟩:=hlim;⟨mc,nsK h1,h2⟩⟩
  have e0:Bb P w K mg (GA s₁.heap H) callerA [] s₁ H:=⟨rfl,hM,λb o e=>qY e,Nat.le_of_eq (yB _ _),trivial,λb hb=>absurd (show b∈([]:List Addr) from hb) (by simp),hok,.of_eq hg⟩
  refine codeAny_mono ((F _ hKb (nsK hns)).run callerA [] s₁ H ⟨[.ref a],[]⟩ [.ref a] [.ref a] _ _ hr e0 (hbind s₁ (.ref a)) (.cons rfl .nil) (hsp H hO hS)) λr s' h=>?_
  cases r with
  | error e=>exact (hCX H e s' h).elim
  | ok fl =>
   cases fl with
   | next=>exact False.elim h
   | brk=>exact False.elim h
   | cont=>exact False.elim h
   | ret u =>
    obtain ⟨v,H',os,bare,un,hok',r',q⟩:=h
    have q':v = .bl true:=q
    subst q'
    obtain rfl:u=Value.bool true:=r'
    refine ⟨rfl,OldK.of_keep λb o e=>?_,os,bare⟩
    cases q:H b with
    | none=>exact un.keep b o e q (by intro z;exact absurd (show b∈([]:List Addr) from z) (by simp)) (by simp)
    | some u =>
     rcases hO b with z | ⟨ob,xs,z⟩
     ·rw [q] at z;cases z
     ·have z2:=un.frzs b ob _ z
      obtain ⟨e1,_⟩:=hok b _ z
      obtain ⟨e2,_⟩:=hok' b _ z2
      rw [e] at e1;cases e1
      exact e2
 cases hk:K.lookup a with
 | some o =>
  -- the script is one of the module's own objects
  have e:=KX a o hk
  rw [ha] at e
  cases e
  refine core (λ_=>none) (λ_ => .inl rfl) (.inr ⟨_,vs.toArray,_,hk,rfl,rfl,rfl,by rw [size_toArray,lenV];exact hl,by simpa using rv⟩) (λb u z=>by have z':(none:Option HO)=some u:=z;cases z') (λb z=>absurd rfl z) λz=>absurd rfl z
 | none =>
  refine core (λb=>if b=a then some (.frz { cls := .type "list",data := .seq vs.toArray } (.lst (ns.map V.int))) else none) (λb=>?_) (.inl (.inr ⟨{ cls := .type "list",data := .seq vs.toArray },if_pos rfl⟩)) (λb u z=>?_) (λb z=>?_) λ_=>hk
  ·by_cases hb:b=a
   ·exact .inr ⟨_,_,if_pos hb⟩
   ·exact .inl (if_neg hb)
  ·by_cases hb:b=a
   ·have z':=(if_pos hb).symm.trans z
    cases z'
    subst hb
    exact ⟨ha,by rw [length_map];exact hl,vs,_,rv,ha⟩
   ·have z':=(if_neg hb).symm.trans z
    cases z'
  ·by_cases hb:b=a
   ·exact hb
   ·exact absurd (if_neg hb) z
abbrev KOf {K:aj}(_:K.In h):aj:=K
theorem zI {l:PySem.W.OpenLaw}{d:DefRec}{K:Params->aj}{CX:World->CXT}{sp:World->Sp}{x:Str}
  (hn:l.most=some n) (hn2:n<=aA) (hdf:d.params.defaults=[]) (hr:YZ k callerA)
  (hY:∀ (w:World) (h:Heap),YP w h->(K w.params).In h)
  (F:∀ (w:World) (mg:Str->Option Value) (fa:Addr) (h:Heap),(K w.params).In h->h.Ns mainGlobals mg->mg d.name=some (.ref fa) ->
   ∃ fd:FuncData,(∀ (s:Shared) (u:Value),BindsTo s fd ⟨[u],[]⟩ [(x,u)]) /\
    ∀ base:Heap,(K w.params).In base->base.Ns mainGlobals mg->Zx l.prog w (K w.params) mg base (CX w) k fa fd [x] (sp w))
  (hsp:∀ (w:World) (H:Hp) (a:Addr) (ns:List Int),ns.length<=n->Only H->SqL (K w.params) H a (ns.map V.int)->sp w [.ref a] H (λv _=>v = .bl true) λ_ _ _=>False)
  (hCX:∀ (w:World) (H:Hp) (s:Shared) (e:Value) (s':Shared),CX w [] H s (λ_ _ _=>False) e s'->False) :
  PySem.W.WalkO q loose XP YP l.row.toRowW d [] (λf vs=>PySem.call f vs):=by
 refine Att.Es hn hdf λw s₀ s₁ mg mb fa o pm cd doc a vs ns G Y ho hd hcd hmg hobj hints hlen hg=>?_
 have KX:=hY w _ Y
 obtain ⟨fd,hb,hF⟩:=F w mg fa _ KX G.T.g hmg
 exact uD KX G.T.g G.T.b G.T.builtins G.T.nolimit hg hobj hints (Nat.le_trans hlen hn2) hr hF hb (λH hO hS=>hsp w H a ns hlen hO hS) λH e s'=>hCX w H s₁ e s'
end L2
/- THE LAST THEOREM (shape;LID,My.* are yours):
   My.Adr: a structure of the addresses that your layer names (classes,functions);My.Txt K t: a structure (Prop) of the equations over K;
   My.txt_mk:{K}{implicit addresses ..}(e1:nsIn K mainGlobals "law" = some (some (.ref f))) (e2:K.lookup f=some ⟨oc,od,.func (fnOf "law" "law" params body scope dV kV doc pm an cdv ct),sl⟩) (e3:codeIn K cdv "law" = true) ..:∃ t,My.Txt K t
set_option maxRecDepth 100000 in
set_option maxHeartbeats 0 in
theorem PySem.Challenge.cw_LID_holds:PySem.Challenge.rw_LID.Holds:=by
 w_on;o_law;k_head;(case hw=>w_witness2)
 k_fill
 refine L2.zI (l:=PySem.Challenge.rw_LID) (n:=63) (k:=40) (x := "script") (CX:=λw => ..) (sp:=λ_=>My.sp_law) rfl (by decide) rfl ⟨rfl,by decide,by decide⟩ (λw h Y=>PySem.W.kIn_of Y) ?F ?S ?C
 case F =>
  intro w mg fa h KX G hmg
  have T:∃ t,My.Txt (L2.KOf KX) t:=by
   dsimp only [L2.KOf]                          -- K must stand as «<heap const> w.params» for k_is
   refine' My.txt_mk ?e1 ?e2 ?e3 ..
   (case e1=>PySem.W.k_is)                    -- in the order: a name -> its address -> its object -> its parts
   (case e2=>PySem.W.k_is)
   ..
  obtain ⟨t,T⟩:=T
  have e0:=hmg.symm.trans (mg_of KX G T.law)
  cases e0                                       -- fa is the law's own address
  exact ⟨_,λs u => .of_eq rfl,λbase kb nb=>My.law_fn T kb nb⟩     -- if «.of_eq rfl» comes too early: refine' ⟨_,?b,λbase kb nb=>My.law_fn T kb nb⟩;exact λs u => .of_eq rfl
 case S=>exact λw H a ns hl hO hS => ..
 case C=>exact ..
(the tactic k_is has no namespace: write k_is) -/
namespace L2
open PySem PySem.Spec PyProof.Rows
noncomputable def inClass (s:Stmt) (j:Nat):Stmt:=match s with
 | .ClassDef _ _ _ body _ _ _ _ _ _ _=>body.getD j (.Pass ⟨0,0,0,0⟩)
 | _ => .Pass ⟨0,0,0,0⟩
noncomputable def XC (s:Stmt):Arguments:=match s with
 | .FunctionDef _ a _ _ _ _ _ _ _ _=>a
 | _=>{ posonlyargs:=[],args:=[],vararg:=none,kwonlyargs:=[],kw_defaults:=[],kwarg:=none,defaults:=[] }
noncomputable def Yc (s:Stmt):List Stmt:=match s with
 | .FunctionDef _ _ b _ _ _ _ _ _ _=>b
 | _=>[]
noncomputable def Zf (s:Stmt):Scope:=match s with
 | .FunctionDef _ _ _ _ _ _ sc _ _ _=>sc
 | _=>{ kind := .function,names:=[],isGenerator:=false,isCoroutine:=false }
abbrev CX0:CXT:=λ_ _ _ _ _ _=>False
structure Fun (K:aj) (x qual:Str) (st:Stmt) (f:Addr) (fd:FuncData):Prop where
 ex:∃ (oc:Value) (od:Option Addr) (kV doc pm:Value) (an:Option Addr) (cdv ct:Value) (osl:Array (Option Value)),
  fd=PySem.W.fnOf x qual (XC st) (Yc st) (Zf st) .none kV doc pm an cdv ct/\K.lookup f=some ⟨oc,od,.func fd,osl⟩/\PySem.W.codeIn K cdv qual=true
 kp:keepIn K (.ref f)=true
section
variable {P:Program}{w:World}{K:aj}{mg:Str->Option Value}{base:Heap}
theorem Fun.ok {st:Stmt}{fd:FuncData}{sp:Sp}(F:Fun K x qual st f fd) (S:Zh N ps (Zf st)) (len:∀ vs H Q E,sp vs H Q E->vs.length=ps.length)
  (hbody:∀ (cdv:Value) (A:Around) (outer:List Env) (s:Shared) (H:Hp) (vs:List V) (Q:VK) (E:XK),YZ k (A.deeper (envOfC qual (Zf st) s.heap.objs.size f cdv))->sp vs H Q E ->
   ∃ t,PSs (XG CX0 P w K mg base N qual (Zf st) f cdv A outer s H E).nox (Yc st) t/\t { nx:=λ_ H'=>Q .non H',rt:=Q } (start N vs) H):Zx P w K mg base CX0 (k + 1) f fd ps sp:=by
 obtain ⟨oc,od,kV,doc,pm,an,cdv,ct,osl,rfl,lk,hcd⟩:=F.ex
 refine uq lk hcd S len λA outer s H vs Q E hr hsp=>?_
 obtain ⟨t,h,q⟩:=hbody cdv A outer s H vs Q E hr hsp
 exact ⟨t,h.nox,q⟩
theorem Fun.binds {st:Stmt}(F:Fun K x qual st f fd)
  (h:∀ (kV doc pm:Value) (an:Option Addr) (cdv ct:Value) (us:List Value),us.length=ps.length->bindArgs (PySem.W.fnOf x qual (XC st) (Yc st) (Zf st) .none kV doc pm an cdv ct) ⟨us,[]⟩=pure (ps.zip us)):Binds K fd ps []:=by
 obtain ⟨oc,od,kV,doc,pm,an,cdv,ct,osl,rfl,lk,hcd⟩:=F.ex
 exact .all (h kV doc pm an cdv ct)
theorem MQ {st:Stmt}{kV doc pm cdv ct:Value}(l:K.lookup f=some ⟨oc,od,.func (PySem.W.fnOf x qual (XC st) (Yc st) (Zf st) .none kV doc pm an cdv ct),osl⟩)
  (c:PySem.W.codeIn K cdv qual=true) (k:keepIn K (.ref f)=true):Fun K x qual st f (PySem.W.fnOf x qual (XC st) (Yc st) (Zf st) .none kV doc pm an cdv ct):=⟨⟨oc,od,kV,doc,pm,an,cdv,ct,osl,rfl,l,c⟩,k⟩
end
theorem uE (hr:YZ k A):A.units + 1 < cLine:=Nat.lt_of_le_of_lt (Nat.add_le_add_left (by decide:1<=64) _) hr.units
section
variable {X:Cx}
theorem pv (i:Nat) (hN:autoParam (X.N[i]?=some x) auR) (hv:Vis X.env.scope x:=by first | exact Or.inl rfl | exact Or.inr (Or.inl rfl) | exact Or.inr (Or.inr rfl)) (hd:autoParam ((x == ("__debug__" : Str))=false) auD)
  (hcd:autoParam ((x == ("__classdict__" : Str))=false) auD):PE X (.Name x pos) (tVar i):=kc hN hv hd hcd
end
noncomputable def Zz (H H':Hp):Prop:=∀ b o,H b=some o->H' b=some o
theorem Zz.refl (H:Hp):Zz H H:=λ_ _ h=>h
theorem Zz.trans (a:Zz H H1) (b:Zz H1 H2):Zz H H2:=λc o h=>b c o (a c o h)
theorem Zz.free (e:Zz H H') (h:H' l=Option.none):H l=Option.none:=by
 cases q:H l with
 | none=>rfl
 | some o =>
  rw [e l o q] at h
  cases h
theorem Zz.seq {K:aj}(e:Zz H H') (h:SqL K H a xs):SqL K H' a xs:=by
 rcases h with (h | ⟨o,h⟩) | h
 ·exact .inl (.inl (e _ _ h))
 ·exact .inl (.inr ⟨o,e _ _ h⟩)
 ·exact .inr h
section
variable {κ:Type} [DecidableEq κ]
noncomputable def Ol (kvs:List (κ × V)) (k:κ):Option V:=(kvs.find? λkv=>decide (kv.1=k)).map (·.2)
noncomputable def putK (kvs:List (κ × V)) (k:κ) (v:V):List (κ × V) :=
 if (kvs.any λkv=>decide (kv.1=k))=true then kvs.map (λkv=>if kv.1=k then (kv.1,v) else kv) else kvs++[(k,v)]
noncomputable def mO (kvs:List (κ × V)) (k:κ):List (κ × V):=kvs.filter λkv=>decide (kv.1≠k)
theorem NF {k:κ}(e:p.1=k):Ol (p::r) k=some p.2:=by simp [Ol,find?_cons,e]
theorem Qa {k:κ}(e:¬ p.1=k):Ol (p::r) k=Ol r k:=by simp [Ol,find?_cons,e]
theorem Et (k:κ):∀ kvs:List (κ × V),(kvs.any λkv=>decide (kv.1=k))=(Ol kvs k).isSome
 | []=>rfl
 | p::r=>by
  rw [any_cons]
  by_cases e:p.1=k
  ·simp only [NF e,decide_eq_true e,Bool.true_or,Option.isSome_some]
  ·rw [Qa e,decide_eq_false e,Bool.false_or];exact Et k r
theorem Ky (kvs:List (κ × V)) (k:κ) (v:V):(putK kvs k v).length<=kvs.length + 1:=by
 unfold putK
 split
 ·rw [length_map];omega
 ·rw [length_append,length_cons,length_nil];omega
theorem RQ.yS (r:RQ o u):o.isSome=u.isSome:=by
 cases o with
 | none=>cases u with
  | none=>rfl
  | some _=>exact (show False from r).elim
 | some _=>cases u with
  | none=>exact (show False from r).elim
  | some _=>rfl
theorem RQ.getD (r:RQ o u) (rd:RelV d d'):RelV (o.getD d) (u.getD d'):=by
 cases o with
 | none=>cases u with
  | none=>exact rd
  | some _=>exact (show False from r).elim
 | some _=>cases u with
  | none=>exact (show False from r).elim
  | some _=>exact r
theorem KV.val (r:KV kvs vs) (k:κ):RQ (Ol kvs k) (valueAt vs k):=by
 unfold KV at r
 induction r with
 | nil=>exact True.intro
 | @cons p q ps qs h t ih =>
  obtain ⟨h1,h2⟩:=h
  by_cases e:p.1=k
  ·have e':q.1=k:=h1.symm.trans e
   have b:valueAt (q::qs) k=some q.2:=by simp [valueAt,find?_cons,e']
   rw [NF e,b];exact h2
  ·have e':¬ q.1=k:=λz=>e (h1.trans z)
   have b:valueAt (q::qs) k=valueAt qs k:=by simp [valueAt,find?_cons,e']
   rw [Qa e,b];exact ih
theorem KV.any (r:KV kvs vs) (k:κ):(kvs.any λkv=>decide (kv.1=k))=vs.any λkv=>decide (kv.1=k):=by
 unfold KV at r
 induction r with
 | nil=>rfl
 | cons h t ih=>rw [any_cons,any_cons,ih,h.1]
theorem KV.repl (r:KV kvs vs) (k:κ) (ry:RelV y u) :
  KV (kvs.map λkv=>if kv.1=k then (kv.1,y) else kv) (vs.map λkv=>if kv.1=k then (kv.1,u) else kv):=by
 unfold KV at r ⊢
 induction r with
 | nil=>exact .nil
 | @cons p q ps qs h t ih =>
  rw [map_cons,map_cons]
  refine .cons ?_ ih
  obtain ⟨h1,h2⟩:=h
  by_cases e:p.1=k
  ·rw [if_pos e,if_pos (h1.symm.trans e)];exact ⟨h1,ry⟩
  ·rw [if_neg e,if_neg (λz=>e (h1.trans z))];exact ⟨h1,h2⟩
theorem KV.put (r:KV kvs vs) (k:κ) (ry:RelV y u):KV (putK kvs k y) (stored vs k u):=by
 unfold putK stored
 rw [r.any k]
 by_cases e:(vs.any λkv=>decide (kv.1=k))=true
 ·rw [if_pos e,if_pos e];exact r.repl k ry
 ·rw [if_neg e,if_neg e];exact Paired.snoc r ⟨rfl,ry⟩
theorem KV.drop (r:KV kvs vs) (k:κ):KV (mO kvs k) (without vs k):=by
 unfold KV at r ⊢
 unfold mO without
 induction r with
 | nil=>exact .nil
 | @cons p q ps qs h t ih =>
  obtain ⟨h1,h2⟩:=h
  rw [filter_cons,filter_cons]
  by_cases e:p.1=k
  ·have a:¬ decide (p.1≠k)=true:=by simp [e]
   have b:¬ decide (q.1≠k)=true:=by simp [h1.symm.trans e]
   rw [if_neg a,if_neg b];exact ih
  ·have e':¬ q.1=k:=λz=>e (h1.trans z)
   have a:decide (p.1≠k)=true:=by simp [e]
   have b:decide (q.1≠k)=true:=by simp [e']
   rw [if_pos a,if_pos b];exact .cons ⟨h1,h2⟩ ih
theorem KV.keys {vs:List (κ × Value)}(r:KV kvs vs):kvs.map (·.1)=vs.map (·.1):=by
 unfold KV at r
 induction r with
 | nil=>rfl
 | cons h t ih=>rw [map_cons,map_cons,ih,h.1]
theorem KV.length (r:KV kvs vs):kvs.length=vs.length:=Paired.length r
end
theorem zJ (r:RelV (kV k) u):(ZG P w).is k u=true:=by
 cases k with
 | inl i=>obtain ⟨t,e⟩:=(show ∃ t,u=Value.int i t from r);subst e;exact El P w i t
 | inr x=>obtain ⟨t,e⟩:=(show ∃ t,u=Value.str x t from r);subst e;exact Em P w x t
theorem HW:∀ {ks:List Key}{us:List Value},Vals (ks.map kV) us->ItemsAre (ZG P w) ks us
 | [],_,r=>by rw [map_nil] at r;cases r;exact .nil
 | k::ks,_,r=>by
  rw [map_cons] at r
  cases r with
  | cons h t=>exact .cons (zJ h) (HW t)
abbrev KT (H:Hp):List (List Key × V)->List (List Key × Addr × Value)->Prop:=Paired λp q=>p.1=q.1/\H q.2.1=some (.tup (p.1.map kV))/\RelV p.2 q.2.2
theorem KT.val {xs:List (List Key × Addr × Value)}(r:KT H kvs xs) (k:List Key):RQ (Ol kvs k) ((atKey xs k).map (·.2)):=by
 induction r with
 | nil=>exact True.intro
 | @cons p q ps qs h t ih =>
  obtain ⟨h1,_,h2⟩:=h
  by_cases e:p.1=k
  ·have e':q.1=k:=h1.symm.trans e
   have b:atKey (q::qs) k=some q.2:=by simp [atKey,find?_cons,e']
   rw [NF e,b];exact h2
  ·have e':¬ q.1=k:=λz=>e (h1.trans z)
   have b:atKey (q::qs) k=atKey qs k:=by simp [atKey,find?_cons,e']
   rw [Qa e,b];exact ih
theorem KT.repl (r:KT H kvs xs) (k:List Key) (ry:RelV y u) :
  KT H (kvs.map λkv=>if kv.1=k then (kv.1,y) else kv) (xs.map (putAt k u)):=by
 induction r with
 | nil=>exact .nil
 | @cons p q ps qs h t ih =>
  rw [map_cons,map_cons]
  refine .cons ?_ ih
  obtain ⟨h1,h2,h3⟩:=h
  unfold putAt
  by_cases e:p.1=k
  ·rw [if_pos e,if_pos (h1.symm.trans e)];exact ⟨h1,h2,ry⟩
  ·rw [if_neg e,if_neg (λz=>e (h1.trans z))];exact ⟨h1,h2,h3⟩
theorem KT.put (r:KT H kvs xs) (k:List Key) (hb:H b=some (.tup (k.map kV))) (ry:RelV y u) :
  KT H (putK kvs k y) (storedH xs k b u):=by
 have e:(kvs.any λkv=>decide (kv.1=k))=(atKey xs k).isSome:=by
  rw [Et,(r.val k).yS,Option.isSome_map]
 unfold putK storedH
 rw [e]
 by_cases q:(atKey xs k).isSome=true
 ·rw [if_pos q,if_pos q];exact r.repl k ry
 ·rw [if_neg q,if_neg q];exact Paired.snoc r ⟨rfl,hb,ry⟩
theorem KT.keeps (r:KT H kvs xs) (ht:∀ b ys,H b=some (.tup ys)->H' b=some (.tup ys)):KT H' kvs xs :=
 Paired.mapP r λ_ _ z=>⟨z.1,ht _ _ z.2.1,z.2.2⟩
section
theorem mP (ok:HOk P w H h) (e:Rd H a u):Yj P w H h a u:=e.ok ok
theorem Eu (ok:HOk P w H h) (e:Rd H a (.dK kvs)):kvs.length<=aA/\(a == sysModules)=false/\∃ vs,KV kvs vs/\h.DictOf (ZG P w) a vs :=
 show Yj P w H h a (.dK kvs) from mP ok e
theorem dk_of (ok:HOk P w H h) (e:H a=some (.dK kvs)):kvs.length<=aA/\(a == sysModules)=false/\∃ vs,KV kvs vs/\h.DictOf (ZG P w) a vs:=Eu ok (.inl e)
theorem GQ (ok:HOk P w H h) (e:H a=some (.tup (ks.map kV))):(tupleKind (ZG P w)).is h ks a:=by
 obtain ⟨_,its,r,o,h1,h2,n,h3⟩:=(show Yj P w H h a (.tup (ks.map kV)) from ok a _ e)
 exact ⟨o,its.toArray,n,h1,h2,h3,by simpa using HW r⟩
theorem Ew (ok:HOk P w H h) (e:Rd H a (.dT kvs)):kvs.length<=aA/\(a == sysModules)=false /\
  ∃ xs,KT H kvs xs/\h.DictOfH (tupleKind (ZG P w)) a xs:=by
 obtain ⟨z,y,xs,r,o,es,ep,h1,h2,h3,h4,h5⟩:=(show Yj P w H h a (.dT kvs) from mP ok e)
 refine ⟨z,y,xs,r,o,es,ep,h1,h2,h3,h4,λx hx=>?_,h5⟩
 have all:∀ {l:List (List Key × V)}{m:List (List Key × Addr × Value)},KT H l m->∀ x∈m,(tupleKind (ZG P w)).is h x.1 x.2.1:=by
  intro l m q
  induction q with
  | nil=>intro x hx;exact nomatch hx
  | @cons p q ps qs hq t ih =>
   intro x hx
   rcases mem_cons.mp hx with e | hx
   ·subst e
    exact GQ ok (by rw [<-hq.1];exact hq.2.1)
   ·exact ih x hx
 exact all r x hx
theorem dt_of (ok:HOk P w H h) (e:H a=some (.dT kvs)):kvs.length<=aA/\(a == sysModules)=false /\
  ∃ xs,KT H kvs xs/\h.DictOfH (tupleKind (ZG P w)) a xs:=Ew ok (.inl e)
end
noncomputable def JQ (H:Hp) (a:Addr) (y:V) (r:Option V):Prop :=
 (∃ kvs k,Rd H a (.dK kvs)/\y=kV k/\r=Ol kvs k)\/∃ kvs k b,Rd H a (.dT kvs)/\y = .ref b/\H b=some (.tup (k.map kV))/\r=Ol kvs k
noncomputable def Ex (H:Hp) (a:Addr) (y v:V) (H':Hp):Prop :=
 (∃ kvs k,H a=some (.dK kvs)/\y=kV k/\kvs.length < aA/\H'=upd H a (.dK (putK kvs k v))) \/
 ∃ kvs k b,H a=some (.dT kvs)/\y = .ref b/\H b=some (.tup (k.map kV))/\kvs.length < aA/\H'=upd H a (.dT (putK kvs k v))
theorem JQ.k {k:Key}(e:H a=some (.dK kvs)):JQ H a (kV k) (Ol kvs k) := .inl ⟨kvs,k,.inl e,rfl,rfl⟩
theorem JQ.t {k:List Key}(e:H a=some (.dT kvs)) (eb:H b=some (.tup (k.map kV))):JQ H a (.ref b) (Ol kvs k) := .inr ⟨kvs,k,b,.inl e,rfl,eb,rfl⟩
theorem Ex.k {k:Key}(e:H a=some (.dK kvs)) (hl:kvs.length < aA):Ex H a (kV k) v (upd H a (.dK (putK kvs k v))) := .inl ⟨kvs,k,e,rfl,hl,rfl⟩
theorem Ex.t {k:List Key}(e:H a=some (.dT kvs)) (eb:H b=some (.tup (k.map kV))) (hl:kvs.length < aA) :
  Ex H a (.ref b) v (upd H a (.dT (putK kvs k v))) := .inr ⟨kvs,k,b,e,rfl,eb,hl,rfl⟩
section
variable {X:Cx}{pins:List (Addr × Obj)}{σ:St}{H:Hp}{s:Shared}{a:Addr}{y v:V}{u r:Value}{o:Option V}{A:Around}{E:Value->Shared->Prop}
theorem Inv.big (I:Inv X pins σ H s):sysModules < s.heap.objs.size:=by
 have h:mainGlobals < s.heap.objs.size:=(I.mod.glob.keeps I.bk).lt
 exact Nat.lt_trans (by decide) h
theorem yT (hu:A.units + 1 < cLine) (I:Inv X pins σ H s) (g:JQ H a y (some v)) (ry:RelV y u) (h:∀ w' s',Inv X pins σ H s'->RelV v w'->Q w' s') :
  wpAny (model X.prog X.w) A (getItem (.ref a) u) Q E s:=by
 rcases g with ⟨kvs,k,e,ey,l⟩ | ⟨kvs,k,b,e,ey,eb,l⟩
 ·subst ey
  obtain ⟨z,hd,vs,rel,dd⟩:=Eu I.hok e
  obtain ⟨w',hw,rw'⟩:=RQ.some_of (v:=v) (o:=valueAt vs k) (by rw [l];exact rel.val k)
  exact wpAny_getItem_of (zJ ry) dd.mapOf hw (h w' _ (I.tok _) rw')
 ·subst ey
  cases (show u=Value.ref b from ry)
  obtain ⟨z,hd,xs,rel,dd⟩:=Ew I.hok e
  obtain ⟨w',hw,rw'⟩:=RQ.some_of (v:=v) (o:=(atKey xs k).map (·.2)) (by rw [l];exact rel.val k)
  obtain ⟨p,hp,hp2⟩:=Option.map_eq_some_iff.mp hw
  refine wpAny_getItem_heap (tupleKind_room_in1 hu) (GQ I.hok eb) dd hp ?_
  rw [hp2]
  exact h w' _ (I.tok _) rw'
theorem zK (I:Inv X pins σ H s) (mu:Mut (H a)) (hs:aG a s.heap h') (he:∃ q,h'.get? a=some q) (new:Yj X.prog X.w (upd H a ob) h' a ob) :
  Inv X pins σ (upd H a ob) { s with heap:=h',toks:=t' } :=
 I.write (x:=a) (e:=a) mu (.inl rfl) (λb q hb z=>(hs.2 b hb).trans z) he new
theorem jt (z:kvs.length<=aA) (hd:(a == sysModules)=false) (rel:KV kvs vs) (dd:h'.DictOf (ZG P w) a vs) :
  Yj P w H' h' a (.dK kvs):=⟨z,hd,vs,rel,dd⟩
theorem yU (hu:A.units + 1 < cLine) (I:Inv X pins σ H s) (g:Ex H a y v H') (ry:RelV y u) (rv:RelV v r) (h:∀ s',Inv X pins σ H' s'->Q () s') :
  wpAny (model X.prog X.w) A (setItem (.ref a) u r) Q E s:=by
 rcases g with ⟨kvs,k,e,ey,l,eH⟩ | ⟨kvs,k,b,e,ey,eb,l,eH⟩
 ·subst ey eH
  obtain ⟨z,hd,vs,rel,dd⟩:=dk_of I.hok e
  have hz:vs.length<=aA:=by rw [<-rel.length];exact z
  have hl:(putK kvs k v).length<=aA:=by have:=Ky kvs k v;omega
  refine wpAny_setItem_pairs (hsz:=hz) (zJ ry) dd λh' dd' hs=>h _ ?_
  have he:∃ q,h'.get? a=some q:=let ⟨q,_,_,hq,_⟩:=dd';⟨q,hq⟩
  exact zK I (by rw [e];exact True.intro) hs he (jt hl hd (rel.put k rv) dd')
 ·subst ey eH
  cases (show u=Value.ref b from ry)
  obtain ⟨z,hd,xs,rel,dd⟩:=dt_of I.hok e
  have hz:xs.length<=aA:=by rw [<-Paired.length rel];exact z
  have hl:(putK kvs k v).length<=aA:=by have:=Ky kvs k v;omega
  refine wpAny_setItem_heap (hsz:=hz) (tupleKind_room_in1 hu) (GQ I.hok eb) dd λh' dd' hs=>h _ ?_
  obtain ⟨q,es,ep,hq,h2,h3,h4,_,h5⟩:=dd'
  refine zK I (by rw [e];exact True.intro) hs ⟨q,hq⟩ ⟨hl,hd,_,(rel.put k eb rv).keeps λc ys ec=>?_,q,es,ep,hq,h2,h3,h4,h5⟩
  rw [Zj (ne_of ec e (λz=>nomatch z))]
  exact ec
end
section
end
noncomputable def NoSl (i:Expr):Prop:=∀ ov iv,subscripted i false ov iv=operate [ov,iv] (getItem ov iv)
theorem pN {value slice:Expr}{pos:Pos}{T id:String}{Q:Value->Shared->Prop}
  (hl:typeLookup (.type T) "__getitem__" = pure (some (.builtin id))) (hs:NoSl slice)
  (h:wpAny (model prog w) A (eval value env) (λo s₁=>wpAny (model prog w) A (eval slice env) (λi s₂=>s₂.TypeIs o T/\wpAny (model prog w) A (getItem o i) Q E s₂) E s₁) E s) :
  wpAny (model prog w) A (eval (.Subscript value slice pos) env) Q E s:=by
 refine Subscript_ (wpAny_mono h (λo s₁ h₁=>wpAny_mono h₁ (λi s₂ h₂=>?_) λ_ _ x=>x) λ_ _ x=>x)
 obtain ⟨hT,h₂⟩:=h₂
 unfold subscriptTail
 refine ak ?_
 rw [getitemInPython_of_ne hT.not_modules]
 refine ak (wpAny_specialOf hT hl ?_)
 have fin:wpAny (model prog w) A (subscripted slice false o i) (λr s₃=>wpAny (model prog w) A (letTemporaryGo value o r >>= λ_=>pure r) Q E s₃) E s₂:=by
  rw [hs o i]
  exact wpAny_operating (wpAny_mono h₂ (λr s₃ h₃=>ak (wpAny_letTemporaryGo (ao h₃))) λ_ _ x=>x)
 first
  | exact ao (ak fin)
  | exact ak (ao (ak fin))
  | exact ak fin
theorem Ey (I:Inv X pins σ H s) (g:JQ H a y o):s.TypeIs (.ref a) "dict" := by
 rcases g with ⟨kvs,k,e,_,_⟩ | ⟨kvs,k,b,e,_,_,_⟩
 ·obtain ⟨_,_,vs,_,dd⟩:=Eu I.hok e
  exact dd.typeIs
 ·obtain ⟨_,_,xs,_,dd⟩:=Ew I.hok e
  exact dd.typeIs
noncomputable def tDGet (td ty:TE):TE:=λσ H Q=>td σ H λx H1=>ty σ H1 λy H2=>∃ a v,x = .ref a/\JQ H2 a y (some v)/\Q v H2
noncomputable def sDPut (td ty tv:TE):TS:=λD σ H=>tv σ H λv H1=>td σ H1 λx H2=>ty σ H2 λy H3=>∃ a H4,x = .ref a/\Ex H3 a y v H4/\D.nx σ H4
section
theorem pO (hu:X.A.units + 1 < cLine) (ho:PE X o td) (hi:PE X i ty) (hs:NoSl i):PE X (.Subscript o i pos) (tDGet td ty):=by
 intro pins s σ H Q I h
 refine pN PySem.F.slot_dict_getitem.lookup hs (thn (ho pins s σ H _ I h) λu s1 ⟨x,H1,I1,rx,q1⟩=>thn (hi pins s1 σ H1 _ I1 q1) λiv s2 zq=>?_)
 obtain ⟨y,H2,I2,ry,a,v,ex,g,q2⟩:=zq
 subst ex
 obtain rfl:u=Value.ref a:=rx
 exact ⟨Ey I2 g,yT hu I2 g ry λw' s3 I3 rw'=>⟨v,H2,I3,rw',q2⟩⟩
theorem pP (hu:X.A.units + 1 < cLine) (ho:PE X o td) (hi:PE X i ty) (hv:PE X value tv) (hs:swapsWith value (some (.Subscript o i pos')) pos.line X.env=pure false) :
  PS X (.Assign [.Subscript o i pos'] value pos) (sDPut td ty tv):=by
 intro pins s σ H D I h
 refine wpAny_Assign_Subscript (thn (hv pins s σ H _ I h) λr s1 ⟨v,H1,I1,rv,q1⟩=>thn (ho pins s1 σ H1 _ I1 q1) λu s2 ⟨x,H2,I2,rx,q2⟩=>thn (hi pins s2 σ H2 _ I2 q2) λiv s3 zq=>?_) hs
 obtain ⟨y,H3,I3,ry,a,H4,ex,g,q3⟩:=zq
 subst ex
 obtain rfl:u=Value.ref a:=rx
 exact yU hu I3 g ry rv λs4 I4=>⟨σ,H4,I4,q3⟩
end
theorem uF (h:Heap) (hb:sysModules < h.objs.size):Yj P w H (h.push { cls := .type "dict",data := .dict #[] }) h.objs.size (.dK []) :=
 ⟨Nat.zero_le _,beq_eq_false_iff_ne.mpr (Ne.symm (Nat.ne_of_lt hb)),[],.nil,Heap.DictOf.new h⟩
noncomputable def ju:TE:=λ_ H Q=>∀ p,H p=none->Q (.ref p) (upd H p (.dK []))
section
theorem uG:PE X (.Dict [] [] pos) ju:=λpins s σ H Q I h =>
 wpAny_Dict_empty ⟨.ref s.heap.objs.size,_,I.laid (a:=s.heap.objs.size) (o := .dK []) (t':=s.toks) (λ_ _ q=>aq _ q) (Nat.le_refl _) (uF s.heap I.big),rfl,h _ (I.hok.fresh (Nat.le_refl _))⟩
end
noncomputable def JR (kvs more:List (Key × V)):List (Key × V):=more.foldl (λacc kv=>putK acc kv.1 kv.2) kvs
structure M2 (X:Cx) (o:Expr) (m:Str) (apos:Pos) (e f:Expr) (cpos:Pos):Prop where
 base:attributeBase o m X.env (eval o X.env)=eval o X.env
 few:((backTo cpos (starEach [e,f] X.env)).all (λx => !x.1) && (backToKw cpos (keywordEach [] X.env)).all (λx=>x.1.isSome)
  && decide (([e,f]:List Expr).length + ([]:List Keyword).length + (if ([]:List Keyword).isEmpty then 0 else 1) < 30))=true
 line:(apos.endLine == cpos.line)=true
 trees:backTo cpos (starEach [e,f] X.env)=[(false,eval e X.env),(false,eval f X.env)]
noncomputable def IsD (H:Hp) (a:Addr):Prop:=(∃ kvs,Rd H a (.dK kvs))\/∃ kvs,Rd H a (.dT kvs)
theorem jw (I:Inv X pins σ H s) (d:IsD H a) :
  s.TypeIs (.ref a) "dict" /\ (∀ b,Value.ref a = .ref b->∃ ob,s.heap.get? b=some ob/\ob.dict=none)/\(a == sysModules)=false:=by
 rcases d with ⟨kvs,e⟩ | ⟨kvs,e⟩
 ·obtain ⟨_,hd,vs,_,dd⟩:=Eu I.hok e
  refine ⟨dd.typeIs,λb q=>?_,hd⟩
  cases q
  obtain ⟨ob,_,_,h1,h2,_⟩:=dd
  exact ⟨ob,h1,h2.2.1⟩
 ·obtain ⟨_,hd,xs,_,dd⟩:=Ew I.hok e
  refine ⟨dd.typeIs,λb q=>?_,hd⟩
  cases q
  obtain ⟨ob,_,_,h1,h2,_⟩:=dd
  exact ⟨ob,h1,h2.2.1⟩
section
theorem jx (hu:A.units + 1 < cLine) (I:Inv X pins σ H s) (g:JQ H a y o) (ry:RelV y u) (rd:RelV d r) (h:∀ w' s',Inv X pins σ H s'->RelV (o.getD d) w'->Q w' s') :
  wpAny (model X.prog X.w) A (call (.builtin "dict.get") [.ref a,u,r]) Q E s:=by
 rcases g with ⟨kvs,k,e,ey,l⟩ | ⟨kvs,k,b,e,ey,eb,l⟩
 ·subst ey
  obtain ⟨z,hd,vs,rel,dd⟩:=Eu I.hok e
  refine call_meetsIn PySem.F.slot_dict_get dd.typeIs PySem.F.entry_dict_get (PySem.F.args_dict_get_3 _ _ _) (meets_dict_get_default (ZG X.prog X.w) a (zJ ry) hd r) ⟨_,dd.mapOf,h _ _ (I.tok _) ?_⟩
  rw [l]
  exact (rel.val k).getD rd
 ·subst ey
  cases (show u=Value.ref b from ry)
  obtain ⟨z,hd,xs,rel,dd⟩:=Ew I.hok e
  refine call_meetsIn PySem.F.slot_dict_get dd.typeIs PySem.F.entry_dict_get (PySem.F.args_dict_get_3 _ _ _) (meetsH_dict_get_default (tupleKind (ZG X.prog X.w)) a b hd r) ⟨tupleKind_room_in1 hu,k,xs,GQ I.hok eb,dd,h _ _ (I.tok _) ?_⟩
  rw [l]
  exact (rel.val k).getD rd
end
noncomputable def jy (td ty tx:TE):TE:=λσ H Q=>td σ H λx H1=>∃ a,x = .ref a/\IsD H1 a/\ty σ H1 λy H2=>tx σ H2 λz H3=>∃ o,JQ H3 a y o/\Q (o.getD z) H3
section
theorem uH (hu:X.A.units + 1 < cLine) (ho:PE X o td) (he:PE X e ty) (hf:PE X f tx) (m:M2 X o "get" apos e f cpos):PE X (.Call (.Attribute o "get" apos) [e,f] [] cpos) (jy td ty tx):=by
 intro pins s σ H Q I h
 refine wpAny_Call_method m.base m.few m.line PySem.F.plainAttrs_dict PySem.F.slot_dict_get PySem.F.type_dict_get (thn (ho pins s σ H _ I h) λu s1 zq=>?_)
 obtain ⟨x,H1,I1,rx,a,ex,d,q1⟩:=zq
 subst ex
 obtain rfl:u=Value.ref a:=rx
 obtain ⟨t1,t2,_⟩:=jw I1 d
 refine ⟨t1,t2,?_⟩
 rw [m.trees]
 refine Calls.callWith_builtin rfl (Calls.evalArgs_plain (Calls.spliced_cons (thn (he pins s1 σ H1 _ I1 q1) λiv s2 ⟨y,H2,I2,ry,q2⟩ =>
  Calls.spliced_cons (thn (hf pins s2 σ H2 _ I2 q2) λfv s3 ⟨z,H3,I3,rz,ov,g,q3⟩=>Calls.spliced_nil ?_))))
 exact jx hu I3 g ry rz λw' s4 I4 rw'=>⟨_,H3,I4,rw',q3⟩
end
section
end
section
end
noncomputable def Bd (n:Nat) (i:Int):Prop:=i.natAbs < 2 ^ n
theorem Bd.mono (h:Bd n i) (k:n<=m):Bd m i:=Nat.lt_of_lt_of_le h (Nat.pow_le_pow_right (by decide) k)
theorem Bd.bits (h:Bd n i):Builtin.Int.intBits i<=n:=by
 unfold Builtin.Int.intBits
 split
 ·exact Nat.zero_le _
 ·rename_i h0
  have hn:i.natAbs≠0:=by
   intro z
   apply h0
   have:i=0:=by omega
   simp [this]
  have:i.natAbs.log2 < n:=(Nat.log2_lt hn).mpr h
  omega
theorem Bd.log (h:Bd n i) (k:n<=9000):i.natAbs.log2 < 9000:=by
 rcases Nat.eq_zero_or_pos i.natAbs with h0 | hp
 ·rw [h0];decide +kernel
 ·exact (Nat.log2_lt (by omega)).mpr (Nat.lt_of_lt_of_le h (Nat.pow_le_pow_right (by decide) k))
theorem Bd.of (a : -(2 ^ n) < i) (b:i < 2 ^ n):Bd n i:=by
 unfold Bd
 have e:((2 ^ n:Nat):Int)=2 ^ n:=by norm_cast
 omega
theorem Bd.le (h:Bd n i) (k:j.natAbs<=i.natAbs):Bd n j:=Nat.lt_of_le_of_lt k h
section
noncomputable def CMulB (i j:Int):Prop:=Bd 100000 i/\Bd 100000 j
noncomputable def CDivB (i j:Int):Prop:=j≠0/\Bd 9000 j
theorem uI:OpR X (binaryOp .FloorDiv) (rI CDivB λi j => .int (i.fdiv j)):=opI λ_ _ _ _ _ _ _ hc q =>
 floordiv_int hc.1 q (.inl (PyProof.noPylong_of_log2 (hc.2.log (Nat.le_refl _))))
noncomputable def rCatL (K:aj):R2:=λx y H Q=>∃ l b xs zs,x = .ref l/\y = .ref b/\SqL K H l xs/\SqL K H b zs/\xs.length + zs.length<=aA/\∀ p,H p=none->Q (.ref p) (upd H p (.lst (xs++zs)))
theorem zL:OpR X (binaryOp .Add) (rCatL X.K):=by
 intro pins s σ H x y v u Q I rx ry h
 obtain ⟨l,b,xs,zs,rfl,rfl,hH,hB,hz,q⟩:=h
 cases rx
 cases ry
 obtain ⟨its,r,p,z⟩:=I.list hH
 obtain ⟨its2,r2,p2,z2⟩:=I.list hB
 obtain ⟨⟨cls,dd,data,sl⟩,n,ho,hc,_,hd⟩:=id p
 obtain ⟨⟨cls2,dd2,data2,sl2⟩,n2,ho2,hc2,_,hd2⟩:=id p2
 simp only at hc hd hc2 hd2
 subst hc hd hc2 hd2
 have hl1:=r.length
 have hl2:=r2.length
 refine concat_meets ⟨_,ho,rfl⟩ ⟨_,ho2,rfl⟩ noFill_list_add seq_list_add PySem.F.slot_list_add PySem.F.entry_list_add (PySem.F.args_list_add_2 _ _) (list_addW l b its.toArray its2.toArray n n2 dd dd2 sl sl2 (by rw [size_toArray,size_toArray];omega)) ⟨ho,ho2,?_⟩
 have ea:its.toArray++its2.toArray=(its++its2).toArray:=by simp
 rw [ea]
 exact ⟨.ref _,_,I.lnew (t':=s.toks) (r.append r2) (by rw [length_append];omega),rfl,q _ I.fresh⟩
theorem uJ (h:UI x=true):eqV x x=true:=by
 cases x <;> simp_all [eqV,UI]
noncomputable def rIsi (K:aj):List V->Hp->VK->Prop:=λxs H Q=>∃ x c cv t b,xs=[x,c]/\(∀ u,RelV c u->u=cv)/\Oh K H x t/\kitOne K t cv=some b/\Q (.bl b) H
theorem uK:Xs X (.builtin "isinstance") (rIsi X.K):=by
 intro pins s σ H xs us Q I r h
 obtain ⟨x,c,cv,t,b,rfl,hc,ty,e,q⟩:=h
 obtain ⟨u,w',rfl,r1,r2⟩:=vals2 r
 cases hc _ r2
 exact yL I r1 ty e λtk=>⟨.bl b,H,I.tok tk,rfl,q⟩
end
section
end
section
noncomputable def Od (i j:Int):Prop:=CMul i j\/CMulB i j
theorem pQ:OpR X (binaryOp .Mult) (rI Od λi j => .int (i * j)):=opI λ_ _ _ _ _ _ _ hc q=>by
 rcases hc with hc | hc
 ·exact mul_int q hc.ok
 ·exact mul_int q (IntMulOk.of_bits (Nat.le_trans hc.1.bits (by decide)) (Nat.le_trans hc.2.bits (by decide)))
theorem Od.l (a : -(2 ^ 64) < i) (b:i < 2 ^ 64):Od i j := .inl (.inl ⟨a,b⟩)
theorem Od.r (a : -(2 ^ 64) < j) (b:j < 2 ^ 64):Od i j := .inl (.inr ⟨a,b⟩)
theorem Od.b (a:Bd n i) (b:Bd m j) (hn:autoParam (n<=100000) auD) (hm:autoParam (m<=100000) auD):Od i j := .inr ⟨a.mono hn,b.mono hm⟩
end
theorem Zz.upd (h:H p=none):Zz H (upd H p o):=λb u e=>by rw [Zj (ZC e h)];exact e
theorem Zz.tup {K:aj}(e:Zz H H') (h:H a=some (.tup xs)):SqT K H' a xs:=SqT.of (e _ _ h)
structure MkP (K:aj) (C:Addr):Prop where
 makes:makesIn K C=true
 init:findIn K (.ref C) "__init__" = some (some (.builtin "object.__init__"))
 kp:keepIn K (.ref C)=true
section
noncomputable def jA (C:Addr):TE:=λ_ H Q=>∀ x dx,H x=none->H dx=none->dx≠x->Q (.ref x) (upd (upd H dx (.own x)) x (.ins C dx []))
theorem yV (M:MkP X.K C) (I:Inv X pins σ H s)
  (h:∀ x dx,H x=none->H dx=none->dx≠x->Q (.ref x) (upd (upd H dx (.own x)) x (.ins C dx []))) :
  wpAny (model X.prog X.w) X.A (call (.ref C) []) (EP X pins σ Q) X.xe s:=by
 have I2:=Inv.made (C:=C) I
 have hq:=h (s.heap.objs.size + 1) s.heap.objs.size (I.hok.fresh (Nat.le_succ _)) (I.hok.fresh (Nat.le_refl _)) (Nat.ne_of_lt (Nat.lt_succ_self _))
 refine wpAny_call (yJ I.kIn M.makes M.init (λself=>Looks.of_pure (PySem.W.oi_bind self)) ?_)
 obtain ⟨hh,g,d,tk,os⟩:=s
 have Y:=makes_of (M:=model X.prog X.w) I.kIn M.makes
 have e2:((hh.push emptyDict).push (instObj C hh.objs.size)).get? (hh.objs.size + 1)=some (instObj C hh.objs.size):=by
  have:=au (hh.push emptyDict) (o:=instObj C hh.objs.size) rfl
  rwa [Heap.size_push] at this
 have t1:Looks (model X.prog X.w) ((hh.push emptyDict).push (instObj C hh.objs.size)) (typeOf (.ref (hh.objs.size + 1))) (.ref C):=(Looks.ld e2).andThen .now
 have t2:Looks (model X.prog X.w) ((hh.push emptyDict).push (instObj C hh.objs.size)) (isInstance (.ref (hh.objs.size + 1)) (.type "object")) true:=t1.andThen (Y.top.keeps λb o e=>aq _ (aq _ e))
 refine codeAny_call_builtin PySem.W.oi_plain PySem.W.entry_oi (@PySem.W.check_slot (model X.prog X.w) _ _ _ "object.__init__" "object" "__init__" (.ref (hh.objs.size + 1)) [] [] _ PySem.W.oi_kind PySem.W.oi_split t2 (PySem.W.oi_args (.ref (hh.objs.size + 1))) ?_)
 rw [PySem.W.oi_run]
 exact ao (And.intro rfl ⟨V.ref (hh.objs.size + 1),_,I2,rfl,hq⟩)
theorem uL (M:MkP X.K C) (hg:Gl X x) (hm:X.mg x=some (.ref C)) (hdb:autoParam ((x == ("__debug__" : Str))=false) auD):PE X (.Call (.Name x p) [] [] pos) (jA C):=by
 intro pins s σ H Q I h
 refine wpAny_Call_Name_kw (QP I hg hm ?_ hdb)
 exact PySem.W.callWith_K0 I.kIn M.kp (yV M I h)
structure zM (K:aj) (C:Addr):Prop where
 ha:findIn K (.ref C) "__class__" = some (some (.builtin "object.__class__"))
 hn:specialIn K (.builtin "object.__class__") "__get__" = some (some (.builtin "getset_descriptor.__get__"))
 htk:takesIn K (.builtin "object.__class__")=some true
 hm:mroIn K C (.type "object")=some true
theorem zM.ty {K:aj}(i:zM K C) (c:Cls K C) (e:H a=some (.ins C dx fs)):Oh K H (.ref a) (.ref C) := .ins e c i.ha i.hn i.htk i.hm
end
theorem XU {K:aj}(hd:hasDictIn K D=true) (ht:typeIn K (.ref D)=some (.type "type")) (hs:subIn K (.ref C) (.ref D)=some b)
  (hr:subIn K (.ref D) (.ref D)=some true):kitOne K (.ref C) (.ref D)=some b:=by
 obtain ⟨cd,hc,_⟩:=PySem.W.any_some hd
 unfold kitOne
 by_cases q:(Value.ref C == Value.ref D)=true
 ·rw [if_pos q]
  have e:Value.ref C=Value.ref D:=beq_iff_eq.mp q
  rw [e,hr] at hs
  exact hs
 ·rw [if_neg q]
  unfold kitCls
  simp only
  rw [if_pos (by rw [hc,ht];rfl)]
  exact hs
theorem Yj.get (x:Yj P w H h a o):∃ ob,h.get? a=some ob:=by
 cases o with
 | lst xs=>obtain ⟨_,_,_,_,e⟩:=x;exact ⟨_,e⟩
 | tup xs=>obtain ⟨_,_,_,ob,e,_⟩:=x;exact ⟨_,e⟩
 | dK kvs=>obtain ⟨_,_,_,_,o,_,_,e,_⟩:=x;exact ⟨_,e⟩
 | dT kvs=>obtain ⟨_,_,_,_,o,_,_,e,_⟩:=x;exact ⟨_,e⟩
 | set S n=>obtain ⟨o,_,_,_,e,_⟩:=x;exact ⟨_,e⟩
 | ins C dx fs=>obtain ⟨_,_,_,e,_⟩:=x;exact ⟨_,e⟩
 | own y=>obtain ⟨_,e⟩:=x;exact ⟨_,e⟩
 | xd fs=>obtain ⟨_,⟨_,_,_,e,_⟩,_⟩:=x;exact ⟨_,e⟩
 | rng lo hi=>obtain ⟨_,_,_,e⟩:=x;exact ⟨_,e⟩
 | frz ob u=>obtain ⟨e,_⟩:=x;exact ⟨_,e⟩
 | tbl ps=>exact ⟨_,(show h.get? a=some _ from x)⟩
 | met f y=>exact ⟨_,(show h.get? a=some _ from x)⟩
 | ext φ=>obtain ⟨_,⟨_,e⟩,_⟩:=x;exact ⟨_,e⟩
noncomputable def Cov (fs:List Addr) (H':Hp) (h0 h B:Heap):Prop:=∀ b o,h.get? b=some o->b∉fs->(H' b≠none\/∃ u,h0.get? b=some u)->B.get? b=some o
theorem zN (u:Un fs [] H0 H' h0 h) (cv:Cov fs H' h0 h B) (st:B.StaysIn h2)
  (sl:∀ b∈fs,∀ o,h.get? b=some o->∃ sl,h2.get? b=some { o with slots:=sl }):Un fs [] H0 H' h0 h2 where
 keep:=λb o e n hb hx=>st b o (cv b o (u.keep b o e n hb hx) hb (.inr ⟨o,e⟩))
 slot:=λb o e n hb hx=>by
  obtain ⟨s1,e1⟩:=u.slot b o e n hb hx
  obtain ⟨s2,e2⟩:=sl b hb _ e1
  exact ⟨s2,e2⟩
 free:=u.free
 there:=λb o e hx=>by
  obtain ⟨o1,e1⟩:=u.there b o e hx
  by_cases hb:b∈fs
  ·obtain ⟨s2,e2⟩:=sl b hb _ e1
   exact ⟨_,e2⟩
  ·exact ⟨o1,st b o1 (cv b o1 e1 hb (.inr ⟨o,e⟩))⟩
 tups:=u.tups
 frzs:=u.frzs
 tbls:=u.tbls
theorem JU (ok:HOk P w H' h) (cv:Cov fs H' h0 h B) (st:B.StaysIn h2) (fr:∀ b∈fs,H' b=none):HOk P w H' h2:=λa o e =>
 (ok a o e).stay (λb v hb q=>st b v (cv b v q (λz=>by
   rcases hb with rfl | hb
   ·rw [fr _ z] at e;cases e
   ·rw [fr _ z] at hb;cases hb) (.inl (by
   rcases hb with rfl | hb
   ·rw [e];exact λz=>nomatch z
   ·rw [hb];exact λz=>nomatch z)))) (λ_ q=>q) λ_ _ q=>q
theorem Ez (u:Un fs [] H0 H' h0 h) (ok:HOk P w H' h) (cv:Cov fs H' h0 h B) (st:B.StaysIn h2):Cov fs H' h0 h2 B:=λb o e hb c=>by
 have key:∃ o1,h.get? b=some o1:=by
  rcases c with c | ⟨v,c⟩
  ·cases q:H' b with
   | none=>exact absurd q c
   | some x=>exact (ok b x q).get
  ·exact u.there b v c (by simp)
 obtain ⟨o1,e1⟩:=key
 have e2:=cv b o1 e1 hb c
 have e3:=st b o1 e2
 rw [e] at e3
 cases e3
 exact e2
noncomputable def CXE (P:Program) (w:World):CXT:=λouter H s E e s'=>∃ (ex t:Addr) (cls:Value) (H':Hp) (B:Heap),
 e = .ref ex/\s'.os=s.os/\AllBare s'.gens/\Un (frs outer) [] H H' s.heap s'.heap/\HOk P w H' s'.heap/\Heap.FlyingW B outer ex cls (.ref t) s'.heap/\Cov (frs outer) H' s.heap s'.heap B/\s.heap.get? ex=none/\H' ex=none/\E cls none H'
theorem JV {B h h2:Heap}(ff:h.FunFrames B l) (up:h.UpToSlots h2):∀ b∈frs l,∀ o,h.get? b=some o->∃ sl,h2.get? b=some { o with slots:=sl }:=λb hb o e=>by
 obtain ⟨_,o',e',nf⟩:=ff.mem hb
 rw [e] at e'
 cases e'
 exact up b o e nf
section
theorem Om (u:Un fs ex H0 H' h0 h) (hx:b∉ex) (e:h.get? b=none):h0.get? b=none:=by
 cases q:h0.get? b with
 | none=>rfl
 | some o =>
  obtain ⟨o',e'⟩:=u.there b o q hx
  rw [e] at e'
  cases e'
theorem Inv.frf (I:Inv X pins σ H s):∀ b∈frs X.stack,H b=none:=I.env0.frf
end
section
variable {P:Program}{w:World}{K:aj}{mg:Str->Option Value}{base:Heap}{N:List Str}{qual:Str}{scope:Scope}{f:Addr}{cdv:Value}{A:Around}{outer:List Env}{s:Shared}{H:Hp}{E:XK}
 {pins:List (Addr × Obj)}{σ:St}{H1:Hp}{s1:Shared}
theorem pR {h2:Heap}(I:Inv (XG (CXE P w) P w K mg base N qual scope f cdv A outer s H E) pins σ H1 s1)
  (hx:Heap.MadeExcOf s1.heap h2 ex (.ref C) args) (h:E (.ref C) none H1):(XG (CXE P w) P w K mg base N qual scope f cdv A outer s H E).xe (.ref ex) { s1 with heap:=h2 }:=by
 have e0:=I.env0
 have stk:(XG (CXE P w) P w K mg base N qual scope f cdv A outer s H E).stack=envOfC qual scope s.heap.objs.size f cdv::outer:=rfl
 have hin:∀ env∈(envOfC qual scope s.heap.objs.size f cdv::outer),∀ a,env.frame=some a->a∈frs (envOfC qual scope s.heap.objs.size f cdv::outer):=λenv he a ha=>List.mem_filterMap.mpr ⟨env,he,ha⟩
 have ff:s1.heap.FunFrames (hideAll s1.heap (frs (envOfC qual scope s.heap.objs.size f cdv::outer))) (envOfC qual scope s.heap.objs.size f cdv::outer):=PySem.W.funFrames_hide e0.RV hin
 have hkb:(hideAll s1.heap (frs (envOfC qual scope s.heap.objs.size f cdv::outer))).StaysIn s1.heap:=λb o q=>PySem.W.of_hideAll _ q
 show wpAny _ _ (leaving _ _) _ _ _
 refine wpAny_leaves_madeW (L:=s.heap.objs.size) (s:={ s1 with heap:=h2 }) e0.frames rfl hkb ff hx λh' t fl tup hBt up=>?_
 have ffo:s1.heap.FunFrames (hideAll s1.heap (frs (envOfC qual scope s.heap.objs.size f cdv::outer))) outer:=ff.2.2
 have u1:Un (frs outer) [] H H1 s.heap s1.heap:=I.base
 have hL:H1 s.heap.objs.size=none:=I.free
 have cv:Cov (frs outer) H1 s.heap s1.heap (hideAll s1.heap (frs (envOfC qual scope s.heap.objs.size f cdv::outer))):=λb o e hb c=>by
  refine PySem.W.hideAll_get _ e λhm=>?_
  have hm':b=s.heap.objs.size\/b∈frs outer:=by
   have:=hm
   unfold frs at this
   rw [filterMap_cons] at this
   exact mem_cons.mp this
  rcases hm' with rfl | hm'
  ·rcases c with c | ⟨v,c⟩
   ·exact c hL
   ·exact absurd (az c) (Nat.lt_irrefl _)
  ·exact hb hm'
 have up2:s1.heap.UpToSlots h':=(Heap.UpToSlots.of_keeps hx.keeps).trans up
 have sl:=JV ffo up2
 have fr:∀ b∈frs outer,H1 b=none:=λb hb=>I.frf b (by
  show b∈frs (envOfC qual scope s.heap.objs.size f cdv::outer)
  unfold frs
  rw [filterMap_cons]
  exact mem_cons_of_mem _ hb)
 have hexn:H1 ex=none:=by
  cases q:H1 ex with
  | none=>rfl
  | some x =>
   obtain ⟨ob,eo⟩:=(I.hok ex x q).get
   have:=hx.new
   rw [eo] at this
   cases this
 exact ⟨ex,t,.ref C,H1,_,rfl,I.os,I.bare,zN u1 cv fl.1 sl,JU I.hok cv fl.1 fr,fl,Ez u1 I.hok cv fl.1,Om u1 (by simp) hx.new,hexn,h⟩
theorem xe_on {E':XK}(I:Inv (XG (CXE P w) P w K mg base N qual scope f cdv A outer s H E) pins σ H1 s1)
  (h:CXE P w (XG (CXE P w) P w K mg base N qual scope f cdv A outer s H E).stack H1 s1 E' e s') (k:∀ cls H',E' cls none H'->E cls none H') :
  (XG (CXE P w) P w K mg base N qual scope f cdv A outer s H E).xe e s':=by
 obtain ⟨ex,t,cls,H',B,rfl,ho,hg,u,ok,fl,cv,hn,hexn,hE⟩:=h
 have I':=I.call' (ch:=[]) ho u ok hg (λ_ z=>nomatch z)
 have e0:=I'.env0
 have u1:Un (frs outer) [] H H' s.heap s'.heap:=I'.base
 have hL:H' s.heap.objs.size=none:=I'.free
 show wpAny _ _ (leaving _ _) _ _ _
 refine wpAny_leaves_onW (L:=s.heap.objs.size) e0.frames rfl fl λh' fl' up=>?_
 have cv1:Cov (frs outer) H' s.heap s'.heap B:=λb o e hb c=>by
  have hb':b∉frs (envOfC qual scope s.heap.objs.size f cdv::outer):=λhm=>by
   have hm':b=s.heap.objs.size\/b∈frs outer:=by
    have:=hm
    unfold frs at this
    rw [filterMap_cons] at this
    exact mem_cons.mp this
   rcases hm' with rfl | hm'
   ·rcases c with c | ⟨v,c⟩
    ·exact c hL
    ·exact absurd (az c) (Nat.lt_irrefl _)
   ·exact hb hm'
  refine cv b o e hb' ?_
  rcases c with c | ⟨v,c⟩
  ·exact .inl c
  ·exact .inr (Un.there (show Un (frs outer) [] H H1 s.heap s1.heap from I.base) b v c (by simp))
 have ffo:s'.heap.FunFrames B outer:=fl.2.2.1.2.2
 have sl:=JV ffo up
 have fr:∀ b∈frs outer,H' b=none:=λb hb=>I'.frf b (by
  show b∈frs (envOfC qual scope s.heap.objs.size f cdv::outer)
  unfold frs
  rw [filterMap_cons]
  exact mem_cons_of_mem _ hb)
 exact ⟨ex,t,cls,H',B,rfl,I'.os,I'.bare,zN u1 cv1 fl'.1 sl,JU ok cv1 fl'.1 fr,fl',Ez u1 ok cv1 fl'.1,Om (show Un (frs outer) [] H H1 s.heap s1.heap from I.base) (by simp) hn,hexn,k _ _ hE⟩
end
noncomputable def Yy (X:Cx) (XE:St->XK):Prop:=∀ (pins:List (Addr × Obj)) (σ:St) (H:Hp) (s:Shared) (e:Value) (s':Shared),Inv X pins σ H s->CXE X.prog X.w X.stack H s (XE σ) e s'->X.xe e s'
theorem Yr {K:aj}{qual:Str}{scope:Scope}{f:Addr}{cdv:Value}{A:Around}{outer:List Env}{s:Shared}{H:Hp}{E:XK} :
  Yy (XG (CXE P w) P w K mg base N qual scope f cdv A outer s H E) (λ_=>E):=λ_ _ _ _ _ _ I h=>xe_on I h λ_ _ z=>z
noncomputable def Bi (sp:Sp) (XE:St->XK) (t:TA):TE:=λσ H Q=>t σ H λvs H1=>sp vs H1 Q (XE σ)
section
theorem zO (F:Zx X.prog X.w X.K X.mg X.base (CXE X.prog X.w) k f fd ps sp) (hr:YZ k X.A) (hb:Binds X.K fd ps []) (hx:Yy X XE)
  (I:Inv X pins σ H s) (r:Vals vs us) (h:sp vs H Q (XE σ)):wpAny (model X.prog X.w) X.A (call (.ref f) us) (EP X pins σ Q) X.xe s:=by
 have hl:(us++[]).length=ps.length:=by rw [append_nil,<-r.length];exact F.len _ _ _ _ h
 have hb':=hb s us I.kIn hl
 rw [append_nil] at hb'
 refine wpAny_call (codeAny_mono (F.run X.A X.stack s H ⟨us,[]⟩ us vs Q (XE σ) hr I.env0 hb' r h) λr s' hq=>?_)
 cases r with
 | error e=>exact hx pins σ H s e s' I hq
 | ok fl =>
  cases fl with
  | ret u=>exact I.after hq
  | next=>exact False.elim hq
  | brk=>exact False.elim hq
  | cont=>exact False.elim hq
theorem uM (F:Zx X.prog X.w X.K X.mg X.base (CXE X.prog X.w) k f fd ps sp) (hr:YZ k X.A) (hg:Gl X x) (hm:X.mg x=some (.ref f)) (hk:keepIn X.K (.ref f)=true) (hb:Binds X.K fd ps []) (hx:Yy X XE)
  (ha:PA X (e::es) t) (hdb:autoParam ((x == ("__debug__" : Str))=false) auD) (he:autoParam (starEach (e::es) X.env=(false,eval e X.env)::starEach es X.env) auR) (hpl:autoParam ((backTo pos (starEach es X.env)).any (·.1)=false) auR) :
  PE X (.Call (.Name x p) (e::es) [] pos) (Bi sp XE t):=by
 intro pins s σ H Q I h
 refine wpAny_Call_Name_kw (QP I hg hm ?_ hdb)
 refine callWith_K (h₀:=X.base) I.ok.mod.kin hk (thn (ha pos pins s σ H _ I h) λus s1 ⟨vs,H1,I1,r,q⟩=>⟨I1.kIn,?_⟩) he hpl
 exact zO F hr hb hx I1 r q
end
structure Bj (K:aj) (C:Addr):Prop where
 ex:excIn K C [.type "ValueError",.type "Exception",.type "BaseException",.type "object"] "ValueError.__new__" = true
theorem Bj.obj {K:aj}(c:Bj K C):∃ nm q N bs bm hdct sn sub ab col dd k0 k1 k2 k3 k5,K.lookup C=some (excClassObj nm q C N bs bm hdct sn sub ab col dd k0 k1 k2 k3 k5 "ValueError.__new__") /\
  PySem.W.tailIn K [.type "ValueError",.type "Exception",.type "BaseException",.type "object"] bm=true/\nsOkIn K N=true/\PySem.W.nsIn K N "__init__" = some none:=by
 have q:=c.ex
 unfold excIn at q
 split at q
 ·rename_i dd cd sl ho
  split at q
  ·rename_i C' bm k0 k1 k2 k3 n k5 hm hs
   simp only [aF,beq_iff_eq,Bool.not_eq_true'] at q
   obtain ⟨⟨⟨⟨⟨rfl,rfl⟩,hdel⟩,ht⟩,hok⟩,hni⟩:=q
   obtain ⟨nm,bs,mro,ns,qn,hd,sn,sub,ab,col,del⟩:=cd
   dsimp only at hm hdel hok hni
   subst hm hdel
   have hsl:sl=#[k0,k1,k2,k3,some (.builtin "ValueError.__new__"),k5]:=by
    obtain ⟨l⟩:=sl
    simp only at hs
    rw [hs]
   subst hsl
   exact ⟨nm,qn,ns,bs,bm,hd,sn,sub,ab,col,dd,k0,k1,k2,k3,k5,ho,ht,hok,hni⟩
  ·cases q
 ·cases q
section
variable {P:Program}{w:World}{K:aj}{mg:Str->Option Value}{base:Heap}{N:List Str}{qual:Str}{scope:Scope}{f C:Addr}{cdv:Value}{A:Around}{outer:List Env}{s:Shared}{H:Hp}{E:XK}
 {x:Str}{np cpos pos:Pos}{e₀:Expr}{rest:List Expr}{t:TA}
noncomputable def uN (C:Addr) (E:XK) (t:TA):TS:=λ_ σ H=>t σ H λvs H1=>vs.length<=aA/\E (.ref C) none H1
theorem uO (c:Bj K C) (hm:mg x=some (.ref C))
  (ha:PA (XG (CXE P w) P w K mg base N qual scope f cdv A outer s H E) (e₀::rest) t)
  (hg:autoParam (Gl (XG (CXE P w) P w K mg base N qual scope f cdv A outer s H E) x) auR) (hdb:autoParam ((x == ("__debug__" : Str))=false) auD)
  (he:autoParam (starEach (e₀::rest) (XG (CXE P w) P w K mg base N qual scope f cdv A outer s H E).env=(false,eval e₀ (XG (CXE P w) P w K mg base N qual scope f cdv A outer s H E).env)::starEach rest (XG (CXE P w) P w K mg base N qual scope f cdv A outer s H E).env) auR)
  (hpl:autoParam ((backTo cpos (starEach rest (XG (CXE P w) P w K mg base N qual scope f cdv A outer s H E).env)).any (·.1)=false) auR) :
  PS (XG (CXE P w) P w K mg base N qual scope f cdv A outer s H E) (.Raise (some (.Call (.Name x np) (e₀::rest) [] cpos)) none pos) (uN C E t):=by
 intro pins s1 σ H1 D I h
 obtain ⟨nm,q,NN,bs,bm,hdct,sn,sub,ab,col,dd,k0,k1,k2,k3,k5,lk,ht,hok,hni⟩:=c.obj
 have hbase:bm.contains (.type "BaseException")=true:=(PySem.W.tail_of_in I.kIn ht).hasType (by decide +kernel)
 have hkk:K.In s1.heap:=I.kIn
 refine wpAny_Raise_call_subT (C:=C) (nm:=nm) (q:=q) (N:=NN) (bs:=bs) (bm:=bm) (hdct:=hdct) (sn:=sn) (sub:=sub) (ab:=ab) (col:=col) (dd:=dd) (k0:=k0) (k1:=k1) (k2:=k2) (k3:=k3) (k5:=k5) (mN:=s1.heap.nsMap NN)
  F.excBase_ValueError hbase (I.ok.hd rfl) (by rw [he];show (false || (backTo cpos (starEach rest _)).any (·.1))=false;rw [hpl];rfl) (PySem.W.nsMap_none_of_in hkk hok hni) ?_
 refine QP I hg hm ?_ hdb
 refine ⟨rfl,?_⟩
 have hargs:=ha cpos pins s1 σ H1 _ I h
 rw [he] at hargs ⊢
 refine Calls.evalArgs_plain (thn hargs λus s2 zq=>?_)
 obtain ⟨vs,H2,I2,r,hlen,q2⟩:=zq
 have k2':K.In s2.heap:=I2.kIn
 have keepN:s2.heap.Ns NN (s1.heap.nsMap NN):=by
  have n1:s1.heap.Ns NN (s1.heap.nsMap NN) := .of_isNs (PySem.W.isNs_of_in hkk hok)
  obtain ⟨o,es,ep,e,r1⟩:=n1
  unfold nsOkIn at hok
  split at hok
  ·rename_i c0 d0 es0 n0 sl0 ho
   have e1:=hkk _ _ ho
   rw [e] at e1
   cases e1
   exact ⟨_,es,ep,k2' _ _ ho,r1⟩
  ·cases hok
 refine ⟨rfl,by show us.length<=aA;rw [<-r.length];exact hlen,k2' _ _ lk,keepN,PySem.W.tail_of_in k2' ht,λh' ex hx=>?_⟩
 exact pR I2 hx q2
end
noncomputable def tryXe (X:Cx) (XE:St->XK):Value->Shared->Prop:=λe s'=>∃ pins σ H s,Inv X.nox pins σ H s/\CXE X.prog X.w X.stack H s (XE σ) e s'
abbrev JX (X:Cx) (pins:List (Addr × Obj)) (XE:St->XK):Cx:={ X with pn:=X.pn++pins,xe:=tryXe { X with pn:=X.pn++pins } XE }
theorem yW:Yy (JX X pins XE) XE:=λpins' σ H s e s' I h=>⟨pins',σ,H,s,Inv.wish (X:=JX X pins XE) I _,h⟩
theorem Cx.Ok.pn {X:Cx}(ok:X.Ok) (p:List (Addr × Obj)) (E:Value->Shared->Prop):Cx.Ok { X with pn:=p,xe:=E } :=
 ⟨ok.mod,ok.kind,ok.glob,ok.blt,ok.above,ok.inj,ok.has,ok.cab,ok.hd,ok.frames,ok.stk,ok.exf,ok.bs,ok.bsz,ok.noex,ok.exfs,ok.RV,ok.frf⟩
theorem Inv.jB (I:Inv X pins σ H s) (E:Value->Shared->Prop):Inv { X with pn:=X.pn++pins,xe:=E } [] σ H s :=
 ⟨I.ok.pn _ _,I.os,I.bare,I.base,I.loc,I.cell,I.free,I.freeC,(by rw [append_nil];exact I.pin),I.hok,I.len⟩
theorem Cx.Ok.unpn {X:Cx}(ok:Cx.Ok { X with pn:=p,xe:=E }):X.Ok :=
 ⟨ok.mod,ok.kind,ok.glob,ok.blt,ok.above,ok.inj,ok.has,ok.cab,ok.hd,ok.frames,ok.stk,ok.exf,ok.bs,ok.bsz,ok.noex,ok.exfs,ok.RV,ok.frf⟩
theorem Inv.EA {X:Cx}{E:Value->Shared->Prop}(I:Inv { X with pn:=X.pn++pins,xe:=E } pins' σ H s):Inv X pins σ H s :=
 ⟨I.ok.unpn,I.os,I.bare,I.base,I.loc,I.cell,I.free,I.freeC,λp hp=>I.pin p (mem_append_left _ hp),I.hok,I.len⟩
abbrev Cx.handling (X:Cx) (e:Value):Cx:={ X with A:=X.A.mark (some e),calm:=false,xe:=λ_ _=>False }
theorem Inv.handle (I:Inv X pins σ H s) (e:Value):Inv (X.handling e) pins σ H s :=
  ⟨⟨I.ok.mod,I.ok.kind,I.ok.glob,I.ok.blt,I.ok.above,I.ok.inj,I.ok.has,I.ok.cab,(λz=>nomatch z),I.ok.frames,I.ok.stk,I.ok.exf,I.ok.bs,I.ok.bsz,I.ok.noex,I.ok.exfs,I.ok.RV,I.ok.frf⟩,
   I.os,I.bare,I.base,I.loc,I.cell,I.free,I.freeC,I.pin,I.hok,I.len⟩
theorem Inv.uQ (I:Inv (X.handling e) pins σ H s) (hd:X.calm=true->X.A.handled=none) (hf:X.A.frames=some X.stack):Inv X pins σ H s :=
  ⟨⟨I.ok.mod,I.ok.kind,I.ok.glob,I.ok.blt,I.ok.above,I.ok.inj,I.ok.has,I.ok.cab,hd,hf,I.ok.stk,I.ok.exf,I.ok.bs,I.ok.bsz,I.ok.noex,I.ok.exfs,I.ok.RV,I.ok.frf⟩,
   I.os,I.bare,I.base,I.loc,I.cell,I.free,I.freeC,I.pin,I.hok,I.len⟩
noncomputable def Bk (ex C:Addr):HO := .ext λh=>∃ o vs,h.get? ex=some o/\o.cls = .ref C/\o.data = .fields vs
section
theorem Inv.track (I:Inv X pins σ H s) (hn:H a=none) (h0:X.s₀.heap.get? a=none) (hl:a≠X.env.locals) (hc:∀ x c,X.env.cells.lookup x=some c->c≠a) (hp:∀ p∈X.pn++pins,p.1≠a)
    (ok:Yj X.prog X.w (upd H a o) s.heap a o):Inv X pins σ (upd H a o) s :=
  ⟨I.ok,I.os,I.bare,⟨I.base.keep,I.base.slot,λb ob e n hx=>by
      have:b≠a:=λz=>by rw [z,h0] at e;cases e
      rw [Zj this]
      exact I.base.free b ob e n hx,I.base.there,λb xs e=>by
      have z:=I.base.tups b xs e
      rw [Zj (ZC z hn)]
      exact z,λb ob u e=>by
      have z:=I.base.frzs b ob u e
      rw [Zj (ZC z hn)]
      exact z,λb ps e=>by
      obtain ⟨more,z⟩:=I.base.tbls b ps e
      exact ⟨more,by rw [Zj (ZC z hn)];exact z⟩⟩,I.loc,I.cell,by rw [Zj (Ne.symm hl)];exact I.free,λx c e=>by rw [Zj (hc x c e)];exact I.freeC x c e,
   λp q=>by
     obtain ⟨a1,a2,a3⟩:=I.pin p q
     exact ⟨a1,by rw [Zj (hp p q)];exact a2,a3⟩,
   λb u e=>by
     by_cases hb:b=a
     · subst hb
       rw [Zy] at e
       cases e
       exact ok
     · rw [Zj hb] at e
       exact (I.hok b u e).stay (λ_ _ _ q=>q) (λc q=>by rw [Zj (ZC q hn)];exact q) λc xs q=>by rw [Zj (ZC q hn)];exact q,I.len⟩
theorem Inv.locals (I:Inv X pins σ H s) (hs:aG X.env.locals s.heap h') (hn':h'.Ns X.env.locals m')
  (hl:∀ (i:Nat) (x:Str) (v:V),X.N[i]?=some x->σ'[i]?=some (some v)->Vis X.env.scope x->∃ u,RelV v u/\Look X.env h' m' x u) (len:σ'.length=σ.length):Inv X pins σ' H { s with heap:=h',toks:=t' }:=by
 have cne:=I.cne
 obtain ⟨m,⟨oL,_,_,hoL,_⟩,_⟩:=id I.loc
 refine ⟨I.ok,I.os,I.bare,⟨λb o e n hb hx=>?_,λb o e n hb hx=>?_,I.base.free,λb o e hx=>?_,I.base.tups,I.base.frzs,I.base.tbls⟩,⟨_,hn',hl⟩,λy c e=>?_,I.free,I.freeC,λp hp=>?_,λb ob e=>?_,len.trans I.len⟩
 ·exact (hs.2 b (Nat.ne_of_lt (Nat.lt_of_lt_of_le (az e) I.ok.above))).trans (I.base.keep b o e n hb hx)
 ·obtain ⟨sl,e1⟩:=I.base.slot b o e n hb hx
  exact ⟨sl,(hs.2 b (Nat.ne_of_lt (Nat.lt_of_lt_of_le (az e) I.ok.above))).trans e1⟩
 ·obtain ⟨o',e1⟩:=I.base.there b o e hx
  exact ⟨o',(hs.2 b (Nat.ne_of_lt (Nat.lt_of_lt_of_le (az e) I.ok.above))).trans e1⟩
 ·obtain ⟨w',z⟩:=I.cell y c e
  exact ⟨w',z.sameBut hs (cne y c e)⟩
 ·obtain ⟨e,n,ne,nf,d⟩:=I.pin p hp
  exact ⟨(hs.2 p.1 ne).trans e,n,ne,nf,d⟩
 ·refine (I.hok b ob e).stay (λc w' hc q=>(hs.2 c ?_).trans q) (λ_ q=>q) λ_ _ q=>q
  rintro rfl
  rcases hc with rfl | hc
  ·rw [I.free] at e;cases e
  ·rw [I.free] at hc;cases hc
theorem Inv.move {H0:Hp}{h0 h2 B:Heap}{st:List Env}(I:Inv X pins σ H s) (hst:X.stack=st) (cv:Cov (frs st) H h0 s.heap B) (stay:B.StaysIn h2) (up:s.heap.UpToSlots h2)
  (ff:s.heap.FunFrames B st) (hpin:∀ p∈X.pn++pins,∃ u,h0.get? p.1=some u) (u0:∀ b o,X.s₀.heap.get? b=some o->∃ u,h0.get? b=some u) (hex:X.ex=[]) (hsub:∀ b∈X.fs,b∈frs st):Inv X pins σ H { s with heap:=h2 }:=by
 subst hst
 have fr:=I.frf
 have sl:=JV ff up
 have hpn:∀ p∈X.pn++pins,p.1∉frs X.stack:=λp hp z=>by
  have:=I.pin p hp
  exact (mem_cons.mp (I.MK p.1 z)).elim this.2.2.1 this.2.2.2.1
 refine ⟨I.ok,I.os,I.bare,⟨λb o e n hb hx=>?_,λb o e n hb hx=>?_,I.base.free,λb o e hx=>?_,I.base.tups,I.base.frzs,I.base.tbls⟩,?_,λy c e=>?_,I.free,I.freeC,λp hp=>?_,JU I.hok cv stay fr,I.len⟩
 ·have e1:=I.base.keep b o e n hb hx
  refine stay b o (cv b o e1 (λz=>?_) (.inr (u0 b o e)))
  rcases mem_cons.mp (I.MK b z) with z | z
  ·exact absurd z (Nat.ne_of_lt (Nat.lt_of_lt_of_le (az e) I.ok.above))
  ·exact hb z
 ·obtain ⟨s1,e1⟩:=I.base.slot b o e n hb hx
  obtain ⟨s2,e2⟩:=sl b (hsub b hb) _ e1
  exact ⟨s2,e2⟩
 ·obtain ⟨o1,e1⟩:=I.base.there b o e hx
  by_cases hb:b∈frs X.stack
  ·obtain ⟨s2,e2⟩:=sl b hb _ e1
   exact ⟨_,e2⟩
  ·exact ⟨o1,stay b o1 (cv b o1 e1 hb (.inr (u0 b o e)))⟩
 ·obtain ⟨m,hn,hl⟩:=I.loc
  refine ⟨m,up.ns hn,λi x v a1 a2 a3=>?_⟩
  obtain ⟨u,r,q⟩:=hl i x v a1 a2 a3
  refine ⟨u,r,?_⟩
  rcases q with q | ⟨k,c,e,z⟩
  ·exact .inl q
  ·refine .inr ⟨k,c,e,?_⟩
   obtain ⟨oc,ho,hd⟩:=z
   obtain ⟨sl2,e2⟩:=up c oc ho λvs q=>by rw [hd] at q;cases q
   exact ⟨_,e2,hd⟩
 ·obtain ⟨w',oc,ho,hd⟩:=I.cell y c e
  obtain ⟨sl2,e2⟩:=up c oc ho λvs q=>by rw [hd] at q;cases q
  exact ⟨w',_,e2,hd⟩
 ·obtain ⟨e,n,ne,nf,d⟩:=I.pin p hp
  exact ⟨stay p.1 p.2 (cv p.1 p.2 e (hpn p hp) (.inr (hpin p hp))),n,ne,nf,d⟩
end
theorem JY {K:aj}{ex C W:Addr}{oe:Obj}{b:Bool}{Q:Bool->Shared->Prop}(X:K.In s.heap) (he:s.heap.get? ex=some oe) (hc:oe.cls = .ref C)
  (hT:typeIn K (.ref W)=some (.type "type")) (hcl:(clsIn K W).isSome=true) (hB:subIn K (.ref W) (.type "BaseException")=some true) (hs:subIn K (.ref C) (.ref W)=some b) (h:Q b s) :
  wpAny M A (excMatches (.ref ex) (.ref W)) Q E s:=by
 obtain ⟨hp,g,d,tk,os⟩:=s
 have L1:Looks M hp (typeOf (.ref W)) (.type "type"):=PySem.W.looks_typeIn X hT
 have L2:Looks M hp (isInstance (.ref W) (.type "tuple")) false:=L1.andThen (Looks.of_pure tc_notTuple)
 have L3:Looks M hp (isType (.ref W)) true:=by
  unfold clsIn at hcl
  split at hcl
  ·rename_i c' d' cd' sl' ho
   intro A' Q' E' s' k q
   unfold isType loadHead
   exact ak (wpAny_loadPart (k _ _ (X _ _ ho)) (ao q))
  ·cases hcl
 have L4:Looks M hp (isSubtype (.ref W) (.type "BaseException")) true:=PySem.W.looks_subIn X hB
 have L5:Looks M hp (typeOf (.ref ex)) (.ref C):=by rw [<-hc];exact (Looks.ld he).andThen .now
 have L6:Looks M hp (isSubtype (.ref C) (.ref W)) b:=PySem.W.looks_subIn X hs
 unfold excMatches
 refine ak (L2.at ?_)
 simp only [Bool.false_eq_true,if_false]
 refine ak (ao ?_)
 simp only [forIn_cons,List.forIn_nil,bind_assoc,pure_bind]
 unfold isExcClass
 refine ak (ak (L3.at ?_))
 simp only [if_true]
 refine L4.at ?_
 simp only [Bool.not_true,Bool.false_eq_true,if_false,pure_bind]
 refine ak (L5.at ?_)
 refine ak (L6.at ?_)
 cases b <;> exact ao h
structure WCls (K:aj) (W:Addr):Prop where
 ty:typeIn K (.ref W)=some (.type "type")
 cl:isClsIn K W=true
 base:subIn K (.ref W) (.type "BaseException")=some true
noncomputable def jC (K:aj) (W:Addr) (j:Nat) (tb:(St->XK)->TS) (ts:TS):TS:=λD σ H=>∃ XE:St->XK,tb XE D σ H /\
 ∀ σ' H' cls,XE σ' cls none H'->∃ C,cls = .ref C/\subIn K (.ref C) (.ref W)=some true/\∀ ex,H' ex=none ->
  ts { nx:=λσ2 H2=>D.nx (σ2.set j none) H2,rt:=D.rt,bk:=λσ2 H2=>D.bk (σ2.set j none) H2,ct:=λσ2 H2=>D.ct (σ2.set j none) H2 } (σ'.set j (some (.ref ex))) (upd H' ex (Bk ex C))
theorem uR {b₀:Stmt}{np hpos pos:Pos}{tb:(St->XK)->TS}{ts:TS}(c:WCls X.K W) (hg:Gl X x) (hm:X.mg x=some (.ref W))
  (hN:X.N.Nodup) (hj:X.N[j]?=some n) (hb:∀ pins XE,PSs (JX X pins XE) body (tb XE)) (hs:∀ e,PSs (X.handling e) (b₀::suite) ts)
  (hcalm:autoParam (X.calm=true) auR) (hst:autoParam (X.stack=X.env::X.outer) auR) (hfr:autoParam (X.env.frame=some X.env.locals) auR) (hex:autoParam (X.ex=[]) auR) (hl:autoParam (X.env.scope.names.lookup n=some .local) auR) (hlk:autoParam (X.env.kindOf n=some .local) auR)
  (hfn:autoParam (X.fn n=true) auR) (hdb:autoParam ((x == ("__debug__" : Str))=false) auD) :
  PS X (.Try body [.ExceptHandler (some (.Name x np)) (some n) (b₀::suite) hpos] [] [] pos) (jC X.K W j tb ts):=by
 intro pins s σ H D I hD
 obtain ⟨XE,hbody,hcatch⟩:=hD
 refine wpAny_Try_except ?_
 have I0:Inv (JX X pins XE) [] σ H s:=I.jB _
 refine wpAny_mono (hb pins XE [] s σ H D I0 hbody) (λf s1 hs1=>?_) (λe s1 he=>?_)
 ·cases f with
  | next =>
   obtain ⟨σ',H',I',q⟩:=hs1
   exact zt (X:=X) pins s1 σ' H' D I'.EA q
  | brk =>
   obtain ⟨σ',H',I',q⟩:=hs1
   exact ⟨σ',H',I'.EA,q⟩
  | cont =>
   obtain ⟨σ',H',I',q⟩:=hs1
   exact ⟨σ',H',I'.EA,q⟩
  | ret u =>
   obtain ⟨v,σ',H',I',r,q⟩:=hs1
   exact ⟨v,σ',H',I'.EA,r,q⟩
 ·obtain ⟨pins',σ',H1,s0,I1,ex,t,cls,H',B,rfl,ho,hgn,u,ok,fl,cv,hn,hexn,hE⟩:=he
  have I1X:Inv X pins σ' H1 s0:=Inv.EA (E:=λ_ _=>False) I1
  have I2:Inv X pins σ' H' s1:=I1X.call' (ch:=[]) ho u ok hgn (λ_ z=>nomatch z)
  obtain ⟨C,rfl,hsub,hsuite⟩:=hcatch σ' H' cls hE
  have fl0:Heap.FlyingW B (X.env::X.outer) ex (.ref C) (.ref t) s1.heap:=by rw [<-hst];exact fl
  have cv0:Cov (frs (X.env::X.outer)) H' s0.heap s1.heap B:=by rw [<-hst];exact cv
  have hframes:X.A.frames=some (X.env::X.outer):=by rw [<-hst];exact I.ok.frames
  have hsubf:∀ b∈X.fs,b∈frs (X.env::X.outer):=λb hb=>by
   unfold frs
   rw [filterMap_cons,hfr]
   exact mem_cons_of_mem _ hb
  have hpin:∀ p∈X.pn++pins,∃ u,s0.heap.get? p.1=some u:=λp hp=>⟨_,(I1X.pin p hp).1⟩
  have u0:∀ b o,X.s₀.heap.get? b=some o->∃ u,s0.heap.get? b=some u:=λb o e=>I1X.base.there b o e (by rw [hex];simp)
  have mv:∀ {h2:Heap},B.StaysIn h2->s1.heap.UpToSlots h2->Inv X pins σ' H' { s1 with heap:=h2 }:=λst up=>Inv.move (H0:=H1) (h0:=s0.heap) I2 hst cv0 st up fl0.2.2.1 hpin u0 hex hsubf
  refine wpAny_looks_onW (L:=X.env.locals) hframes hfr fl0 λh4 held4 up4=>?_
  refine wpAny_landsW held4 λh5 fl5 up5=>?_
  have I5:Inv X pins σ' H' { s1 with heap:=h5 }:=mv fl5.1 (up4.trans up5)
  refine wpAny_handleBy_cons (codeAny_handlers_test (QP (X:=X.handling (.ref ex)) (I5.handle _) hg hm ?_ hdb)) (by intro q;cases q)
  obtain ⟨ob,hob,hobc⟩:=fl5.there
  have hcl:(clsIn X.K W).isSome=true:=c.cl
  refine JY (s:={ s1 with heap:=h5 }) I5.kIn hob hobc c.ty hcl c.base hsub ?_
  refine codeAny_handlers_suite_as ?_
  refine lands_againW (s:={ s1 with heap:=h5 }) fl5 λh6 fl6 up6=>?_
  have I6:Inv X pins σ' H' { s1 with heap:=h6 }:=mv fl6.1 ((up4.trans up5).trans up6)
  obtain ⟨oe,ws,hoe,hoec,hoed,_⟩:=fl6.first
  have ne_there:∀ b o,s0.heap.get? b=some o->b≠ex:=λb o e z=>by rw [z,hn] at e;cases e
  have I7:Inv X pins σ' (upd H' ex (Bk ex C)) { s1 with heap:=h6 }:=by
   refine I6.track hexn (Om I1X.base (by rw [hex];simp) hn) ?_ (λy c' e=>?_) (λp hp=>?_) ⟨⟨oe,ws,hoe,hoec,hoed⟩,⟨_,hoe⟩,λh1 h2 ⟨o1,v1,a1,a2,a3⟩ k=>⟨o1,v1,k o1 a1,a2,a3⟩⟩
   ·obtain ⟨m,⟨o,_,_,e,_⟩,_⟩:=I1X.loc
    exact λz=>ne_there _ o e z.symm
   ·obtain ⟨v,o,e,_⟩:=I1X.cell y c' e
    exact ne_there _ o e
   ·exact ne_there _ _ (I1X.pin p hp).1
  refine RX (X:=X.handling (.ref ex)) (i:=j) (I7.handle (.ref ex)) hN hj (Or.inl hl) (v := .ref ex) rfl (λs8 I8=>?_) (.inl hfn)
  have run:=hs (.ref ex) pins s8 _ _ _ I8 (hsuite ex hexn)
  refine wpAny_mono run (λf s9 h9=>?_) (λ_ _ z=>z.elim)
  have gone:∀ {σ2:St}{H2:Hp},Inv (X.handling (.ref ex)) pins σ2 H2 s9->∀ {Q:Unit->Shared->Prop},(∀ s10,Inv X pins (σ2.set j none) H2 s10->Q () s10)->wpAny (model X.prog X.w) X.A (do bindName X.env n .none;unbindBehindTheSuite X.env n hpos) Q X.xe s9:=λ{σ2 H2} I9 {Q} k=>by
   have I9X:Inv X pins σ2 H2 s9:=I9.uQ I.ok.hd I.ok.frames
   obtain ⟨m,hn9,hl9⟩:=id I9X.loc
   have hp:(X.env.scope.kind == .class || (X.env.scope.kind == .module && X.env.locals != X.env.globals))=false:=by rw [I.ok.kind];rfl
   refine wpAny_nameGoes_keeps hlk hn9 hp λh' v hn' hs'=>?_
   refine k _ (I9X.locals hs' hn' (λi y z a1 a2 a3=>?_) (by simp))
   have hij:i≠j:=λq=>by
    subst q
    rw [getElem?_set_self (by rw [I9X.len];exact (List.getElem?_eq_some_iff.mp hj).1)] at a2
    cases a2
   rw [getElem?_set_ne (Ne.symm hij)] at a2
   obtain ⟨u9,r9,q9⟩:=hl9 i y z a1 a2 a3
   have hyn:y≠n:=λq=>hij (JD hN a1 (q ▸ hj))
   refine ⟨u9,r9,?_⟩
   rcases q9 with ⟨q1,q2⟩ | ⟨q1,c9,q2,q3⟩
   ·exact .inl ⟨q1,by simp [hyn,q2]⟩
   ·exact .inr ⟨q1,c9,q2,q3.sameBut hs' (I9X.cne y c9 q2)⟩
  cases f with
  | next =>
   obtain ⟨σ2,H2,I9,q⟩:=h9
   exact gone I9 λs10 I10=>⟨_,_,I10,q⟩
  | brk =>
   obtain ⟨σ2,H2,I9,q⟩:=h9
   exact gone I9 λs10 I10=>⟨_,_,I10,q⟩
  | cont =>
   obtain ⟨σ2,H2,I9,q⟩:=h9
   exact gone I9 λs10 I10=>⟨_,_,I10,q⟩
  | ret u9 =>
   obtain ⟨v9,σ2,H2,I9,r9,q⟩:=h9
   exact gone I9 λs10 I10=>⟨v9,_,_,I10,r9,q⟩
structure XTy (K:aj) (C:Addr):Prop where
 ga:findIn K (.ref C) "__getattribute__" = some (some (.builtin "BaseException.__getattribute__"))
 gn:findIn K (.ref C) "__getattr__" = some none
 cl:findIn K (.ref C) "__class__" = some (some (.builtin "object.__class__"))
 ob:mroIn K C (.type "object")=some true
 be:mroIn K C (.type "BaseException")=some true
 ic:isClsIn K C=true
section
theorem exc_type (hx:h.get? a=some o) (hc:o.cls = .ref C):Looks M h (typeOf (.ref a)) (.ref C):=hc ▸ (Looks.ld hx).andThen .now
theorem Ho {K:aj}{d:Drawn}{t:Nat}{os:OsState}{a:Addr}{C:Addr}{o:Obj}{R:Result->Shared->Prop}{tp:Value}(X:K.In h) (T:XTy K C) (hx:h.get? a=some o) (hc:o.cls = .ref C) (hq:R (.ok (.ret (.ref C))) ⟨h,g,d,t,os⟩) :
  codeAny (model prog w) A (.call (.builtin "getset_descriptor.__get__") ⟨[.builtin "object.__class__",.ref a,tp],[]⟩) R ⟨h,g,d,t,os⟩:=by
 have L0:=exc_type (M:=model prog w) hx hc
 have L1:=PySem.W.looks_mroIn (M:=model prog w) X T.ob
 refine codeAny_call_builtin PySem.W.KF.slot_gs.plain PySem.W.KF.entry_gs (PySem.W.KF.slot_gs.check _ _ _ _ _ _ _ _ PySem.W.KF.type_class (PySem.W.KF.args_gs _ _ _) ?_)
 unfold Builtin.«getset_descriptor.__get__» Builtin.Getset_descriptor.descrGet
 rw [PySem.W.dga_obj]
 refine ak (ao ?_)
 unfold Builtin.Getset_descriptor.descrGetter Builtin.Getset_descriptor.descrCheckInstance Builtin.Getset_descriptor.descrNameAndClass isInstance
 simp only [PySem.W.KF.owner_class]
 repeat lk
 refine ⟨Code.quiet_builtin _ (by decide +kernel),codeAny_builtin PySem.W.KF.entry_class ?_⟩
 unfold Builtin.«object.__class__» shownTypeOf
 repeat lk
 exact hq
theorem GR {K:aj}{t:Nat}{os:OsState}{a:Addr}{C:Addr}{o:Obj}{M:Model}{nameV:Value}{Q:Unit->Shared->Prop}(X:K.In h) (T:XTy K C) (hx:h.get? a=some o) (hc:o.cls = .ref C) (hq:Q () ⟨h,g,d,t,os⟩) :
  wpAny M A (checkBuiltinCall "BaseException.__getattribute__" ⟨[.ref a,nameV],[]⟩) Q E ⟨h,g,d,t,os⟩:=by
 have hk:builtinKind "BaseException.__getattribute__" = some .slot:=by decide +kernel
 have hsplit:splitId "BaseException.__getattribute__" = some ("BaseException", "__getattribute__"):=by decide +kernel
 have ha:=F.args_bexc_ga (.ref a) nameV
 have L0:=exc_type (M:=M) hx hc
 have L1:=PySem.W.looks_mroIn (M:=M) X T.be
 have L2:Looks M h (isInstance (.ref a) (.type "BaseException")) true:=L0.andThen L1
 simp only [checkBuiltinCall,hk,hsplit]
 refine ak (L2.at ?_)
 repeat (any_goals (first | assumption | wp_step))
theorem KO {K:aj}{g:Array GenState}{d:Drawn}{t:Nat}{os:OsState}{a:Addr}{C:Addr}{o:Obj}{tk:Tok}{Q:Fin->Shared->Prop}(X:K.In h) (T:XTy K C) (hx:h.get? a=some o) (hc:o.cls = .ref C) (hq:Q (.done (.ret (.ref C))) ⟨h,g,d,t,os⟩) :
  wpAny (model prog w) A (Builtin.«object.__getattribute__» ⟨[.ref a,.str "__class__" tk],[]⟩) Q E ⟨h,g,d,t,os⟩:=by
 have hT5:(⟨h,g,d,t,os⟩:Shared).TypeIs (.builtin "object.__class__") "getset_descriptor" := F.typeOf_object_class
 have f5:=F.typeOf_object_class
 have f6:=F.slot_gs_get.lookup
 have f7:=F.slot_gs_set.lookup
 have LC:=looks_findIn (M:=model prog w) X T.cl
 repeat (any_goals (first | assumption | (with_reducible refine wpAny_loadPart_at hx ?_;rw [hc]) | with_reducible refine Looks.at LC ?_ | wp_step))
 refine Ho X T hx hc ?_
 repeat (any_goals (first | assumption | wp_step))
theorem GU {K:aj}{g:Array GenState}{d:Drawn}{t:Nat}{os:OsState}{a:Addr}{C:Addr}{o:Obj}{tk:Tok}{Q:Value->Shared->Prop}(X:K.In h) (T:XTy K C) (hx:h.get? a=some o) (hc:o.cls = .ref C) (hq:Q (.ref C) ⟨h,g,d,t,os⟩) :
  wpAny (model prog w) A (getAttrBy (.ref a) (.str "__class__" tk) false) Q E ⟨h,g,d,t,os⟩:=by
 have f3:=F.attr_ValueError.ga.bind (.ref a)
 have hx2:(Value.builtin "BaseException.__getattribute__" == Value.builtin "object.__getattribute__")=false:=by decide +kernel
 have hx1:(onTheHeap (Value.ref C) && Value.builtin "BaseException.__getattribute__" == Value.builtin "object.__getattribute__")=false:=by rw [hx2];rfl
 have L1:=looks_findIn (M:=model prog w) X T.ga
 have L2:=looks_findIn (M:=model prog w) X T.gn
 repeat (any_goals (first | assumption | (with_reducible refine wpAny_loadPart_at hx ?_;rw [hc]) | with_reducible refine Looks.at L1 ?_ | with_reducible refine Looks.at L2 ?_ | wp_step))
 refine codeAny_call_builtin F.attr_ValueError.ga.plain F.entry_bexc_ga (GR X T hx hc (KO X T hx hc ?_))
 repeat (any_goals (first | assumption | wp_step))
theorem JZ {K:aj}{g:Array GenState}{d:Drawn}{t:Nat}{os:OsState}{a:Addr}{C:Addr}{o:Obj}{Q:Option Value->Shared->Prop}(X:K.In h) (T:XTy K C) (hx:h.get? a=some o) (hc:o.cls = .ref C) (hq:Q (some (.ref C)) ⟨h,g,d,t + 1,os⟩) :
  wpAny (model prog w) A (getAttr? (.ref a) "__class__") Q E ⟨h,g,d,t,os⟩:=by
 unfold getAttr? getAttrBy?
 repeat (any_goals (first | assumption | with_reducible apply GU X T hx hc | wp_step))
end
theorem EB {K:aj}(T:XTy K C):PySem.W.KitX K (.ref a) (.ref C) (λh=>∃ o vs,h.get? a=some o/\o.cls = .ref C/\o.data = .fields vs) where
 ty:=λ_ _ _ ⟨o,vs,e,c,_⟩=>exc_type e c
 it:=λ_ _ X _=>by
  have hcD:=T.ic
  unfold isClsIn clsIn at hcD
  split at hcD
  ·rename_i c' d' cd' sl' ho
   intro A' Q' E' s' k q
   unfold isType loadHead
   exact ak (wpAny_loadPart (k _ _ (X _ _ ho)) (ao q))
  ·cases hcD
 ne:=λh tp dd its n sl X htp=>by
  have hcD:=T.ic
  refine Bool.eq_false_iff.mpr λq=>?_
  have e:C=tp:=Value.ref.inj (beq_iff_eq.mp q)
  subst e
  unfold isClsIn clsIn at hcD
  split at hcD
  ·rename_i c' d' cd' sl' ho
   have z:=(X _ _ ho).symm.trans htp
   cases z
  ·cases hcD
 ca:=λ{_ _ _ _ _ s} X ⟨o,vs,e,c,_⟩ k=>by
  obtain ⟨hh,g,d,t,os⟩:=s
  exact JZ X T e c k
section
noncomputable def rIsiX (K:aj):List V->Hp->VK->Prop:=λxs H Q=>∃ a C,xs[0]?=some (.ref a)/\H a=some (Bk a C)/\XTy K C /\
  ((∃ (c:V) (cv:Value) (b:Bool),xs=[.ref a,c]/\(∀ u,RelV c u->u=cv)/\kitOne K (.ref C) cv=some b/\Q (.bl b) H) \/
   (∃ (tp:Addr) (cs:List Addr) (b:Bool),xs=[.ref a,.ref tp]/\H tp=some (.tup (cs.map V.ref))/\kitAny K (.ref C) (cs.map Value.ref)=some b/\Q (.bl b) H))
theorem MR:∀ {cs:List Addr}{us:List Value},Vals (cs.map V.ref) us->us=cs.map Value.ref
 | [],_,.nil=>rfl
 | _::_,_,.cons r t=>by rw [map_cons,MR t];rw [show _=Value.ref _ from r]
theorem yX:Xs X (.builtin "isinstance") (rIsiX X.K):=by
 intro pins s σ H xs us Q I r h
 obtain ⟨a,C,_,hH,T,h⟩:=h
 obtain ⟨p,_,_⟩:=(show Yj X.prog X.w H s.heap a (Bk a C) from I.hok a _ hH)
 rcases h with ⟨c,cv,b,rfl,hc,e,q⟩ | ⟨tp,cs,b,rfl,hT,e,q⟩
 ·obtain ⟨u,w',rfl,r1,r2⟩:=vals2 r
  cases hc _ r2
  cases r1
  exact kia_one (EB T) I.kIn p e (λz=>nomatch z) λtk=>⟨.bl b,H,I.tok tk,rfl,q⟩
 ·obtain ⟨u,w',rfl,r1,r2⟩:=vals2 r
  cases r1
  cases r2
  obtain ⟨_,its,rv,ob,ho,hcl,n,hd⟩:=(show Yj X.prog X.w H s.heap tp (.tup (cs.map V.ref)) from I.hok tp _ hT)
  have ei:=MR rv
  subst ei
  obtain ⟨c0,dd,dt,sl⟩:=ob
  dsimp only at hcl hd
  subst hcl hd
  exact kia_tup (EB T) I.kIn p ho e (λz=>nomatch z) λtk=>⟨.bl b,H,I.tok tk,rfl,q⟩
end
theorem uS {K:aj}(hk:PySem.W.kitMeta T=true) (hs:mroIn K C (.type T)=some b):kitOne K (.ref C) (.type T)=some b:=by
 unfold kitOne
 rw [if_neg (by simp)]
 unfold kitCls
 simp only
 rw [if_pos hk]
 exact hs
structure CZ where
 cl:List (Str × Addr)
 C:Addr
 s:Shared
 H:Hp
 fp:List Addr
abbrev ZE (X:Cx) (scope:Scope) (N:List Str) (z:CZ):Cx where
 prog:=X.prog
 w:=X.w
 K:=X.K
 mg:=X.mg
 base:=X.base
 A:=X.A
 N:=N
 s₀:=z.s
 H₀:=z.H
 env:=compEnvC scope z.cl z.C X.env
 outer:=X.stack
 stack:=X.stack
 ex:=z.fp
 fn:=λ_=>false
 calm:=X.calm
 pn:=[]
 xe:=λ_ _=>False
noncomputable def Ss (own sc:Scope) (Nc:List Str):Bool :=
 (own.kind == .function) && (own.names.all λy=>y.2 != .cell && (y.2 != .free || sc.names.lookup y.1 == some .cell || sc.names.lookup y.1 == some .free) && (y.2 != .local || own.names.lookup y.1 == some .local)) &&
 (Nc.all λx=>own.names.lookup x == some .free)
structure Bl (own sc:Scope) (Nc:List Str):Prop where
 kind:own.kind = .function
 nocell:∀ y∈own.names,y.2 ≠ .cell
 free:∀ y∈own.names,y.2 = .free->sc.names.lookup y.1=some .cell\/sc.names.lookup y.1=some .free
 loc:∀ y∈own.names,y.2 = .local->own.names.lookup y.1=some .local
 cap:∀ x∈Nc,own.names.lookup x=some .free
theorem HX (h:Ss own sc Nc=true):Bl own sc Nc:=by
 unfold Ss at h
 simp only [aF,all_eq_true,Bool.or_eq_true,bne_iff_ne,ne_eq,beq_iff_eq] at h
 obtain ⟨⟨h1,h2⟩,h3⟩:=h
 refine ⟨h1,λy hy=>(h2 y hy).1.1,λy hy e=>?_,λy hy e=>?_,h3⟩
 ·rcases (h2 y hy).1.2 with (z | z) | z
  ·exact absurd e z
  ·exact .inl z
  ·exact .inr z
 ·rcases (h2 y hy).2 with z | z
  ·exact absurd e z
  ·exact z
theorem Ia (h:∀ y∈scope.names,y.2 = .free->∃ c,env.cells.lookup y.1=some c) :
  ∃ cl,closureFor scope env=pure cl/\(∀ y∈scope.names,y.2 = .free->∃ c,cl.lookup y.1=some c)/\∀ x c,cl.lookup x=some c->env.cells.lookup x=some c:=by
 have key:∀ (l:List (Str × NameKind)) (cs:List (Str × Addr)),(∀ y∈l,y.2 = .free->∃ c,env.cells.lookup y.1=some c)->(∀ x c,cs.lookup x=some c->env.cells.lookup x=some c) ->
   ∃ cl,(forIn l cs λx r=>if (x.2 == NameKind.free)=true then do let a <- cellOf env x.1;pure (ForInStep.yield ((x.1,a)::r)) else pure (ForInStep.yield r):Sem (List (Str × Addr)))=pure cl /\
    (∀ y∈l,y.2 = .free->∃ c,cl.lookup y.1=some c)/\(∀ x c,cs.lookup x=some c->∃ c',cl.lookup x=some c')/\∀ x c,cl.lookup x=some c->env.cells.lookup x=some c:=by
  intro l
  induction l with
  | nil=>intro cs _ hcs;exact ⟨cs,rfl,λy hy=>(nomatch hy),λx c e=>⟨c,e⟩,hcs⟩
  | cons y r ih =>
   intro cs hl hcs
   obtain ⟨n,k⟩:=y
   have hr:∀ y∈r,y.2 = .free->∃ c,env.cells.lookup y.1=some c:=λy hy=>hl y (mem_cons_of_mem _ hy)
   by_cases hk:k = .free
   ·subst hk
    obtain ⟨c,hc⟩:=hl (n,.free) mem_cons_self rfl
    have hcs':∀ x c',((n,c)::cs).lookup x=some c'->env.cells.lookup x=some c':=λx c' e=>by
     rw [lookup_cons] at e
     cases hx:x == n with
     | true=>rw [hx] at e;cases e;rw [eq_of_beq hx];exact hc
     | false=>rw [hx] at e;exact hcs x c' e
    obtain ⟨cl,e1,e2,e3,e4⟩:=ih ((n,c)::cs) hr hcs'
    refine ⟨cl,?_,?_,?_,e4⟩
    ·have hcell:cellOf env n=pure c:=by unfold cellOf;rw [hc]
     rw [forIn_cons]
     simp only [beq_self_eq_true,if_true,hcell,pure_bind]
     exact e1
    ·intro y hy ey
     rcases mem_cons.mp hy with rfl | hy
     ·exact e3 n c (by rw [lookup_cons];simp)
     ·exact e2 y hy ey
    ·intro x c' e
     cases hx:x == n with
     | true=>exact e3 x c (by rw [lookup_cons,hx])
     | false=>exact e3 x c' (by rw [lookup_cons,hx];exact e)
   ·obtain ⟨cl,e1,e2,e3,e4⟩:=ih cs hr hcs
    have hb:(k == NameKind.free)=false:=by simpa using hk
    refine ⟨cl,?_,?_,e3,e4⟩
    ·rw [forIn_cons]
     simp only [hb,Bool.false_eq_true,if_false,pure_bind]
     exact e1
    ·intro y hy ey
     rcases mem_cons.mp hy with rfl | hy
     ·exact absurd ey hk
     ·exact e2 y hy ey
 obtain ⟨cl,e1,e2,_,e4⟩:=key scope.names [] h (λx c e=>by cases e)
 refine ⟨cl,?_,e2,e4⟩
 have e:closureFor scope env=(forIn scope.names ([]:List (Str × Addr)) (λx r=>if (x.2 == NameKind.free)=true then do let a <- cellOf env x.1;pure (ForInStep.yield ((x.1,a)::r)) else pure (ForInStep.yield r)) >>= λr=>pure r:Sem (List (Str × Addr))):=rfl
 rw [e,e1,pure_bind]
theorem Ua {env:Env}{x:Str}:∀ {names:List (Str × NameKind)}, 
  (names.map λ(n,k)=>if (k == NameKind.free && env.scope.kind == .function && env.kindOf n == some .cell) then (n,NameKind.cell) else (n,k)).lookup x =
   (names.lookup x).map λk=>if (k == NameKind.free && env.scope.kind == .function && env.kindOf x == some .cell) then NameKind.cell else k
 | []=>rfl
 | (n,k)::r=>by
  have ih:=@Ua env x r
  show List.lookup x ((if (k == NameKind.free && env.scope.kind == .function && env.kindOf n == some .cell)=true then (n,NameKind.cell) else (n,k))::_)=_
  cases hx:x == n with
  | true =>
   have e:=eq_of_beq hx
   subst e
   by_cases hc:(k == NameKind.free && env.scope.kind == .function && env.kindOf x == some .cell)=true
   ·rw [if_pos hc,lookup_cons,lookup_cons];simp only [beq_self_eq_true,Option.map_some,hc,if_true]
   ·rw [if_neg hc,lookup_cons,lookup_cons];simp only [beq_self_eq_true,Option.map_some,if_neg hc]
  | false =>
   by_cases hc:(k == NameKind.free && env.scope.kind == .function && env.kindOf n == some .cell)=true
   ·rw [if_pos hc,lookup_cons,lookup_cons,hx];exact ih
   ·rw [if_neg hc,lookup_cons,lookup_cons,hx];exact ih
theorem GV {env:Env}(h:own.names.lookup x=some .free):(relabel own env).names.lookup x=some .cell\/(relabel own env).names.lookup x=some .free:=by
 have e:(relabel own env).names.lookup x=_:=Ua
 rw [e,h]
 by_cases hc:(NameKind.free == NameKind.free && env.scope.kind == .function && env.kindOf x == some .cell)=true
 ·left;simp only [Option.map_some,hc,if_true]
 ·right;simp only [Option.map_some,hc,if_false];rfl
theorem EC {env:Env}(h:(relabel own env).names.lookup x=some .cell\/(relabel own env).names.lookup x=some .free):own.names.lookup x=some .free\/own.names.lookup x=some .cell:=by
 have e:(relabel own env).names.lookup x=_:=Ua
 rw [e] at h
 cases hl:own.names.lookup x with
 | none=>rw [hl] at h;simp at h
 | some k =>
  rw [hl] at h
  simp only [Option.map_some,Option.some.injEq] at h
  by_cases hc:(k == NameKind.free && env.scope.kind == .function && env.kindOf x == some .cell)=true
  ·simp only [aF,beq_iff_eq] at hc
   exact .inl (by rw [hc.1.1])
  ·rw [if_neg hc] at h
   rcases h with h | h
   ·exact .inr (by rw [h])
   ·exact .inl (by rw [h])
section
noncomputable def pre (n:Nat) (fr:List Nat) (σ:St):St:=replicate n none++fr.map λj=>(σ[j]?).getD none
theorem Bm 
  (I:Inv X pins σ H s) (hf:∀ b∈fp,MN X pins H b) (hlt:∀ b∈fp,b < s.heap.objs.size) (c:Bl own X.env.scope Nc) (hc1:∀ y∈own.names,y.2 = .free->∃ c,cl.lookup y.1=some c) (hc2:∀ x c,cl.lookup x=some c->X.env.cells.lookup x=some c)
  (hN:fr.map (X.N[·]?)=Nc.map some) (hD:s.heap.objs.size<=D) (hC:s.heap.objs.size<=C) (hDC:D≠C)
  (k:∀ b o,s.heap.get? b=some o->s'.heap.get? b=some o) (ns:s'.heap.Ns C m) (nl:s'.heap.get? D=some { cls := .type "list",data := .seq #[] }) (eo:s'.os=s.os) (eg:s'.gens=s.gens) :
  Inv (ZE X own (ts++Nc) ⟨cl,C,s,H,fp⟩) [] (pre ts.length fr σ) (upd H D (.lst [])) s':=by
 have fresh:∀ {b},s.heap.objs.size<=b->H b=none:=λh=>I.hok.fresh h
 have old:∀ {b:Addr}{o:Obj},s.heap.get? b=some o->b < s.heap.objs.size:=λe=>az e
 have cellLt:∀ x c,X.env.cells.lookup x=some c->c < s.heap.objs.size:=λx c e=>by
  obtain ⟨v,o,ho,_⟩:=I.cell x c e
  exact old ho
 refine ⟨⟨I.ok.mod,c.kind,I.ok.glob,I.ok.blt,hC,λx y a h1 h2=>I.ok.inj x y a (hc2 x a h1) (hc2 y a h2),λx hx=>?_,λx a z _=>(by cases z),I.ok.hd,I.ok.frames,.inl rfl,λb hb=>?_,I.bs,Nat.le_trans I.ok.bsz I.sz,λb o e hb=>?_,λb hb hb2=>?_,I.stack,I.zo⟩,
  eo,by rw [eg];exact I.bare,?_,⟨m,ns,λi x v h1 h2 h3=>?_⟩,λx a h=>?_,?_,λx a h=>?_,λp hp=>absurd hp (by simp),?_,?_⟩
 ·have hx:(relabel own X.env).names.lookup x=some .cell\/(relabel own X.env).names.lookup x=some .free:=hx
  rcases EC hx with h | h
  ·exact hc1 (x,.free) (PySem.mem_of_lookup h) rfl
  ·exact absurd rfl (c.nocell _ (PySem.mem_of_lookup h))
 ·obtain ⟨_,f1,f2,f3,f4,f5⟩:=hf b hb
  refine ⟨λz=>?_,λx a h=>f4 x a (hc2 x a h)⟩
  have z:b=C:=z
  subst z
  exact absurd (hlt _ hb) (Nat.not_lt.mpr hC)
 ·obtain ⟨_,f1,f2,f3,f4,f5⟩:=hf b hb
  rcases f3 with f3 | f3
  ·exact I.ok.noex b o e f3
  ·exact absurd (az (I.ok.bs b o e).1) (Nat.not_lt.mpr f3)
 ·obtain ⟨_,f1,f2,f3,f4,f5⟩:=hf b hb
  rcases mem_cons.mp (I.MK b hb2) with z | z
  ·exact f1 z
  ·exact f2 z
 ·exact Un.laid k hD (fresh hD)
 ·by_cases hi:i < ts.length
  ·unfold pre at h2
   rw [getElem?_append_left (by simpa using hi),getElem?_replicate] at h2
   split at h2 <;> cases h2
  ·have h1:(ts++Nc)[i]?=some x:=h1
   unfold pre at h2
   rw [getElem?_append_right (by omega)] at h1
   rw [getElem?_append_right (by simpa using hi),length_replicate,getElem?_map] at h2
   have e1:(fr.map (X.N[·]?))[i - ts.length]?=some (some x):=by rw [hN,getElem?_map,h1];rfl
   rw [getElem?_map] at e1
   cases e:fr[i - ts.length]? with
   | none=>rw [e] at h2;cases h2
   | some j =>
    rw [e] at h2 e1
    simp only [Option.map_some,Option.some.injEq] at h2 e1
    have hj:σ[j]?=some (some v):=by
     cases e2:σ[j]? with
     | none=>rw [e2] at h2;cases h2
     | some w'=>rw [e2] at h2;exact congrArg some h2
    have hx:=c.cap x (mem_of_getElem? h1)
    have hv:=c.free _ (PySem.mem_of_lookup hx) rfl
    obtain ⟨m0,hns0,hl0⟩:=I.loc
    obtain ⟨u,ru,lk⟩:=hl0 j x v e1 hj (.inr hv)
    refine ⟨u,ru,.inr ⟨GV hx,?_⟩⟩
    rcases lk with ⟨lk,_⟩ | ⟨_,a,ea,ha⟩
    ·have lk:X.env.scope.names.lookup x=some .local:=lk
     rw [lk] at hv
     rcases hv with hv | hv <;> cases hv
    ·obtain ⟨a',ea'⟩:=hc1 _ (PySem.mem_of_lookup hx) rfl
     have:=hc2 x a' ea'
     rw [ea] at this
     cases this
     obtain ⟨o,ho,hd⟩:=ha
     exact ⟨a,ea',o,k _ _ ho,hd⟩
 ·obtain ⟨v,o,ho,hd⟩:=I.cell x a (hc2 x a h)
  exact ⟨v,o,k _ _ ho,hd⟩
 ·show upd H D (.lst []) C=none
  rw [Zj (Ne.symm hDC)]
  exact fresh hC
 ·have h:=hc2 x a h
  rw [Zj (Nat.ne_of_lt (Nat.lt_of_lt_of_le (cellLt x a h) hD))]
  exact I.freeC x a h
 ·exact I.hok.laid k hD ⟨Nat.zero_le _,[],0,.nil,nl⟩
 ·have:=congrArg length hN
  simp only [length_map] at this
  unfold pre
  simp only [length_append,length_replicate,length_map,this]
theorem comp_back 
  (I:Inv X pins σ H s) (hf:∀ b∈fp,MN X pins H b) (J:Inv (ZE X own N ⟨cl,C,s,H,fp⟩) pl σ' H' s'):Inv X pins σ H' s' :=
 I.call' (ch:=fp) J.os J.base J.hok J.bare λb hb=>let ⟨_,f1,_,f3,f4,f5⟩:=hf b hb;⟨f3,f1,f4,f5⟩
theorem Ib 
  (I:Inv X pins σ H s) (hC:s.heap.objs.size<=C) (J:Inv X pins σ2 H' s') (hn:H' C=none) (k:∀ b o,b≠C->s'.heap.get? b=some o->h'.get? b=some o):Inv X pins σ2 H' { s' with heap:=h' }:=by
 refine J.turned (t':=s'.toks) k hn (Nat.ne_of_gt (Nat.lt_of_lt_of_le I.lt hC)) (.inr (Nat.le_trans I.sz hC)) (λx c e z=>?_) (λp hp z=>?_)
 ·obtain ⟨v,o,ho,_⟩:=I.cell x c e
  exact absurd (az ho) (Nat.not_lt.mpr (z ▸ hC))
 ·exact absurd (az (I.pin p hp).1) (Nat.not_lt.mpr (z ▸ hC))
noncomputable def PIf (X:Cx) (ifs:List Expr) (t:TT):Prop :=
 ∀ (pins:List (Addr × Obj)) (s:Shared) (σ:St) (H:Hp) (Q:Bool->Hp->Prop),Inv X pins σ H s->t σ H Q ->
  wpAny (model X.prog X.w) X.A (forIn ifs true λc r=>if r=true then do let ok <- isTrue c X.env (eval c X.env);pure (ForInStep.yield ok) else pure (ForInStep.yield r)) (TP X pins σ Q) X.xe s
noncomputable def tYes:TT:=λ_ H Q=>Q true H
theorem jD:PIf X [] tYes:=λpins s σ H Q I h=>wpAny_tests_nil ⟨H,I,h⟩
theorem jE (h:PT X c tc):PIf X [c] tc:=λpins s σ H Q I q=>wpAny_tests_one (h pins s σ H Q I q)
end
section
theorem yY (I:Nat->Shared->Prop)
  (turn:∀ n s,I n s->wpAny (model prog w) A (pyNext it) (λr s₁=>match r with
   | none=>R (.ok .next) s₁
   | some v=>wpAny (model prog w) A (letOwnedTupleGo target it v) (λ_ s₁=>wpAny (model prog w) A (assign target env v) (λ_ s₂ =>
     wpAny (model prog w) A (forIn ifs true λc r=>if r=true then do let ok <- isTrue c env (eval c env);pure (ForInStep.yield ok) else pure (ForInStep.yield r)) (λok s₃ =>
      if ok=true then wpAny (model prog w) A (eval elt env) (λx s₄ =>
       wpAny (model prog w) A (call (.builtin "list.append") [acc,x]) (λ_ s₅=>∃ m,m < n/\I m s₅) (λ_ _=>False) s₄) (λ_ _=>False) s₃
      else ∃ m,m < n/\I m s₃) (λ_ _=>False) s₂) (λ_ _=>False) s₁) (λ_ _=>False) s₁) (λ_ _=>False) s)
  (n:Nat) (h:I n s) :
  codeAny (model prog w) A (.compLoop (.ListComp elt [⟨target,iter,ifs,0⟩] scope pos) 0 it acc env) R s:=by
 refine codeAny_loop rfl I (λn s hI=>?_) n h
 show wpAny _ A ((compTurn (.ListComp elt [⟨target,iter,ifs,0⟩] scope pos) 0 it acc env).onRaise (λx=>do noteFrame x env;theTreesLotGoes x)) _ _ s
 refine wpAny_noted ?_
 rw [compTurn_list]
 refine ak (wpAny_standAt (ak (wpAny_mono (turn n s hI) (λr s₁ h₁=>?_) λ_ _ h'=>h'.elim)))
 cases r with
 | none=>exact ao h₁
 | some v =>
  refine ak (wpAny_mono h₁ (λ_ s₁ h₁=>?_) λ_ _ h'=>h'.elim)
  refine ak (wpAny_mono h₁ (λ_ s₂ h₂=>ak (wpAny_mono h₂ (λok s₃ h₃=>?_) λ_ _ h'=>h'.elim)) λ_ _ h'=>h'.elim)
  cases ok with
  | false=>exact ao ⟨rfl,h₃⟩
  | true =>
   exact ak (ak (wpAny_mono h₃ (λx s₄ h₄=>ak (wpAny_mono h₄ (λ_ s₅ h₅=>ao (ao ⟨rfl,h₅⟩)) λ_ _ h'=>h'.elim)) λ_ _ h'=>h'.elim))
end
section
noncomputable def Bn (J:It) (g:TG) (tf:TT) (te:TE) (D:Addr) (σ:St) (H:Hp) (Q:Hp->Prop):Prop :=
 ∃ W:Nat->Nat->St->Hp->Prop,(∃ m,W 0 m σ H)/\∀ i m σ H,W i m σ H ->
  (J.stop i H/\Q H)\/(J.go i H/\∃ N:St->Hp->Prop,(∀ σ' H',N σ' H'->∃ m',m' < m/\W (i + 1) m' σ' H')/\∀ x H',J.yld i H x H'->g x σ H' λσ2 H2=>tf σ2 H2 λb H3 =>
   if b=true then te σ2 H3 λy H4=>∃ ys,H4 D=some (.lst ys)/\ys.length < aA/\N σ2 (upd H4 D (.lst (ys++[y]))) else N σ2 H3)
noncomputable def uT (n:Nat) (fr:List Nat) (wi:TI) (g:TG) (tf:TT) (te:TE):TE:=λσ H Q=>wi σ H λJ H1=>∀ D,H1 D=none->Bn J g tf te D (pre n fr σ) (upd H1 D (.lst [])) λH2=>Q (.ref D) H2
theorem yZ 
  (hg:PG (ZE X own N z) tg g) (hf:PIf (ZE X own N z) ifs tf) (he:PE (ZE X own N z) elt te) (hc:X.calm=true) (T:Turn X.prog X.w X.K tg J z.fp it tn) (fo:∀ H':Hp,(∀ b∈z.fp,H' b=none)->∀ b∈z.fp,MN (ZE X own N z) [] H' b)
  (I:Inv (ZE X own N z) [] σ H s) (st:tn 0 s.heap) (fr:∀ b∈z.fp,H b=none) (h:Bn J g tf te D σ H Q) (hR:∀ σ' H' s',Inv (ZE X own N z) [] σ' H' s'->Q H'->R (.ok .next) s') :
  codeAny (model X.prog X.w) X.A (.compLoop (.ListComp elt [⟨tg,iter,ifs,0⟩] sc pos) 0 (.ref it) (.ref D) (compEnvC own z.cl z.C X.env)) R s:=by
 obtain ⟨W,⟨m0,w0⟩,turn⟩:=h
 refine yY (λn s'=>∃ i σ' H',Inv (ZE X own N z) [] σ' H' s'/\tn i s'.heap/\(∀ b∈z.fp,H' b=none)/\W i n σ' H') ?_ m0 ⟨0,σ,H,I,st,fr,w0⟩
 rintro n s3 ⟨i,σ3,H3,I3,st3,fr3,w3⟩
 rcases turn i n σ3 H3 w3 with ⟨stop,qn⟩ | ⟨go,Nx,hN,step⟩
 ·refine thn (T.done (ZE X own N z) rfl rfl rfl hc i [] s3 σ3 H3 _ I3 (fo H3 fr3) st3 stop) λr s4 zq=>?_
  obtain ⟨hr,I4⟩:=zq
  subst hr
  exact hR σ3 H3 s4 I4 qn
 ·refine thn (T.item (ZE X own N z) rfl rfl rfl hc i [] s3 σ3 H3 _ I3 (fo H3 fr3) st3 go) λr s4 zq=>?_
  obtain ⟨u,hr,h4⟩:=zq
  subst hr
  refine thn h4 λ_ s5 zq=>?_
  obtain ⟨x,H5,I5,r5,y5,st5,fr5⟩:=zq
  have I5':=I5.pinned (fo H5 fr5) (T.obj _ _ st5)
  refine thn (hg _ s5 σ3 H5 x u _ I5' r5 (step x H5 y5)) λ_ s6 zq=>?_
  obtain ⟨σ6,H6,I6,q6⟩:=zq
  have again:∀ {σ7:St}{H7:Hp}{s7:Shared},Inv (ZE X own N z) ([]++JL z.fp s5.heap) σ7 H7 s7->Nx σ7 H7->∃ m,m < n/\∃ i σ' H',Inv (ZE X own N z) [] σ' H' s7/\tn i s7.heap/\(∀ b∈z.fp,H' b=none)/\W i m σ' H':=λ{σ7 H7 s7} I7 n7=>by
   obtain ⟨m',hm,w7⟩:=hN σ7 H7 n7
   refine ⟨m',hm,i + 1,σ7,H7,I7.Nw,T.keep _ _ _ st5 λb hb o e=>(I7.pin (b,o) (mem_append_right _ (mem_append_right _ (Sq hb e)))).1,λb hb=>?_,w7⟩
   obtain ⟨o,e,d⟩:=T.obj _ _ st5 b hb
   exact (I7.pin (b,o) (mem_append_right _ (mem_append_right _ (Sq hb e)))).2.1
  refine thn (hf _ s6 σ6 H6 _ I6 q6) λb s7 zq=>?_
  obtain ⟨H7,I7,q7⟩:=zq
  cases b with
  | false=>exact again I7 q7
  | true =>
   refine thn (he _ s7 σ6 H7 _ I7 q7) λy s8 zq=>?_
   obtain ⟨yv,H8,I8,r8,ys,e8,z8,n8⟩:=zq
   exact thn (HU _ s8 σ6 H8 (.ref D) [yv] (.ref D) [y] (λ_ H'=>Nx σ6 H') I8 rfl (.cons r8 .nil) ⟨D,ys,yv,rfl,rfl,e8,z8,n8⟩) λ_ s9 ⟨_,H9,I9,_,q9⟩=>again I9 q9
theorem HY {fr:List Nat}{g:TG}{tf:TT}{te:TE}{J:It}{it:Addr}{fp:List Addr}{tn:Nat->Heap->Prop}{cl:List (Str × Addr)}
  {pins:List (Addr × Obj)}{σ:St}{H:Hp}{s:Shared}{Q:Addr->Hp->Prop}{RR:Value->Addr->Result->Shared->Prop}{E:Value->Shared->Prop}
  (hg:∀ z,PG (ZE X own (ts++Nc) z) tg g) (hf:∀ z,PIf (ZE X own (ts++Nc) z) ifs tf) (he:∀ z,PE (ZE X own (ts++Nc) z) elt te) (hc:X.calm=true) (c:Bl own X.env.scope Nc) (hN:fr.map (X.N[·]?)=Nc.map some)
  (hc1:∀ y∈own.names,y.2 = .free->∃ c,cl.lookup y.1=some c) (hc2:∀ x c,cl.lookup x=some c->X.env.cells.lookup x=some c)
  (I:Inv X pins σ H s) (T:Turn X.prog X.w X.K tg J fp it tn) (st:tn 0 s.heap) (fo:∀ b∈fp,MN X pins H b)
  (h:∀ D,H D=none->Bn J g tf te D (pre ts.length fr σ) (upd H D (.lst [])) (Q D))
  (hR:∀ D C σ' H' s',s.heap.objs.size<=C->Inv (ZE X own (ts++Nc) ⟨cl,C,s,H,fp⟩) [] σ' H' s'->Q D H'->RR (.ref D) C (.ok .next) s') :
  wpAny (model X.prog X.w) X.A (newList []) (λacc s₃=>wpAny (model X.prog X.w) X.A (newFunctionEnv own X.env.globals cl [] X.env.qual none .none (some X.env)) (λcenv s₄ =>
   codeAny (model X.prog X.w) X.A (.compStart (.ListComp elt [⟨tg,iter,ifs,0⟩] sc pos) 0 (.ref it) acc { cenv with scope:=relabel own X.env }) (RR acc cenv.locals) s₄) E s₃) E s:=by
 refine wpAny_newObj_type (wpAny_newFunctionEnv c.nocell (by intro y hy;simp at hy) (λh₁ hns₁ hsb₁=>?_) c.kind)
 dsimp only at hns₁ hsb₁ ⊢
 have hlt:∀ b∈fp,b < s.heap.objs.size:=λb hb=>let ⟨o,e,_⟩:=T.obj 0 _ st b hb;az e
 generalize hH2:s.heap.push { cls := .type "list",dict:=none,data := .seq ([]:List Value).toArray }=H2 at hns₁ hsb₁ ⊢
 have hC:H2.objs.size=s.heap.objs.size + 1:=by rw [<-hH2,Heap.size_push]
 have hDC:s.heap.objs.size≠H2.objs.size:=by rw [hC];exact Nat.ne_of_lt (Nat.lt_succ_self _)
 have hCle:s.heap.objs.size<=H2.objs.size:=by rw [hC];exact Nat.le_succ _
 have below:∀ b,b < s.heap.objs.size->b≠H2.objs.size:=λb hb=>by rw [hC];exact Nat.ne_of_lt (Nat.lt_succ_of_lt hb)
 have old:∀ b o,s.heap.get? b=some o->h₁.get? b=some o:=λb o e=>hsb₁.extBut b o (below b (az e)) (aq _ (hH2 ▸ aq _ e))
 have hacc:h₁.get? s.heap.objs.size=some { cls := .type "list",data := .seq #[] }:=hsb₁.extBut _ _ hDC (aq _ (hH2 ▸ au _ rfl))
 have st1:tn 0 h₁:=T.keep _ _ _ st λb _ o e=>old b o e
 have hD0:H s.heap.objs.size=none:=I.fresh
 have I1:Inv (ZE X own (ts++Nc) ⟨cl,H2.objs.size,s,H,fp⟩) [] (pre ts.length fr σ) (upd H s.heap.objs.size (.lst [])) { s with heap:=h₁,toks:=s.toks + ([]:List (Str × Value)).length } :=
  Bm I fo hlt c hc1 hc2 hN (Nat.le_refl _) hCle hDC old hns₁ hacc rfl rfl
 have fo':∀ H':Hp,(∀ b∈fp,H' b=none)->∀ b∈fp,MN (ZE X own (ts++Nc) ⟨cl,H2.objs.size,s,H,fp⟩) [] H' b:=λH' hn b hb=>by
  obtain ⟨_,f1,f2,f3,f4,f5⟩:=fo b hb
  refine ⟨hn b hb,below b (hlt b hb),λz=>?_,.inl hb,λx a e=>f4 x a (hc2 x a e),λp hp=>absurd hp (by simp)⟩
  rcases mem_cons.mp (I.MK b z) with z | z
  ·exact f1 z
  ·exact f2 z
 have fr1:∀ b∈fp,upd H s.heap.objs.size (.lst []) b=none:=λb hb=>by
  rw [Zj (Nat.ne_of_lt (hlt b hb))]
  exact (fo b hb).1
 have loop:=yZ (z:=⟨cl,H2.objs.size,s,H,fp⟩) (pos:=pos) (sc:=sc) (iter:=iter) (R:=RR (.ref s.heap.objs.size) H2.objs.size) (hg _) (hf _) (he _) hc T fo' I1 st1 fr1 (h _ hD0) λσ' H' s' J' q=>hR _ _ σ' H' s' hCle J' q
 exact codeAny_compStart_list loop (T.self _ 0 _ _ _ st1 loop)
theorem pS (ts Nc:List Str) (fr:List Nat) {g:TG}{tf:TT}{te:TE}(hi:PI X tg iter wi)
  (hg:∀ z,PG (ZE X own (ts++Nc) z) tg g) (hf:∀ z,PIf (ZE X own (ts++Nc) z) ifs tf) (he:∀ z,PE (ZE X own (ts++Nc) z) elt te) (hc:autoParam (X.calm=true) auR) (c:autoParam (Ss own X.env.scope Nc=true) auR) (hN:autoParam (fr.map (X.N[·]?)=Nc.map some) auR)
  (hs:∀ x,foldedSetIterable iter X.env x=pure x:=by intro _;rfl):PE X (.ListComp elt [⟨tg,iter,ifs,0⟩] own pos) (uT ts.length fr wi g tf te):=by
 have c:=HX c
 intro pins s σ H Q I h
 obtain ⟨cl,e0,hc1,hc2⟩:=Ia (scope:=own) (env:=X.env) λy hy e=>I.ok.has y.1 (c.free y hy e)
 rw [eval_ListComp]
 refine wpAny_comprehension_free (use:=none) rfl hs e0 c.kind c.loc (thn (hi pins s σ H _ I h) λxv s₁ h₁=>thn h₁ λitv s₂ h₂=>?_)
 obtain ⟨it,fp,tn,J,H2,e,I2,T,st2,f2,q⟩:=h₂
 subst e
 refine HY (RR:=λacc C=>compPost (model X.prog X.w) X.A X.xe none (EP X pins σ Q) acc C) (Q:=λD H'=>Q (.ref D) H') hg hf he hc c hN hc1 hc2 I2 T st2 f2 q ?_
 intro D C σ' H' s' hC J' q'
 obtain ⟨m,hns,_⟩:=J'.loc
 refine ⟨m,hns,λh' sb=>⟨.ref D,H',Ib I2 hC (comp_back I2 f2 J') J'.free λb o hb e=>sb.extBut b o hb e,rfl,q'⟩⟩
theorem pT {own:Scope}{pos:Pos}(ts Nc:List Str) (fr:List Nat) {wi:TI}{g:TG}{tf:TT}{te:TE}(hnd:X.N.Nodup) (hi:X.N[i]?=some x) (hx:Loc X.env.scope x)
  (hit:PI X tg iter wi) (hg:∀ z,PG (ZE X own (ts++Nc) z) tg g) (hf:∀ z,PIf (ZE X own (ts++Nc) z) ifs tf) (he:∀ z,PE (ZE X own (ts++Nc) z) elt te) (hsw:autoParam (swapsWith (.ListComp elt [⟨tg,iter,ifs,0⟩] own pos) (some (.Name x px)) spos.line X.env=pure true) auR)
  (hc:autoParam (X.calm=true) auR) (c:autoParam (Ss own X.env.scope Nc=true) auR) (hN:autoParam (fr.map (X.N[·]?)=Nc.map some) auR)
  (hs:∀ x,foldedSetIterable iter X.env x=pure x:=by intro _;rfl) (hfn:X.fn x=true\/X.env.scope.names.lookup x=some .local:=by first | exact .inl rfl | exact .inr rfl | assumption) :
  PS X (.Assign [.Name x px] (.ListComp elt [⟨tg,iter,ifs,0⟩] own pos) spos) (GB (uT ts.length fr wi g tf te) (JK i)):=by
 have c:=HX c
 intro pins s σ H D0 I h
 obtain ⟨cl,e0,hc1,hc2⟩:=Ia (scope:=own) (env:=X.env) λy hy e=>I.ok.has y.1 (c.free y hy e)
 rw [exec_Assign_Name_used _ _ _ _ hsw]
 refine ak (wpAny_standAt (ak ?_))
 show wpAny _ _ (do let _ <- comprehension (.ListComp elt [⟨tg,iter,ifs,0⟩] own pos) own X.env _ (newList []) false (eval iter X.env) (some (assign (.Name x px) X.env))) _ _ s
 refine ak (wpAny_mono (wpAny_comprehension_free (use:=some (assign (.Name x px) X.env)) (Q:=λ_ s'=>SP X pins D0 .next s') rfl hs e0 c.kind c.loc
  (thn (hit pins s σ H _ I h) λxv s₁ h₁=>thn h₁ λitv s₂ h₂=>?_)) (λ_ s' hq=>ao (ao hq)) λ_ _ e=>e)
 obtain ⟨it,fp,tn,J,H2,e,I2,T,st2,f2,q⟩:=h₂
 subst e
 refine HY (RR:=λacc C=>compPost (model X.prog X.w) X.A X.xe (some (assign (.Name x px) X.env)) (λ_ s'=>SP X pins D0 .next s') acc C) (Q:=λD H'=>D0.nx (σ.set i (some (.ref D))) H') hg hf he hc c hN hc1 hc2 I2 T st2 f2 q ?_
 intro D C σ' H' s' hC J' q'
 show wpAny _ _ (assign (.Name x px) X.env (.ref D)) _ _ _
 have I3:=comp_back I2 f2 J'
 refine wpAny_assign_Name (HN I3 hnd hi hx (v := .ref D) rfl (λs4 I4 zq=>?_) hfn)
 obtain ⟨a,sb4,ha⟩:=zq
 obtain ⟨m,hns,_⟩:=J'.loc
 have hCa:C≠a:=by
  rcases ha with rfl | ha
  ·exact Nat.ne_of_gt (Nat.lt_of_lt_of_le I2.lt hC)
  ·obtain ⟨v,o,ho,_⟩:=I2.cell x a ha
   exact Nat.ne_of_gt (Nat.lt_of_lt_of_le (az ho) hC)
 refine ⟨m,hns.sameBut sb4 hCa,λh' sb=>⟨_,H',Ib I2 hC I4 J'.free λb o hb e=>sb.extBut b o hb e,q'⟩⟩
end
noncomputable def Its (x:Str):It:=⟨λi _=>i < x.cps.size,λi H v H'=>H'=H/\∃ c,x.cps[i]?=some c/\v = .str ⟨#[c]⟩,λi _=>x.cps.size<=i⟩
theorem uU {K:aj}(x:Str) (t:Tok) (it:Addr) (n:String) (hn:n = "str_ascii_iterator" \/ n = "str_iterator"):Turn P w K tg (Its x) [it] it (λi h=>h.IsStrIter it n x t i) where
 mem:=by simp
 obj:=λi h st b hb=>by
  have e:b=it:=by simpa using hb
  subst e
  obtain ⟨o,e,c,d⟩:=st
  exact ⟨o,e,λv z=>by rw [d] at z;cases z⟩
 keep:=λi h h' st k=>let ⟨o,ho,r⟩:=st;⟨o,k it (by simp) o ho,r⟩
 item:=by
  intro X hP hw hK hc i pins s σ H E I hf st hg
  subst hP hw hK
  obtain ⟨f0,f1,f2,f3,f4,f5⟩:=hf it (by simp)
  have hi:i < x.cps.size:=hg
  have hx:x.cps[i]?=some x.cps[i]:=Array.getElem?_eq_getElem hi
  have fin:∀ h',h'.IsStrIter it n x t (i + 1)->aG it s.heap h'->∃ u,some (Value.str ⟨#[x.cps[i]]⟩ s.toks)=some u/\wpAny (model X.prog X.w) X.A (letOwnedTupleGo tg (.ref it) u)
    (λ_ s2=>∃ y H',Inv X pins σ H' s2/\RelV y u/\(Its x).yld i H y H'/\s2.heap.IsStrIter it n x t (i + 1)/\∀ b∈[it],H' b=none) E { s with heap:=h',toks:=s.toks + 1 }:=λh' st' sb=>by
   have I1:Inv X pins σ H { s with heap:=h',toks:=s.toks + 1 }:=I.turned (λb o hb e=>(sb.2 b hb).trans e) f0 f1 f3 f4 f5
   obtain ⟨o,e,c,d⟩:=id st'
   exact ⟨_,rfl,zu (s:={ s with heap:=h',toks:=s.toks + 1 }) e c d (by rcases hn with rfl | rfl <;> decide) ⟨.str ⟨#[x.cps[i]]⟩,H,I1,⟨_,rfl⟩,⟨rfl,_,hx,rfl⟩,st',λb hb=>(hf b hb).1⟩⟩
  rcases hn with rfl | rfl
  ·exact wpAny_pyNext_ascii_item st hx λh' st' sb=>fin h' st' sb
  ·exact wpAny_pyNext_wide_item st hx λh' st' sb=>fin h' st' sb
 done:=by
  intro X hP hw hK hc i pins s σ H E I hf st hg
  subst hP hw hK
  obtain ⟨f0,f1,f2,f3,f4,f5⟩:=hf it (by simp)
  have hx:x.cps[i]?=none:=by simpa using show x.cps.size<=i from hg
  rcases hn with rfl | rfl
  ·exact wpAny_pyNext_ascii_end (I.ok.hd hc) st hx λh' eb=>⟨rfl,I.turned (t':=s.toks) (λb o hb e=>eb b o hb e) f0 f1 f3 f4 f5⟩
  ·exact wpAny_pyNext_wide_end (I.ok.hd hc) st hx λh' eb=>⟨rfl,I.turned (t':=s.toks) (λb o hb e=>eb b o hb e) f0 f1 f3 f4 f5⟩
 self:=λ_ _ _ _ _ st h=>by
  rcases hn with rfl | rfl
  ·exact wpAny_pyIter_striter_ascii st h
  ·exact wpAny_pyIter_striter_wide st h
section
noncomputable def iStr (tl:TE):TI:=λσ H R=>tl σ H λx H1=>∃ y,x = .str y/\R (Its y) H1
theorem jF {l:Expr}(hl:PE X l tl):PI X tg l (iStr tl):=by
 intro pins s σ H R I h
 refine thn (hl pins s σ H _ I h) λv s1 zq=>?_
 obtain ⟨x,H1,I1,r1,y,e,q⟩:=zq
 subst e
 obtain ⟨t,rfl⟩:=r1
 have fin:∀ n:String,(n = "str_ascii_iterator" \/ n = "str_iterator")->PIE X pins σ tg R (.ref s1.heap.objs.size) { s1 with heap:=s1.heap.push { cls := .type n,data := .fields #[.str y t,.int 0 0] } }:=λn hn=>by
  refine ⟨_,[s1.heap.objs.size],_,_,H1,rfl,I1.kept (t':=s1.toks) λb o e=>aq _ e,uU y t _ n hn,⟨_,au _ rfl,rfl,rfl⟩,λb hb=>?_,q⟩
  have z:b=s1.heap.objs.size:=by simpa using hb
  subst z
  exact I1.CM (Nat.le_refl _) (I1.hok.fresh (Nat.le_refl _))
 cases ha:y.cps.all (· < 128)
 ·exact wpAny_pyIter_wide ha (fin _ (.inr rfl))
 ·exact wpAny_pyIter_ascii ha (fin _ (.inl rfl))
end
noncomputable def SameB (H H':Hp):Prop:=∀ b o,H b=some o->(∀ zs,o ≠ .lst zs)->H' b=some o
theorem Zz.b (e:Zz H H'):SameB H H':=λb o q _=>e b o q
section
theorem jG {bs:List Bool}:∀ {us:List Value},Vals (bs.map V.bl) us->∀ i,i < bs.length->us[i]?=some (.bool (bs.getD i false)):=by
 induction bs with
 | nil=>intro us _ i hi;simp at hi
 | cons b r ih =>
  intro us h i hi
  cases h with
  | cons h1 h2 =>
   cases h1
   cases i with
   | zero=>rfl
   | succ j=>simpa using ih h2 j (by simpa using hi)
theorem all_range (bs:List Bool):(List.range bs.length).all (λi=>bs.getD i false)=bs.all id:=by
 induction bs with
 | nil=>rfl
 | cons b r ih =>
  rw [length_cons,List.range_succ_eq_map,all_cons,all_map,all_cons,<-ih]
  rfl
theorem uV {X:Cx}(hc:X.calm=true):Xs X (.builtin "all") (λxs H Q=>∃ p,∃ bs:List Bool,xs=[.ref p]/\SqL X.K H p (bs.map V.bl)/\Q (.bl (bs.all id)) H):=by
 intro pins s σ H xs us Q I r h
 obtain ⟨p,bs,rfl,hq,q⟩:=h
 obtain ⟨u,rfl,ru⟩:=vals1 r
 cases ru
 obtain ⟨its,rv,pl,hz⟩:=I.list hq
 have hlen:=rv.length
 rw [length_map] at hlen
 refine call_all_walk (wpAny_pyIter_list pl.isList ?_)
 have hne:p≠s.heap.objs.size:=by
  obtain ⟨o,_,e,_⟩:=pl
  exact Nat.ne_of_lt (az e)
 have hl2:(s.heap.push { cls := .type "list_iterator",data := .fields #[.ref p,.int 0 0] }).IsList p its.toArray:=pl.isList.at λo e=>aq _ e
 refine ⟨_,_,_,_,_,_,λi=>bs.getD i false,rfl,Walks.list (A:=X.A.in1) (show X.A.in1.handled=none from I.ok.hd hc) s.heap.objs.size p hne its.toArray,⟨⟨_,au _ rfl,rfl,rfl⟩,hl2⟩,?_,?_⟩
 ·intro i v s' Q' E' hv hQ
  have hi:i < bs.length:=by
   have:=(Array.getElem?_eq_some_iff.mp hv).1
   simp only [size_toArray] at this
   omega
  have e:=jG rv i hi
  rw [show its.toArray[i]?=its[i]? by simp,e] at hv
  cases hv
  exact wpAny_truthy_bool hQ
 ·intro h' tk k
  have I':Inv X pins σ H { s with heap:=h',toks:=tk }:=I.kept λb o e=>k b o (by simpa using Nat.ne_of_lt (az e)) (aq _ e)
  refine ⟨.bl _,H,I',rfl,?_⟩
  rw [size_toArray,<-hlen,all_range]
  exact q
theorem Bo:∀ {us:List Value},Vals (ys.map V.str) us->StrsAre us ys:=by
 induction ys with
 | nil=>intro us h;cases h;exact .nil
 | cons y r ih =>
  intro us h
  cases h with
  | cons h1 h2 =>
   obtain ⟨t,rfl⟩:=h1
   exact .cons _ _ (ih h2)
theorem pU:MtR X "str.join" (λx xs H Q=>∃ sep p,∃ ys:List Str,x = .str sep/\xs=[.ref p]/\SqL X.K H p (ys.map V.str)/\(ys.map (·.length)).sum + ys.length * sep.length<=16777216/\Q (.str (Txt.join sep ys)) H):=by
 intro pins s σ H x xs v us Q I rx r h
 obtain ⟨sep,p,ys,rfl,rfl,hq,hok,q⟩:=h
 obtain ⟨t,rfl⟩:=rx
 obtain ⟨u,rfl,ru⟩:=vals1 r
 cases ru
 obtain ⟨its,rv,pl,hz⟩:=I.list hq
 exact join_list pl.isList (by simpa using Bo rv) hok λt' k=>⟨.str _,H,I.tok k,⟨t',rfl⟩,q⟩
theorem jH:SlR X (λx lo hi H Q=>∃ y,x = .str y/\y.length<=aA/\Q (.str (Txt.slice y lo hi)) H):=by
 intro pins s σ H x v vl vu lo hi sl Q I rx hs pl pu h
 obtain ⟨y,rfl,hz,q⟩:=h
 obtain ⟨t,rfl⟩:=rx
 refine ⟨"str",_,F.slot_str_getitem.lookup,typeIs_str _ _ _,?_⟩
 have fin:∀ t' k,EP X pins σ Q (.str (Txt.slice y lo hi) t') { s with toks:=k }:=λt' k=>⟨.str _,H,I.tok k,⟨t',rfl⟩,q⟩
 cases pl with
 | none =>
  cases pu with
  | none=>exact wpAny_getItem_str_slice (l:=none) (u:=none) (st:=none) hs rfl (post_val_or_str ⟨Nat.le_trans (Txt.slice_le y _ _) hz,fin⟩)
  | int j uj=>exact wpAny_getItem_str_slice (l:=none) (u:=some (j,uj)) (st:=none) hs rfl (post_val_or_str ⟨Nat.le_trans (Txt.slice_le y _ _) hz,fin⟩)
 | int i ui =>
  cases pu with
  | none=>exact wpAny_getItem_str_slice (l:=some (i,ui)) (u:=none) (st:=none) hs rfl (post_val_or_str ⟨Nat.le_trans (Txt.slice_le y _ _) hz,fin⟩)
  | int j uj=>exact wpAny_getItem_str_slice (l:=some (i,ui)) (u:=some (j,uj)) (st:=none) hs rfl (post_val_or_str ⟨Nat.le_trans (Txt.slice_le y _ _) hz,fin⟩)
end
noncomputable def noStar:Expr->Bool
 | .Starred ..=>false
 | _=>true
noncomputable def ZZ:List Expr->Bool
 | []=>true
 | e::es=>noStar e && ZZ es
theorem Su (h:noStar e=true):starEach (e::es) env=(false,eval e env)::starEach es env:=by
 cases e <;> first | rfl | cases h
theorem TY:∀ {es:List Expr},ZZ es=true->∀ pos,(backTo pos (starEach es env)).any (·.1)=false
 | [],_,_=>rfl
 | e::es,h,pos=>by
  unfold ZZ at h
  rw [aF] at h
  rw [Su h.1]
  show (false || (backTo pos (starEach es env)).any (·.1))=false
  rw [TY h.2 pos]
  rfl
section
theorem ED (ha:PE X e te) (hr:PA X es t) (h:autoParam (noStar e=true) auR):PA X (e::es) (mK te t):=pG ha hr (Su h)
theorem pe_b {t:TA}{id:String}{r:List V->Hp->VK->Prop}(hc:Xs X (.builtin id) r) (hg:Gl X x) (hm:X.mg x=none) (hv:bootBuiltins x=some (.builtin id)) (ha:PA X (e::es) t) (hst:autoParam (ZZ (e::es)=true) auR) (hn:autoParam (x ≠ "__name__" ) auD) (hdb:autoParam ((x == ("__debug__" : Str))=false) auD) :
  PE X (.Call (.Name x p) (e::es) [] pos) (tCB r t):=by
 have h:=hst
 unfold ZZ at h
 rw [aF] at h
 exact ur hc hg hm hv ha hn hdb (Su h.1) (TY h.2 pos)
theorem mQ (hc:Xs X (.type T) r) (hg:Gl X x) (hm:X.mg x=none) (hv:bootBuiltins x=some (.type T)) (ha:PA X (e::es) t) (hst:autoParam (ZZ (e::es)=true) auR) (hn:autoParam (x ≠ "__name__" ) auD) (hdb:autoParam ((x == ("__debug__" : Str))=false) auD) :
  PE X (.Call (.Name x p) (e::es) [] pos) (tCB r t):=by
 have h:=hst
 unfold ZZ at h
 rw [aF] at h
 exact yN hc hg hm hv ha hn hdb (Su h.1) (TY h.2 pos)
end
structure QE (X:Cx) (e:Expr) (t:TE):Prop where
 get:PE X e t
structure QA (X:Cx) (es:List Expr) (t:TA):Prop where
 get:PA X es t
structure QS (X:Cx) (st:Stmt) (t:TS):Prop where
 get:PS X st t
structure QSs (X:Cx) (st:List Stmt) (t:TS):Prop where
 get:PSs X st t
section
theorem Fun.okX {K:aj}{st:Stmt}{f:Addr}{fd:FuncData}{N ps:List Str}{k:Nat}{sp:Sp}(F:Fun K x qual st f fd) (S:Zh N ps (Zf st)) (len:∀ vs H Q E,sp vs H Q E->vs.length=ps.length)
  (hbody:∀ (cdv:Value) (A:Around) (outer:List Env) (s:Shared) (H:Hp) (vs:List V) (Q:VK) (E:XK),YZ k (A.deeper (envOfC qual (Zf st) s.heap.objs.size f cdv))->sp vs H Q E ->
   ∃ t,QSs (XG (CXE P w) P w K mg base N qual (Zf st) f cdv A outer s H E) (Yc st) t/\t { nx:=λ_ H'=>Q .non H',rt:=Q } (start N vs) H):Zx P w K mg base (CXE P w) (k + 1) f fd ps sp:=by
 obtain ⟨oc,od,kV,doc,pm,an,cdv,ct,osl,rfl,lk,hcd⟩:=F.ex
 refine uq lk hcd S len λA outer s H vs Q E hr hsp=>?_
 obtain ⟨t,h,q⟩:=hbody cdv A outer s H vs Q E hr hsp
 exact ⟨t,h.get,q⟩
end
section
end
theorem uW {zs:List Str}(h:∀ z∈zs,z.length<=m):(zs.map (·.length)).sum<=zs.length * m:=by
 induction zs with
 | nil=>simp
 | cons z r ih =>
  have h1:=h z mem_cons_self
  have h2:=ih λz' hz=>h z' (mem_cons_of_mem _ hz)
  simp only [map_cons,sum_cons,length_cons,Nat.add_mul,Nat.one_mul]
  omega
theorem uX:Yy X (λ_ _ _ _=>False):=λ_ _ _ _ _ _ _ h=>by
 obtain ⟨_,_,_,_,_,_,_,_,_,_,_,_,_,_,z⟩:=h
 exact z.elim
section
theorem NI (F:Zx X.prog X.w X.K X.mg X.base (CXE X.prog X.w) k f fd ps sp) (hr:YZ k X.A) (hg:Gl X x) (hm:X.mg x=some (.ref f)) (hk:keepIn X.K (.ref f)=true) (hb:Binds X.K fd ps []) (hx:Yy X XE)
  (ha:QA X (e::es) t) (hst:autoParam (ZZ (e::es)=true) auR) (hdb:autoParam ((x == ("__debug__" : Str))=false) auD):QE X (.Call (.Name x p) (e::es) [] pos) (Bi sp XE t):=by
 have h:=hst
 unfold ZZ at h
 rw [aF] at h
 exact ⟨uM F hr hg hm hk hb hx ha.get hdb (Su h.1) (TY h.2 pos)⟩
end
section
variable {P:Program}{w:World}{K:aj}{mg:Str->Option Value}{base:Heap}{N:List Str}{qual:Str}{scope:Scope}{f C:Addr}{cdv:Value}{A:Around}{outer:List Env}{s:Shared}{H:Hp}{E:XK}
 {x:Str}{np cpos pos:Pos}{e₀:Expr}{rest:List Expr}{t:TA}
theorem uY (c:Bj K C) (hm:mg x=some (.ref C)) (ha:QA (XG (CXE P w) P w K mg base N qual scope f cdv A outer s H E) (e₀::rest) t)
  (hg:autoParam (Gl (XG (CXE P w) P w K mg base N qual scope f cdv A outer s H E) x) auR) (hst:autoParam (ZZ (e₀::rest)=true) auR) (hdb:autoParam ((x == ("__debug__" : Str))=false) auD) :
  QS (XG (CXE P w) P w K mg base N qual scope f cdv A outer s H E) (.Raise (some (.Call (.Name x np) (e₀::rest) [] cpos)) none pos) (uN C E t):=by
 have h:=hst
 unfold ZZ at h
 rw [aF] at h
 exact ⟨uO c hm ha.get hg hdb (Su h.1) (TY h.2 cpos)⟩
end
section
end
inductive EqL (R:V->V->Bool->Prop):List V->List V->Bool->Prop
 | nil:EqL R [] [] true
 | left (y:V) (ys:List V):EqL R [] (y::ys) false
 | right (x:V) (xs:List V):EqL R (x::xs) [] false
 | cons {x y:V}{xs ys:List V}{b c:Bool}:R x y b->EqL R xs ys c->EqL R (x::xs) (y::ys) (b && c)
noncomputable def EqN (K:aj) (H:Hp):Nat->V->V->Bool->Prop
 | 0,x,y,b=>(UI x=true/\UI y=true/\b=eqV x y)\/∃ a,x = .ref a/\y = .ref a/\b=true
 | n + 1,x,y,b=>EqN K H n x y b\/∃ a c xs ys,x = .ref a/\y = .ref c/\((SqT K H a xs/\SqT K H c ys)\/(SqL K H a xs/\SqL K H c ys))/\EqL (EqN K H n) xs ys b
theorem EqL.ans (h:EqL R xs ys b) :
  ∃ e:Nat->Bool,(∀ (j:Nat) x y,xs[j]?=some x->ys[j]?=some y->R x y (e j))/\b=((List.range (min xs.length ys.length)).all e && xs.length == ys.length):=by
 induction h with
 | nil=>exact ⟨λ_=>true,λj x y e=>by simp at e,rfl⟩
 | left y ys=>exact ⟨λ_=>true,λj x y e=>by simp at e,by simp⟩
 | right x xs=>exact ⟨λ_=>true,λj x y _ e=>by simp at e,by simp⟩
 | @cons x y xs ys b c hr _ ih =>
  obtain ⟨e,h1,h2⟩:=ih
  refine ⟨λj=>match j with | 0=>b | j + 1=>e j,λj x' y' ex ey=>?_,?_⟩
  ·cases j with
   | zero =>
    have e1:x=x':=by simpa using ex
    have e2:y=y':=by simpa using ey
    subst e1 e2
    exact hr
   | succ j=>exact h1 j x' y' (by simpa using ex) (by simpa using ey)
  ·have e1:min (x::xs).length (y::ys).length=min xs.length ys.length + 1:=by simp [Nat.min_def];split <;> rfl
   have e3:((x::xs).length == (y::ys).length)=(xs.length == ys.length):=by simp
   rw [e1,e3,List.range_succ_eq_map,all_cons,all_map,h2,Bool.and_assoc]
   rfl
section
theorem jI (I:Inv X pins σ H s):∀ (n:Nat) {A:Around}{x y:V}{u v:Value}{b:Bool},EqN X.K H n x y b->RelV x u->RelV y v->A.units + n < cLine->SeqAt.EqAt A s u v b:=by
 intro n
 induction n with
 | zero =>
  intro A x y u v b h ru rv _
  rcases h with ⟨fx,fy,rfl⟩ | ⟨a,rfl,rfl,rfl⟩
  ·exact uy ru rv fx fy
  ·cases ru
   cases rv
   exact SeqAt.EqAt.same _
 | succ n ih =>
  intro A x y u v b h ru rv hu
  rcases h with h | ⟨a,c,xs,ys,rfl,rfl,hq,hl⟩
  ·exact ih h ru rv (by omega)
  ·cases ru
   cases rv
   by_cases hac:a=c
   ·subst hac
    have hb:b=true:=by
     have key:∀ {zs ws:List V}{b:Bool},zs=ws->EqL (EqN X.K H n) zs ws b->(∀ (j:Nat) z,zs[j]?=some z->∀ b',EqN X.K H n z z b'->b'=true)->b=true:=by
      intro zs ws b e hl hz
      induction hl with
      | nil=>rfl
      | left=>cases e
      | right=>cases e
      | cons h1 _ ih2 =>
       cases e
       rw [hz 0 _ rfl _ h1,ih2 rfl λj z hj b' hb=>hz (j + 1) z (by simpa using hj) b' hb]
       rfl
     have refl_true:∀ (n:Nat) (z:V) (b':Bool),EqN X.K H n z z b'->b'=true:=by
      intro n
      induction n with
      | zero =>
       intro z b' h
       rcases h with ⟨f,_,rfl⟩ | ⟨_,_,_,rfl⟩
       ·exact uJ f
       ·rfl
      | succ n ihn =>
       intro z b' h
       rcases h with h | ⟨a,c,xs,ys,rfl,e,hq,hl⟩
       ·exact ihn z b' h
       ·cases e
        have exy:xs=ys:=by
         rcases hq with ⟨h1,h2⟩ | ⟨h1,h2⟩
         ·exact I.QQ h1 h2
         ·exact I.Nu h1 h2
        have key2:∀ {zs ws:List V}{b:Bool},zs=ws->EqL (EqN X.K H n) zs ws b->b=true:=by
         intro zs ws b e hl
         induction hl with
         | nil=>rfl
         | left=>cases e
         | right=>cases e
         | cons h1 _ ih2 =>
          cases e
          rw [ihn _ _ h1,ih2 rfl]
          rfl
        exact key2 exy hl
     have exy:xs=ys:=by
      rcases hq with ⟨h1,h2⟩ | ⟨h1,h2⟩
      ·exact I.QQ h1 h2
      ·exact I.Nu h1 h2
     exact key exy hl λj z hj b' hb=>refl_true n z b' hb
    subst hb
    exact SeqAt.EqAt.same _
   ·obtain ⟨e,he,rfl⟩:=hl.ans
    refine SeqAt.EqAt.of_refs hac ?_
    rcases hq with ⟨h1,h2⟩ | ⟨h1,h2⟩
    ·obtain ⟨us,r1,p1,_⟩:=I.tuple h1
     obtain ⟨ws,r2,p2,_⟩:=I.tuple h2
     have l1:=r1.length
     have l2:=r2.length
     have z:=SeqAt.RcAt.tuples (A:=A) (e:=e) (show s.heap.IsTuple a us.toArray from p1) (show s.heap.IsTuple c ws.toArray from p2) (by omega) (λj j1 j2=>?_)
     ·rw [size_toArray,size_toArray,<-l1,<-l2] at z
      exact z
     ·simp only [size_toArray] at j1 j2
      obtain ⟨u,hu',ru⟩:=r1.get (aC (show j < xs.length by omega))
      obtain ⟨v,hv',rv⟩:=r2.get (aC (show j < ys.length by omega))
      have z1:us[j]=u:=by rw [aC j1] at hu';exact Option.some.inj hu'
      have z2:ws[j]=v:=by rw [aC j2] at hv';exact Option.some.inj hv'
      simp only [List.getElem_toArray]
      rw [z1,z2]
      exact ih (he j _ _ (aC (show j < xs.length by omega)) (aC (show j < ys.length by omega))) ru rv (by show A.units + 1 + n < cLine;omega)
    ·obtain ⟨us,r1,p1,_⟩:=I.list h1
     obtain ⟨ws,r2,p2,_⟩:=I.list h2
     have l1:=r1.length
     have l2:=r2.length
     by_cases hsz:xs.length=ys.length
     ·have z:=SeqAt.RcAt.lists (A:=A) (e:=e) p1.isList p2.isList (by simp only [size_toArray];omega) (by omega) (λj j1 j2=>?_)
      ·rw [size_toArray,<-l1] at z
       rw [<-hsz,Nat.min_self,beq_self_eq_true,Bool.and_true]
       exact z
      ·simp only [size_toArray] at j1 j2
       obtain ⟨u,hu',ru⟩:=r1.get (aC (show j < xs.length by omega))
       obtain ⟨v,hv',rv⟩:=r2.get (aC (show j < ys.length by omega))
       have z1:us[j]=u:=by rw [aC j1] at hu';exact Option.some.inj hu'
       have z2:ws[j]=v:=by rw [aC j2] at hv';exact Option.some.inj hv'
       simp only [List.getElem_toArray]
       rw [z1,z2]
       exact ih (he j _ _ (aC (show j < xs.length by omega)) (aC (show j < ys.length by omega))) ru rv (by show A.units + 1 + n < cLine;omega)
     ·rw [show (xs.length == ys.length)=false by simpa using hsz,Bool.and_false]
      exact SeqAt.RcAt.lists_lengths p1.isList p2.isList (by simp only [size_toArray,bne_iff_ne,ne_eq];omega) (by omega)
noncomputable def rEqD (K:aj) (neg:Bool):R2:=λx y H Q=>∃ n a c xs ys b,n<=90/\x = .ref a/\y = .ref c/\((SqT K H a xs/\SqT K H c ys)\/(SqL K H a xs/\SqL K H c ys))/\EqL (EqN K H n) xs ys b/\Q (.bl (if neg then !b else b)) H
theorem QR (I:Inv X pins σ H s) {A:Around}{xs ys:List V}{us ws:List Value}{e:Nat->Bool}(r1:Vals xs us) (r2:Vals ys ws) (he:∀ (j:Nat) x y,xs[j]?=some x->ys[j]?=some y->EqN X.K H n x y (e j)) (hu:A.units + 1 + n < cLine) :
  ∀ j (h1:j < us.toArray.size) (h2:j < ws.toArray.size),SeqAt.EqAt A.in1 s us.toArray[j] ws.toArray[j] (e j):=by
 intro j j1 j2
 have l1:=r1.length
 have l2:=r2.length
 simp only [size_toArray] at j1 j2
 obtain ⟨u,hu',ru⟩:=r1.get (aC (show j < xs.length by omega))
 obtain ⟨v,hv',rv⟩:=r2.get (aC (show j < ys.length by omega))
 have z1:us[j]=u:=by rw [aC j1] at hu';exact Option.some.inj hu'
 have z2:ws[j]=v:=by rw [aC j2] at hv';exact Option.some.inj hv'
 simp only [List.getElem_toArray]
 rw [z1,z2]
 exact jI I n (he j _ _ (aC (show j < xs.length by omega)) (aC (show j < ys.length by omega))) ru rv hu
end
section
theorem jJ (hu:X.A.units + 100 < cLine):OpR X (compareOp .Eq) (rEqD X.K false):=by
 intro pins s σ H x y v u Q I rx ry h
 obtain ⟨n,a,c,xs,ys,b,hn,rfl,rfl,hq,hl,q⟩:=h
 cases rx
 cases ry
 obtain ⟨e,he,rfl⟩:=hl.ans
 rcases hq with ⟨h1,h2⟩ | ⟨h1,h2⟩
 ·obtain ⟨us,r1,p1,_⟩:=I.tuple h1
  obtain ⟨ws,r2,p2,_⟩:=I.tuple h2
  refine SeqAt.eq_tupleAt (show s.heap.IsTuple a us.toArray from p1) (show s.heap.IsTuple c ws.toArray from p2) (by omega) (QR I r1 r2 he (by omega)) ?_
  rw [size_toArray,size_toArray,<-r1.length,<-r2.length]
  exact ⟨.bl _,H,I,rfl,q⟩
 ·obtain ⟨us,r1,p1,_⟩:=I.list h1
  obtain ⟨ws,r2,p2,_⟩:=I.list h2
  have l1:=r1.length
  have l2:=r2.length
  by_cases hsz:xs.length=ys.length
  ·refine SeqAt.eq_listAt p1.isList p2.isList (by simp only [size_toArray];omega) (by omega) (QR I r1 r2 he (by omega)) ?_
   rw [<-hsz,Nat.min_self,beq_self_eq_true,Bool.and_true] at q
   rw [size_toArray,<-l1]
   exact ⟨.bl _,H,I,rfl,q⟩
  ·rw [show (xs.length == ys.length)=false by simpa using hsz,Bool.and_false] at q
   exact SeqAt.eq_list_lengthsAt p1.isList p2.isList (by simp only [size_toArray,bne_iff_ne,ne_eq];omega) (by omega) ⟨.bl false,H,I,rfl,q⟩
theorem jK (hu:X.A.units + 100 < cLine):OpR X (compareOp .NotEq) (rEqD X.K true):=by
 intro pins s σ H x y v u Q I rx ry h
 obtain ⟨n,a,c,xs,ys,b,hn,rfl,rfl,hq,hl,q⟩:=h
 cases rx
 cases ry
 obtain ⟨e,he,rfl⟩:=hl.ans
 rcases hq with ⟨h1,h2⟩ | ⟨h1,h2⟩
 ·obtain ⟨us,r1,p1,_⟩:=I.tuple h1
  obtain ⟨ws,r2,p2,_⟩:=I.tuple h2
  refine SeqAt.RcNeAt.tuples (show s.heap.IsTuple a us.toArray from p1) (show s.heap.IsTuple c ws.toArray from p2) (by omega) (QR I r1 r2 he (by omega)) _ _ _ _ ?_
  rw [size_toArray,size_toArray,<-r1.length,<-r2.length]
  exact ⟨.bl _,H,I,rfl,q⟩
 ·obtain ⟨us,r1,p1,_⟩:=I.list h1
  obtain ⟨ws,r2,p2,_⟩:=I.list h2
  have l1:=r1.length
  have l2:=r2.length
  by_cases hsz:xs.length=ys.length
  ·refine SeqAt.RcNeAt.lists p1.isList p2.isList (by simp only [size_toArray];omega) (by omega) (QR I r1 r2 he (by omega)) _ _ _ _ ?_
   rw [<-hsz,Nat.min_self,beq_self_eq_true,Bool.and_true] at q
   rw [size_toArray,<-l1]
   exact ⟨.bl _,H,I,rfl,q⟩
  ·rw [show (xs.length == ys.length)=false by simpa using hsz,Bool.and_false] at q
   exact SeqAt.RcNeAt.lists_lengths p1.isList p2.isList (by simp only [size_toArray,bne_iff_ne,ne_eq];omega) (by omega) _ _ _ _ ⟨.bl true,H,I,rfl,q⟩
end
section
noncomputable def jL (C:Addr) (sp:Sp) (dvs:List V) (XE:St->XK) (t:TA):TE:=λσ H Q=>t σ H λvs H1=>∀ x dx,H1 x=none->H1 dx=none->dx≠x ->
 sp (.ref x::(vs++dvs)) (upd (upd H1 dx (.own x)) x (.ins C dx [])) (λv H2=>v = .non/\Q (.ref x) H2) (XE σ)
theorem xf (M:Mk X.K C f) (F:Zx X.prog X.w X.K X.mg X.base (CXE X.prog X.w) k f fd ps sp) (hr:YZ (k + 1) X.A) (hb:Binds X.K fd ps ds) (hd:Vals dvs ds)
  (hx:Yy X XE) (I:Inv X pins σ H s) (r:Vals vs us)
  (h:∀ x dx,H x=none->H dx=none->dx≠x->sp (.ref x::(vs++dvs)) (upd (upd H dx (.own x)) x (.ins C dx [])) (λv H2=>v = .non/\Q (.ref x) H2) (XE σ)) :
  wpAny (model X.prog X.w) X.A (call (.ref C) us) (EP X pins σ Q) X.xe s:=by
 have hq:=h (s.heap.objs.size + 1) s.heap.objs.size (I.hok.fresh (Nat.le_succ _)) (I.hok.fresh (Nat.le_refl _)) (Nat.ne_of_lt (Nat.lt_succ_self _))
 have I2:=Inv.made (C:=C) I
 have r2:Vals (V.ref (s.heap.objs.size + 1)::(vs++dvs)) (Value.ref (s.heap.objs.size + 1)::(us++ds)) := .cons rfl (r.append hd)
 have hl:(Value.ref (s.heap.objs.size + 1)::us++ds).length=ps.length:=by
  have e:=r2.length
  rw [F.len _ _ _ _ hq] at e
  exact e.symm
 refine wpAny_call (uk (f:=f) I.kIn M.makes M.init (beq_iff_eq.mp M.fn) (codeAny_mono (F.run _ X.stack _ _ ⟨Value.ref (s.heap.objs.size + 1)::us,[]⟩ (Value.ref (s.heap.objs.size + 1)::(us++ds)) _ _ (XE σ) (hr.make C us [])
  (I2.env0.make C us []) (hb _ (Value.ref (s.heap.objs.size + 1)::us) I2.kIn hl) r2 hq) λr s' hq'=>?_))
 cases r with
 | error e=>exact hx pins σ _ _ e s' I2 hq'
 | ok fl =>
  cases fl with
  | ret u =>
   obtain ⟨v,H',I3,rv,ev,q3⟩:=I2.after hq'
   subst ev
   exact ⟨rv,⟨V.ref (s.heap.objs.size + 1),H',I3,rfl,q3⟩⟩
  | next=>exact False.elim hq'
  | brk=>exact False.elim hq'
  | cont=>exact False.elim hq'
theorem pV (M:Mk X.K C f) (F:Zx X.prog X.w X.K X.mg X.base (CXE X.prog X.w) k f fd ps sp) (hr:YZ (k + 1) X.A) (hg:Gl X x) (hm:X.mg x=some (.ref C)) (hb:Binds X.K fd ps ds) (hd:Vals dvs ds) (hx:Yy X XE)
  (ha:QA X (e::es) t) (hst:autoParam (ZZ (e::es)=true) auR) (hdb:autoParam ((x == ("__debug__" : Str))=false) auD):QE X (.Call (.Name x p) (e::es) [] pos) (jL C sp dvs XE t):=by
 have h:=hst
 unfold ZZ at h
 rw [aF] at h
 refine ⟨?_⟩
 intro pins s σ H Q I h'
 refine wpAny_Call_Name_kw (QP I hg hm ?_ hdb)
 refine callWith_K (h₀:=X.base) I.ok.mod.kin M.kp (thn (ha.get pos pins s σ H _ I h') λus s1 ⟨vs,H1,I1,r,q⟩=>⟨I1.kIn,?_⟩) (Su h.1) (TY h.2 pos)
 exact xf M F hr hb hd hx I1 r q
end
theorem YZ.XW (r:YZ k A):A.units + 100 < cLine:=by have:=r.un;omega
section
end
theorem Ic (x:Str):x.length=x.cps.toList.length:=by
 show x.cps.size=_
 simp
theorem Sv (x y:Str):(x++y).cps.toList=x.cps.toList++y.cps.toList:=by
 show (x.cps++y.cps).toList=_
 simp
theorem GW (c:Nat):(⟨#[c]⟩:Str).cps.toList=[c]:=rfl
theorem EE (h0:0<=j) (h:j<=x.cps.toList.length):(Txt.slice x none (some j)).cps.toList=x.cps.toList.take j.toNat:=by
 have:=eq_of_beq (slice_closes_to (x:=x) (j:=j) ⟨h0,h⟩)
 rw [this]
 simp
theorem sl_ft (h0:0<=i) (h1:i<=j) (h:j<=x.cps.toList.length):(Txt.slice x (some i) (some j)).cps.toList=(x.cps.toList.drop i.toNat).take (j - i).toNat:=by
 have:=eq_of_beq (slice_closes (x:=x) (i:=i) (j:=j) ⟨h0,h1,h⟩)
 rw [this]
theorem pW (zs:List Str):(Txt.join "" zs).cps.toList=(zs.map λz=>z.cps.toList).flatten:=by
 show (Builtin.Str.glued "" zs).cps.toList=_
 rw [StrLaws.glued_eq_join]
 induction zs with
 | nil=>rfl
 | cons a l ih =>
  cases l with
  | nil=>simp [Str.join]
  | cons b r =>
   show ((a++("" : Str))++Str.join "" (b::r)).cps.toList=_
   rw [Sv,Sv,ih]
   rw [show ("" : Str).cps.toList=[] from rfl]
   simp
section
theorem Ie:MtR X "list.append" GO:=HU
theorem Bp:MtR X "list.extend" GP:=yP
theorem pX:MtR X "list.pop" rPop:=jr
section
end
end
section
variable {prog:Program}{w:World}{A:Around}{s:Shared}{R:Result->Shared->Prop}
variable {I:Addr}{fp wr:List Addr}{n:Nat}{P:Nat->Value->Prop}{St:Nat->Shared->Prop}{G:Array GenState->Array GenState->Prop}
end
section
variable {X:Cx}{e:Expr}{t:TE}{x y:Str}{p p' pos pos':Pos}
end
section
noncomputable def iSeq (K:aj) (tl:TE):TI:=λσ H R=>tl σ H λx H1=>∃ a,x = .ref a/\(((∃ xs,SqL K H1 a xs)/\R (Itl K a) H1)\/((∃ xs,SqT K H1 a xs)/\R (Itt K a) H1))
theorem jM (hl:PE X l tl):PI X tg l (iSeq X.K tl):=by
 intro pins s σ H R I h
 refine thn (hl pins s σ H _ I h) λv s1 zq=>?_
 obtain ⟨x,H1,I1,r1,q1⟩:=zq
 obtain ⟨a,e,q⟩:=q1
 subst e
 cases r1
 rcases q with ⟨⟨xs,hq⟩,q⟩ | ⟨⟨xs,hq⟩,q⟩
 ·obtain ⟨its,rv,p,hz⟩:=I1.list hq
  refine wpAny_pyIter_list p.isList ?_
  refine ⟨s1.heap.objs.size,[s1.heap.objs.size],_,_,H1,rfl,I1.kept (t':=s1.toks) λb o e=>aq _ e,yC a _,⟨_,au _ rfl,rfl,rfl⟩,λb hb=>?_,q⟩
  have e:b=s1.heap.objs.size:=by simpa using hb
  subst e
  exact I1.CM (Nat.le_refl _) (I1.hok.fresh (Nat.le_refl _))
 ·obtain ⟨its,rv,p,hz⟩:=I1.tuple hq
  refine wpAny_pyIter_tuple (show s1.heap.IsTuple a its.toArray from p) ?_
  refine ⟨s1.heap.objs.size,[s1.heap.objs.size],_,_,H1,rfl,I1.kept (t':=s1.toks) λb o e=>aq _ e,CN a _,⟨_,au _ rfl,rfl,rfl⟩,λb hb=>?_,q⟩
  have e:b=s1.heap.objs.size:=by simpa using hb
  subst e
  exact I1.CM (Nat.le_refl _) (I1.hok.fresh (Nat.le_refl _))
theorem EF:∀ {cs:List String}{us:List Value},Vals (cs.map V.ty) us->us=cs.map Value.type
 | [],_,.nil=>rfl
 | _::_,_,.cons r rs=>by rw [map_cons,EF rs];cases r;rfl
noncomputable def rIsiS (K:aj):List V->Hp->VK->Prop:=λxs H Q=>∃ (a tp:Addr) (cs:List String) (b:Bool) (T:String),xs=[.ref a,.ref tp]/\(((∃ ys,H a=some (.lst ys))/\T = "list")\/((∃ ys,H a=some (.tup ys))/\T = "tuple")) /\
 H tp=some (.tup (cs.map V.ty))/\kitAny K (.type T) (cs.map Value.type)=some b/\Q (.bl b) H
theorem xg:Xs X (.builtin "isinstance") (rIsiS X.K):=by
 intro pins s σ H xs us Q I r h
 obtain ⟨a,tp,cs,b,T,rfl,ht,hT,e,q⟩:=h
 obtain ⟨u,w',rfl,r1,r2⟩:=vals2 r
 cases r1
 cases r2
 obtain ⟨_,its,rv,ob,ho,hcl,n,hd⟩:=(show Yj X.prog X.w H s.heap tp (.tup (cs.map V.ty)) from I.hok tp _ hT)
 have ei:=EF rv
 subst ei
 obtain ⟨c0,dd,dt,sl⟩:=ob
 dsimp only at hcl hd
 subst hcl hd
 rcases ht with ⟨⟨ys,ea⟩,rfl⟩ | ⟨⟨ys,ea⟩,rfl⟩
 ·obtain ⟨_,_,n',_,h1⟩:=(show Yj X.prog X.w H s.heap a (.lst ys) from I.hok a _ ea)
  exact kia_tup kitx_list I.kIn ⟨_,h1,rfl⟩ ho e (λz=>nomatch z) λtk=>⟨.bl b,H,I.tok tk,rfl,q⟩
 ·obtain ⟨_,_,_,p⟩:=(show Yj X.prog X.w H s.heap a (.tup ys) from I.hok a _ ea)
  obtain ⟨o,h1,h2,_⟩:=p
  exact kia_tup PySem.W.kitx_tuple I.kIn ⟨o,h1,h2⟩ ho e (λz=>nomatch z) λtk=>⟨.bl b,H,I.tok tk,rfl,q⟩
end
structure EG (K:aj) (x qual:Str) (st:Stmt) (f:Addr) (fd:FuncData) (ds:List Value):Prop where
 ex:∃ (oc:Value) (od:Option Addr) (kV doc pm:Value) (an:Option Addr) (cdv ct:Value) (osl:Array (Option Value)) (D:Addr) (o:Obj) (n:Nat),
  fd=PySem.W.fnOf x qual (XC st) (Yc st) (Zf st) (.ref D) kV doc pm an cdv ct/\K.lookup f=some ⟨oc,od,.func fd,osl⟩/\PySem.W.codeIn K cdv qual=true/\K.lookup D=some o/\o.data = .seq ds.toArray n
 kp:keepIn K (.ref f)=true
section
theorem EG.okX {K:aj}{st:Stmt}{f:Addr}{fd:FuncData}{ds:List Value}{N ps:List Str}{k:Nat}{sp:Sp}(F:EG K x qual st f fd ds) (S:Zh N ps (Zf st)) (len:∀ vs H Q E,sp vs H Q E->vs.length=ps.length)
  (hbody:∀ (cdv:Value) (A:Around) (outer:List Env) (s:Shared) (H:Hp) (vs:List V) (Q:VK) (E:XK),YZ k (A.deeper (envOfC qual (Zf st) s.heap.objs.size f cdv))->sp vs H Q E ->
   ∃ t,QSs (XG (CXE P w) P w K mg base N qual (Zf st) f cdv A outer s H E) (Yc st) t/\t { nx:=λ_ H'=>Q .non H',rt:=Q } (start N vs) H):Zx P w K mg base (CXE P w) (k + 1) f fd ps sp:=by
 obtain ⟨oc,od,kV,doc,pm,an,cdv,ct,osl,D,o,n,rfl,lk,hcd,_,_⟩:=F.ex
 refine uq lk hcd S len λA outer s H vs Q E hr hsp=>?_
 obtain ⟨t,h,q⟩:=hbody cdv A outer s H vs Q E hr hsp
 exact ⟨t,h.get,q⟩
theorem EG.binds {K:aj}{st:Stmt}{ps:List Str}(F:EG K x qual st f fd ds)
  (h:∀ (D:Addr) (o:Obj) (n:Nat) (kV doc pm:Value) (an:Option Addr) (cdv ct:Value) (s:Shared) (us:List Value),s.heap.get? D=some o->o.data = .seq ds.toArray n->(us++ds').length=ps.length->BindsTo s (PySem.W.fnOf x qual (XC st) (Yc st) (Zf st) (.ref D) kV doc pm an cdv ct) ⟨us,[]⟩ (ps.zip (us++ds'))):Binds K fd ps ds':=by
 obtain ⟨oc,od,kV,doc,pm,an,cdv,ct,osl,D,o,n,rfl,lk,hcd,hD,ho⟩:=F.ex
 intro s us KI hl
 exact h D o n kV doc pm an cdv ct s us (KI _ _ hD) ho hl
end
section
end
end L2
namespace MA
theorem EH (a b:Int):Int.gcd b (a.fmod b)=Int.gcd a b:=by
 rw [Int.fmod_def,Int.gcd_sub_mul_left_right,Int.gcd_comm]
theorem zP (a b:Int) (h:b≠0):(a.fmod b).natAbs < b.natAbs:=by
 rcases Int.lt_or_gt_of_ne h with hn | hp
 ·have h1:(-a).fmod (-b) = -(a.fmod b):=by rw [Int.neg_fmod_neg]
  have h2:=Int.fmod_lt_of_pos (-a) (show 0 < -b by omega)
  have h3:=Int.fmod_nonneg_of_pos (-a) (show 0 < -b by omega)
  omega
 ·have h2:=Int.fmod_lt_of_pos a hp
  have h3:=Int.fmod_nonneg_of_pos a hp
  omega
structure Low (p q:Int):Prop where
 pos:0 < q
 cop:Int.gcd p q=1
theorem NK (h:b≠0):(0:Int) < (Int.gcd a b:Int):=by
 have:Int.gcd a b≠0:=λz=>h (Int.gcd_eq_zero_iff.mp z).2
 omega
theorem jN (hb:b≠0) (hd:d=(Int.gcd a b:Int)\/d = -(Int.gcd a b:Int)) (hs:0 < b * d) :
  Low (a.fdiv d) (b.fdiv d)/\a.fdiv d * b=a * b.fdiv d/\(a.fdiv d).natAbs<=a.natAbs/\(b.fdiv d).natAbs<=b.natAbs:=by
 have gp:=NK (a:=a) hb
 have hd0:d≠0:=by rcases hd with h | h <;> omega
 have na:d.natAbs=Int.gcd a b:=by rcases hd with h | h <;> omega
 have da:d ∣ a:=by
  rcases hd with h | h
  ·rw [h];exact Int.gcd_dvd_left a b
  ·rw [h];exact Int.neg_dvd.mpr (Int.gcd_dvd_left a b)
 have db:d ∣ b:=by
  rcases hd with h | h
  ·rw [h];exact Int.gcd_dvd_right a b
  ·rw [h];exact Int.neg_dvd.mpr (Int.gcd_dvd_right a b)
 have ea:=Int.fdiv_mul_cancel da
 have eb:=Int.fdiv_mul_cancel db
 refine ⟨⟨?_,?_⟩,?_,Int.natAbs_fdiv_le_natAbs a d,Int.natAbs_fdiv_le_natAbs b d⟩
 ·rw [<-eb,Int.mul_assoc] at hs
  have hdd:0 < d * d:=by
   rcases Int.lt_or_gt_of_ne hd0 with h | h
   ·exact Int.mul_pos_of_neg_of_neg h h
   ·exact Int.mul_pos h h
  exact Int.pos_of_mul_pos_left hs hdd
 ·have h:=Int.gcd_mul_right (a.fdiv d) d (b.fdiv d)
  rw [ea,eb,na] at h
  have g0:Int.gcd a b≠0:=by omega
  have h':1 * Int.gcd a b=Int.gcd (a.fdiv d) (b.fdiv d) * Int.gcd a b:=by rw [Nat.one_mul];exact h
  exact (Nat.eq_of_mul_eq_mul_right (by omega) h').symm
 ·have:a.fdiv d * b=a.fdiv d * (b.fdiv d * d):=by rw [eb]
  rw [this]
  have h2:a * b.fdiv d=a.fdiv d * d * b.fdiv d:=by rw [ea]
  rw [h2,Int.mul_assoc,Int.mul_comm d]
theorem zQ (h:Int.gcd p q=1) (k:q ∣ p * r):q ∣ r:=by
 have h1:Nat.Coprime q.natAbs p.natAbs:=by
  show Nat.gcd q.natAbs p.natAbs=1
  rw [Nat.gcd_comm]
  exact h
 have k1:q.natAbs ∣ p.natAbs * r.natAbs:=by
  rw [<-Int.natAbs_mul]
  exact Int.natAbs_dvd_natAbs.mpr k
 exact Int.natAbs_dvd_natAbs.mp (h1.dvd_of_dvd_mul_left k1)
theorem Low.uniq (h:Low p q) (h':Low p' q') (e:p * q'=p' * q):p=p'/\q=q':=by
 have d1:q ∣ q':=zQ h.cop ⟨p',by rw [e,Int.mul_comm]⟩
 have d2:q' ∣ q:=zQ h'.cop ⟨p,by rw [<-e,Int.mul_comm]⟩
 have l1:=Int.le_of_dvd h'.pos d1
 have l2:=Int.le_of_dvd h.pos d2
 have eq:q=q':=by omega
 subst eq
 exact ⟨Int.eq_of_mul_eq_mul_right (by have:=h.pos;omega) e,rfl⟩
theorem Low.same (h:Low p q) (h':Low p' q') (hb:b≠0) (e:p * b=a * q) (e':p' * b=a * q'):p=p'/\q=q':=by
 refine h.uniq h' (Int.eq_of_mul_eq_mul_right hb ?_)
 rw [Int.mul_assoc,Int.mul_comm q',<-Int.mul_assoc,e,Int.mul_assoc p',Int.mul_comm q b,<-Int.mul_assoc,e',Int.mul_assoc,Int.mul_assoc,Int.mul_comm q]
theorem Low.self (h:Low p q):p.fdiv (Int.gcd p q:Int)=p/\q.fdiv (Int.gcd p q:Int)=q:=by
 rw [h.cop]
 exact ⟨Int.fdiv_one p,Int.fdiv_one q⟩
end MA
namespace MA
open L2
abbrev Fr:=Int × Int
noncomputable def addF (a b:Fr):Fr:=(a.1 * b.2 + b.1 * a.2,a.2 * b.2)
noncomputable def mulF (a b:Fr):Fr:=(a.1 * b.1,a.2 * b.2)
noncomputable def Sr (b:Bool) (x y:Fr):Fr:=if b then mulF x y else addF x y
noncomputable def PosL (ws:List Fr):Prop:=∀ w∈ws,0 < w.2
noncomputable def BdL (k:Nat) (ws:List Fr):Prop:=∀ w∈ws,Bd k w.1/\Bd k w.2
theorem BdL.take (h:BdL k ws) (i:Nat):BdL k (ws.take i):=λw hw=>h w (mem_of_mem_take hw)
theorem PosL.take (h:PosL ws) (i:Nat):PosL (ws.take i):=λw hw=>h w (mem_of_mem_take hw)
end MA
namespace L2
open PySem
end L2
namespace MA
end MA
namespace MA
inductive Rch {α:Type}(R:α->α->Prop):α->α->Prop
 | one {a b:α}:R a b->Rch R a b
 | step {a b c:α}:R a b->Rch R b c->Rch R a c
theorem Rch.trans (h:Rch R a b) (k:Rch R b c):Rch R a c:=by
 induction h with
 | one r=>exact .step r k
 | step r _ ih=>exact .step r (ih k)
theorem Rch.first (h:Rch R a c):∃ b,R a b/\(b=c\/Rch R b c):=by
 cases h with
 | one r=>exact ⟨_,r,.inl rfl⟩
 | step r k=>exact ⟨_,r,.inr k⟩
theorem Rch.last (h:Rch R a c):∃ b,R b c:=by
 induction h with
 | one r=>exact ⟨_,r⟩
 | step _ _ ih=>exact ih
theorem Rch.inS {S:α->Prop}(cl:∀ a b,S a->R a b->S b) (h0:∀ b,R a b->S b) (h:Rch R a b):S b:=by
 obtain ⟨c,r,k⟩:=h.first
 have hc:=h0 c r
 rcases k with rfl | k
 ·exact hc
 ·clear h r h0
  induction k with
  | one r=>exact cl _ _ hc r
  | step r _ ih=>exact ih (cl _ _ hc r)
section
variable {α:Type} [DecidableEq α]
end
end MA
namespace MA
theorem bern (u v:Int) (hu:0<=u) (hv:0<=v) (m:Nat):v ^ m * (((m:Int) + 1) * u - m * v)<=u ^ (m + 1):=by
 induction m with
 | zero=>simp [Int.pow_succ]
 | succ m ih =>
  have h1:u * (v ^ m * (((m:Int) + 1) * u - m * v))<=u * u ^ (m + 1):=Int.mul_le_mul_of_nonneg_left ih hu
  have h2:0<=v ^ m * (((m:Int) + 1) * ((u - v) * (u - v))):=by
   refine Int.mul_nonneg (Int.pow_nonneg hv) (Int.mul_nonneg (by omega) ?_)
   rcases Int.le_total u v with h | h
   ·exact Int.mul_nonneg_of_nonpos_of_nonpos (by omega) (by omega)
   ·exact Int.mul_nonneg (by omega) (by omega)
  have e1:u ^ (m + 1 + 1)=u * u ^ (m + 1):=by rw [Int.pow_succ,Int.mul_comm]
  have e2:v ^ (m + 1)=v ^ m * v:=Int.pow_succ ..
  rw [e1,e2]
  have e3:u * (v ^ m * (((m:Int) + 1) * u - m * v)) - v ^ m * v * ((((m + 1:Nat):Int) + 1) * u - ((m + 1:Nat):Int) * v)=v ^ m * (((m:Int) + 1) * ((u - v) * (u - v))):=by
   rw [show ((m + 1:Nat):Int)=(m:Int) + 1 by omega]
   generalize v ^ m=z
   generalize (m:Int)=k
   grind
  omega
theorem xh (n S a:Nat):(n + 1) ^ (n + 1) * S ^ n * a<=n ^ n * (S + a) ^ (n + 1):=by
 by_cases hn:n=0
 ·subst hn;simp
 have b:=bern ((n * (S + a):Nat):Int) (((n + 1) * S:Nat):Int) (by omega) (by omega) n
 have e:((n:Int) + 1) * ((n * (S + a):Nat):Int) - n * (((n + 1) * S:Nat):Int)=(n * ((n + 1) * a):Nat):=by
  simp only [Int.natCast_mul,Int.natCast_add]
  generalize (n:Int)=k
  generalize (S:Int)=s
  generalize (a:Int)=t
  grind
 rw [e] at b
 have b:((n + 1) * S) ^ n * (n * ((n + 1) * a))<=(n * (S + a)) ^ (n + 1):=by
  have:((((n + 1) * S) ^ n * (n * ((n + 1) * a)):Nat):Int)<=(((n * (S + a)) ^ (n + 1):Nat):Int):=by
   rw [Int.natCast_mul,Int.natCast_pow,Int.natCast_pow]
   exact b
  omega
 rw [Nat.mul_pow,Nat.mul_pow] at b
 have e1:(n + 1) ^ n * S ^ n * (n * ((n + 1) * a))=n * ((n + 1) ^ (n + 1) * S ^ n * a):=by
  rw [Nat.pow_succ]
  generalize (n + 1) ^ n=x
  generalize S ^ n=y
  grind
 have e2:n ^ (n + 1) * (S + a) ^ (n + 1)=n * (n ^ n * (S + a) ^ (n + 1)):=by
  rw [Nat.pow_succ n n]
  generalize n ^ n=x
  grind
 rw [e1,e2] at b
 exact Nat.le_of_mul_le_mul_left b (by omega)
theorem pow_self_pos (n:Nat):0 < n ^ n:=by
 cases n with
 | zero=>decide
 | succ n=>exact Nat.pow_pos (by omega)
noncomputable def Wz (l:List Nat):Nat:=l.foldr (· * ·) 1
theorem amgm (l:List Nat):Wz l * l.length ^ l.length<=l.sum ^ l.length:=by
 induction l with
 | nil=>simp [Wz]
 | cons a l ih =>
  have st:=xh l.length l.sum a
  rw [length_cons,sum_cons,show Wz (a::l)=a * Wz l from rfl]
  have pos:=pow_self_pos l.length
  refine Nat.le_of_mul_le_mul_left ?_ pos
  have e1:l.length ^ l.length * (a * Wz l * (l.length + 1) ^ (l.length + 1))=(l.length + 1) ^ (l.length + 1) * (Wz l * l.length ^ l.length) * a:=by
   generalize l.length ^ l.length=x
   generalize (l.length + 1) ^ (l.length + 1)=y
   generalize Wz l=z
   grind
  have e2:(l.length + 1) ^ (l.length + 1) * (Wz l * l.length ^ l.length) * a<=(l.length + 1) ^ (l.length + 1) * l.sum ^ l.length * a:=Nat.mul_le_mul_right _ (Nat.mul_le_mul_left _ ih)
  rw [e1,Nat.add_comm a l.sum]
  exact Nat.le_trans e2 st
theorem xi (a b:List Nat):Wz (a++b)=Wz a * Wz b:=by
 induction a with
 | nil=>simp [Wz]
 | cons x a ih=>rw [cons_append,show Wz (x::(a++b))=x * Wz (a++b) from rfl,ih,show Wz (x::a)=x * Wz a from rfl,Nat.mul_assoc]
theorem HZ (n x:Nat):Wz (replicate n x)=x ^ n:=by
 induction n with
 | zero=>rfl
 | succ n ih=>rw [replicate_succ,show Wz (x::replicate n x)=x * Wz (replicate n x) from rfl,ih,Nat.pow_succ,Nat.mul_comm]
theorem zR (n x:Nat):(replicate n x).sum=n * x:=by
 induction n with
 | zero=>simp
 | succ n ih=>rw [replicate_succ,sum_cons,ih,Nat.succ_mul,Nat.add_comm]
theorem two (x y a b:Nat):x ^ a * y ^ b * (a + b) ^ (a + b)<=a ^ a * b ^ b * (x + y) ^ (a + b):=by
 by_cases ha:a=0
 ·subst ha
  simp only [Nat.pow_zero,Nat.one_mul,Nat.zero_add]
  rw [Nat.mul_comm]
  exact Nat.mul_le_mul_left _ (Nat.pow_le_pow_left (by omega) _)
 by_cases hb:b=0
 ·subst hb
  simp only [Nat.pow_zero,Nat.mul_one,Nat.add_zero]
  rw [Nat.mul_comm]
  exact Nat.mul_le_mul_left _ (Nat.pow_le_pow_left (by omega) _)
 have g:=amgm (replicate a (x * b)++replicate b (y * a))
 rw [xi,HZ,HZ,length_append,length_replicate,length_replicate,sum_append,zR,zR] at g
 have e1:a * (x * b) + b * (y * a)=(a * b) * (x + y):=by grind
 rw [e1,Nat.mul_pow,Nat.mul_pow,Nat.mul_pow (a * b),Nat.mul_pow a b,Nat.pow_add a,Nat.pow_add b] at g
 have pos:0 < b ^ a * a ^ b:=Nat.mul_pos (Nat.pow_pos (by omega)) (Nat.pow_pos (by omega))
 refine Nat.le_of_mul_le_mul_left ?_ pos
 generalize x ^ a=xa at *
 generalize y ^ b=yb at *
 generalize (a + b) ^ (a + b)=nn at *
 generalize (x + y) ^ (a + b)=ss at *
 generalize a ^ a=aa at *
 generalize a ^ b=ab at *
 generalize b ^ a=ba at *
 generalize b ^ b=bb at *
 have l:ba * ab * (xa * yb * nn)=xa * ba * (yb * ab) * nn:=by grind
 have r:ba * ab * (aa * bb * ss)=aa * ab * (ba * bb) * ss:=by grind
 rw [l,r]
 exact g
section
variable {κ:Type} [DecidableEq κ]
end
end MA
namespace L2
open PySem PySem.Spec PyProof.Rows
inductive D where
 | non | bl (b:Bool) | int (i:Int) | str (x:Str) | ty (n:String) | rf (a:Addr)
 | tup (xs:List D) | lst (xs:List D) | scr (xs:List D) | obj (C:Addr) (fs:List (Str × D)) | dic (kvs:List (Key × D)) | exc (C:Addr)
 deriving Inhabited
mutual
noncomputable def Rp (K:aj) (H:Hp):D->V->Prop
 | .non,v=>v = .non
 | .bl b,v=>v = .bl b
 | .int i,v=>v = .int i
 | .str x,v=>v = .str x
 | .ty n,v=>v = .ty n
 | .rf a,v=>v = .ref a
 | .tup xs,v=>∃ a vs,v = .ref a/\H a=some (.tup vs)/\Rps K H xs vs
 | .lst xs,v=>∃ a vs,v = .ref a/\H a=some (.lst vs)/\Rps K H xs vs
 | .scr xs,v=>∃ a vs,v = .ref a/\SqL K H a vs/\Rps K H xs vs
 | .obj C gs,v=>∃ a dx fs,v = .ref a/\H a=some (.ins C dx fs)/\Rfs K H gs fs
 | .dic gs,v=>∃ a kvs,v = .ref a/\H a=some (.dK kvs)/\Rks K H gs kvs
 | .exc C,v=>∃ a,v = .ref a/\H a=some (Bk a C)
noncomputable def Rps (K:aj) (H:Hp):List D->List V->Prop
 | [],vs=>vs=[]
 | d::ds,vs=>∃ v us,vs=v::us/\Rp K H d v/\Rps K H ds us
noncomputable def Rfs (K:aj) (H:Hp):List (Str × D)->List (Str × V)->Prop
 | [],fs=>fs=[]
 | (k,d)::gs,fs=>∃ v us,fs=(k,v)::us/\Rp K H d v/\Rfs K H gs us
noncomputable def Rks (K:aj) (H:Hp):List (Key × D)->List (Key × V)->Prop
 | [],fs=>fs=[]
 | (k,d)::gs,fs=>∃ v us,fs=(k,v)::us/\Rp K H d v/\Rks K H gs us
end
theorem Rd.same (e:Zz H H') (h:Rd H a o):Rd H' a o:=h.elim (λz => .inl (e _ _ z)) (λ⟨u,z⟩ => .inr ⟨u,e _ _ z⟩)
theorem SqT.same {K:aj}(e:Zz H H') (h:SqT K H a xs):SqT K H' a xs:=by
 rcases h with (h | ⟨o,h⟩) | h
 ·exact .inl (.inl (e _ _ h))
 ·exact .inl (.inr ⟨o,e _ _ h⟩)
 ·exact .inr h
section
mutual
theorem Rp.same {K:aj}(s:Zz H H'):∀ (d:D) {v:V},Rp K H d v->Rp K H' d v
 | .non,_,h=>h
 | .bl _,_,h=>h
 | .int _,_,h=>h
 | .str _,_,h=>h
 | .ty _,_,h=>h
 | .rf _,_,h=>h
 | .tup xs,_,⟨a,vs,e,h1,h2⟩=>⟨a,vs,e,s _ _ h1,Rps.same s xs h2⟩
 | .lst xs,_,⟨a,vs,e,h1,h2⟩=>⟨a,vs,e,s _ _ h1,Rps.same s xs h2⟩
 | .scr xs,_,⟨a,vs,e,h1,h2⟩=>⟨a,vs,e,s.seq h1,Rps.same s xs h2⟩
 | .obj _ gs,_,⟨a,dx,fs,e,h1,h2⟩=>⟨a,dx,fs,e,s _ _ h1,Rfs.same s gs h2⟩
 | .dic gs,_,⟨a,fs,e,h1,h2⟩=>⟨a,fs,e,s _ _ h1,Rks.same s gs h2⟩
 | .exc _,_,⟨a,e,h1⟩=>⟨a,e,s _ _ h1⟩
theorem Rps.same {K:aj}(s:Zz H H'):∀ (ds:List D) {vs:List V},Rps K H ds vs->Rps K H' ds vs
 | [],_,h=>h
 | d::ds,_,⟨v,us,e,h1,h2⟩=>⟨v,us,e,Rp.same s d h1,Rps.same s ds h2⟩
theorem Rfs.same {K:aj}(s:Zz H H'):∀ (ds:List (Str × D)) {vs:List (Str × V)},Rfs K H ds vs->Rfs K H' ds vs
 | [],_,h=>h
 | (k,d)::ds,_,⟨v,us,e,h1,h2⟩=>⟨v,us,e,Rp.same s d h1,Rfs.same s ds h2⟩
theorem Rks.same {K:aj}(s:Zz H H'):∀ (ds:List (Key × D)) {vs:List (Key × V)},Rks K H ds vs->Rks K H' ds vs
 | [],_,h=>h
 | (k,d)::ds,_,⟨v,us,e,h1,h2⟩=>⟨v,us,e,Rp.same s d h1,Rks.same s ds h2⟩
end
end
structure Ext (H0 H H0' H':Hp):Prop where
 s:Zz H H'
 s0:Zz H0 H0'
 sub:Zz H0' H'
 new:∀ b,H0 b=none->H b≠none->H0' b=none
theorem Ext.refl (h:Zz H0 H):Ext H0 H H0 H:=⟨.refl _,.refl _,h,λ_ z _=>z⟩
theorem Ext.trans (a:Ext H0 H H1 H2) (b:Ext H1 H2 H3 H4):Ext H0 H H3 H4 :=
 ⟨a.s.trans b.s,a.s0.trans b.s0,b.sub,λc z n=>b.new c (a.new c z n) (λq=>n (a.s.free q))⟩
theorem Ext.grow (h:Zz H0 H) (s:Zz H H'):Ext H0 H H0 H':=⟨s,.refl _,h.trans s,λ_ z _=>z⟩
theorem Ext.put (h:Zz H0 H) (hp:H p=none):Ext H0 H (upd H0 p o) (upd H p o):=by
 refine ⟨Zz.upd hp,Zz.upd (h.free hp),λb u e=>?_,λb z n=>?_⟩
 ·by_cases hb:b=p
  ·subst hb;rw [Zy] at e ⊢;exact e
  ·rw [Zj hb] at e ⊢;exact h _ _ e
 ·rw [Zj (λy=>n (by rw [y];exact hp))];exact z
inductive MO where
 | lst (xs:List D) | dic (kvs:List (Key × D)) | ins (C dx:Addr) (fs:List (Str × D))
abbrev Mu:=List (Addr × MO)
noncomputable def xj (K:aj) (H0:Hp):MO->HO->Prop
 | .lst xs,o=>∃ vs,o = .lst vs/\Rps K H0 xs vs
 | .dic gs,o=>∃ kvs,o = .dK kvs/\Rks K H0 gs kvs
 | .ins C dx gs,o=>∃ fs,o = .ins C dx fs/\Rfs K H0 gs fs
theorem xj.same {K:aj}(s:Zz H0 H0') (h:xj K H0 m o):xj K H0' m o:=by
 cases m with
 | lst xs=>obtain ⟨vs,e,r⟩:=h;exact ⟨vs,e,r.same s⟩
 | dic xs=>obtain ⟨vs,e,r⟩:=h;exact ⟨vs,e,r.same s⟩
 | ins C dx xs=>obtain ⟨vs,e,r⟩:=h;exact ⟨vs,e,r.same s⟩
inductive Slot where
 | un | v (d:D) | own (xs:List D) | ob (a dx C:Addr) (fs:List (Str × D)) | od (kvs:List (Key × D)) | st (a:Addr) (μ:Mu)
abbrev DSt:=List Slot
noncomputable def Slot.isOwn:Slot->Bool
 | .own _=>true
 | .ob _ _ _ _=>true
 | .od _=>true
 | .st _ _=>true
 | _=>false
noncomputable def Slot.foot:Slot->Option V->Addr->Prop
 | .own _,o,b=>o=some (.ref b)
 | .ob _ _ _ _,o,b=>o=some (.ref b)
 | .od _,o,b=>o=some (.ref b)
 | .st _ μ,_,b=>∃ m,μ.lookup b=some m
 | _,_,_=>False
theorem Slot.Wk {s:Slot}(h:s.foot o b):s.isOwn=true:=by
 cases s with
 | un=>exact h.elim
 | v d=>exact h.elim
 | _=>rfl
noncomputable def Oo (K:aj) (H0 H:Hp):Slot->Option V->Prop
 | .un,_=>True
 | .v d,o=>∃ v,o=some v/\Rp K H0 d v
 | .own xs,o=>∃ a vs,o=some (.ref a)/\H0 a=none/\H a=some (.lst vs)/\Rps K H0 xs vs
 | .ob a dx C gs,o=>∃ fs,o=some (.ref a)/\H0 a=none/\H a=some (.ins C dx fs)/\Rfs K H0 gs fs
 | .od gs,o=>∃ a kvs,o=some (.ref a)/\H0 a=none/\H a=some (.dK kvs)/\Rks K H0 gs kvs
 | .st a μ,o=>o=some (.ref a)/\∀ b m,μ.lookup b=some m->H0 b=none/\∃ u,H b=some u/\xj K H0 m u
structure Cfg (K:aj) (B0 B H0 H:Hp) (σ:St) (ds:DSt):Prop where
 ext:Ext B0 B H0 H
 slot:∀ (i:Nat) s,ds[i]?=some s->Oo K H0 H s ((σ[i]?).getD none)
 young:∀ (i:Nat) s a,ds[i]?=some s->s.foot ((σ[i]?).getD none) a->B a=none
 sep:∀ (i j:Nat) s t a,i≠j->ds[i]?=some s->ds[j]?=some t->s.foot ((σ[i]?).getD none) a->t.foot ((σ[j]?).getD none) a->False
 len:σ.length=ds.length
section
variable {K:aj}{B0 B H0 H H0' H':Hp}{σ:St}{ds:DSt}
theorem Oo.ext (h:Oo K H0 H s o) (e:Ext H0 H H0' H'):Oo K H0' H' s o:=by
 cases s with
 | un=>trivial
 | v d=>obtain ⟨v,e1,h1⟩:=h;exact ⟨v,e1,h1.same e.s0⟩
 | own xs =>
  obtain ⟨a,vs,e1,h1,h2,h3⟩:=h
  exact ⟨a,vs,e1,e.new a h1 (by rw [h2];simp),e.s _ _ h2,h3.same e.s0⟩
 | ob a dx C gs =>
  obtain ⟨fs,e1,h1,h2,h3⟩:=h
  exact ⟨fs,e1,e.new a h1 (by rw [h2];simp),e.s _ _ h2,h3.same e.s0⟩
 | od gs =>
  obtain ⟨a,fs,e1,h1,h2,h3⟩:=h
  exact ⟨a,fs,e1,e.new a h1 (by rw [h2];simp),e.s _ _ h2,h3.same e.s0⟩
 | st a μ =>
  refine ⟨h.1,λb m l=>?_⟩
  obtain ⟨h1,u,h2,h3⟩:=h.2 b m l
  exact ⟨e.new b h1 (by rw [h2];simp),u,e.s _ _ h2,h3.same e.s0⟩
theorem Cfg.sub (c:Cfg K B0 B H0 H σ ds):Zz H0 H:=c.ext.sub
theorem Cfg.go (c:Cfg K B0 B H0 H σ ds) (e:Ext H0 H H0' H'):Cfg K B0 B H0' H' σ ds :=
 ⟨c.ext.trans e,λi s q=>(c.slot i s q).ext e,c.young,c.sep,c.len⟩
theorem Ig (h:i < σ.length) (j:Nat):((σ.set i o)[j]?).getD none=if j=i then o else (σ[j]?).getD none:=by
 by_cases e:j=i
 ·subst e;rw [if_pos rfl,getElem?_set_self h];rfl
 ·rw [if_neg e,getElem?_set_ne (λz=>e z.symm)]
theorem Wi (h:i < ds.length) (j:Nat):(ds.set i s)[j]?=if j=i then some s else ds[j]?:=by
 by_cases e:j=i
 ·subst e;rw [if_pos rfl,getElem?_set_self h]
 ·rw [if_neg e,getElem?_set_ne (λz=>e z.symm)]
theorem Js {l:List α}(h:¬ i < l.length):l.set i a=l:=List.set_eq_of_length_le (by omega)
theorem Cfg.Oq (c:Cfg K B0 B H0 H σ ds) {i:Nat}(q:ds[i]?=some s) (f:s.foot ((σ[i]?).getD none) a):H0 a=none/\H a≠none:=by
 have h:=c.slot i s q
 cases s with
 | own xs =>
  obtain ⟨b,vs,e1,h1,h2,h3⟩:=h
  have f:_=_:=f
  rw [e1] at f
  cases f
  exact ⟨h1,by rw [h2];simp⟩
 | ob b dx C gs =>
  obtain ⟨fs,e1,h1,h2,h3⟩:=h
  have f:_=_:=f
  rw [e1] at f
  cases f
  exact ⟨h1,by rw [h2];simp⟩
 | od gs =>
  obtain ⟨b,fs,e1,h1,h2,h3⟩:=h
  have f:_=_:=f
  rw [e1] at f
  cases f
  exact ⟨h1,by rw [h2];simp⟩
 | st b μ =>
  obtain ⟨m,l⟩:=f
  obtain ⟨h1,u,h2,h3⟩:=h.2 _ _ l
  exact ⟨h1,by rw [h2];simp⟩
 | un=>exact f.elim
 | v d=>exact f.elim
theorem Cfg.lay (c:Cfg K B0 B H0 H σ ds) (i:Nat) (h:Oo K H0 H s o) (hy:∀ a,s.foot o a->B a=none) (hn:∀ a (j:Nat) t,j≠i->ds[j]?=some t->s.foot o a->t.foot ((σ[j]?).getD none) a->False):Cfg K B0 B H0 H (σ.set i o) (ds.set i s):=by
 by_cases hi:i < ds.length
 case neg =>
  rw [Js hi,Js (by rw [c.len];exact hi)]
  exact c
 have hi':i < σ.length:=by rw [c.len];exact hi
 refine ⟨c.ext,λj t q=>?_,λj t a q w=>?_,λj k t u a ne q r w x=>?_,by rw [length_set,length_set];exact c.len⟩
 ·rw [Wi hi] at q
  rw [Ig hi']
  split at q
  ·cases q
   rw [if_pos (by assumption)]
   exact h
  ·rw [if_neg (by assumption)]
   exact c.slot j t q
 ·rw [Wi hi] at q
  rw [Ig hi'] at w
  split at q
  ·cases q
   rw [if_pos (by assumption)] at w
   exact hy a w
  ·rw [if_neg (by assumption)] at w
   exact c.young j t a q w
 ·rw [Wi hi] at q r
  rw [Ig hi'] at w x
  split at q
  ·rename_i z
   cases q
   rw [if_pos z] at w
   have kn:k≠i:=λy=>ne (z.trans y.symm)
   rw [if_neg kn] at r x
   exact hn a k u kn r w x
  ·rename_i z
   rw [if_neg z] at w
   split at r
   ·rename_i y
    cases r
    rw [if_pos y] at x
    exact hn a j t z q x w
   ·rename_i y
    rw [if_neg y] at x
    exact c.sep j k t u a ne q r w x
theorem Cfg.setN (c:Cfg K B0 B H0 H σ ds) (i:Nat) {s:Slot}(hs:s.isOwn=false) (h:Oo K H0 H s o):Cfg K B0 B H0 H (σ.set i o) (ds.set i s) :=
 c.lay i h (λa f=>by rw [Slot.Wk f] at hs;cases hs) λa j t _ _ f=>by rw [Slot.Wk f] at hs;cases hs
theorem Cfg.uZ (c:Cfg K B0 B H0 H σ ds) (i:Nat) (h:Rp K H0 d v):Cfg K B0 B H0 H (σ.set i (some v)) (ds.set i (.v d)):=c.setN i rfl ⟨v,rfl,h⟩
theorem Cfg.unset (c:Cfg K B0 B H0 H σ ds) (i:Nat):Cfg K B0 B H0 H (σ.set i none) (ds.set i .un):=c.setN i rfl trivial
theorem Cfg.newO (c:Cfg K B0 B H0 H σ ds) (i:Nat) {a:Addr}(e:Ext H0 H H0' H') (n:H a=none) (n0:H0' a=none) (h:H' a=some (.lst vs)) (r:Rps K H0' xs vs):Cfg K B0 B H0' H' (σ.set i (some (.ref a))) (ds.set i (.own xs)):=by
 refine (c.go e).lay i (s := .own xs) ⟨a,vs,rfl,n0,h,r⟩ (λb f=>?_) λb j t _ q f g=>?_
 ·have f:some (V.ref a)=some (V.ref b):=f
  cases f
  exact c.ext.s.free n
 ·have f:some (V.ref a)=some (V.ref b):=f
  cases f
  exact (c.Oq q g).2 n
theorem Cfg.newOd (c:Cfg K B0 B H0 H σ ds) (i:Nat) {a:Addr}(e:Ext H0 H H0' H') (n:H a=none) (n0:H0' a=none) (h:H' a=some (.dK vs)) (r:Rks K H0' xs vs):Cfg K B0 B H0' H' (σ.set i (some (.ref a))) (ds.set i (.od xs)):=by
 refine (c.go e).lay i (s := .od xs) ⟨a,vs,rfl,n0,h,r⟩ (λb f=>?_) λb j t _ q f g=>?_
 ·have f:some (V.ref a)=some (V.ref b):=f
  cases f
  exact c.ext.s.free n
 ·have f:some (V.ref a)=some (V.ref b):=f
  cases f
  exact (c.Oq q g).2 n
theorem Cfg.write (c:Cfg K B0 B H0 H σ ds) {i:Nat}(q:ds[i]?=some s) (f:s.foot ((σ[i]?).getD none) a) (hf:∀ b,s'.foot ((σ[i]?).getD none) b->s.foot ((σ[i]?).getD none) b)
  (h:Oo K H0 (upd H a o) s' ((σ[i]?).getD none)):Cfg K B0 B H0 (upd H a o) σ (ds.set i s'):=by
 have hi:i < ds.length:=(List.getElem?_eq_some_iff.mp q).1
 obtain ⟨h0,hn⟩:=c.Oq q f
 have hB:=c.young i s a q f
 refine ⟨⟨λb u z=>?_,c.ext.s0,λb u z=>?_,c.ext.new⟩,λj t r=>?_,λj t b r x=>?_,λj k t u b nj r y x z=>?_,by rw [length_set];exact c.len⟩
 ·rw [Zj (λy=>by rw [y,hB] at z;cases z)]
  exact c.ext.s _ _ z
 ·rw [Zj (λy=>by rw [y,h0] at z;cases z)]
  exact c.sub _ _ z
 ·rw [Wi hi] at r
  split at r
  ·cases r
   rename_i z
   rw [z]
   exact h
  ·rename_i z
   have old:=c.slot j t r
   have na:∀ b,t.foot ((σ[j]?).getD none) b->b≠a:=λb x y=>c.sep j i t s a z r q (y ▸ x) f
   cases t with
   | un=>trivial
   | v d=>exact old
   | own xs =>
    obtain ⟨b,vs,e1,h1,h2,h3⟩:=old
    exact ⟨b,vs,e1,h1,by rw [Zj (na b e1)];exact h2,h3⟩
   | ob b dx C gs =>
    obtain ⟨vs,e1,h1,h2,h3⟩:=old
    exact ⟨vs,e1,h1,by rw [Zj (na b e1)];exact h2,h3⟩
   | od gs =>
    obtain ⟨b,vs,e1,h1,h2,h3⟩:=old
    exact ⟨b,vs,e1,h1,by rw [Zj (na b e1)];exact h2,h3⟩
   | st b μ =>
    refine ⟨old.1,λb' m l=>?_⟩
    obtain ⟨h1,u,h2,h3⟩:=old.2 b' m l
    exact ⟨h1,u,by rw [Zj (na b' ⟨m,l⟩)];exact h2,h3⟩
 ·rw [Wi hi] at r
  split at r
  ·rename_i z
   cases r
   rw [z] at x
   exact c.young i s b q (hf b x)
  ·exact c.young j t b r x
 ·rw [Wi hi] at r y
  split at r
  ·rename_i jz
   cases r
   rw [if_neg (λkz=>nj (jz.trans kz.symm))] at y
   rw [jz] at x
   exact c.sep i k s u b (jz ▸ nj) q y (hf b x) z
  ·split at y
   ·rename_i kz
    cases y
    rw [kz] at z
    exact c.sep j i t s b (kz ▸ nj) r q x (hf b z)
   ·exact c.sep j k t u b nj r y x z
theorem Cfg.push (c:Cfg K B0 B H0 H σ ds) (q:ds[i]?=some (.own xs)):∃ a vs,(σ[i]?).getD none=some (.ref a)/\H a=some (.lst vs)/\Rps K H0 xs vs /\
  ∀ H0' H' us,Ext H0 H H0' H'->Rps K H0' ys us->Cfg K B0 B H0' (upd H' a (.lst us)) σ (ds.set i (.own ys)):=by
 obtain ⟨a,vs,e1,h1,h2,h3⟩:=c.slot i _ q
 refine ⟨a,vs,e1,h2,h3,λH0' H' us e r=>?_⟩
 exact (c.go e).write q e1 (λb f=>f) ⟨a,us,e1,e.new a h1 (by rw [h2];simp),Zy,r⟩
theorem Cfg.pushD (c:Cfg K B0 B H0 H σ ds) (q:ds[i]?=some (.od xs)):∃ a vs,(σ[i]?).getD none=some (.ref a)/\H a=some (.dK vs)/\Rks K H0 xs vs /\
  ∀ H0' H' us,Ext H0 H H0' H'->Rks K H0' ys us->Cfg K B0 B H0' (upd H' a (.dK us)) σ (ds.set i (.od ys)):=by
 obtain ⟨a,vs,e1,h1,h2,h3⟩:=c.slot i _ q
 refine ⟨a,vs,e1,h2,h3,λH0' H' us e r=>?_⟩
 exact (c.go e).write q e1 (λb f=>f) ⟨a,us,e1,e.new a h1 (by rw [h2];simp),Zy,r⟩
end
noncomputable def Slot.peek:Slot->Slot
 | .own xs => .v (.lst xs)
 | .od kvs => .v (.dic kvs)
 | s=>s
mutual
noncomputable def D.imm:D->Bool
 | .tup xs=>D.GX xs
 | .obj _ fs=>D.immf fs
 | .lst _=>false
 | .scr _=>false
 | .dic _=>false
 | _=>true
noncomputable def D.GX:List D->Bool
 | []=>true
 | d::ds=>d.imm && D.GX ds
noncomputable def D.immf:List (Str × D)->Bool
 | []=>true
 | (_,d)::ds=>d.imm && D.immf ds
end
section
variable {K:aj}{H0 H1:Hp}
noncomputable def GY (H0 H1:Hp):Prop:=∀ b o,H1 b=some o->H0 b=some o\/(H0 b=none/\((∃ vs,o = .lst vs)\/∃ kvs,o = .dK kvs))
mutual
theorem Rp.less (l:GY H0 H1):∀ (d:D) {v:V},d.imm=true->Rp K H1 d v->Rp K H0 d v
 | .non,_,_,h=>h
 | .bl _,_,_,h=>h
 | .int _,_,_,h=>h
 | .str _,_,_,h=>h
 | .ty _,_,_,h=>h
 | .rf _,_,_,h=>h
 | .tup xs,_,z,⟨a,vs,e,h1,h2⟩=>⟨a,vs,e,(by
   rcases l _ _ h1 with y | ⟨_,⟨us,y⟩ | ⟨us,y⟩⟩
   ·exact y
   ·cases y
   ·cases y),Rps.less l xs (by unfold D.imm at z;exact z) h2⟩
 | .lst xs,_,z,_=>by unfold D.imm at z;cases z
 | .scr xs,_,z,_=>by unfold D.imm at z;cases z
 | .obj _ gs,_,z,⟨a,dx,fs,e,h1,h2⟩=>⟨a,dx,fs,e,(by
   rcases l _ _ h1 with y | ⟨_,⟨us,y⟩ | ⟨us,y⟩⟩
   ·exact y
   ·cases y
   ·cases y),Rfs.less l gs (by unfold D.imm at z;exact z) h2⟩
 | .dic gs,_,z,_=>by unfold D.imm at z;cases z
 | .exc _,_,_,⟨a,e,h1⟩=>⟨a,e,by
   rcases l _ _ h1 with y | ⟨_,⟨us,y⟩ | ⟨us,y⟩⟩
   ·exact y
   ·cases y
   ·cases y⟩
theorem Rps.less (l:GY H0 H1):∀ (ds:List D) {vs:List V},D.GX ds=true->Rps K H1 ds vs->Rps K H0 ds vs
 | [],_,_,h=>h
 | d::ds,_,z,⟨v,us,e,h1,h2⟩=>by
  unfold D.GX at z
  rw [aF] at z
  exact ⟨v,us,e,Rp.less l d z.1 h1,Rps.less l ds z.2 h2⟩
theorem Rfs.less (l:GY H0 H1):∀ (ds:List (Str × D)) {vs:List (Str × V)},D.immf ds=true->Rfs K H1 ds vs->Rfs K H0 ds vs
 | [],_,_,h=>h
 | (k,d)::ds,_,z,⟨v,us,e,h1,h2⟩=>by
  unfold D.immf at z
  rw [aF] at z
  exact ⟨v,us,e,Rp.less l d z.1 h1,Rfs.less l ds z.2 h2⟩
end
end
noncomputable def peekAt (pk:List Nat) (ds:DSt):DSt:=pk.foldl (λds i=>ds.modify i Slot.peek) ds
section
variable {K:aj}{B0 B H0 H H0' H':Hp}{σ:St}{ds:DSt}
theorem Cfg.frz (c:Cfg K B0 B H0 H σ ds) {i:Nat}(q:ds[i]?=some s) (e1:(σ[i]?).getD none=some (.ref a)) (f:s.foot ((σ[i]?).getD none) a) (h2:H a=some o) (hr:Rp K (upd H0 a o) d (.ref a)) :
  Cfg K B0 B (upd H0 a o) H σ (ds.set i (.v d))/\Zz H0 (upd H0 a o):=by
 have hi:i < ds.length:=(List.getElem?_eq_some_iff.mp q).1
 obtain ⟨h1,hn⟩:=c.Oq q f
 have s01:Zz H0 (upd H0 a o):=Zz.upd h1
 have hB:=c.young i _ a q f
 have sub1:Zz (upd H0 a o) H:=λb o' z=>by
  by_cases hb:b=a
  ·subst hb;rw [Zy] at z;rw [h2];exact z
  ·rw [Zj hb] at z;exact c.sub _ _ z
 refine ⟨⟨⟨c.ext.s,c.ext.s0.trans s01,sub1,λb z n=>?_⟩,λj t r=>?_,λj t b r x=>?_,λj k t u b nj r y x z=>?_,by rw [length_set];exact c.len⟩,s01⟩
 ·rw [Zj (λy=>n (by rw [y];exact hB))]
  exact c.ext.new b z n
 ·rw [Wi hi] at r
  split at r
  ·rename_i z
   cases r
   rw [z,e1]
   exact ⟨.ref a,rfl,hr⟩
  ·rename_i z
   have old:=c.slot j t r
   have na:∀ b,t.foot ((σ[j]?).getD none) b->b≠a:=λb x y=>c.sep j i t _ a z r q (y ▸ x) f
   cases t with
   | un=>trivial
   | v d=>obtain ⟨v,z1,z2⟩:=old;exact ⟨v,z1,z2.same s01⟩
   | own ys =>
    obtain ⟨b,us,f1,f2,f3,f4⟩:=old
    exact ⟨b,us,f1,by rw [Zj (na b f1)];exact f2,f3,f4.same s01⟩
   | ob b dx C gs =>
    obtain ⟨us,f1,f2,f3,f4⟩:=old
    exact ⟨us,f1,by rw [Zj (na b f1)];exact f2,f3,f4.same s01⟩
   | od gs =>
    obtain ⟨b,us,f1,f2,f3,f4⟩:=old
    exact ⟨b,us,f1,by rw [Zj (na b f1)];exact f2,f3,f4.same s01⟩
   | st b μ =>
    refine ⟨old.1,λb' m l=>?_⟩
    obtain ⟨g1,u,g2,g3⟩:=old.2 b' m l
    exact ⟨by rw [Zj (na b' ⟨m,l⟩)];exact g1,u,g2,g3.same s01⟩
 ·rw [Wi hi] at r
  split at r
  ·cases r
   exact x.elim
  ·exact c.young j t b r x
 ·rw [Wi hi] at r y
  split at r
  ·cases r
   exact x.elim
  ·split at y
   ·cases y
    exact z.elim
   ·exact c.sep j k t u b nj r y x z
theorem Cfg.peek1 (c:Cfg K B0 B H0 H σ ds) (i:Nat):∃ H1,Cfg K B0 B H1 H σ (ds.modify i Slot.peek)/\Zz H0 H1/\GY H0 H1/\∀ b,H1 b≠none->H0 b=none->H b≠none:=by
 have triv:ds.modify i Slot.peek=ds->∃ H1,Cfg K B0 B H1 H σ (ds.modify i Slot.peek)/\Zz H0 H1/\GY H0 H1/\∀ b,H1 b≠none->H0 b=none->H b≠none:=λe =>
  ⟨H0,by rw [e];exact c,.refl _,λb o z => .inl z,λb z y=>absurd y z⟩
 cases q:ds[i]? with
 | none=>exact triv (List.modify_eq_self (List.getElem?_eq_none_iff.mp q))
 | some s =>
  have em:ds.modify i Slot.peek=ds.set i s.peek:=by
   refine List.ext_getElem? λj=>?_
   rw [List.getElem?_modify,List.getElem?_set]
   have hi:i < ds.length:=(List.getElem?_eq_some_iff.mp q).1
   by_cases z:i=j
   ·subst z;simp [hi,(List.getElem?_eq_some_iff.mp q).2]
   ·simp [z]
  have hi:i < ds.length:=(List.getElem?_eq_some_iff.mp q).1
  have same:s.peek=s->ds.modify i Slot.peek=ds:=λe=>by
   rw [em,e]
   refine List.ext_getElem? λj=>?_
   rw [Wi hi]
   split
   ·rename_i z;rw [z,q]
   ·rfl
  have fin:∀ {a:Addr}{o:HO},H a=some o->H0 a=none->((∃ vs,o = .lst vs)\/∃ kvs,o = .dK kvs)->GY H0 (upd H0 a o)/\∀ b,(upd H0 a o) b≠none->H0 b=none->H b≠none:=by
   intro a o h2 h1 ho
   refine ⟨λb u z=>?_,λb z y=>?_⟩
   ·by_cases hb:b=a
    ·subst hb
     rw [Zy] at z
     cases z
     exact .inr ⟨h1,ho⟩
    ·rw [Zj hb] at z
     exact .inl z
   ·by_cases hb:b=a
    ·subst hb
     rw [h2]
     simp
    ·rw [Zj hb] at z
     exact absurd y z
  cases s with
  | un=>exact triv (same rfl)
  | v d=>exact triv (same rfl)
  | ob a dx C gs=>exact triv (same rfl)
  | st a μ=>exact triv (same rfl)
  | own xs =>
   obtain ⟨a,vs,e1,h1,h2,h3⟩:=c.slot i _ q
   obtain ⟨c1,s1⟩:=c.frz (d := .lst xs) q e1 e1 h2 ⟨a,vs,rfl,Zy,h3.same (Zz.upd h1)⟩
   obtain ⟨l1,n1⟩:=fin h2 h1 (.inl ⟨_,rfl⟩)
   exact ⟨_,by rw [em];exact c1,s1,l1,n1⟩
  | od xs =>
   obtain ⟨a,vs,e1,h1,h2,h3⟩:=c.slot i _ q
   obtain ⟨c1,s1⟩:=c.frz (d := .dic xs) q e1 e1 h2 ⟨a,vs,rfl,Zy,h3.same (Zz.upd h1)⟩
   obtain ⟨l1,n1⟩:=fin h2 h1 (.inr ⟨_,rfl⟩)
   exact ⟨_,by rw [em];exact c1,s1,l1,n1⟩
theorem Cfg.peekAt (c:Cfg K B0 B H0 H σ ds) (pk:List Nat):∃ H1,Cfg K B0 B H1 H σ (peekAt pk ds)/\Zz H0 H1/\GY H0 H1/\∀ b,H1 b≠none->H0 b=none->H b≠none:=by
 induction pk generalizing H0 ds with
 | nil=>exact ⟨H0,c,.refl _,λb o z => .inl z,λb z y=>absurd y z⟩
 | cons i pk ih =>
  obtain ⟨H1,c1,s1,l1,n1⟩:=c.peek1 i
  obtain ⟨H2,c2,s2,l2,n2⟩:=ih c1
  refine ⟨H2,c2,s1.trans s2,λb o z=>?_,λb z y=>?_⟩
  ·rcases l2 b o z with y | ⟨y,e⟩
   ·exact l1 b o y
   ·exact .inr ⟨s1.free y,e⟩
  ·by_cases q:H1 b=none
   ·exact n2 b z q
   ·exact n1 b q y
theorem Ext.GZ (e:Ext H1 H H0' H') (s:Zz H0 H1) (sub:Zz H0 H) (l:GY H0 H1) (n:∀ b,H1 b≠none->H0 b=none->H b≠none):∃ H0'',Ext H0 H H0'' H'/\GY H0'' H0'/\Zz H0'' H0':=by
 classical
 refine ⟨λb=>if H0 b=none/\H1 b≠none then none else H0' b,⟨e.s,λb o z=>?_,λb o z=>?_,λb z y=>?_⟩,λb o z=>?_,λb o z=>?_⟩
 ·show (if _ then none else H0' b)=_
  rw [if_neg (λy=>by rw [z] at y;cases y.1)]
  exact e.s0 _ _ (s _ _ z)
 ·have z:(if H0 b=none/\H1 b≠none then none else H0' b)=some o:=z
  split at z
  ·cases z
  ·exact e.sub _ _ z
 ·show (if _ then none else H0' b)=_
  split
  ·rfl
  ·rename_i q
   refine e.new b ?_ y
   cases r:H1 b with
   | none=>rfl
   | some o=>exact absurd ⟨z,by rw [r];simp⟩ q
 ·show (if _ then none else H0' b)=_\/(if _ then none else H0' b)=_/\_
  split
  ·rename_i q
   right
   refine ⟨rfl,?_⟩
   cases r:H1 b with
   | none=>exact absurd r q.2
   | some u =>
    rcases l b u r with y | ⟨_,y⟩
    ·rw [q.1] at y;cases y
    ·have:=e.s0 _ _ r
     rw [z] at this
     cases this
     exact y
  ·exact .inl z
 ·have z:(if H0 b=none/\H1 b≠none then none else H0' b)=some o:=z
  split at z
  ·cases z
  ·exact z
end
abbrev DE:=DSt->(D->Prop)->(Addr->Prop)->Prop
abbrev DT:=DSt->(Bool->Prop)->(Addr->Prop)->Prop
abbrev DA:=DSt->(List D->Prop)->(Addr->Prop)->Prop
abbrev DO:=DSt->(Option Int->Prop)->(Addr->Prop)->Prop
abbrev KE (K:aj) (H0 H:Hp) (q:D->Prop) (Q:VK):Prop:=∀ v d H0' H',Ext H0 H H0' H'->Rp K H0' d v->q d->Q v H'
abbrev KX (XE:St->XK) (σ:St) (H:Hp) (x:Addr->Prop):Prop:=∀ C H',Zz H H'->x C->XE σ (.ref C) none H'
theorem KX.go (k:KX XE σ H x) (s:Zz H H1):KX XE σ H1 x:=λC H' s' h=>k C H' (s.trans s') h
theorem KE.go {K:aj}(k:KE K H0 H q Q) (e:Ext H0 H H1 H2):KE K H1 H2 q Q:=λv d H0' H' e' r h=>k v d H0' H' (e.trans e') r h
noncomputable def Den (K:aj) (XE:St->XK) (te:TE) (de:DE):Prop:=∀ {B0 B H0 H:Hp}{σ:St}{ds:DSt}{q:D->Prop}{x:Addr->Prop}{Q:VK},Cfg K B0 B H0 H σ ds->de ds q x->KE K H0 H q Q->KX XE σ H x->te σ H Q
noncomputable def xl (K:aj) (XE:St->XK) (te:TT) (de:DT):Prop:=∀ {B0 B H0 H:Hp}{σ:St}{ds:DSt}{q:Bool->Prop}{x:Addr->Prop}{Q:Bool->Hp->Prop},Cfg K B0 B H0 H σ ds->de ds q x->(∀ b H0' H',Ext H0 H H0' H'->q b->Q b H')->KX XE σ H x->te σ H Q
noncomputable def DenA (K:aj) (XE:St->XK) (te:TA) (de:DA):Prop:=∀ {B0 B H0 H:Hp}{σ:St}{ds:DSt}{q:List D->Prop}{x:Addr->Prop}{Q:List V->Hp->Prop},Cfg K B0 B H0 H σ ds->de ds q x->(∀ vs xs H0' H',Ext H0 H H0' H'->Rps K H0' xs vs->q xs->Q vs H')->KX XE σ H x->te σ H Q
noncomputable def DenO (K:aj) (XE:St->XK) (te:TO) (de:DO):Prop:=∀ {B0 B H0 H:Hp}{σ:St}{ds:DSt}{q:Option Int->Prop}{x:Addr->Prop}{Q:Option Int->Hp->Prop},Cfg K B0 B H0 H σ ds->de ds q x->(∀ i H0' H',Ext H0 H H0' H'->q i->Q i H')->KX XE σ H x->te σ H Q
structure JE (X:Cx) (XE:St->XK) (e:Expr) (de:DE):Prop where
 ex:∃ te,PE X e te/\Den X.K XE te de
structure JT (X:Cx) (XE:St->XK) (e:Expr) (de:DT):Prop where
 ex:∃ te,PT X e te/\xl X.K XE te de
structure JW (X:Cx) (XE:St->XK) (e:Expr) (de:DT):Prop where
 ex:∃ te,PW X e te/\xl X.K XE te de
structure JAs (X:Cx) (XE:St->XK) (es:List Expr) (de:DA):Prop where
 ex:∃ te,PA X es te/\DenA X.K XE te de
structure JO (X:Cx) (XE:St->XK) (e:Option Expr) (de:DO):Prop where
 ex:∃ te,PO X e te/\DenO X.K XE te de
section
noncomputable def sV:Option Slot->(D->Prop)->Prop
 | some (.v d),q=>q d
 | _,_=>False
theorem sV_ex (h:sV s q):∃ d,s=some (.v d)/\q d:=by
 unfold sV at h;split at h
 ·exact ⟨_,rfl,h⟩
 ·exact h.elim
noncomputable def sO:Option Slot->(List D->Prop)->Prop
 | some (.own d),q=>q d
 | _,_=>False
theorem zS (h:sO s q):∃ d,s=some (.own d)/\q d:=by
 unfold sO at h;split at h
 ·exact ⟨_,rfl,h⟩
 ·exact h.elim
noncomputable def sS:Option Slot->(Addr->Mu->Prop)->Prop
 | some (.st a μ),q=>q a μ
 | _,_=>False
theorem tj (h:sS s q):∃ a μ,s=some (.st a μ)/\q a μ:=by
 unfold sS at h;split at h
 ·exact ⟨_,_,rfl,h⟩
 ·exact h.elim
noncomputable def aB:D->(Bool->Prop)->Prop
 | .bl b,q=>q b
 | _,_=>False
theorem EI (h:aB d q):∃ b,d = .bl b/\q b:=by
 unfold aB at h;split at h
 ·exact ⟨_,rfl,h⟩
 ·exact h.elim
noncomputable def aI:D->(Int->Prop)->Prop
 | .int b,q=>q b
 | _,_=>False
theorem tm (h:aI d q):∃ b,d = .int b/\q b:=by
 unfold aI at h;split at h
 ·exact ⟨_,rfl,h⟩
 ·exact h.elim
noncomputable def aT:D->(List D->Prop)->Prop
 | .tup b,q=>q b
 | _,_=>False
theorem aT_ex (h:aT d q):∃ b,d = .tup b/\q b:=by
 unfold aT at h;split at h
 ·exact ⟨_,rfl,h⟩
 ·exact h.elim
noncomputable def lC:List D->(D->List D->Prop)->Prop
 | d::ds,q=>q d ds
 | _,_=>False
theorem zT (h:lC d q):∃ a as,d=a::as/\q a as:=by
 unfold lC at h;split at h
 ·exact ⟨_,_,rfl,h⟩
 ·exact h.elim
noncomputable def lz:Nat->List D->Prop->Prop
 | 0,[],p=>p
 | n + 1,_::xs,p=>lz n xs p
 | _,_,_=>False
theorem Ga:∀ {n:Nat}{xs:List D}{p:Prop},lz n xs p->xs.length=n/\p
 | 0,[],_,h=>⟨rfl,h⟩
 | n + 1,_::xs,_,h=>⟨congrArg (· + 1) (Ga (n:=n) (xs:=xs) h).1,(Ga (n:=n) (xs:=xs) h).2⟩
 | 0,_::_,_,h=>h.elim
 | _ + 1,[],_,h=>h.elim
noncomputable def pkO:List Nat->D->Prop->Prop
 | [],_,p=>p
 | _,d,p=>d.imm=true/\p
theorem Qb (h:pkO pk d p):(pk=[]\/d.imm=true)/\p:=by
 cases pk with
 | nil=>exact ⟨.inl rfl,h⟩
 | cons a as=>exact ⟨.inr h.1,h.2⟩
theorem zm_c:(a::l).map f=f a::l.map f:=rfl
theorem zm_n:([]:List α).map f=[]:=rfl
theorem zn_t:(!true)=false:=rfl
theorem zn_f:(!false)=true:=rfl
theorem zi_t:(if true=true then p else q)=p:=rfl
theorem zi_f:(if false=true then p else q)=q:=rfl
theorem zh_c:(a::l).modifyHead f=f a::l:=rfl
theorem zf_c:(a::l).foldl f b=l.foldl f (f b a):=rfl
theorem zf_n:([]:List α).foldl f b=b:=rfl
theorem z_sV:sV (some (.v d)) q=q d:=rfl
theorem z_sO:sO (some (.own d)) q=q d:=rfl
theorem z_sS:sS (some (.st a μ)) q=q a μ:=rfl
theorem z_aB:aB (.bl b) q=q b:=rfl
theorem z_aI:aI (.int b) q=q b:=rfl
theorem z_aT:aT (.tup b) q=q b:=rfl
theorem z_lC:lC (d::ds) q=q d ds:=rfl
theorem z_lz:lz 0 [] p=p:=rfl
theorem z_lzS:lz (n + 1) (d::xs) p=lz n xs p:=rfl
theorem z_pk:pkO [] d p=p:=rfl
theorem z_pkS:pkO (a::as) d p=(d.imm=true/\p):=rfl
noncomputable def dVar (i:Nat):DE:=λds q _=>sV ds[i]? q
noncomputable def dC (d:D):DE:=λ_ q _=>q d
theorem WB (h:o.getD none=some v):o=some (some v):=by
 cases o with
 | none=>cases h
 | some o=>exact congrArg some h
theorem jv (i:Nat) (hN:autoParam (X.N[i]?=some x) auR) (hv:Vis X.env.scope x:=by first | exact Or.inl rfl | exact Or.inr (Or.inl rfl) | exact Or.inr (Or.inr rfl)) (hd:autoParam ((x == ("__debug__" : Str))=false) auD)
  (hcd:autoParam ((x == ("__classdict__" : Str))=false) auD):JE X XE (.Name x pos) (dVar i) :=
 ⟨_,pv i hN hv hd hcd,λc h k _=>by
  obtain ⟨d,e,h⟩:=sV_ex h
  obtain ⟨v,e1,r⟩:=c.slot i _ e
  exact ⟨v,WB e1,k v d _ _ (.refl c.sub) r h⟩⟩
theorem Zd:JE X XE (.Constant (.int i) j pos) (dC (.int i)):=⟨_,kh,λc h k _=>k _ (.int i) _ _ (.refl c.sub) rfl h⟩
theorem TZ:JE X XE (.Constant (.bool b) j pos) (dC (.bl b)):=⟨_,pe_bl,λc h k _=>k _ (.bl b) _ _ (.refl c.sub) rfl h⟩
theorem Yt:JE X XE (.Constant (.str x) j pos) (dC (.str x)):=⟨_,kr,λc h k _=>k _ (.str x) _ _ (.refl c.sub) rfl h⟩
theorem UJ:JE X XE (.Constant .none j pos) (dC .non):=⟨_,kj,λc h k _=>k _ .non _ _ (.refl c.sub) rfl h⟩
theorem Xo (d:D) (hg:Gl X x) (hm:X.mg x=some u) (r:RelV v u) (hr:∀ K H,Rp K H d v) (hd:autoParam ((x == ("__debug__" : Str))=false) auD):JE X XE (.Name x pos) (dC d) :=
 ⟨_,pd hg hm r hd,λc h k _=>k _ _ _ _ (.refl c.sub) (hr _ _) h⟩
theorem Wp (hg:Gl X x) (hm:X.mg x=none) (hv:bootBuiltins x=some (.type n)) (hn:autoParam (x≠("__name__" : Str)) auD) (hd:autoParam ((x == ("__debug__" : Str))=false) auD):JE X XE (.Name x pos) (dC (.ty n)) :=
 ⟨_,ph (v := .ty n) hg hm hv rfl hn hd,λc h k _=>k _ (.ty n) _ _ (.refl c.sub) rfl h⟩
noncomputable def dNil:DA:=λ_ q _=>q []
noncomputable def zU (da:DE) (dr:DA):DA:=λds q x=>da ds (λa=>dr ds (λas=>q (a::as)) x) x
theorem Zb:JAs X XE [] dNil:=⟨_,Oi,λc h k _=>k _ [] _ _ (.refl c.sub) rfl h⟩
theorem Zc (ha:JE X XE e da) (hr:JAs X XE es dr) (h:autoParam (noStar e=true) auR):JAs X XE (e::es) (zU da dr):=by
 obtain ⟨ta,p1,d1⟩:=ha.ex
 obtain ⟨tr,p2,d2⟩:=hr.ex
 refine ⟨_,ED p1 p2 h,λc h k kx=>?_⟩
 refine d1 c h (λv a H1 H2 e r h=>?_) kx
 exact d2 (c.go e) h (λvs as H3 H4 e' r' h'=>k _ (a::as) _ _ (e.trans e') ⟨v,vs,rfl,r.same e'.s0,r'⟩ h') (kx.go e.s)
noncomputable def EJ (K:aj) (r:R2) (g:D->D->(D->Prop)->Prop):Prop:=∀ {H0 H:Hp}{x y:V}{a b:D}{q:D->Prop}{Q:VK},Zz H0 H->Rp K H0 a x->Rp K H0 b y->g a b q->KE K H0 H q Q->r x y H Q
structure JOp (X:Cx) (f:Value->Value->Sem Value) (g:D->D->(D->Prop)->Prop):Prop where
 ex:∃ r,OpR X f r/\EJ X.K r g
noncomputable def dOp (g:D->D->(D->Prop)->Prop) (da db:DE):DE:=λds q x=>da ds (λa=>db ds (λb=>g a b q) x) x
theorem Fb {K:aj}(d1:Den K XE ta da) (d2:Den K XE tb db) (l:EJ K r g):Den K XE (tOp r ta tb) (dOp g da db):=λc h k kx =>
 d1 c h (λv a H1 H2 e r1 h=>d2 (c.go e) h (λu b H3 H4 e' r2 h'=>l (c.go (e.trans e')).sub (r1.same e'.s0) r2 h' (k.go (e.trans e'))) (kx.go e.s)) kx
theorem Zi (ho:JOp X (binaryOp op) g) (ha:JE X XE a da) (hb:JE X XE b db):JE X XE (.BinOp a op b pos) (dOp g da db):=by
 obtain ⟨r,o,l⟩:=ho.ex
 obtain ⟨ta,p1,d1⟩:=ha.ex
 obtain ⟨tb,p2,d2⟩:=hb.ex
 exact ⟨_,ub o p1 p2,Fb d1 d2 l⟩
theorem RH (ho:JOp X (compareOp op) g) (ha:JE X XE a da) (hb:JE X XE b db) (hm:behindInMarks op b=false):JE X XE (.Compare a [op] [b] pos) (dOp g da db):=by
 obtain ⟨r,o,l⟩:=ho.ex
 obtain ⟨ta,p1,d1⟩:=ha.ex
 obtain ⟨tb,p2,d2⟩:=hb.ex
 exact ⟨_,pC o p1 p2 hm,Fb d1 d2 l⟩
noncomputable def tq (g g':D->D->(D->Prop)->Prop) (da db dc:DE):DE:=λds q x=>da ds (λa=>db ds (λb=>g a b λz=>aB z λk=>if k=true then dc ds (λc=>g' b c q) x else q (.bl false)) x) x
noncomputable def dB (de:DE):DT:=λds q x=>de ds (λd=>aB d q) x
theorem EK {K:aj}(d:Den K XE te de):xl K XE (ud te) (dB de):=λc h k kx =>
 d c h (λv a H1 H2 e r zq=>by obtain ⟨b,z,hb⟩:=EI zq;subst z;exact ⟨b,r,k b _ _ e hb⟩) kx
theorem Zn (ho:JOp X (compareOp op) g) (ha:JE X XE a da) (hb:JE X XE b db) (hm:behindInMarks op b=false):JT X XE (.Compare a [op] [b] pos) (dB (dOp g da db)):=by
 obtain ⟨r,o,l⟩:=ho.ex
 obtain ⟨ta,p1,d1⟩:=ha.ex
 obtain ⟨tb,p2,d2⟩:=hb.ex
 exact ⟨_,pD o p1 p2 hm,EK (Fb d1 d2 l)⟩
theorem NM {XE:St->XK}{g g':D->D->(D->Prop)->Prop}(ho:JOp X (compareOp op) g) (ho':JOp X (compareOp op') g') (ha:JE X XE a da) (hb:JE X XE b db) (hc:JE X XE c dc)
  (hm:lastMarks [op,op'] [b,c]=false:=by with_unfolding_all rfl):JT X XE (.Compare a [op,op'] [b,c] pos) (dB (tq g g' da db dc)):=by
 obtain ⟨r,o,l⟩:=ho.ex
 obtain ⟨r',o',l'⟩:=ho'.ex
 obtain ⟨ta,p1,d1⟩:=ha.ex
 obtain ⟨tb,p2,d2⟩:=hb.ex
 obtain ⟨tc,p3,d3⟩:=hc.ex
 refine ⟨_,ue o o' p1 p2 p3 hm,EK λc h k kx=>?_⟩
 refine d1 c h (λv a H1 H2 e r1 h=>d2 (c.go e) h (λu b H3 H4 e' r2 h'=>?_) (kx.go e.s)) kx
 refine l (c.go (e.trans e')).sub (r1.same e'.s0) r2 h' λz d H5 H6 e2 r3 zq=>?_
 obtain ⟨kk,ek,hk⟩:=EI zq
 subst ek
 refine ⟨kk,r3,?_⟩
 have e3:=(e.trans e').trans e2
 cases kk with
 | true =>
  rw [if_pos rfl] at hk ⊢
  exact d3 (c.go e3) hk (λw' cc H7 H8 e4 r4 h4=>l' (c.go (e3.trans e4)).sub (r2.same (e2.trans e4).s0) r4 h4 (k.go (e3.trans e4))) (kx.go e3.s)
 | false =>
  rw [if_neg aD] at hk ⊢
  exact k _ (.bl false) _ _ e3 rfl hk
noncomputable def D.tru:D->(Bool->Prop)->Prop
 | .non,q=>q false
 | .bl b,q=>q b
 | .int i,q=>q (i != 0)
 | .str y,q=>y.length<=aA/\q ((y.length:Int) != 0)
 | .lst xs,q=>q (!xs.isEmpty)
 | .scr xs,q=>q (!xs.isEmpty)
 | .tup xs,q=>q (!xs.isEmpty)
 | _,_=>False
theorem Rps.empty {K:aj}(h:Rps K H xs vs):vs.isEmpty=xs.isEmpty:=by
 cases xs with
 | nil=>rw [show vs=[] from h];rfl
 | cons d ds=>obtain ⟨v,us,rfl,_⟩:=h;rfl
theorem Rps.length {K:aj}:∀ {xs:List D}{vs:List V},Rps K H xs vs->vs.length=xs.length
 | [],_,h=>by rw [show _=[] from h];rfl
 | d::ds,_,⟨v,us,e,_,h⟩=>by rw [e,length_cons,length_cons,Rps.length h]
noncomputable def dTru (de:DE):DT:=λds q x=>de ds (λd=>d.tru q) x
theorem tB {K:aj}(s:Zz H0 H) (r:Rp K H0 d v) (h:d.tru q):∃ b,TruV K v H b/\q b:=by
 cases d with
 | non=>rw [show v = .non from r];exact ⟨false,rfl,h⟩
 | bl b=>rw [show v = .bl b from r];exact ⟨b,rfl,h⟩
 | int i=>rw [show v = .int i from r];exact ⟨_,rfl,h⟩
 | str y=>rw [show v = .str y from r];exact ⟨_,⟨h.1,rfl⟩,h.2⟩
 | lst xs =>
  obtain ⟨a,vs,rfl,h1,h2⟩:=r
  exact ⟨_,.inl ⟨vs,SqL.of (s _ _ h1),rfl⟩,by rw [h2.empty];exact h⟩
 | scr xs =>
  obtain ⟨a,vs,rfl,h1,h2⟩:=r
  exact ⟨_,.inl ⟨vs,s.seq h1,rfl⟩,by rw [h2.empty];exact h⟩
 | tup xs =>
  obtain ⟨a,vs,rfl,h1,h2⟩:=r
  exact ⟨_,.inr (.inl ⟨vs,SqT.of (s _ _ h1),rfl⟩),by rw [h2.empty];exact h⟩
 | _=>exact h.elim
end
section
theorem ZS (h:JE X XE e de) (he:∀ whole,isTrue e X.env whole=(do let v <- whole;standAt e.pos;holding [v] (truthy v)):=by intro _;rfl):JT X XE e (dTru de):=by
 obtain ⟨te,p,d⟩:=h.ex
 refine ⟨_,uf p he,λc h k kx=>d c h (λv a H1 H2 e r h=>?_) kx⟩
 obtain ⟨b,h1,h2⟩:=tB (c.go e).sub r h
 exact ⟨b,h1,k b _ _ e h2⟩
noncomputable def dNot (d:DT):DT:=λds q x=>d ds (λb=>q (!b)) x
noncomputable def dAnd (d e:DT):DT:=λds q x=>d ds (λb=>if b=true then e ds q x else q false) x
noncomputable def dOr (d e:DT):DT:=λds q x=>d ds (λb=>if b=true then q true else e ds q x) x
theorem Yk (h:JT X XE a d):JT X XE (.UnaryOp .Not a pos) (dNot d):=by
 obtain ⟨te,p,d⟩:=h.ex
 exact ⟨_,ky p,λc h k kx=>d c h (λb H1 H2 e hb=>k _ _ _ e hb) kx⟩
theorem WX (h:JT X XE a d):JW X XE (.BoolOp .And [a] pos) d:=by
 obtain ⟨te,p,d⟩:=h.ex
 exact ⟨_,pw_and1 p,d⟩
theorem Ub (h:JT X XE a d):JW X XE (.BoolOp .Or [a] pos) d:=by
 obtain ⟨te,p,d⟩:=h.ex
 exact ⟨_,pw_or1 p,d⟩
theorem Ts {rest:List Expr}(ha:JT X XE a d) (hb:JW X XE (.BoolOp .And (b::rest) pos) e):JW X XE (.BoolOp .And (a::b::rest) pos) (dAnd d e):=by
 obtain ⟨ta,p1,d1⟩:=ha.ex
 obtain ⟨tb,p2,d2⟩:=hb.ex
 refine ⟨_,pw_and p1 p2,λc h k kx=>d1 c h (λb H1 H2 e hb=>?_) kx⟩
 cases b with
 | true =>
  rw [if_pos rfl] at hb ⊢
  exact d2 (c.go e) hb (λb' H3 H4 e' h'=>k _ _ _ (e.trans e') h') (kx.go e.s)
 | false =>
  rw [if_neg aD] at hb ⊢
  exact k _ _ _ e hb
theorem Sa {rest:List Expr}(ha:JT X XE a d) (hb:JW X XE (.BoolOp .Or (b::rest) pos) e):JW X XE (.BoolOp .Or (a::b::rest) pos) (dOr d e):=by
 obtain ⟨ta,p1,d1⟩:=ha.ex
 obtain ⟨tb,p2,d2⟩:=hb.ex
 refine ⟨_,pw_or p1 p2,λc h k kx=>d1 c h (λb H1 H2 e hb=>?_) kx⟩
 cases b with
 | true =>
  rw [if_pos rfl] at hb ⊢
  exact k _ _ _ e hb
 | false =>
  rw [if_neg aD] at hb ⊢
  exact d2 (c.go e) hb (λb' H3 H4 e' h'=>k _ _ _ (e.trans e') h') (kx.go e.s)
theorem Tt (h:JW X XE e d):JT X XE e d:=by
 obtain ⟨te,p,d⟩:=h.ex
 exact ⟨_,p.pt,d⟩
noncomputable def mR (da db:DE):DE:=λds q x=>da ds (λa=>aB a λk=>if k=true then db ds q x else q (.bl false)) x
noncomputable def dOrV (da db:DE):DE:=λds q x=>da ds (λa=>aB a λk=>if k=true then q (.bl true) else db ds q x) x
noncomputable def mS (da:DE):DE:=λds q x=>da ds (λa=>aB a λk=>q (.bl (!k))) x
theorem Fd (h:JE X XE a d):JE X XE (.BoolOp op [a] pos) d:=by
 obtain ⟨te,p,d⟩:=h.ex
 exact ⟨_,kH p,d⟩
theorem Bq {rest:List Expr}(ha:JE X XE a da) (hb:JE X XE (.BoolOp .And (b::rest) pos) db):JE X XE (.BoolOp .And (a::b::rest) pos) (mR da db):=by
 obtain ⟨ta,p1,d1⟩:=ha.ex
 obtain ⟨tb,p2,d2⟩:=hb.ex
 refine ⟨_,kI p1 p2,λc h k kx=>d1 c h (λv a H1 H2 e r zq=>?_) kx⟩
 obtain ⟨b,z,hb⟩:=EI zq
 subst z
 refine ⟨b,r,?_⟩
 cases b with
 | true =>
  rw [if_pos rfl] at hb ⊢
  exact d2 (c.go e) hb (k.go e) (kx.go e.s)
 | false =>
  rw [if_neg aD] at hb ⊢
  exact k _ (.bl false) _ _ e rfl hb
theorem mU {rest:List Expr}(ha:JE X XE a da) (hb:JE X XE (.BoolOp .Or (b::rest) pos) db):JE X XE (.BoolOp .Or (a::b::rest) pos) (dOrV da db):=by
 obtain ⟨ta,p1,d1⟩:=ha.ex
 obtain ⟨tb,p2,d2⟩:=hb.ex
 refine ⟨_,pe_or p1 p2,λc h k kx=>d1 c h (λv a H1 H2 e r zq=>?_) kx⟩
 obtain ⟨b,z,hb⟩:=EI zq
 subst z
 refine ⟨b,r,?_⟩
 cases b with
 | true =>
  rw [if_pos rfl] at hb ⊢
  exact k _ (.bl true) _ _ e rfl hb
 | false =>
  rw [if_neg aD] at hb ⊢
  exact d2 (c.go e) hb (k.go e) (kx.go e.s)
theorem jO (ha:JE X XE a da):JE X XE (.UnaryOp .Not a pos) (mS da):=by
 obtain ⟨ta,p1,d1⟩:=ha.ex
 refine ⟨_,kJ p1,λc h k kx=>d1 c h (λv a H1 H2 e r zq=>?_) kx⟩
 obtain ⟨b,z,hb⟩:=EI zq
 subst z
 exact ⟨b,r,k _ (.bl (!b)) _ _ e rfl hb⟩
noncomputable def dIfE (c:DT) (da db:DE):DE:=λds q x=>c ds (λb=>if b=true then da ds q x else db ds q x) x
theorem je_if (hc:JT X XE c dc) (ha:JE X XE a da) (hb:JE X XE b db):JE X XE (.IfExp c a b pos) (dIfE dc da db):=by
 obtain ⟨tc,p0,d0⟩:=hc.ex
 obtain ⟨ta,p1,d1⟩:=ha.ex
 obtain ⟨tb,p2,d2⟩:=hb.ex
 refine ⟨_,vV p0 p1 p2,λc h k kx=>d0 c h (λb H1 H2 e hb=>?_) kx⟩
 cases b with
 | true =>
  rw [if_pos rfl] at hb ⊢
  exact d1 (c.go e) hb (k.go e) (kx.go e.s)
 | false =>
  rw [if_neg aD] at hb ⊢
  exact d2 (c.go e) hb (k.go e) (kx.go e.s)
noncomputable def dTup (da:DA):DE:=λds q x=>da ds (λxs=>xs.length<=aA/\q (.tup xs)) x
noncomputable def dLst (da:DA):DE:=λds q x=>da ds (λxs=>xs.length<=aA/\q (.lst xs)) x
theorem Ot {K:aj}(r:Rps K H0 xs vs) (h:H0 p=none):Rp K (upd H0 p (.tup vs)) (.tup xs) (.ref p):=⟨p,vs,rfl,Zy,r.same (Zz.upd h)⟩
theorem Vv {K:aj}(r:Rps K H0 xs vs) (h:H0 p=none):Rp K (upd H0 p (.lst vs)) (.lst xs) (.ref p):=⟨p,vs,rfl,Zy,r.same (Zz.upd h)⟩
theorem ZW (h:JAs X XE es da):JE X XE (.Tuple es x1 pos) (dTup da):=by
 obtain ⟨ta,p1,d1⟩:=h.ex
 refine ⟨_,jj p1,λc h k kx=>d1 c h (λvs xs H1 H2 e r hb=>⟨by rw [r.length];exact hb.1,λp hp=>?_⟩) kx⟩
 exact k _ (.tup xs) _ _ (e.trans (.put e.sub hp)) (Ot r (e.sub.free hp)) hb.2
theorem Vw (h:JAs X XE es da):JE X XE (.List es pos) (dLst da):=by
 obtain ⟨ta,p1,d1⟩:=h.ex
 refine ⟨_,uo p1,λc h k kx=>d1 c h (λvs xs H1 H2 e r hb=>⟨by rw [r.length];exact hb.1,λp hp=>?_⟩) kx⟩
 exact k _ (.lst xs) _ _ (e.trans (.put e.sub hp)) (Vv r (e.sub.free hp)) hb.2
theorem Rps.get {K:aj}:∀ {xs:List D}{vs:List V}{i:Nat}{d:D},Rps K H xs vs->xs[i]?=some d->∃ v,vs[i]?=some v/\Rp K H d v
 | [],_,_,_,_,e=>by simp at e
 | d::ds,_,0,_,⟨v,us,e,h,_⟩,q=>by
  simp at q
  subst q e
  exact ⟨v,rfl,h⟩
 | d::ds,_,i + 1,_,⟨v,us,e,_,h⟩,q=>by
  subst e
  obtain ⟨w,h1,h2⟩:=Rps.get (i:=i) h (by simpa using q)
  exact ⟨w,by simpa using h1,h2⟩
theorem Rps.app {K:aj}:∀ {xs ys:List D}{vs us:List V},Rps K H xs vs->Rps K H ys us->Rps K H (xs++ys) (vs++us)
 | [],_,_,_,e,h=>by rw [show _=[] from e];exact h
 | d::ds,_,_,_,⟨v,ws,e,h,h'⟩,k=>by
  subst e
  exact ⟨v,_,rfl,h,Rps.app h' k⟩
theorem Rps.drop {K:aj}:∀ {xs:List D}{vs:List V}(n:Nat),Rps K H xs vs->Rps K H (xs.drop n) (vs.drop n)
 | _,_,0,h=>h
 | [],_,n + 1,h=>by rw [show _=[] from h];rfl
 | d::ds,_,n + 1,⟨v,ws,e,_,h⟩=>by
  subst e
  exact Rps.drop n h
theorem Rps.take {K:aj}:∀ {xs:List D}{vs:List V}(n:Nat),Rps K H xs vs->Rps K H (xs.take n) (vs.take n)
 | _,_,0,_=>rfl
 | [],_,n + 1,h=>by rw [show _=[] from h];rfl
 | d::ds,_,n + 1,⟨v,ws,e,h,h'⟩=>by
  subst e
  exact ⟨v,_,rfl,h,Rps.take n h'⟩
theorem Rps.rev {K:aj}:∀ {xs:List D}{vs:List V},Rps K H xs vs->Rps K H xs.reverse vs.reverse
 | [],_,h=>by rw [show _=[] from h];rfl
 | d::ds,_,⟨v,ws,e,h,h'⟩=>by
  subst e
  rw [reverse_cons,reverse_cons]
  exact Rps.app (Rps.rev h') ⟨v,[],rfl,h,rfl⟩
theorem Rps.snoc {K:aj}(h:Rps K H xs vs) (r:Rp K H d v):Rps K H (xs++[d]) (vs++[v]):=h.app ⟨v,[],rfl,r,rfl⟩
noncomputable def D.flat:D->Bool
 | .non=>true
 | .bl _=>true
 | .int _=>true
 | .str _=>true
 | _=>false
noncomputable def D.toV:D->V
 | .bl b => .bl b
 | .int i => .int i
 | .str x => .str x
 | .ty n => .ty n
 | .rf a => .ref a
 | _ => .non
theorem Sw {K:aj}(f:d.flat=true) (r:Rp K H d v):v=d.toV/\UI v=true:=by
 cases d with
 | non=>rw [show v = .non from r];exact ⟨rfl,rfl⟩
 | bl b=>rw [show v = .bl b from r];exact ⟨rfl,rfl⟩
 | int i=>rw [show v = .int i from r];exact ⟨rfl,rfl⟩
 | str x=>rw [show v = .str x from r];exact ⟨rfl,rfl⟩
 | _=>cases f
theorem Ih {K:aj}:∀ {xs:List D}{vs:List V},xs.all D.flat=true->Rps K H xs vs->vs=xs.map D.toV/\vs.all UI=true
 | [],_,_,r=>by rw [show _=[] from r];exact ⟨rfl,rfl⟩
 | d::ds,_,f,⟨v,us,e,h,h'⟩=>by
  rw [all_cons,aF] at f
  obtain ⟨e1,f1⟩:=Sw f.1 h
  obtain ⟨e2,f2⟩:=Ih f.2 h'
  subst e
  exact ⟨by rw [e2,e1];rfl,by rw [all_cons,f1,f2];rfl⟩
noncomputable def Br:D->D->(D->Prop)->Prop
 | .int i,.int j=>λq=>q (.int (i + j))
 | .str i,.str j=>λq=>i.length + j.length<=aA/\q (.str (i++j))
 | .lst xs,.lst ys=>λq=>xs.length + ys.length<=aA/\q (.lst (xs++ys))
 | .scr xs,.lst ys=>λq=>xs.length + ys.length<=aA/\q (.lst (xs++ys))
 | .tup xs,.tup ys=>λq=>xs≠[]/\xs.length + ys.length<=aA/\q (.tup (xs++ys))
 | _,_=>λ_=>False
theorem ZJ {X:Cx}:JOp X (binaryOp .Add) Br:=by
 refine ⟨_,kZ.or (CQ.or (zL.or pK)),λ{H0 H x y a b q Q} s ra rb h k=>?_⟩
 unfold Br at h
 split at h
 ·rename_i i j
  rw [show x = .int i from ra,show y = .int j from rb]
  exact .inl ⟨i,j,rfl,rfl,k _ (.int (i + j)) _ _ (.refl s) rfl h⟩
 ·rename_i i j
  rw [show x = .str i from ra,show y = .str j from rb]
  exact .inr (.inl ⟨i,j,rfl,rfl,h.1,k _ (.str (i++j)) _ _ (.refl s) rfl h.2⟩)
 ·obtain ⟨a1,vs,rfl,h1,h2⟩:=ra
  obtain ⟨b1,us,rfl,h3,h4⟩:=rb
  refine .inr (.inr (.inl ⟨a1,b1,vs,us,rfl,rfl,SqL.of (s _ _ h1),SqL.of (s _ _ h3),by rw [h2.length,h4.length];exact h.1,λp hp=>?_⟩))
  exact k _ (.lst _) _ _ (.put s hp) (Vv (h2.app h4) (s.free hp)) h.2
 ·obtain ⟨a1,vs,rfl,h1,h2⟩:=ra
  obtain ⟨b1,us,rfl,h3,h4⟩:=rb
  refine .inr (.inr (.inl ⟨a1,b1,vs,us,rfl,rfl,s.seq h1,SqL.of (s _ _ h3),by rw [h2.length,h4.length];exact h.1,λp hp=>?_⟩))
  exact k _ (.lst _) _ _ (.put s hp) (Vv (h2.app h4) (s.free hp)) h.2
 ·obtain ⟨a1,vs,rfl,h1,h2⟩:=ra
  obtain ⟨b1,us,rfl,h3,h4⟩:=rb
  refine .inr (.inr (.inr ⟨a1,b1,vs,us,rfl,rfl,SqT.of (s _ _ h1),SqT.of (s _ _ h3),?_,by rw [h2.length,h4.length];exact h.2.1,λz=>?_,λ_ p hp=>?_⟩))
  ·intro z
   have:=h2.length
   rw [z] at this
   exact h.1 (eq_nil_of_length_eq_zero this.symm)
  ·refine k _ (.tup _) _ _ (.refl s) ⟨a1,vs,rfl,h1,?_⟩ h.2.2
   have:=h2.app h4
   rw [z,append_nil] at this
   exact this
  ·exact k _ (.tup _) _ _ (.put s hp) (Ot (h2.app h4) (s.free hp)) h.2.2
 ·exact h.elim
noncomputable def dII (C:Int->Int->Prop) (g:Int->Int->D):D->D->(D->Prop)->Prop
 | .int i,.int j=>λq=>C i j/\q (g i j)
 | _,_=>λ_=>False
noncomputable def dI0 (g:Int->Int->D):D->D->(D->Prop)->Prop
 | .int i,.int j=>λq=>q (g i j)
 | _,_=>λ_=>False
theorem tD (o:OpR X f (rI C g)) (hC:∀ i j,C' i j->C i j) (hg:∀ K H i j,C' i j->Rp K H (g' i j) (g i j)):JOp X f (dII C' g'):=by
 refine ⟨_,o,λ{H0 H x y a b q Q} s ra rb h k=>?_⟩
 unfold dII at h
 split at h
 ·rename_i i j
  rw [show x = .int i from ra,show y = .int j from rb]
  exact ⟨i,j,rfl,rfl,hC _ _ h.1,k _ (g' i j) _ _ (.refl s) (hg _ _ i j h.1) h.2⟩
 ·exact h.elim
theorem EL (o:OpR X f (rI0 g)) (hg:∀ K H i j,Rp K H (g' i j) (g i j)):JOp X f (dI0 g'):=by
 refine ⟨_,o,λ{H0 H x y a b q Q} s ra rb h k=>?_⟩
 unfold dI0 at h
 split at h
 ·rename_i i j
  rw [show x = .int i from ra,show y = .int j from rb]
  exact ⟨i,j,rfl,rfl,k _ (g' i j) _ _ (.refl s) (hg _ _ i j) h⟩
 ·exact h.elim
noncomputable def ER (i j:Int):Int:=if 0<=j then i / j else i.fdiv j
noncomputable def Fe (i j:Int):Int:=if 0<=j then i % j else i.fmod j
theorem NP (i j:Int):ER i j=i.fdiv j:=by
 unfold ER
 split
 ·rw [Int.fdiv_eq_ediv_of_nonneg _ (by assumption)]
 ·rfl
theorem Ff (i j:Int):Fe i j=i.fmod j:=by
 unfold Fe
 split
 ·rw [Int.fmod_eq_emod_of_nonneg _ (by assumption)]
 ·rfl
theorem tE:JOp X (binaryOp .Sub) (dI0 λi j => .int (i - j)):=EL ja λ_ _ _ _=>rfl
noncomputable def Small (j:Int):Prop:=j.natAbs < 1073741824\/Bd 9000 j
theorem Small.bd (h:Small j):Bd 9000 j:=by
 rcases h with h | h
 ·exact Bd.mono (n:=30) (by unfold Bd;exact h) (by decide)
 ·exact h
theorem ZK:JOp X (binaryOp .FloorDiv) (dII (λ_ j=>j≠0/\Small j) λi j => .int (ER i j)):=tD uI (λi j h=>⟨h.1,h.2.bd⟩) λ_ _ i j _=>by rw [NP];rfl
theorem Zv:JOp X (binaryOp .Mod) (dII (λ_ j=>j≠0) λi j => .int (Fe i j)):=tD pA (λi j h=>h) λ_ _ i j _=>by rw [Ff];rfl
theorem MS:JOp X (binaryOp .Pow) (dII CPow λi j => .int (i ^ j.toNat)):=tD jb (λi j h=>h) λ_ _ _ _ _=>rfl
noncomputable def dMul:D->D->(D->Prop)->Prop
 | .int i,.int j=>λq=>Od i j/\q (.int (i * j))
 | .lst xs,.int k=>λq => -(2 ^ 63)<=k/\k < 2 ^ 63/\xs.length * k.toNat<=aA/\q (.lst (replicate k.toNat xs).flatten)
 | _,_=>λ_=>False
theorem Rps.flatten {K:aj}(h:Rps K H xs vs):∀ n,Rps K H (replicate n xs).flatten (replicate n vs).flatten
 | 0=>rfl
 | n + 1=>by
  rw [replicate_succ,replicate_succ,flatten_cons,flatten_cons]
  exact h.app (Rps.flatten h n)
theorem Qc:JOp X (binaryOp .Mult) dMul:=by
 refine ⟨_,pQ.or uC,λ{H0 H x y a b q Q} s ra rb h k=>?_⟩
 unfold dMul at h
 split at h
 ·rename_i i j
  rw [show x = .int i from ra,show y = .int j from rb]
  exact .inl ⟨i,j,rfl,rfl,h.1,k _ (.int (i * j)) _ _ (.refl s) rfl h.2⟩
 ·rename_i ys j
  obtain ⟨a1,vs,rfl,h1,h2⟩:=ra
  rw [show y = .int j from rb]
  refine .inr ⟨a1,j,vs,rfl,rfl,s _ _ h1,h.1,h.2.1,by rw [h2.length];exact h.2.2.1,λp hp=>?_⟩
  exact k _ (.lst _) _ _ (.put s hp) (Vv (h2.flatten _) (s.free hp)) h.2.2.2
 ·exact h.elim
noncomputable def dLe:D->D->(D->Prop)->Prop:=dI0 λi j => .bl (decide (i<=j))
noncomputable def dGt:D->D->(D->Prop)->Prop:=dI0 λi j => .bl (decide (j < i))
noncomputable def dGe:D->D->(D->Prop)->Prop:=dI0 λi j => .bl (decide (j<=i))
theorem Gb:JOp X (compareOp .LtE) dLe:=EL op_le λ_ _ _ _=>rfl
theorem Kz:JOp X (compareOp .Gt) dGt:=EL op_gt λ_ _ _ _=>rfl
theorem jo_ge:JOp X (compareOp .GtE) dGe:=EL op_ge λ_ _ _ _=>rfl
noncomputable def dLt:D->D->(D->Prop)->Prop:=dI0 λi j => .bl (decide (i < j))
theorem Ii:JOp X (compareOp .Lt) dLt:=EL op_lt λ_ _ _ _=>rfl
noncomputable def D.VD:D->Bool
 | .non=>true
 | _=>false
noncomputable def dIsN:D->D->(D->Prop)->Prop
 | a,.non=>λq=>q (.bl a.VD)
 | _,_=>λ_=>False
noncomputable def tG:D->D->(D->Prop)->Prop
 | a,.non=>λq=>q (.bl (!a.VD))
 | _,_=>λ_=>False
theorem tH {K:aj}(r:Rp K H d v):decide (v = .non)=d.VD:=by
 cases d with
 | non=>rw [show v = .non from r];rfl
 | bl b=>rw [show v = .bl b from r];rfl
 | int i=>rw [show v = .int i from r];rfl
 | str i=>rw [show v = .str i from r];rfl
 | ty i=>rw [show v = .ty i from r];rfl
 | rf i=>rw [show v = .ref i from r];rfl
 | tup xs=>obtain ⟨a,vs,rfl,_⟩:=r;rfl
 | lst xs=>obtain ⟨a,vs,rfl,_⟩:=r;rfl
 | obj C xs=>obtain ⟨a,vs,_,rfl,_⟩:=r;rfl
 | dic xs=>obtain ⟨a,vs,rfl,_⟩:=r;rfl
 | exc xs=>obtain ⟨a,rfl,_⟩:=r;rfl
 | scr xs=>obtain ⟨a,vs,rfl,_⟩:=r;rfl
theorem Fg:JOp X (compareOp .Is) dIsN:=by
 refine ⟨_,jd,λ{H0 H x y a b q Q} s ra rb h k=>?_⟩
 unfold dIsN at h
 split at h
 ·refine ⟨rb,?_⟩
  rw [tH ra]
  exact k _ (.bl _) _ _ (.refl s) rfl h
 ·exact h.elim
theorem NQ:JOp X (compareOp .IsNot) tG:=by
 refine ⟨_,pB,λ{H0 H x y a b q Q} s ra rb h k=>?_⟩
 unfold tG at h
 split at h
 ·refine ⟨rb,?_⟩
  rw [tH ra]
  exact k _ (.bl _) _ _ (.refl s) rfl h
 ·exact h.elim
noncomputable def D.eqF (a b:D):Bool:=eqV a.toV b.toV
noncomputable def inD (x:D) (xs:List D):Bool:=xs.any λy=>y.eqF x
noncomputable def inS (i j:Str):Bool := !(Builtin.Str.occurrences j i 0 j.length 1).isEmpty
noncomputable def dIn (neg:Bool):D->D->(D->Prop)->Prop
 | a,.lst xs=>λq=>a.flat=true/\xs.all D.flat=true/\q (.bl (if neg then !inD a xs else inD a xs))
 | a,.tup xs=>λq=>a.flat=true/\xs.all D.flat=true/\q (.bl (if neg then !inD a xs else inD a xs))
 | .str i,.str j=>λq=>q (.bl (if neg then !inS i j else inS i j))
 | _,_=>λ_=>False
theorem zV (a:D) (xs:List D):inV a.toV (xs.map D.toV)=inD a xs:=by
 unfold inV inD D.eqF
 rw [any_map]
 rfl
theorem zW {K:aj}(neg:Bool):EJ K (λx y H Q=>rIn K neg x y H Q\/∃ i j,x = .str i/\y = .str j/\Q (.bl (if neg then !inS i j else inS i j)) H) (dIn neg):=by
 intro H0 H x y a b q Q s ra rb h k
 unfold dIn at h
 split at h
 ·obtain ⟨p,vs,rfl,h1,h2⟩:=rb
  obtain ⟨e1,f1⟩:=Sw h.1 ra
  obtain ⟨e2,f2⟩:=Ih h.2.1 h2
  refine .inl ⟨p,vs,rfl,.inl (SqL.of (s _ _ h1)),f1,f2,?_⟩
  rw [e1,e2,zV]
  exact k _ (.bl _) _ _ (.refl s) rfl h.2.2
 ·obtain ⟨p,vs,rfl,h1,h2⟩:=rb
  obtain ⟨e1,f1⟩:=Sw h.1 ra
  obtain ⟨e2,f2⟩:=Ih h.2.1 h2
  refine .inl ⟨p,vs,rfl,.inr (SqT.of (s _ _ h1)),f1,f2,?_⟩
  rw [e1,e2,zV]
  exact k _ (.bl _) _ _ (.refl s) rfl h.2.2
 ·exact .inr ⟨_,_,ra,rb,k _ (.bl _) _ _ (.refl s) rfl h⟩
 ·exact h.elim
theorem Uc:JOp X (compareOp .In) (dIn false):=⟨_,yO.or yF,zW false⟩
theorem Qd:JOp X (compareOp .NotIn) (dIn true):=⟨_,GJ.or GD,zW true⟩
noncomputable def dIx:D->D->(D->Prop)->Prop
 | .lst xs,.int i=>λq=>∃ d,atI xs i=some d/\q d
 | .scr xs,.int i=>λq=>∃ d,atI xs i=some d/\q d
 | .tup xs,.int i=>λq=>∃ d,atI xs i=some d/\q d
 | .str z,.int i=>λq=>z.length<=aA/\∃ c,atI z.cps.toList i=some c/\q (.str ⟨#[c]⟩)
 | _,_=>λ_=>False
theorem Fh {K:aj}(r:Rps K H xs vs) (h:atI xs i=some d):∃ v,atI vs i=some v/\Rp K H d v:=by
 unfold atI at h ⊢
 rw [r.length]
 cases e:ixN xs.length i with
 | none=>rw [e] at h;cases h
 | some j =>
  rw [e] at h
  exact r.get h
theorem pY {K:aj}:EJ K (rIx K) dIx:=by
 intro H0 H x y a b q Q s ra rb h k
 unfold dIx at h
 split at h
 ·obtain ⟨p,vs,rfl,h1,h2⟩:=ra
  obtain ⟨d,e,hq⟩:=h
  obtain ⟨v,e',r⟩:=Fh h2 e
  exact .inl ⟨p,vs,_,v,rfl,rb,SqL.of (s _ _ h1),e',k _ d _ _ (.refl s) r hq⟩
 ·obtain ⟨p,vs,rfl,h1,h2⟩:=ra
  obtain ⟨d,e,hq⟩:=h
  obtain ⟨v,e',r⟩:=Fh h2 e
  exact .inl ⟨p,vs,_,v,rfl,rb,s.seq h1,e',k _ d _ _ (.refl s) r hq⟩
 ·obtain ⟨p,vs,rfl,h1,h2⟩:=ra
  obtain ⟨d,e,hq⟩:=h
  obtain ⟨v,e',r⟩:=Fh h2 e
  exact .inr (.inl ⟨p,vs,_,v,rfl,rb,SqT.of (s _ _ h1),e',k _ d _ _ (.refl s) r hq⟩)
 ·obtain ⟨l,c,e,hq⟩:=h
  exact .inr (.inr ⟨_,_,c,ra,rb,l,e,k _ (.str _) _ _ (.refl s) rfl hq⟩)
 ·exact h.elim
theorem Zg (ha:JE X XE a da) (hb:JE X XE b db) (hs:GH b:=by exact λ_ _=>rfl):JE X XE (.Subscript a b pos) (dOp dIx da db):=by
 obtain ⟨ta,p1,d1⟩:=ha.ex
 obtain ⟨tb,p2,d2⟩:=hb.ex
 exact ⟨_,mM uw p1 p2 hs,Fb d1 d2 pY⟩
noncomputable def cutD (xs:List D) (lo hi:Option Int):List D:=(xs.drop (HT.sIx xs.length 0 lo)).take (HT.sIx xs.length xs.length hi - HT.sIx xs.length 0 lo)
theorem Fi {K:aj}{lo hi:Option Int}(r:Rps K H xs vs):Rps K H (cutD xs lo hi) (Er vs lo hi):=by
 unfold cutD Er
 rw [r.length]
 exact (r.drop _).take _
noncomputable def dSl:D->Option Int->Option Int->(D->Prop)->Prop
 | .lst xs,lo,hi=>λq=>q (.lst (cutD xs lo hi))
 | .scr xs,lo,hi=>λq=>q (.lst (cutD xs lo hi))
 | .str y,lo,hi=>λq=>y.length<=aA/\q (.str (Txt.slice y lo hi))
 | _,_,_=>λ_=>False
noncomputable def zX:DO:=λ_ q _=>q none
noncomputable def mV (d:DE):DO:=λds q x=>d ds (λa=>aI a λi=>q (some i)) x
theorem YM:JO X XE none zX:=⟨_,pJ,λc h k _=>k none _ _ (.refl c.sub) h⟩
theorem Yu (h:JE X XE e de):JO X XE (some e) (mV de):=by
 obtain ⟨te,p,d⟩:=h.ex
 exact ⟨_,zF p,λc h k kx=>d c h (λv a H1 H2 e r zq=>by obtain ⟨i,z,hb⟩:=tm zq;subst z;exact ⟨i,r,k _ _ _ e hb⟩) kx⟩
noncomputable def tI (de:DE) (dl dh:DO):DE:=λds q x=>de ds (λa=>dl ds (λlo=>dh ds (λhi=>dSl a lo hi q) x) x) x
theorem Vo {lo hi:Option Expr}{dl dh:DO}{pos p2:Pos}(he:JE X XE e de) (hl:JO X XE lo dl) (hh:JO X XE hi dh):JE X XE (.Subscript e (.Slice lo hi none p2) pos) (tI de dl dh):=by
 obtain ⟨ta,p1,d1⟩:=he.ex
 obtain ⟨tl,p3,d3⟩:=hl.ex
 obtain ⟨th,p4,d4⟩:=hh.ex
 refine ⟨_,Ep (pM.or jH) p1 p3 p4,λc h k kx=>d1 c h (λv a H1 H2 e r h=>d3 (c.go e) h (λlo H3 H4 e' h'=>d4 (c.go (e.trans e')) h' (λhi H5 H6 e2 h2=>?_) (kx.go (e.trans e').s)) (kx.go e.s)) kx⟩
 have e3:=(e.trans e').trans e2
 have s3:=(c.go e3).sub
 have r3:=r.same (e'.trans e2).s0
 unfold dSl at h2
 split at h2
 ·obtain ⟨p,vs,rfl,h5,h6⟩:=r3
  refine .inl ⟨p,vs,rfl,SqL.of (s3 _ _ h5),λl hl=>?_⟩
  exact k _ (.lst _) _ _ (e3.trans (.put s3 hl)) (Vv (Fi h6) (s3.free hl)) h2
 ·obtain ⟨p,vs,rfl,h5,h6⟩:=r3
  refine .inl ⟨p,vs,rfl,s3.seq h5,λl hl=>?_⟩
  exact k _ (.lst _) _ _ (e3.trans (.put s3 hl)) (Vv (Fi h6) (s3.free hl)) h2
 ·exact .inr ⟨_,r3,h2.1,k _ (.str _) _ _ e3 rfl h2.2⟩
 ·exact h2.elim
noncomputable def dNeg (de:DE):DE:=λds q x=>de ds (λa=>aI a λi=>q (.int (-i))) x
theorem Sx (h:JE X XE a de):JE X XE (.UnaryOp .USub a pos) (dNeg de):=by
 obtain ⟨te,p,d⟩:=h.ex
 exact ⟨_,pe_un jc p,λc h k kx=>d c h (λv a H1 H2 e r zq=>by obtain ⟨i,z,hb⟩:=tm zq;subst z;exact ⟨i,r,k _ (.int (-i)) _ _ e rfl hb⟩) kx⟩
noncomputable def LiftC (K:aj) (r:List V->Hp->VK->Prop) (g:List D->(D->Prop)->Prop):Prop:=∀ {H0 H:Hp}{vs:List V}{xs:List D}{q:D->Prop}{Q:VK},Zz H0 H->Rps K H0 xs vs->g xs q->KE K H0 H q Q->r vs H Q
structure Sb (X:Cx) (f:Value) (g:List D->(D->Prop)->Prop):Prop where
 ex:∃ r,Xs X f r/\LiftC X.K r g
noncomputable def dCB (g:List D->(D->Prop)->Prop) (da:DA):DE:=λds q x=>da ds (λxs=>g xs q) x
theorem Yl {da:DA}{id:String}{g:List D->(D->Prop)->Prop}(hc:Sb X (.builtin id) g) (hg:Gl X x) (hm:X.mg x=none) (hv:bootBuiltins x=some (.builtin id)) (ha:JAs X XE (e::es) da)
  (hst:autoParam (ZZ (e::es)=true) auR) (hn:autoParam (x≠("__name__" : Str)) auD) (hdb:autoParam ((x == ("__debug__" : Str))=false) auD):JE X XE (.Call (.Name x p) (e::es) [] pos) (dCB g da):=by
 obtain ⟨r,o,l⟩:=hc.ex
 obtain ⟨ta,p1,d1⟩:=ha.ex
 exact ⟨_,pe_b o hg hm hv p1 hst hn hdb,λc h k kx=>d1 c h (λvs xs H1 H2 e r h=>l e.sub r h (k.go e)) kx⟩
theorem UK (hc:Sb X (.type T) g) (hg:Gl X x) (hm:X.mg x=none) (hv:bootBuiltins x=some (.type T)) (ha:JAs X XE (e::es) da)
  (hst:autoParam (ZZ (e::es)=true) auR) (hn:autoParam (x≠("__name__" : Str)) auD) (hdb:autoParam ((x == ("__debug__" : Str))=false) auD):JE X XE (.Call (.Name x p) (e::es) [] pos) (dCB g da):=by
 obtain ⟨r,o,l⟩:=hc.ex
 obtain ⟨ta,p1,d1⟩:=ha.ex
 exact ⟨_,mQ o hg hm hv p1 hst hn hdb,λc h k kx=>d1 c h (λvs xs H1 H2 e r h=>l e.sub r h (k.go e)) kx⟩
theorem Tu {K:aj}(h:Rps K H [d] vs):∃ v,vs=[v]/\Rp K H d v:=by
 obtain ⟨v,us,rfl,r,e⟩:=h
 exact ⟨v,by rw [show us=[] from e],r⟩
theorem tJ {K:aj}(h:Rps K H [d,e] vs):∃ v u,vs=[v,u]/\Rp K H d v/\Rp K H e u:=by
 obtain ⟨v,us,rfl,r,h⟩:=h
 obtain ⟨u,rfl,r'⟩:=Tu h
 exact ⟨v,u,rfl,r,r'⟩
noncomputable def xm:List D->(D->Prop)->Prop
 | [.lst xs]=>λq=>q (.int xs.length)
 | [.scr xs]=>λq=>q (.int xs.length)
 | [.tup xs]=>λq=>q (.int xs.length)
 | [.str z]=>λq=>z.length<=aA/\q (.int z.length)
 | _=>λ_=>False
theorem Yd {X:Cx}:Sb X (.builtin "len") xm:=by
 refine ⟨_,GK.or GM,λ{H0 H vs xs q Q} s r h k=>?_⟩
 unfold xm at h
 split at h
 ·obtain ⟨v,rfl,p,ws,rfl,h1,h2⟩:=Tu r
  refine .inl ⟨p,ws,rfl,.inl (SqL.of (s _ _ h1)),?_⟩
  rw [h2.length]
  exact k _ (.int _) _ _ (.refl s) rfl h
 ·obtain ⟨v,rfl,p,ws,rfl,h1,h2⟩:=Tu r
  refine .inl ⟨p,ws,rfl,.inl (s.seq h1),?_⟩
  rw [h2.length]
  exact k _ (.int _) _ _ (.refl s) rfl h
 ·obtain ⟨v,rfl,p,ws,rfl,h1,h2⟩:=Tu r
  refine .inl ⟨p,ws,rfl,.inr (SqT.of (s _ _ h1)),?_⟩
  rw [h2.length]
  exact k _ (.int _) _ _ (.refl s) rfl h
 ·obtain ⟨v,rfl,e⟩:=Tu r
  rw [show v = .str _ from e]
  exact .inr ⟨_,rfl,h.1,k _ (.int _) _ _ (.refl s) rfl h.2⟩
 ·exact h.elim
noncomputable def dAbs:List D->(D->Prop)->Prop
 | [.int i]=>λq=>q (.int (if i < 0 then -i else i))
 | _=>λ_=>False
theorem tK {X:Cx}:Sb X (.builtin "abs") dAbs:=by
 refine ⟨_,ug,λ{H0 H vs xs q Q} s r h k=>?_⟩
 unfold dAbs at h
 split at h
 ·obtain ⟨v,rfl,e⟩:=Tu r
  rw [show v = .int _ from e]
  exact ⟨_,rfl,k _ (.int _) _ _ (.refl s) rfl h⟩
 ·exact h.elim
noncomputable def zY:List D->(D->Prop)->Prop
 | [.int i,.int j]=>λq=>q (.int (if j > i then j else i))
 | _=>λ_=>False
theorem jP {X:Cx}(hc:autoParam (X.calm=true) auR):Sb X (.builtin "max") zY:=by
 refine ⟨_,yG hc,λ{H0 H vs xs q Q} s r h k=>?_⟩
 unfold zY at h
 split at h
 ·obtain ⟨v,u,rfl,e,e'⟩:=tJ r
  rw [show v = .int _ from e,show u = .int _ from e']
  exact ⟨_,_,rfl,k _ (.int _) _ _ (.refl s) rfl h⟩
 ·exact h.elim
noncomputable def zZ:List D->(D->Prop)->Prop
 | [.int i]=>λq=>q (.int i)
 | [.bl b]=>λq=>q (.int (if b then 1 else 0))
 | _=>λ_=>False
theorem jQ {X:Cx}:Sb X (.type "int") zZ:=by
 refine ⟨_,yH,λ{H0 H vs xs q Q} s r h k=>?_⟩
 unfold zZ at h
 split at h
 ·obtain ⟨v,rfl,e⟩:=Tu r
  rw [show v = .int _ from e]
  exact .inl ⟨_,rfl,k _ (.int _) _ _ (.refl s) rfl h⟩
 ·obtain ⟨v,rfl,e⟩:=Tu r
  rw [show v = .bl _ from e]
  exact .inr ⟨_,rfl,k _ (.int _) _ _ (.refl s) rfl h⟩
 ·exact h.elim
noncomputable def dStr1:List D->(D->Prop)->Prop
 | [.int i]=>λq=>i.natAbs.log2 < 1920/\q (.str (toString i))
 | _=>λ_=>False
noncomputable def Ij:List D->(D->Prop)->Prop
 | [.lst xs]=>λq=>q (.lst xs)
 | [.scr xs]=>λq=>q (.lst xs)
 | [.tup xs]=>λq=>q (.lst xs)
 | _=>λ_=>False
theorem Jt {X:Cx}:Sb X (.type "list") Ij:=by
 refine ⟨_,GN,λ{H0 H vs xs q Q} s r h k=>?_⟩
 unfold Ij at h
 split at h
 ·obtain ⟨v,rfl,p,ws,rfl,h1,h2⟩:=Tu r
  exact ⟨p,ws,rfl,.inl (SqL.of (s _ _ h1)),λl hl=>k _ (.lst _) _ _ (.put s hl) (Vv h2 (s.free hl)) h⟩
 ·obtain ⟨v,rfl,p,ws,rfl,h1,h2⟩:=Tu r
  exact ⟨p,ws,rfl,.inl (s.seq h1),λl hl=>k _ (.lst _) _ _ (.put s hl) (Vv h2 (s.free hl)) h⟩
 ·obtain ⟨v,rfl,p,ws,rfl,h1,h2⟩:=Tu r
  exact ⟨p,ws,rfl,.inr (SqT.of (s _ _ h1)),λl hl=>k _ (.lst _) _ _ (.put s hl) (Vv h2 (s.free hl)) h⟩
 ·exact h.elim
noncomputable def Gd:List D->(D->Prop)->Prop
 | [.lst xs]=>λq=>q (.tup xs)
 | [.tup xs]=>λq=>q (.tup xs)
 | _=>λ_=>False
theorem Ou {X:Cx}:Sb X (.type "tuple") Gd:=by
 refine ⟨_,Hn,λ{H0 H vs xs q Q} s r h k=>?_⟩
 unfold Gd at h
 split at h
 ·obtain ⟨v,rfl,p,ws,rfl,h1,h2⟩:=Tu r
  exact ⟨p,ws,rfl,.inl ⟨SqL.of (s _ _ h1),λl hl=>k _ (.tup _) _ _ (.put s hl) (Ot h2 (s.free hl)) h⟩⟩
 ·obtain ⟨v,rfl,p,ws,rfl,h1,h2⟩:=Tu r
  exact ⟨p,ws,rfl,.inr ⟨SqT.of (s _ _ h1),k _ (.tup _) _ _ (.refl s) ⟨p,ws,rfl,h1,h2⟩ h⟩⟩
 ·exact h.elim
noncomputable def bools:List D->Option (List Bool)
 | []=>some []
 | .bl b::r=>(bools r).map (b :: ·)
 | _::_=>none
theorem Ge {K:aj}:∀ {xs:List D}{bs:List Bool}{vs:List V},bools xs=some bs->Rps K H xs vs->vs=bs.map V.bl
 | [],_,_,e,r=>by cases e;exact r
 | d::ds,bs,_,e,⟨v,us,z,h,h'⟩=>by
  cases d with
  | bl b =>
   unfold bools at e
   cases q:bools ds with
   | none=>rw [q] at e;cases e
   | some cs =>
    rw [q] at e
    cases e
    rw [z,Ge q h',show v = .bl b from h]
    rfl
  | _=>cases e
noncomputable def xn:List D->(D->Prop)->Prop
 | [.lst xs]=>λq=>∃ bs,bools xs=some bs/\q (.bl (bs.all id))
 | _=>λ_=>False
noncomputable def dAny:List D->(D->Prop)->Prop
 | [.lst xs]=>λq=>∃ bs,bools xs=some bs/\q (.bl (bs.any id))
 | _=>λ_=>False
theorem MT {X:Cx}(hc:autoParam (X.calm=true) auR):Sb X (.builtin "all") xn:=by
 refine ⟨_,uV hc,λ{H0 H vs xs q Q} s r h k=>?_⟩
 unfold xn at h
 split at h
 ·obtain ⟨v,rfl,p,ws,rfl,h1,h2⟩:=Tu r
  obtain ⟨bs,e,hq⟩:=h
  rw [Ge e h2] at h1
  exact ⟨p,bs,rfl,SqL.of (s _ _ h1),k _ (.bl _) _ _ (.refl s) rfl hq⟩
 ·exact h.elim
end
mutual
noncomputable def D.eqb:D->D->Bool
 | .tup xs,.tup ys=>D.Tv xs ys
 | .lst xs,.lst ys=>D.Tv xs ys
 | a,b=>eqV a.toV b.toV
noncomputable def D.Tv:List D->List D->Bool
 | [],[]=>true
 | x::xs,y::ys=>D.eqb x y && D.Tv xs ys
 | _,_=>false
end
noncomputable def RJ (R:D->D->Bool):List D->List D->Bool
 | x::xs,y::ys=>R x y && RJ R xs ys
 | _,_=>true
noncomputable def D.PY:Nat->D->D->Bool
 | 0=>λa b=>a.flat && b.flat
 | n + 1=>λa b=>match a,b with
  | .tup xs,.tup ys=>RJ (D.PY n) xs ys
  | .lst xs,.lst ys=>RJ (D.PY n) xs ys
  | a,b=>a.flat && b.flat
theorem tL (h:a.flat=true):D.eqb a b=eqV a.toV b.toV:=by
 cases a with
 | tup _=>cases h
 | lst _=>cases h
 | non=>unfold D.eqb;rfl
 | bl _=>unfold D.eqb;rfl
 | int _=>unfold D.eqb;rfl
 | str _=>unfold D.eqb;rfl
 | _=>cases h
section
theorem Ik {K:aj}(h:∀ {a b x y},R a b=true->Rp K H a x->Rp K H b y->R' x y (D.eqb a b)):∀ {xs ys:List D}{vs us:List V},RJ R xs ys=true->Rps K H xs vs->Rps K H ys us->EqL R' vs us (D.Tv xs ys)
 | [],[],_,_,_,r,r'=>by rw [show _=[] from r,show _=[] from r'];unfold D.Tv;exact .nil
 | [],y::ys,_,_,_,r,⟨u,us,e,_,_⟩=>by rw [show _=[] from r,e];unfold D.Tv;exact .left _ _
 | x::xs,[],_,_,_,⟨v,vs,e,_,_⟩,r=>by rw [show _=[] from r,e];unfold D.Tv;exact .right _ _
 | x::xs,y::ys,_,_,o,⟨v,vs,e,r1,r2⟩,⟨u,us,e',r3,r4⟩=>by
  unfold RJ at o
  rw [aF] at o
  rw [e,e']
  unfold D.Tv
  exact .cons (h o.1 r1 r3) (Ik h o.2 r2 r4)
theorem tM {K:aj}:∀ (n:Nat) {a b:D}{x y:V},D.PY n a b=true->Rp K H a x->Rp K H b y->EqN K H n x y (D.eqb a b):=by
 have fl:∀ (n:Nat) {a b:D}{x y:V},(a.flat && b.flat)=true->Rp K H a x->Rp K H b y->EqN K H n x y (D.eqb a b):=by
  intro n a b x y o r r'
  rw [aF] at o
  obtain ⟨e1,f1⟩:=Sw o.1 r
  obtain ⟨e2,f2⟩:=Sw o.2 r'
  induction n with
  | zero=>exact .inl ⟨f1,f2,by rw [tL o.1,e1,e2]⟩
  | succ n ih=>exact .inl ih
 intro n
 induction n with
 | zero=>intro a b x y o r r';exact fl 0 (by unfold D.PY at o;exact o) r r'
 | succ n ih =>
  intro a b x y o r r'
  unfold D.PY at o
  split at o
  ·obtain ⟨p,vs,rfl,h1,h2⟩:=r
   obtain ⟨p',us,rfl,h3,h4⟩:=r'
   unfold D.eqb
   exact .inr ⟨p,p',vs,us,rfl,rfl,.inl ⟨SqT.of h1,SqT.of h3⟩,Ik (λo r r'=>ih o r r') o h2 h4⟩
  ·obtain ⟨p,vs,rfl,h1,h2⟩:=r
   obtain ⟨p',us,rfl,h3,h4⟩:=r'
   unfold D.eqb
   exact .inr ⟨p,p',vs,us,rfl,rfl,.inr ⟨SqL.of h1,SqL.of h3⟩,Ik (λo r r'=>ih o r r') o h2 h4⟩
  ·exact fl (n + 1) o r r'
end
noncomputable def dEq (neg:Bool):D->D->(D->Prop)->Prop
 | .tup xs,.tup ys=>λq=>RJ (D.PY 80) xs ys=true/\q (.bl (if neg then !D.Tv xs ys else D.Tv xs ys))
 | .lst xs,.lst ys=>λq=>RJ (D.PY 80) xs ys=true/\q (.bl (if neg then !D.Tv xs ys else D.Tv xs ys))
 | a,b=>λq=>a.flat=true/\b.flat=true/\scal a.toV b.toV=true/\q (.bl (if neg then !decide (a.toV=b.toV) else decide (a.toV=b.toV)))
theorem yc {K:aj}(neg:Bool):EJ K (λx y H Q=>(scal x y=true/\Q (.bl (if neg then !decide (x=y) else decide (x=y))) H)\/rEqD K neg x y H Q) (dEq neg):=by
 intro H0 H x y a b q Q s ra rb h k
 unfold dEq at h
 split at h
 ·obtain ⟨p,vs,rfl,h1,h2⟩:=ra
  obtain ⟨p',us,rfl,h3,h4⟩:=rb
  exact .inr ⟨80,p,p',vs,us,_,by decide,rfl,rfl,.inl ⟨SqT.of (s _ _ h1),SqT.of (s _ _ h3)⟩,Ik (λo r r'=>tM 80 o r r') h.1 (h2.same s) (h4.same s),k _ (.bl _) _ _ (.refl s) rfl h.2⟩
 ·obtain ⟨p,vs,rfl,h1,h2⟩:=ra
  obtain ⟨p',us,rfl,h3,h4⟩:=rb
  exact .inr ⟨80,p,p',vs,us,_,by decide,rfl,rfl,.inr ⟨SqL.of (s _ _ h1),SqL.of (s _ _ h3)⟩,Ik (λo r r'=>tM 80 o r r') h.1 (h2.same s) (h4.same s),k _ (.bl _) _ _ (.refl s) rfl h.2⟩
 ·obtain ⟨h1,h2,h3,h4⟩:=h
  obtain ⟨e1,_⟩:=Sw h1 ra
  obtain ⟨e2,_⟩:=Sw h2 rb
  rw [e1,e2]
  exact .inl ⟨h3,k _ (.bl _) _ _ (.refl s) rfl h4⟩
section
theorem XH (hu:X.A.units + 100 < cLine):JOp X (compareOp .Eq) (dEq false):=⟨_,op_eq.or (jJ hu),yc false⟩
theorem Qe (hu:X.A.units + 100 < cLine):JOp X (compareOp .NotEq) (dEq true):=⟨_,op_ne.or (jK hu),yc true⟩
noncomputable def D.tyN:D->Option String
 | .non=>some "NoneType"
 | .bl _=>some "bool"
 | .int _=>some "int"
 | .str _=>some "str"
 | .lst _=>some "list"
 | .tup _=>some "tuple"
 | _=>none
noncomputable def tN (t n:String):Bool:=t == n || (t == "bool" && n == "int")
theorem jR {K:aj}(r:Rp K H d v) (e:d.tyN=some t):Oh K H v (.type t):=by
 cases d with
 | non=>cases e;rw [show v = .non from r];exact .non
 | bl b=>cases e;rw [show v = .bl b from r];exact .bl b
 | int b=>cases e;rw [show v = .int b from r];exact .int b
 | str b=>cases e;rw [show v = .str b from r];exact .str b
 | lst xs=>cases e;obtain ⟨a,vs,rfl,h,_⟩:=r;exact .lst h
 | tup xs=>cases e;obtain ⟨a,vs,rfl,h,_⟩:=r;exact .tup h
 | _=>cases e
noncomputable def MU:List String:=["int", "str", "bool", "list", "tuple"]
theorem xo {K:aj}{d:D}(e:d.tyN=some t) (hn:n∈MU):kitOne K (.type t) (.type n)=some (tN t n):=by
 unfold MU at hn
 simp only [mem_cons,not_mem_nil,or_false] at hn
 cases d with
 | non=>cases e;rcases hn with rfl | rfl | rfl | rfl | rfl <;> with_unfolding_all rfl
 | bl b=>cases e;rcases hn with rfl | rfl | rfl | rfl | rfl <;> with_unfolding_all rfl
 | int b=>cases e;rcases hn with rfl | rfl | rfl | rfl | rfl <;> with_unfolding_all rfl
 | str b=>cases e;rcases hn with rfl | rfl | rfl | rfl | rfl <;> with_unfolding_all rfl
 | lst xs=>cases e;rcases hn with rfl | rfl | rfl | rfl | rfl <;> with_unfolding_all rfl
 | tup xs=>cases e;rcases hn with rfl | rfl | rfl | rfl | rfl <;> with_unfolding_all rfl
 | _=>cases e
noncomputable def refs:List D->Option (List Addr)
 | []=>some []
 | .rf a::r=>(refs r).map (a :: ·)
 | _::_=>none
noncomputable def tys:List D->Option (List String)
 | []=>some []
 | .ty a::r=>(tys r).map (a :: ·)
 | _::_=>none
theorem EV {K:aj}:∀ {xs:List D}{bs:List Addr}{vs:List V},refs xs=some bs->Rps K H xs vs->vs=bs.map V.ref
 | [],_,_,e,r=>by cases e;exact r
 | d::ds,bs,_,e,⟨v,us,z,h,h'⟩=>by
  cases d with
  | rf b =>
   unfold refs at e
   cases q:refs ds with
   | none=>rw [q] at e;cases e
   | some cs =>
    rw [q] at e
    cases e
    rw [z,EV q h',show v = .ref b from h]
    rfl
  | _=>cases e
theorem Fj {K:aj}:∀ {xs:List D}{bs:List String}{vs:List V},tys xs=some bs->Rps K H xs vs->vs=bs.map V.ty
 | [],_,_,e,r=>by cases e;exact r
 | d::ds,bs,_,e,⟨v,us,z,h,h'⟩=>by
  cases d with
  | ty b =>
   unfold tys at e
   cases q:tys ds with
   | none=>rw [q] at e;cases e
   | some cs =>
    rw [q] at e
    cases e
    rw [z,Fj q h',show v = .ty b from h]
    rfl
  | _=>cases e
noncomputable def isiT (K:aj) (n:String):D->(D->Prop)->Prop
 | .exc C=>λq=>∃ b,XTy K C/\kitOne K (.ref C) (.type n)=some b/\q (.bl b)
 | x=>λq=>∃ t,x.tyN=some t/\n∈MU/\q (.bl (tN t n))
noncomputable def isiF (K:aj) (B:Addr):D->(D->Prop)->Prop
 | .exc C=>λq=>∃ b,XTy K C/\kitOne K (.ref C) (.ref B)=some b/\q (.bl b)
 | .obj C _=>λq=>∃ b,Cls K C/\zM K C/\kitOne K (.ref C) (.ref B)=some b/\q (.bl b)
 | _=>λ_=>False
noncomputable def isiU (K:aj) (cs:List D):D->(D->Prop)->Prop
 | .exc C=>λq=>∃ as b,refs cs=some as/\XTy K C/\kitAny K (.ref C) (as.map Value.ref)=some b/\q (.bl b)
 | .lst _=>λq=>∃ as b,tys cs=some as/\kitAny K (.type "list") (as.map Value.type)=some b/\q (.bl b)
 | .tup _=>λq=>∃ as b,tys cs=some as/\kitAny K (.type "tuple") (as.map Value.type)=some b/\q (.bl b)
 | _=>λ_=>False
noncomputable def isiC (K:aj) (x:D):D->(D->Prop)->Prop
 | .ty n=>isiT K n x
 | .rf B=>isiF K B x
 | .tup cs=>isiU K cs x
 | _=>λ_=>False
noncomputable def Sd (K:aj):List D->(D->Prop)->Prop
 | [x,c]=>isiC K x c
 | _=>λ_=>False
theorem pZ {K:aj}(h:isiT K n x q):(∃ C b,x = .exc C/\XTy K C/\kitOne K (.ref C) (.type n)=some b/\q (.bl b))\/∃ t,x.tyN=some t/\n∈MU/\q (.bl (tN t n)):=by
 cases x
 case exc C=>obtain ⟨b,h⟩:=h;exact .inl ⟨C,b,rfl,h⟩
 all_goals exact .inr h
theorem XI {X:Cx}{K:aj}(hK:X.K=K):Sb X (.builtin "isinstance") (Sd K):=by
 subst hK
 refine ⟨_,uK.or (yX.or xg),λ{H0 H vs xs q Q} s r h k=>?_⟩
 rcases xs with _ | ⟨x,_ | ⟨c,_ | ⟨z,zs⟩⟩⟩
 ·exact (show False from h).elim
 ·exact (show False from h).elim
 ·obtain ⟨v,u,rfl,h1,h2⟩:=tJ r
  cases c
  case ty n =>
   rw [show u = .ty _ from h2]
   rcases pZ h with ⟨C,b,rfl,ty,kk,hq⟩ | ⟨t,e,hn,hq⟩
   ·obtain ⟨a,rfl,h1⟩:=h1
    exact .inr (.inl ⟨a,_,rfl,s _ _ h1,ty,.inl ⟨_,_,b,rfl,λu h=>h,kk,k _ (.bl _) _ _ (.refl s) rfl hq⟩⟩)
   ·exact .inl ⟨_,_,_,_,_,rfl,λu h=>h,jR (h1.same s) e,xo e hn,k _ (.bl _) _ _ (.refl s) rfl hq⟩
  case rf B =>
   rw [show u = .ref _ from h2]
   cases x
   case exc C =>
    obtain ⟨a,rfl,h1⟩:=h1
    obtain ⟨b,ty,kk,hq⟩:=h
    exact .inr (.inl ⟨a,_,rfl,s _ _ h1,ty,.inl ⟨_,_,b,rfl,λu h=>h,kk,k _ (.bl _) _ _ (.refl s) rfl hq⟩⟩)
   case obj C fs =>
    obtain ⟨a,dx,fs,rfl,h1,_⟩:=h1
    obtain ⟨b,cl,ty,kk,hq⟩:=h
    exact .inl ⟨_,_,_,_,b,rfl,λu h=>h,.ins (s _ _ h1) cl ty.ha ty.hn ty.htk ty.hm,kk,k _ (.bl _) _ _ (.refl s) rfl hq⟩
   all_goals exact (show False from h).elim
  case tup cs =>
   obtain ⟨tp,ws,rfl,h2,h3⟩:=h2
   cases x
   case exc C =>
    obtain ⟨a,rfl,h1⟩:=h1
    obtain ⟨as,b,e,ty,kk,hq⟩:=h
    rw [EV e h3] at h2
    exact .inr (.inl ⟨a,_,rfl,s _ _ h1,ty,.inr ⟨tp,as,b,rfl,s _ _ h2,kk,k _ (.bl _) _ _ (.refl s) rfl hq⟩⟩)
   case lst xs =>
    obtain ⟨a,us,rfl,h1,_⟩:=h1
    obtain ⟨as,b,e,kk,hq⟩:=h
    rw [Fj e h3] at h2
    exact .inr (.inr ⟨a,tp,as,b, "list",rfl,.inl ⟨⟨_,s _ _ h1⟩,rfl⟩,s _ _ h2,kk,k _ (.bl _) _ _ (.refl s) rfl hq⟩)
   case tup xs =>
    obtain ⟨a,us,rfl,h1,_⟩:=h1
    obtain ⟨as,b,e,kk,hq⟩:=h
    rw [Fj e h3] at h2
    exact .inr (.inr ⟨a,tp,as,b, "tuple",rfl,.inr ⟨⟨_,s _ _ h1⟩,rfl⟩,s _ _ h2,kk,k _ (.bl _) _ _ (.refl s) rfl hq⟩)
   all_goals exact (show False from h).elim
  all_goals exact (show False from h).elim
 ·exact (show False from h).elim
noncomputable def LiftM (K:aj) (T:String) (r:V->List V->Hp->VK->Prop) (g:D->List D->(D->Prop)->Prop):Prop:=∀ {H0 H:Hp}{v:V}{vs:List V}{d:D}{xs:List D}{q:D->Prop}{Q:VK},Zz H0 H->Rp K H0 d v->Rps K H0 xs vs->g d xs q->KE K H0 H q Q->r v vs H Q
noncomputable def tyD (T:String):D->Prop
 | .str _=>T = "str"
 | .lst _=>T = "list"
 | .scr _=>T = "list"
 | _=>False
theorem jS {K:aj}(r:Rp K H d v) (h:tyD T d):tyV K T v H:=by
 cases d with
 | str x=>rw [show v = .str x from r];exact h
 | lst xs=>obtain ⟨a,vs,rfl,e,_⟩:=r;exact .inl ⟨h,vs,SqL.of e⟩
 | scr xs=>obtain ⟨a,vs,rfl,e,_⟩:=r;exact .inl ⟨h,vs,e⟩
 | _=>exact h.elim
structure JMt (X:Cx) (T id:String) (g:D->List D->(D->Prop)->Prop):Prop where
 ex:∃ r,MtR X id r/\LiftM X.K T r g
noncomputable def dBM (T:String) (g:D->List D->(D->Prop)->Prop) (dO:DE) (da:DA):DE:=λds q x=>dO ds (λo=>tyD T o/\da ds (λxs=>g o xs q) x) x
theorem je_bm {name:Str}{apos cpos:Pos}{T id:String}{g:D->List D->(D->Prop)->Prop}(pa:PlainAttrs T) (slot:PySem.Slot T name id) (hty:typeOf (.builtin id)=pure (.type "method_descriptor")) (hm:JMt X T id g) (ho:JE X XE o dO) (ha:JAs X XE (e::es) da)
  (hbase:autoParam (attributeBase o name X.env (eval o X.env)=eval o X.env) auR)
  (hfew:autoParam (((backTo cpos (starEach (e::es) X.env)).all (λx => !x.1) && (backToKw cpos (keywordEach [] X.env)).all (λx=>x.1.isSome)
   && decide ((e::es).length + ([]:List Keyword).length + (if ([]:List Keyword).isEmpty then 0 else 1) < 30))=true) auR)
  (hline:autoParam ((apos.endLine == cpos.line)=true) auR) (hs:autoParam (starEach (e::es) X.env=(false,eval e X.env)::starEach es X.env) auR) (hplain:autoParam ((backTo cpos (starEach es X.env)).any (·.1)=false) auR) :
  JE X XE (.Call (.Attribute o name apos) (e::es) [] cpos) (dBM T g dO da):=by
 obtain ⟨r,m,l⟩:=hm.ex
 obtain ⟨to,p1,d1⟩:=ho.ex
 obtain ⟨ta,p2,d2⟩:=ha.ex
 refine ⟨_,zH pa slot hty m p1 p2 hbase hfew hline hs hplain,λc h k kx=>d1 c h (λv o H1 H2 e r h=>?_) kx⟩
 exact ⟨jS (r.same e.sub) h.1,d2 (c.go e) h.2 (λvs xs H3 H4 e' r' h'=>l (c.go (e.trans e')).sub (r.same e'.s0) r' h' (k.go (e.trans e'))) (kx.go e.s)⟩
noncomputable def texts:List D->Option (List Str)
 | []=>some []
 | .str a::r=>(texts r).map (a :: ·)
 | _::_=>none
theorem EW {K:aj}:∀ {xs:List D}{bs:List Str}{vs:List V},texts xs=some bs->Rps K H xs vs->vs=bs.map V.str
 | [],_,_,e,r=>by cases e;exact r
 | d::ds,bs,_,e,⟨v,us,z,h,h'⟩=>by
  cases d with
  | str b =>
   unfold texts at e
   cases q:texts ds with
   | none=>rw [q] at e;cases e
   | some cs =>
    rw [q] at e
    cases e
    rw [z,EW q h',show v = .str b from h]
    rfl
  | _=>cases e
noncomputable def yd:D->List D->(D->Prop)->Prop
 | .str sep,[.lst xs]=>λq=>∃ ys,texts xs=some ys/\(ys.map (·.length)).sum + ys.length * sep.length<=16777216/\q (.str (Txt.join sep ys))
 | _,_=>λ_=>False
theorem og:JMt X "str" "str.join" yd:=by
 refine ⟨_,pU,λ{H0 H v vs d xs q Q} s r rs h k=>?_⟩
 unfold yd at h
 split at h
 ·obtain ⟨u,rfl,p,ws,rfl,h1,h2⟩:=Tu rs
  obtain ⟨ys,e,l,hq⟩:=h
  rw [EW e h2] at h1
  exact ⟨_,p,ys,r,rfl,SqL.of (s _ _ h1),l,k _ (.str _) _ _ (.refl s) rfl hq⟩
 ·exact h.elim
noncomputable def jT:D->List D->(D->Prop)->Prop
 | .str y,[]=>λq=>y.length<=5592405/\q (.str (Txt.upper y))
 | _,_=>λ_=>False
noncomputable def jU:D->List D->(D->Prop)->Prop
 | .str y,[]=>λq=>y.length<=5592405/\q (.str (Txt.lower y))
 | _,_=>λ_=>False
end
structure Il where
 nx:DSt->Prop
 rt:D->Prop
 xc:DSt->Addr->Prop
 bk:DSt->Prop:=λ_=>False
 ct:DSt->Prop:=λ_=>False
 rb:D->DSt->Prop:=λ_ _=>False
 ro:List D->DSt->Prop:=λ_ _=>False
abbrev DS:=DSt->Il->Prop
abbrev DG:=D->DSt->(DSt->Prop)->Prop
abbrev DGs:=List D->DSt->(DSt->Prop)->Prop
structure Im (K:aj) (XE:St->XK) (B0 B:Hp) (e:Il) (T:Ends):Prop where
 nx:∀ H0 H σ ds,Cfg K B0 B H0 H σ ds->e.nx ds->T.nx σ H
 rt:∀ v d H0 H,Ext B0 B H0 H->Rp K H0 d v->e.rt d->T.rt v H
 xc:∀ H0 H σ ds C,Cfg K B0 B H0 H σ ds->e.xc ds C->XE σ (.ref C) none H
 bk:∀ H0 H σ ds,Cfg K B0 B H0 H σ ds->e.bk ds->T.bk σ H
 ct:∀ H0 H σ ds,Cfg K B0 B H0 H σ ds->e.ct ds->T.ct σ H
 rb:∀ v d H0 H σ ds,Cfg K B0 B H0 H σ ds->Rp K H0 d v->e.rb d ds->T.rt v H
 ro:∀ a vs ys H0 H σ ds,Cfg K B0 B H0 H σ ds->B a=none->H0 a=none->H a=some (.lst vs)->Rps K H0 ys vs->(∀ (i:Nat) s,ds[i]?=some s->s.foot ((σ[i]?).getD none) a->False)->e.ro ys ds->T.rt (.ref a) H
theorem Im.kx {K:aj}{ds:DSt}(o:Im K XE B0 B e T) (c:Cfg K B0 B H0 H σ ds):KX XE σ H (e.xc ds):=λC H' s h=>o.xc H0 H' σ ds C (c.go (Ext.grow c.sub s)) h
noncomputable def Io (K:aj) (XE:St->XK) (ts:TS) (s:DS):Prop:=∀ {B0 B H0 H:Hp}{σ:St}{ds:DSt}{e:Il}{T:Ends},Cfg K B0 B H0 H σ ds->s ds e->Im K XE B0 B e T->ts T σ H
noncomputable def Keeps (ds ds':DSt):Prop:=∀ (i:Nat) s,ds'[i]?=some s->s.isOwn=true->ds[i]?=some s
noncomputable def Bs (K:aj) (g:TG) (dg:DG):Prop:=∀ {B0 B H0 H:Hp}{σ:St}{ds:DSt}{v:V}{d:D}{q:DSt->Prop}{Q:St->Hp->Prop},Cfg K B0 B H0 H σ ds->Rp K H0 d v->dg d ds q->(∀ σ' ds',Cfg K B0 B H0 H σ' ds'->Keeps ds ds'->q ds'->Q σ' H)->g v σ H Q
noncomputable def DenGs (K:aj) (g:TGs) (dg:DGs):Prop:=∀ {B0 B H0 H:Hp}{σ:St}{ds:DSt}{vs:List V}{xs:List D}{q:DSt->Prop}{Q:St->Hp->Prop},Cfg K B0 B H0 H σ ds->Rps K H0 xs vs->dg xs ds q->(∀ σ' ds',Cfg K B0 B H0 H σ' ds'->Keeps ds ds'->q ds'->Q σ' H)->g vs σ H Q
structure JS (X:Cx) (XE:St->XK) (st:Stmt) (s:DS):Prop where
 ex:∃ ts,PS X st ts/\Io X.K XE ts s
structure JSs (X:Cx) (XE:St->XK) (st:List Stmt) (s:DS):Prop where
 ex:∃ ts,PSs X st ts/\Io X.K XE ts s
structure JG (X:Cx) (tg:Expr) (g:DG):Prop where
 ex:∃ t,PG X tg t/\Bs X.K t g
structure JGs (X:Cx) (tg:List Expr) (g:DGs):Prop where
 ex:∃ t,PGs X tg t/\DenGs X.K t g
section
noncomputable def XJ (i:Nat):DG:=λd ds q=>q (ds.set i (.v d))
noncomputable def ye:DGs:=λxs ds q=>lz 0 xs (q ds)
noncomputable def MV (g:DG) (r:DGs):DGs:=λxs ds q=>lC xs λd ys=>g d ds λds'=>r ys ds' q
noncomputable def yf (n:Nat) (g:DGs):DG:=λd ds q=>aT d λxs=>lz n xs (g xs ds q)
theorem xq:Keeps ds (ds.set i (.v d)):=λj s e w=>by
 by_cases hi:i < ds.length
 ·rw [Wi hi] at e
  split at e
  ·cases e;cases w
  ·exact e
 ·rw [Js hi] at e;exact e
theorem Keeps.trans (h:Keeps a b) (k:Keeps b c):Keeps a c:=λi s e w=>h i s (k i s e w) w
theorem Keeps.refl:Keeps a a:=λi s e w=>e
theorem NR {K:aj}(i:Nat):Bs K (JK i) (XJ i):=λc r h k=>k _ _ (c.uZ i r) xq h
theorem oh (hN:X.N.Nodup) (hi:X.N[i]?=some x) (hx:Loc X.env.scope x) (hf:X.fn x=true\/X.env.scope.names.lookup x=some .local:=by first | exact .inl rfl | exact .inr rfl | assumption):JG X (.Name x pos) (XJ i) :=
 ⟨_,pq hN hi hx hf,NR i⟩
theorem YN:JGs X [] ye:=⟨_,pw,λc r h k=>by
 obtain ⟨e,h⟩:=Ga h
 cases eq_nil_of_length_eq_zero e
 exact ⟨r,k _ _ c .refl h⟩⟩
theorem Zu (h1:JG X e g) (h2:JGs X es r) (hs:autoParam ((assignEach (e::es) X.env).map (·.2)=assign e X.env::(assignEach es X.env).map (·.2)) auR):JGs X (e::es) (MV g r):=by
 obtain ⟨t1,p1,d1⟩:=h1.ex
 obtain ⟨t2,p2,d2⟩:=h2.ex
 refine ⟨_,vX p1 p2 hs,λc r h k=>?_⟩
 obtain ⟨d,ys,e,h⟩:=zT h
 subst e
 obtain ⟨v,us,rfl,r1,r2⟩:=r
 exact ⟨v,us,rfl,d1 c r1 h λσ' ds' c' kp h'=>d2 c' r2 h' λσ2 ds2 c2 kp2 h2=>k σ2 ds2 c2 (kp.trans kp2) h2⟩
theorem Xy (h:JGs X es g) (hc:autoParam (X.calm=true) auR) (hn:autoParam ((assignEach es X.env).length=n) auR) (hst:autoParam ((assignEach es X.env).findIdx? (·.1)=none) auR):JG X (.Tuple es k pos) (yf n g):=by
 obtain ⟨t1,p1,d1⟩:=h.ex
 refine ⟨_,kL hc p1 hn hst,λc r h k=>?_⟩
 obtain ⟨xs,e,h0⟩:=aT_ex h
 obtain ⟨l,hq⟩:=Ga h0
 subst e
 obtain ⟨a,vs,rfl,h1,h2⟩:=r
 exact ⟨a,vs,rfl,SqT.of (c.sub _ _ h1),by rw [h2.length];exact l,d1 c h2 hq k⟩
noncomputable def mW:DS:=λds e=>e.nx ds
noncomputable def dSeq (s t:DS):DS:=λds e=>s ds { e with nx:=λds'=>t ds' e }
theorem Zk:JSs X XE [] mW:=⟨_,zt,λc h o=>o.nx _ _ _ _ c h⟩
theorem Ze {st:Stmt}(h:JS X XE st s):JSs X XE [st] s:=by
 obtain ⟨t,p,d⟩:=h.ex
 exact ⟨_,pj p,d⟩
theorem Za {st:Stmt}{rest:List Stmt}(h:JS X XE st s) (h2:JSs X XE rest t):JSs X XE (st::rest) (dSeq s t):=by
 obtain ⟨t1,p1,d1⟩:=h.ex
 obtain ⟨t2,p2,d2⟩:=h2.ex
 exact ⟨_,vW p1 p2,λc h o=>d1 c h ⟨λH0 H σ ds c' h'=>d2 c' h' o,o.rt,o.xc,o.bk,o.ct,o.rb,o.ro⟩⟩
noncomputable def xr (de:DE) (g:DG):DS:=λds e=>de ds (λd=>g d ds e.nx) (e.xc ds)
theorem Fl {K:aj}(d:Den K XE te de) (dg:Bs K t g):Io K XE (GB te t) (xr de g):=λc h o =>
 d c h (λv a H1 H2 e r h=>dg (c.go e) r h λσ' ds' c' _ h'=>o.nx _ _ _ _ c' h') (o.kx c)
theorem jV (hN:X.N.Nodup) (hi:X.N[i]?=some x) (hx:Loc X.env.scope x) (he:JE X XE e de) (hs:autoParam (swapsWith e (some (.Name x pos')) pos.line X.env=pure false) auR)
  (hf:X.fn x=true\/X.env.scope.names.lookup x=some .local:=by first | exact .inl rfl | exact .inr rfl | assumption):JS X XE (.Assign [.Name x pos'] e pos) (xr de (XJ i)):=by
 obtain ⟨te,p,d⟩:=he.ex
 exact ⟨_,MM hN hi hx p hs hf,Fl d (NR i)⟩
theorem Bt (he:JE X XE e de) (hg:JG X tg g) (hs:autoParam (swapsWithSole [tg] e pos.line X.env=pure false) auR) (hw:autoParam (swappedStores [tg] e X.env=pure none) auR)
  (h1:autoParam ((assignEach [tg] X.env).map (·.2)=[assign tg X.env]) auR):JS X XE (.Assign [tg] e pos) (xr de g):=by
 obtain ⟨te,p,d⟩:=he.ex
 obtain ⟨t,p2,d2⟩:=hg.ex
 exact ⟨_,GC p p2 hs hw h1,Fl d d2⟩
noncomputable def dPar (i j:Nat) (da:DA):DS:=λds e=>da ds (λxs=>lC xs λa xs=>lC xs λb xs=>lz 0 xs (e.nx ((ds.set i (.v a)).set j (.v b)))) (e.xc ds)
theorem jW {X:Cx}{px py pt pos:Pos}{kt k2:Nat}{pt2:Pos}(hN:X.N.Nodup) (hi:X.N[i]?=some x) (hj:X.N[j]?=some y) (hij:i≠j) (hx:X.env.scope.names.lookup x=some .local) (hy:X.env.scope.names.lookup y=some .local)
  (ha:JAs X XE [a,b] da) (h:∀ ta,PA X [a,b] ta->PS X (.Assign [.Tuple [.Name x px,.Name y py] kt pt] (.Tuple [a,b] k2 pt2) pos) (tPar i j ta)):JS X XE (.Assign [.Tuple [.Name x px,.Name y py] kt pt] (.Tuple [a,b] k2 pt2) pos) (dPar i j da):=by
 obtain ⟨ta,p,d⟩:=ha.ex
 refine ⟨_,h ta p,λc h o=>d c h (λvs xs H1 H2 e r zq=>?_) (o.kx c)⟩
 obtain ⟨a,ys,rfl,z1⟩:=zT zq
 obtain ⟨b,zs,rfl,z2⟩:=zT z1
 obtain ⟨z,h⟩:=Ga z2
 cases eq_nil_of_length_eq_zero z
 obtain ⟨v,u,rfl,r1,r2⟩:=tJ r
 exact ⟨v,u,rfl,o.nx _ _ _ _ (((c.go e).uZ i r1).uZ j r2) h⟩
noncomputable def mX (de:DE):DS:=λds e=>de ds (λ_=>e.nx ds) (e.xc ds)
theorem UL {X:Cx}(he:JE X XE e de) (hs:autoParam (swapsWith e none pos.line X.env=pure false) auR):JS X XE (.Expr e pos) (mX de):=by
 obtain ⟨te,p,d⟩:=he.ex
 exact ⟨_,Nv p hs,λc h o=>d c h (λv a H1 H2 e r h=>o.nx _ _ _ _ (c.go e) h) (o.kx c)⟩
noncomputable def dRet (pk:List Nat) (de:DE):DS:=λds e=>de (peekAt pk ds) e.rt (e.xc ds)
theorem Zm {X:Cx}(pk:List Nat) (he:JE X XE e de):JS X XE (.Return (some e) pos) (dRet pk de):=by
 obtain ⟨te,p,d⟩:=he.ex
 refine ⟨_,JH p,λc h o=>?_⟩
 obtain ⟨H1,c1,_⟩:=c.peekAt pk
 exact d c1 h (λv a H1 H2 e r h=>o.rt _ _ _ _ (c1.ext.trans e) r h) (o.kx c)
noncomputable def dIf (pk:List Nat) (c:DT) (s t:DS):DS:=λds e=>c (peekAt pk ds) (λb=>if b=true then s ds e else t ds e) (e.xc ds)
theorem ZD {X:Cx}(pk:List Nat) {s t:DS}(hc:JT X XE c dc) (ha:JSs X XE a s) (hb:JSs X XE b t):JS X XE (.If c a b pos) (dIf pk dc s t):=by
 obtain ⟨tc,p0,d0⟩:=hc.ex
 obtain ⟨t1,p1,d1⟩:=ha.ex
 obtain ⟨t2,p2,d2⟩:=hb.ex
 refine ⟨_,ps_if p0 p1 p2,λc h o=>?_⟩
 obtain ⟨H1,c1,s1,l1,n1⟩:=c.peekAt pk
 refine d0 c1 h (λb H2 H3 e h=>?_) (o.kx c)
 obtain ⟨H4,e4,_⟩:=e.GZ s1 c.sub l1 n1
 cases b with
 | true =>
  rw [if_pos rfl] at h ⊢
  exact d1 (c.go e4) h o
 | false =>
  rw [if_neg aD] at h ⊢
  exact d2 (c.go e4) h o
noncomputable def dCut (s:DS):DS:=λds e=>∃ M:DSt->Prop,s ds { e with nx:=M }/\∀ ds',M ds'->e.nx ds'
theorem WN {st:Stmt}(h:JS X XE st s):JS X XE st (dCut s):=by
 obtain ⟨t,p,d⟩:=h.ex
 refine ⟨_,p,λc h o=>?_⟩
 obtain ⟨M,h,k⟩:=h
 exact d c h ⟨λH0 H σ ds c' h'=>o.nx _ _ _ _ c' (k ds h'),o.rt,o.xc,o.bk,o.ct,o.rb,o.ro⟩
noncomputable def Walks (K:aj) (J:It) (xs:List D) (W0:Hp):Prop:=∀ (i:Nat) (H0 H:Hp),Zz W0 H0->Zz H0 H ->
 (i < xs.length->J.go i H/\∀ x H',J.yld i H x H'->∃ H0',Ext H0 H H0' H'/\∃ d,xs[i]?=some d/\Rp K H0' d x)/\(xs.length<=i->J.stop i H)
abbrev DI:=DSt->(List D->Prop)->(Addr->Prop)->Prop
noncomputable def DenI (K:aj) (XE:St->XK) (wi:TI) (di:DI):Prop:=∀ {B0 B H0 H:Hp}{σ:St}{ds:DSt}{q:List D->Prop}{x:Addr->Prop}{R:It->Hp->Prop},Cfg K B0 B H0 H σ ds->di ds q x->(∀ J xs H0' H',Ext H0 H H0' H'->Walks K J xs H0'->q xs->R J H')->KX XE σ H x->wi σ H R
structure JI (X:Cx) (XE:St->XK) (tg iter:Expr) (di:DI):Prop where
 ex:∃ wi,PI X tg iter wi/\DenI X.K XE wi di
theorem Gf {K:aj}(h:SqL K W0 a vs) (r:Rps K W0 xs vs):Walks K (Itl K a) xs W0:=by
 intro i H0 H s0 s
 have hs:SqL K H a vs:=(s0.trans s).seq h
 refine ⟨λhi=>?_,λhi=>⟨vs,hs,by rw [r.length];exact hi⟩⟩
 obtain ⟨v,e,rv⟩:=r.get (aC hi)
 refine ⟨⟨vs,v,hs,e⟩,λx H' y=>?_⟩
 obtain ⟨rfl,y⟩:=y
 have:=y vs hs
 rw [e] at this
 cases this
 exact ⟨H0,.refl s,_,aC hi,rv.same s0⟩
theorem tP {K:aj}(h:SqT K W0 a vs) (r:Rps K W0 xs vs):Walks K (Itt K a) xs W0:=by
 intro i H0 H s0 s
 have hs:SqT K H a vs:=h.same (s0.trans s)
 refine ⟨λhi=>?_,λhi=>⟨vs,hs,by rw [r.length];exact hi⟩⟩
 obtain ⟨v,e,rv⟩:=r.get (aC hi)
 refine ⟨⟨vs,v,hs,e⟩,λx H' y=>?_⟩
 obtain ⟨rfl,y⟩:=y
 have:=y vs hs
 rw [e] at this
 cases this
 exact ⟨H0,.refl s,_,aC hi,rv.same s0⟩
noncomputable def intsFrom (lo:Int) (n:Nat):List D:=(List.range n).map λi:Nat => .int (lo + i)
theorem Bu {K:aj}{lo:Int}:Walks K (Itr lo n) (intsFrom lo n) W0:=by
 intro i H0 H s0 s
 have hl:(intsFrom lo n).length=n:=by unfold intsFrom;simp
 refine ⟨λhi=>?_,λhi=>by rw [hl] at hi;exact hi⟩
 rw [hl] at hi
 refine ⟨hi,λx H' y=>?_⟩
 obtain ⟨rfl,rfl⟩:=y
 refine ⟨H0,.refl s,.int (lo + i),?_,rfl⟩
 unfold intsFrom
 rw [getElem?_map,List.getElem?_range hi]
 rfl
noncomputable def signs (x:Str):List D:=x.cps.toList.map λc => .str ⟨#[c]⟩
theorem tQ {K:aj}:Walks K (Its x) (signs x) W0:=by
 intro i H0 H s0 s
 have hl:(signs x).length=x.cps.size:=by unfold signs;simp
 refine ⟨λhi=>?_,λhi=>by rw [hl] at hi;exact hi⟩
 rw [hl] at hi
 refine ⟨hi,λv H' y=>?_⟩
 obtain ⟨rfl,c,e,rfl⟩:=y
 refine ⟨H0,.refl s,.str ⟨#[c]⟩,?_,rfl⟩
 unfold signs
 rw [getElem?_map,Array.getElem?_toList,e]
 rfl
noncomputable def Qf (xs:List D):List D:=xs.mapIdx λi x => .tup [.int i,x]
theorem jX (h:JE X XE l de):JI X XE tg l (λds q x=>de ds (λd=>match d with | .str y=>q (signs y) | _=>False) x):=by
 obtain ⟨te,p,d⟩:=h.ex
 refine ⟨_,jF p,λc h k kx=>d c h (λv a H1 H2 e r h=>?_) kx⟩
 split at h
 ·exact ⟨_,r,k _ _ _ _ e tQ h⟩
 ·exact h.elim
noncomputable def mY (de:DE):DI:=λds q x=>de ds (λd=>match d with | .lst xs=>q xs | .scr xs=>q xs | .tup xs=>q xs | _=>False) x
theorem Yb (h:JE X XE l de):JI X XE tg l (mY de):=by
 obtain ⟨te,p,d⟩:=h.ex
 refine ⟨_,jM p,λc h k kx=>d c h (λv a H1 H2 e r h=>?_) kx⟩
 split at h
 ·obtain ⟨a,vs,rfl,h1,h2⟩:=r
  exact ⟨a,rfl,.inl ⟨⟨vs,SqL.of (e.sub _ _ h1)⟩,k _ _ _ _ e (Gf (SqL.of h1) h2) h⟩⟩
 ·obtain ⟨a,vs,rfl,h1,h2⟩:=r
  exact ⟨a,rfl,.inl ⟨⟨vs,e.sub.seq h1⟩,k _ _ _ _ e (Gf h1 h2) h⟩⟩
 ·obtain ⟨a,vs,rfl,h1,h2⟩:=r
  exact ⟨a,rfl,.inr ⟨⟨vs,SqT.of (e.sub _ _ h1)⟩,k _ _ _ _ e (tP (SqT.of h1) h2) h⟩⟩
 ·exact h.elim
noncomputable def mZ (da:DA):DI:=λds q x=>da ds (λxs=>∃ j:Int,xs=[.int j] /\ -(2 ^ 62)<=j/\j < 2 ^ 62/\q (intsFrom 0 j.toNat)) x
noncomputable def dRng2 (da:DA):DI:=λds q x=>da ds (λxs=>∃ i j:Int,xs=[.int i,.int j]/\(-(2 ^ 62)<=i/\i < 2 ^ 62 /\ -(2 ^ 62)<=j/\j < 2 ^ 62)/\q (intsFrom i (j - i).toNat)) x
theorem XX (hg:Gl X "range") (hm:X.mg "range" = none) (ha:JAs X XE [a] da) (hs:autoParam (starEach [a] X.env=[(false,eval a X.env)]) auR):JI X XE tg (.Call (.Name "range" p) [a] [] pos) (mZ da):=by
 obtain ⟨ta,p,d⟩:=ha.ex
 refine ⟨_,yD hg hm p hs,λc h k kx=>d c h (λvs xs H1 H2 e r zq=>?_) kx⟩
 obtain ⟨j,z,h1,h2,h3⟩:=zq
 subst z
 obtain ⟨v,rfl,rv⟩:=Tu r
 exact ⟨j,by rw [show v = .int j from rv],h1,h2,k _ _ _ _ e Bu h3⟩
noncomputable def dEnum (da:DA):DI:=λds q x=>da ds (λxs=>match xs with | [.lst ys]=>q (Qf ys) | [.scr ys]=>q (Qf ys) | _=>False) x
theorem Ext.Sy (e:Ext W B H0 H) (h:Zz B0 W) (n:∀ b,B0 b=none->B b≠none->W b=none):Ext B0 B H0 H:=⟨e.s,h.trans e.s0,e.sub,λb z y=>e.new b (n b z y) y⟩
theorem Cfg.Sy {K:aj}(c:Cfg K W B H0 H σ ds) (h:Zz B0 W) (n:∀ b,B0 b=none->B b≠none->W b=none):Cfg K B0 B H0 H σ ds:=⟨c.ext.Sy h n,c.slot,c.young,c.sep,c.len⟩
theorem Cfg.rebase {K:aj}(c:Cfg K B0 B H0 H σ ds) (h:Zz B0 W) (h2:Zz W H0):Cfg K W B H0 H σ ds :=
 ⟨⟨c.ext.s,h2,c.ext.sub,λb z y=>c.ext.new b (h.free z) y⟩,c.slot,c.young,c.sep,c.len⟩
noncomputable def Se (g:DG) (b:DS) (e:Il):List D->DSt->Prop
 | [],ds=>e.nx ds
 | x::xs,ds=>g x ds λds'=>b ds' { e with nx:=Se g b e xs,ct:=Se g b e xs,bk:=e.nx }
noncomputable def dFor (di:DI) (g:DG) (b:DS):DS:=λds e=>∃ fz:List Nat,di (peekAt fz ds) (λxs=>Se g b e xs (peekAt fz ds)) (e.xc ds)
theorem Xc {X:Cx}{b:DS}{pos:Pos}(hp:PassesOwn (model X.prog X.w) X.A X.env X.xe) (hi:JI X XE tg iter di) (hg:JG X tg g) (hb:JSs X XE body b) (hc:autoParam (X.calm=true) auR)
  (hs:∀ x,foldedSetIterable iter X.env x=pure x:=by intro _;rfl):JS X XE (.For tg iter body [] pos) (dFor di g b):=by
 obtain ⟨wi,p0,d0⟩:=hi.ex
 obtain ⟨t,p1,d1⟩:=hg.ex
 obtain ⟨tb,p2,d2⟩:=hb.ex
 refine ⟨_,kY hp hc p0 p1 p2 hs,λ{B0 B H0 H σ ds e T} c h o=>?_⟩
 obtain ⟨fz,h⟩:=h
 obtain ⟨H1,c1,_⟩:=c.peekAt fz
 refine d0 c1 h (λJ xs H2 H3 e1 w h=>?_) (o.kx c)
 have hB2:Zz B0 H2:=c1.ext.s0.trans e1.s0
 have hN2:∀ b,B0 b=none->B b≠none->H2 b=none:=(c1.ext.trans e1).new
 refine ⟨λi m σ' H'=>m=xs.length - i/\i<=xs.length/\∃ H0' ds',Cfg X.K B0 B H0' H' σ' ds'/\Zz H2 H0'/\Se g b e (xs.drop i) ds',⟨_,rfl,Nat.zero_le _,H2,_,c1.go e1,.refl _,h⟩,?_⟩
 rintro i m σ' H' ⟨rfl,hi,H0',ds',c',s',hl⟩
 obtain ⟨w1,w2⟩:=w i H0' H' s' c'.sub
 by_cases hi2:i < xs.length
 ·right
  obtain ⟨go,yld⟩:=w1 hi2
  rw [drop_eq_getElem_cons hi2] at hl
  unfold Se at hl
  refine ⟨go,λσ2 H4=>∃ H0'' ds2,Cfg X.K B0 B H0'' H4 σ2 ds2/\Zz H2 H0''/\Se g b e (xs.drop (i + 1)) ds2,λσ2 H4 ⟨H5,ds2,c2,s2,l2⟩=>⟨_,by omega,rfl,hi2,H5,ds2,c2,s2,l2⟩,λx H4 y=>?_⟩
  obtain ⟨H5,e5,d,ed,rd⟩:=yld x H4 y
  rw [aC hi2] at ed
  cases ed
  refine d1 (c'.go e5) rd hl λσ2 ds2 c2 _ h2=>?_
  refine d2 (e:={ e with nx:=λds4=>Se g b e (xs.drop (i + 1)) ds4,ct:=λds4=>Se g b e (xs.drop (i + 1)) ds4,bk:=e.nx }) (c2.rebase hB2 (s'.trans e5.s0)) h2 ⟨λH6 H7 σ3 ds3 c3 l3=>?_,λv d' H6 H7 x3=>o.rt v d' H6 H7 (x3.Sy hB2 hN2),λH6 H7 σ3 ds3 C c3=>o.xc H6 H7 σ3 ds3 C (c3.Sy hB2 hN2),λH6 H7 σ3 ds3 c3=>o.nx H6 H7 σ3 ds3 (c3.Sy hB2 hN2),λH6 H7 σ3 ds3 c3 l3=>?_,λv d' H6 H7 σ3 ds3 c3=>o.rb v d' H6 H7 σ3 ds3 (c3.Sy hB2 hN2),λa vs ys H6 H7 σ3 ds3 c3=>o.ro a vs ys H6 H7 σ3 ds3 (c3.Sy hB2 hN2)⟩
  ·exact ⟨H6,ds3,c3.Sy hB2 hN2,c3.ext.s0,l3⟩
  ·exact ⟨H6,ds3,c3.Sy hB2 hN2,c3.ext.s0,l3⟩
 ·left
  have hx:xs.drop i=[]:=List.drop_eq_nil_of_le (by omega)
  rw [hx] at hl
  exact ⟨w2 (by omega),o.nx _ _ _ _ c' hl⟩
end
section
noncomputable def jY (pk:List Nat) (c:DT) (b:DS):DS:=λds e=>∃ W:Nat->DSt->Prop,(∃ m,W m ds)/\∀ m ds,W m ds ->
 c (peekAt pk ds) (λk=>if k=true then b ds { e with nx:=λds'=>∃ m',m' < m/\W m' ds',ct:=λds'=>∃ m',m' < m/\W m' ds',bk:=e.nx } else e.nx ds) (e.xc ds)
theorem Qg (pk:List Nat) (hp:PassesOwn (model X.prog X.w) X.A X.env X.xe) (hc:JT X XE c dc) (hb:JSs X XE body b):JS X XE (.While c body [] pos) (jY pk dc b):=by
 obtain ⟨tc,p0,d0⟩:=hc.ex
 obtain ⟨tb,p1,d1⟩:=hb.ex
 refine ⟨_,vZ hp p0 p1,λ{B0 B H0 H σ ds e T} c h o=>?_⟩
 obtain ⟨W,⟨m,w⟩,h⟩:=h
 refine ⟨λm σ' H'=>∃ H0' ds',Cfg X.K B0 B H0' H' σ' ds'/\W m ds',⟨m,H0,ds,c,w⟩,?_⟩
 rintro m σ' H' ⟨H0',ds',c',w'⟩
 obtain ⟨H1,c1,s1,l1,n1⟩:=c'.peekAt pk
 refine d0 c1 (h m ds' w') (λk H2 H3 e h=>?_) (o.kx c')
 obtain ⟨H4,e4,_⟩:=e.GZ s1 c'.sub l1 n1
 cases k with
 | true =>
  rw [if_pos rfl] at h ⊢
  refine ⟨λσ2 H5=>∃ m',m' < m/\∃ H6 ds2,Cfg X.K B0 B H6 H5 σ2 ds2/\W m' ds2,λσ2 H5 z=>z,?_⟩
  exact d1 (c'.go e4) h ⟨λH6 H7 σ2 ds2 c2 ⟨m',l,w2⟩=>⟨m',l,H6,ds2,c2,w2⟩,o.rt,o.xc,o.nx,λH6 H7 σ2 ds2 c2 ⟨m',l,w2⟩=>⟨m',l,H6,ds2,c2,w2⟩,o.rb,o.ro⟩
 | false =>
  rw [if_neg aD] at h ⊢
  exact o.nx _ _ _ _ (c'.go e4) h
noncomputable def xt (K:aj) (XE:St->XK) (te:TE) (df:DA):Prop:=∀ {B0 B H0 H:Hp}{σ:St}{ds:DSt}{q:List D->Prop}{x:Addr->Prop}{Q:VK},Cfg K B0 B H0 H σ ds->df ds q x ->
 (∀ a vs xs H0' H',Ext H0 H H0' H'->H a=none->H0' a=none->H' a=some (.lst vs)->Rps K H0' xs vs->q xs->Q (.ref a) H')->KX XE σ H x->te σ H Q
structure JF (X:Cx) (XE:St->XK) (e:Expr) (df:DA):Prop where
 ex:∃ te,PE X e te/\xt X.K XE te df
noncomputable def dFz (df:DA):DE:=λds q x=>df ds (λxs=>q (.lst xs)) x
theorem tR (e:Ext H0 H H0' H') (n:H a=none) (n0:H0' a=none) (h:H' a=some o):Ext H0 H (upd H0' a o) H':=by
 refine ⟨e.s,e.s0.trans (Zz.upd n0),λb u z=>?_,λb z y=>?_⟩
 ·by_cases hb:b=a
  ·subst hb;rw [Zy] at z;rw [h];exact z
  ·rw [Zj hb] at z;exact e.sub _ _ z
 ·rw [Zj (λw=>y (by rw [w];exact n))]
  exact e.new b z y
theorem tS {K:aj}(d:xt K XE te df):Den K XE te (dFz df):=λc h k kx =>
 d c h (λa vs xs H0' H' e n n0 ha r hq=>k _ (.lst xs) _ _ (tR e n n0 ha) (Vv r n0) hq) kx
theorem JF.je (h:JF X XE e df):JE X XE e (dFz df):=by
 obtain ⟨te,p,d⟩:=h.ex
 exact ⟨_,p,tS d⟩
theorem Xz (h:JAs X XE es da):JF X XE (.List es pos) (λds q x=>da ds (λxs=>xs.length<=aA/\q xs) x):=by
 obtain ⟨ta,p1,d1⟩:=h.ex
 refine ⟨_,uo p1,λc h k kx=>d1 c h (λvs xs H1 H2 e r hb=>⟨by rw [r.length];exact hb.1,λp hp=>?_⟩) kx⟩
 exact k p vs xs H1 _ (e.trans (.grow e.sub (Zz.upd hp))) (e.s.free hp) (e.sub.free hp) Zy r hb.2
theorem jf_cat (ha:JE X XE a da) (hb:JE X XE b db):JF X XE (.BinOp a .Add b pos) (λds q x=>da ds (λa=>db ds (λb=>match a,b with
  | .lst xs,.lst ys=>xs.length + ys.length<=aA/\q (xs++ys) | .scr xs,.lst ys=>xs.length + ys.length<=aA/\q (xs++ys) | _,_=>False) x) x):=by
 obtain ⟨ta,p1,d1⟩:=ha.ex
 obtain ⟨tb,p2,d2⟩:=hb.ex
 refine ⟨_,ub zL p1 p2,λc h k kx=>d1 c h (λv a H1 H2 e r1 h=>d2 (c.go e) h (λu b H3 H4 e' r2 h'=>?_) (kx.go e.s)) kx⟩
 have e3:=e.trans e'
 have r3:=r1.same e'.s0
 split at h'
 ·obtain ⟨a1,vs,rfl,h1,h2⟩:=r3
  obtain ⟨b1,us,rfl,h3,h4⟩:=r2
  exact ⟨a1,b1,vs,us,rfl,rfl,SqL.of (e3.sub _ _ h1),SqL.of (e3.sub _ _ h3),by rw [h2.length,h4.length];exact h'.1,λp hp=>k p _ _ H3 _ (e3.trans (.grow e3.sub (Zz.upd hp))) (e3.s.free hp) (e3.sub.free hp) Zy (h2.app h4) h'.2⟩
 ·obtain ⟨a1,vs,rfl,h1,h2⟩:=r3
  obtain ⟨b1,us,rfl,h3,h4⟩:=r2
  exact ⟨a1,b1,vs,us,rfl,rfl,e3.sub.seq h1,SqL.of (e3.sub _ _ h3),by rw [h2.length,h4.length];exact h'.1,λp hp=>k p _ _ H3 _ (e3.trans (.grow e3.sub (Zz.upd hp))) (e3.s.free hp) (e3.sub.free hp) Zy (h2.app h4) h'.2⟩
 ·exact h'.elim
theorem jZ (ha:JE X XE a da) (hb:JE X XE b db):JF X XE (.BinOp a .Mult b pos) (λds q x=>da ds (λa=>db ds (λb=>match a,b with
  | .lst xs,.int k => -(2 ^ 63)<=k/\k < 2 ^ 63/\xs.length * k.toNat<=aA/\q (replicate k.toNat xs).flatten | _,_=>False) x) x):=by
 obtain ⟨ta,p1,d1⟩:=ha.ex
 obtain ⟨tb,p2,d2⟩:=hb.ex
 refine ⟨_,ub uC p1 p2,λc h k kx=>d1 c h (λv a H1 H2 e r1 h=>d2 (c.go e) h (λu b H3 H4 e' r2 h'=>?_) (kx.go e.s)) kx⟩
 have e3:=e.trans e'
 have r3:=r1.same e'.s0
 split at h'
 ·obtain ⟨a1,vs,rfl,h1,h2⟩:=r3
  exact ⟨a1,_,vs,rfl,r2,e3.sub _ _ h1,h'.1,h'.2.1,by rw [h2.length];exact h'.2.2.1,λp hp=>k p _ _ H3 _ (e3.trans (.grow e3.sub (Zz.upd hp))) (e3.s.free hp) (e3.sub.free hp) Zy (h2.flatten _) h'.2.2.2⟩
 ·exact h'.elim
noncomputable def XN:St->XK:=λ_ _ _ _=>False
noncomputable def dpre (n:Nat) (fr:List Nat) (ds:DSt):DSt:=replicate n .un++fr.map λj=>match ds[j]? with
 | some (.v d) => .v d
 | _ => .un
noncomputable def Vp (g:DG) (f:DT) (e:DE) (q:List D->Prop):List D->DSt->List D->Prop
 | [],_,acc=>q acc
 | x::xs,ds,acc=>g x ds λds1=>f ds1 (λb=>if b=true then e ds1 (λy=>acc.length < aA/\Vp g f e q xs ds1 (acc++[y])) (λ_=>False) else Vp g f e q xs ds1 acc) (λ_=>False)
noncomputable def Ip (n:Nat) (fr:List Nat) (di:DI) (g:DG) (f:DT) (e:DE):DA:=λds q x=>di ds (λxs=>Vp g f e q xs (dpre n fr ds) []) x
noncomputable def xu:DT:=λ_ q _=>q true
noncomputable def KA (ds:DSt):Prop:=∀ (i:Nat) s,ds[i]?=some s->s.isOwn=false
theorem KA.keeps (h:KA ds) (k:Keeps ds ds'):KA ds':=λi s e=>by
 cases w:s.isOwn with
 | false=>rfl
 | true=>rw [h i s (k i s e w)] at w;cases w
theorem ia (n:Nat) (fr:List Nat) (σ:St) (i:Nat):((pre n fr σ)[i]?).getD none=if i < n then none else ((fr[i - n]?).map λj=>(σ[j]?).getD none).getD none:=by
 unfold pre
 by_cases h:i < n
 ·rw [if_pos h,getElem?_append_left (by rw [length_replicate];exact h),getElem?_replicate,if_pos h];rfl
 ·rw [if_neg h,getElem?_append_right (by rw [length_replicate];omega),length_replicate,getElem?_map]
theorem oi {K:aj}(c:Cfg K B0 B H0 H σ ds) (s:Zz H H') (n:Nat) (fr:List Nat):Cfg K H0 H H0 H' (pre n fr σ) (dpre n fr ds)/\KA (dpre n fr ds):=by
 have no:KA (dpre n fr ds):=λi s e=>by
  unfold dpre at e
  by_cases h:i < n
  ·rw [getElem?_append_left (by rw [length_replicate];exact h),getElem?_replicate,if_pos h] at e
   cases e;rfl
  ·rw [getElem?_append_right (by rw [length_replicate];omega),length_replicate,getElem?_map] at e
   cases q:fr[i - n]? with
   | none=>rw [q] at e;cases e
   | some j =>
    rw [q] at e
    cases e
    dsimp only
    split <;> rfl
 refine ⟨⟨.grow c.sub s,λi t e=>?_,λi t a e w=>?_,λi j t u a _ e _ w=>?_,?_⟩,no⟩
 ·rw [ia]
  unfold dpre at e
  by_cases h:i < n
  ·rw [getElem?_append_left (by rw [length_replicate];exact h),getElem?_replicate,if_pos h] at e
   cases e;trivial
  ·rw [if_neg h]
   rw [getElem?_append_right (by rw [length_replicate];omega),length_replicate,getElem?_map] at e
   cases q:fr[i - n]? with
   | none=>rw [q] at e;cases e
   | some j =>
    rw [q] at e
    cases e
    dsimp only [Option.map_some,Option.getD_some]
    split
    ·rename_i d qd
     obtain ⟨v,e1,r⟩:=c.slot j _ qd
     exact ⟨v,e1,r⟩
    ·trivial
 ·have:=no i t e;rw [Slot.Wk w] at this;cases this
 ·have:=no i t e;rw [Slot.Wk w] at this;cases this
 ·unfold pre dpre
  simp
theorem Cfg.aside {K:aj}(c:Cfg K B0 B H0 H σ ds) (n:KA ds) (hb:B a=none) (h0:H0 a=none):Cfg K B0 B H0 (upd H a o) σ ds:=by
 refine ⟨⟨λb u z=>?_,c.ext.s0,λb u z=>?_,c.ext.new⟩,λj t r=>?_,c.young,c.sep,c.len⟩
 ·rw [Zj (λy=>by rw [y,hb] at z;cases z)]
  exact c.ext.s _ _ z
 ·rw [Zj (λy=>by rw [y,h0] at z;cases z)]
  exact c.sub _ _ z
 ·have old:=c.slot j t r
  have w:=n j t r
  cases t with
  | un=>trivial
  | v d=>exact old
  | own _=>cases w
  | ob _ _ _ _=>cases w
  | od _=>cases w
  | st _ _=>cases w
theorem EX {XE:St->XK}{K:aj}{di:DI}{g:DG}{f:DT}{e:DE}(n:Nat) (fr:List Nat) (d0:DenI K XE wi di) (d1:Bs K t g) (d2:xl K XN tf f) (d3:Den K XN te e):xt K XE (uT n fr wi t tf te) (Ip n fr di g f e):=by
 intro B0 B H0 H σ ds q x Q c h k kx
 refine d0 c h (λJ xs H1 H2 e1 w h=>λDd hD=>?_) kx
 obtain ⟨c1,no1⟩:=oi (c.go e1) (Zz.upd (o := .lst []) hD) n fr
 have hD1:H1 Dd=none:=e1.sub.free hD
 refine ⟨λi m σ' H'=>m=xs.length - i/\i<=xs.length/\∃ H0' ds' acc vs,Cfg K H1 H2 H0' H' σ' ds'/\KA ds'/\H0' Dd=none/\H' Dd=some (.lst vs)/\Rps K H0' acc vs/\Vp g f e q (xs.drop i) ds' acc,⟨_,rfl,Nat.zero_le _,H1,_,[],[],c1,no1,hD1,Zy,rfl,h⟩,?_⟩
 rintro i m σ' H' ⟨rfl,hi,H0',ds',acc,vs,c',no',n',hv,r',hl⟩
 obtain ⟨w1,w2⟩:=w i H0' H' c'.ext.s0 c'.sub
 by_cases hi2:i < xs.length
 ·right
  obtain ⟨go,yld⟩:=w1 hi2
  rw [drop_eq_getElem_cons hi2] at hl
  unfold Vp at hl
  refine ⟨go,λσ2 H4=>∃ H0'' ds2 acc2 vs2,Cfg K H1 H2 H0'' H4 σ2 ds2/\KA ds2/\H0'' Dd=none/\H4 Dd=some (.lst vs2)/\Rps K H0'' acc2 vs2/\Vp g f e q (xs.drop (i + 1)) ds2 acc2,λσ2 H4 ⟨a1,a2,a3,a4,a5⟩=>⟨_,by omega,rfl,hi2,a1,a2,a3,a4,a5⟩,λy H4 z=>?_⟩
  obtain ⟨H5,e5,d,ed,rd⟩:=yld y H4 z
  rw [aC hi2] at ed
  cases ed
  have hne:H' Dd≠none:=by rw [hv];simp
  refine d1 (c'.go e5) rd hl λσ2 ds2 c2 kp h2=>?_
  have no2:=no'.keeps kp
  have n5:H5 Dd=none:=e5.new Dd n' hne
  have v5:H4 Dd=some (.lst vs):=e5.s _ _ hv
  refine d2 c2 h2 (λb H6 H7 e6 h6=>?_) (λ_ _ _ h=>h.elim)
  have n6:H6 Dd=none:=e6.new Dd n5 (by rw [v5];simp)
  have v6:H7 Dd=some (.lst vs):=e6.s _ _ v5
  cases b with
  | false =>
   rw [if_neg aD] at h6 ⊢
   exact ⟨H6,ds2,acc,vs,c2.go e6,no2,n6,v6,r'.same (e5.trans e6).s0,h6⟩
  | true =>
   rw [if_pos rfl] at h6 ⊢
   refine d3 (c2.go e6) h6 (λu y' H8 H9 e8 r8 h8=>?_) (λ_ _ _ h=>h.elim)
   have n8:H8 Dd=none:=e8.new Dd n6 (by rw [v6];simp)
   have v8:H9 Dd=some (.lst vs):=e8.s _ _ v6
   have ra:=r'.same (e5.trans (e6.trans e8)).s0
   refine ⟨vs,v8,by rw [ra.length];exact h8.1,H8,ds2,acc++[y'],vs++[u],((c2.go e6).go e8).aside no2 hD n8,no2,n8,Zy,ra.snoc r8,h8.2⟩
 ·left
  have hx:xs.drop i=[]:=List.drop_eq_nil_of_le (by omega)
  rw [hx] at hl
  refine ⟨w2 (by omega),k Dd vs acc H0' H' (e1.trans c'.ext) (e1.s.free hD) n' hv r' hl⟩
structure JIf (X:Cx) (XE:St->XK) (ifs:List Expr) (d:DT):Prop where
 ex:∃ t,PIf X ifs t/\xl X.K XE t d
theorem Yz:JIf X XE [] xu:=⟨_,jD,λc h k kx=>k _ _ _ (.refl c.sub) h⟩
theorem Vx (h:JT X XE c d):JIf X XE [c] d:=by
 obtain ⟨t,p,d⟩:=h.ex
 exact ⟨_,jE p,d⟩
end
theorem la (k:KX XN σ H x):x=λ_=>False:=funext λC=>propext ⟨λh=>k C H (.refl _) h,λh=>h.elim⟩
theorem lg {Xf:ι->Cx}{K:aj}(hK:∀ z,(Xf z).K=K) (h:∀ z,JE (Xf z) XN e de):∃ te,(∀ z,PE (Xf z) e te)/\Den K XN te de:=by
 refine ⟨λσ H Q=>∃ B0 B H0 ds q,Cfg K B0 B H0 H σ ds/\de ds q (λ_=>False)/\KE K H0 H q Q,λz=>?_,λc hd k kx=>?_⟩
 ·intro pins s σ H Q I ⟨B0,B,H0,ds,q,c,hd,k⟩
  obtain ⟨te,p,d⟩:=(h z).ex
  have kk:=hK z
  subst kk
  exact p pins s σ H Q I (d c hd k λ_ _ _ h=>h.elim)
 ·rw [la kx] at hd
  exact ⟨_,_,_,_,_,c,hd,k⟩
theorem lh {Xf:ι->Cx}{K:aj}(hK:∀ z,(Xf z).K=K) (h:∀ z,JIf (Xf z) XN ifs de):∃ te,(∀ z,PIf (Xf z) ifs te)/\xl K XN te de:=by
 refine ⟨λσ H Q=>∃ B0 B H0 ds q,Cfg K B0 B H0 H σ ds/\de ds q (λ_=>False)/\∀ b H0' H',Ext H0 H H0' H'->q b->Q b H',λz=>?_,λc hd k kx=>?_⟩
 ·intro pins s σ H Q I ⟨B0,B,H0,ds,q,c,hd,k⟩
  obtain ⟨te,p,d⟩:=(h z).ex
  have kk:=hK z
  subst kk
  exact p pins s σ H Q I (d c hd k λ_ _ _ h=>h.elim)
 ·rw [la kx] at hd
  exact ⟨_,_,_,_,_,c,hd,k⟩
theorem lj {Xf:ι->Cx}{K:aj}(hK:∀ z,(Xf z).K=K) (h:∀ z,JG (Xf z) tg g):∃ t,(∀ z,PG (Xf z) tg t)/\Bs K t g:=by
 refine ⟨λv σ H Q=>∃ B0 B H0 ds d q,Cfg K B0 B H0 H σ ds/\Rp K H0 d v/\g d ds q/\∀ σ' ds',Cfg K B0 B H0 H σ' ds'->Keeps ds ds'->q ds'->Q σ' H,λz=>?_,λc r hd k=>⟨_,_,_,_,_,_,c,r,hd,k⟩⟩
 intro pins s σ H v u Q I rv ⟨B0,B,H0,ds,d,q,c,r,hd,k⟩
 obtain ⟨te,p,dd⟩:=(h z).ex
 have kk:=hK z
 subst kk
 exact p pins s σ H v u Q I rv (dd c r hd k)
section
theorem yg {XE:St->XK}{elt tg iter:Expr}(ts Nc:List Str) (fr:List Nat) {di:DI}{g:DG}{f:DT}{e:DE}(hi:JI X XE tg iter di)
  (hg:∀ z,JG (ZE X own (ts++Nc) z) tg g) (hf:∀ z,JIf (ZE X own (ts++Nc) z) XN ifs f) (he:∀ z,JE (ZE X own (ts++Nc) z) XN elt e) (hc:autoParam (X.calm=true) auR) (c:autoParam (Ss own X.env.scope Nc=true) auR) (hN:autoParam (fr.map (X.N[·]?)=Nc.map some) auR)
  (hs:∀ x,foldedSetIterable iter X.env x=pure x:=by intro _;rfl):JF X XE (.ListComp elt [⟨tg,iter,ifs,0⟩] own pos) (Ip ts.length fr di g f e):=by
 obtain ⟨wi,p0,d0⟩:=hi.ex
 obtain ⟨t,p1,d1⟩:=lj (Xf:=λz=>ZE X own (ts++Nc) z) (K:=X.K) (λ_=>rfl) hg
 obtain ⟨tf,p2,d2⟩:=lh (Xf:=λz=>ZE X own (ts++Nc) z) (K:=X.K) (λ_=>rfl) hf
 obtain ⟨te,p3,d3⟩:=lg (Xf:=λz=>ZE X own (ts++Nc) z) (K:=X.K) (λ_=>rfl) he
 exact ⟨_,pS ts Nc fr p0 p1 p2 p3 hc c hN hs,EX _ fr d0 d1 d2 d3⟩
theorem Ye (ts Nc:List Str) (fr:List Nat) (hi:JI X XE tg iter di)
  (hg:∀ z,JG (ZE X own (ts++Nc) z) tg g) (hf:∀ z,JIf (ZE X own (ts++Nc) z) XN ifs f) (he:∀ z,JE (ZE X own (ts++Nc) z) XN elt e) (hc:autoParam (X.calm=true) auR) (c:autoParam (Ss own X.env.scope Nc=true) auR) (hN:autoParam (fr.map (X.N[·]?)=Nc.map some) auR)
  (hs:∀ x,foldedSetIterable iter X.env x=pure x:=by intro _;rfl):JE X XE (.ListComp elt [⟨tg,iter,ifs,0⟩] own pos) (dFz (Ip ts.length fr di g f e)):=(yg ts Nc fr hi hg hf he hc c hN hs).je
noncomputable def tT (i:Nat) (df:DA):DS:=λds e=>df ds (λxs=>e.nx (ds.set i (.own xs))) (e.xc ds)
theorem tU {K:aj}(i:Nat) (d:xt K XE te df):Io K XE (GB te (JK i)) (tT i df):=λc h o =>
 d c h (λa vs xs H0' H' e n n0 ha r hq=>o.nx _ _ _ _ (c.newO i e n n0 ha r) hq) (o.kx c)
noncomputable def tV (pk:List Nat) (de:DE) (g:DG):DS:=λds e=>de (peekAt pk ds) (λd=>g d (if d.imm=true then ds else peekAt pk ds) e.nx) (e.xc ds)
theorem tW {K:aj}(pk:List Nat) (d:Den K XE te de) (dg:Bs K t g):Io K XE (GB te t) (tV pk de g):=λc h o=>by
 obtain ⟨H1,c1,s1,l1,n1⟩:=c.peekAt pk
 refine d c1 h (λv a H2 H3 e r h=>?_) (o.kx c)
 by_cases hi:a.imm=true
 ·rw [if_pos hi] at h
  obtain ⟨H4,e4,l4,_⟩:=e.GZ s1 c.sub l1 n1
  exact dg (c.go e4) (Rp.less l4 a hi r) h λσ' ds' c' _ h'=>o.nx _ _ _ _ c' h'
 ·rw [if_neg hi] at h
  exact dg (c1.go e) r h λσ' ds' c' _ h'=>o.nx _ _ _ _ c' h'
theorem Xb (hN:X.N.Nodup) (hi:X.N[i]?=some x) (hx:Loc X.env.scope x) (he:JF X XE e df) (hs:autoParam (swapsWith e (some (.Name x pos')) pos.line X.env=pure false) auR)
  (hf:X.fn x=true\/X.env.scope.names.lookup x=some .local:=by first | exact .inl rfl | exact .inr rfl | assumption):JS X XE (.Assign [.Name x pos'] e pos) (tT i df):=by
 obtain ⟨te,p,d⟩:=he.ex
 exact ⟨_,MM hN hi hx p hs hf,tU i d⟩
theorem yh (pk:List Nat) (hN:X.N.Nodup) (hi:X.N[i]?=some x) (hx:Loc X.env.scope x) (he:JE X XE e de) (hs:autoParam (swapsWith e (some (.Name x pos')) pos.line X.env=pure false) auR)
  (hf:X.fn x=true\/X.env.scope.names.lookup x=some .local:=by first | exact .inl rfl | exact .inr rfl | assumption):JS X XE (.Assign [.Name x pos'] e pos) (tV pk de (XJ i)):=by
 obtain ⟨te,p,d⟩:=he.ex
 exact ⟨_,MM hN hi hx p hs hf,tW pk d (NR i)⟩
noncomputable def Bv (pk:List Nat) (i:Nat) (df:DA):DS:=λds e=>df (peekAt pk ds) (λxs=>e.nx ((if D.GX xs=true then ds else peekAt pk ds).set i (.own xs))) (e.xc ds)
theorem xA {K:aj}(pk:List Nat) (i:Nat) (d:xt K XE te df):Io K XE (GB te (JK i)) (Bv pk i df):=λ{B0 B H0 H σ ds e T} c h o=>by
 obtain ⟨H1,c1,s1,l1,n1⟩:=c.peekAt pk
 refine d c1 h (λa vs xs H2 H3 ee n n0 ha r hq=>?_) (o.kx c)
 by_cases hi:D.GX xs=true
 ·rw [if_pos hi] at hq
  obtain ⟨H4,e4,l4,s4⟩:=ee.GZ s1 c.sub l1 n1
  exact o.nx _ _ _ _ (c.newO i e4 n (s4.free n0) ha (Rps.less l4 xs hi r)) hq
 ·rw [if_neg hi] at hq
  exact o.nx _ _ _ _ (c1.newO i ee n n0 ha r) hq
theorem EY {XE:St->XK}{elt tg iter:Expr}{i:Nat}{x:Str}{px spos:Pos}{S:DS}(ts Nc:List Str) (fr:List Nat) {di:DI}{g:DG}{f:DT}{e:DE}(hnd:X.N.Nodup) (hix:X.N[i]?=some x) (hx:Loc X.env.scope x) (hi:JI X XE tg iter di)
  (hg:∀ z,JG (ZE X own (ts++Nc) z) tg g) (hf:∀ z,JIf (ZE X own (ts++Nc) z) XN ifs f) (he:∀ z,JE (ZE X own (ts++Nc) z) XN elt e) (hsw:swapsWith (.ListComp elt [⟨tg,iter,ifs,0⟩] own pos) (some (.Name x px)) spos.line X.env=pure true)
  (hc:X.calm=true) (c:Ss own X.env.scope Nc=true) (hN:fr.map (X.N[·]?)=Nc.map some)
  (hs:∀ x,foldedSetIterable iter X.env x=pure x) (hfn:X.fn x=true\/X.env.scope.names.lookup x=some .local)
  (hS:∀ te,xt X.K XE te (Ip ts.length fr di g f e)->Io X.K XE (GB te (JK i)) S) :
  JS X XE (.Assign [.Name x px] (.ListComp elt [⟨tg,iter,ifs,0⟩] own pos) spos) S:=by
 obtain ⟨wi,p0,d0⟩:=hi.ex
 obtain ⟨t,p1,d1⟩:=lj (Xf:=λz=>ZE X own (ts++Nc) z) (K:=X.K) (λ_=>rfl) hg
 obtain ⟨tf,p2,d2⟩:=lh (Xf:=λz=>ZE X own (ts++Nc) z) (K:=X.K) (λ_=>rfl) hf
 obtain ⟨te,p3,d3⟩:=lg (Xf:=λz=>ZE X own (ts++Nc) z) (K:=X.K) (λ_=>rfl) he
 exact ⟨_,pT ts Nc fr hnd hix hx p0 p1 p2 p3 hsw hc c hN hs hfn,hS _ (EX _ fr d0 d1 d2 d3)⟩
theorem QT (ts Nc:List Str) (fr:List Nat) (hnd:X.N.Nodup) (hix:X.N[i]?=some x) (hx:Loc X.env.scope x) (hi:JI X XE tg iter di)
  (hg:∀ z,JG (ZE X own (ts++Nc) z) tg g) (hf:∀ z,JIf (ZE X own (ts++Nc) z) XN ifs f) (he:∀ z,JE (ZE X own (ts++Nc) z) XN elt e) (hsw:autoParam (swapsWith (.ListComp elt [⟨tg,iter,ifs,0⟩] own pos) (some (.Name x px)) spos.line X.env=pure true) auR)
  (hc:autoParam (X.calm=true) auR) (c:autoParam (Ss own X.env.scope Nc=true) auR) (hN:autoParam (fr.map (X.N[·]?)=Nc.map some) auR)
  (hs:∀ x,foldedSetIterable iter X.env x=pure x:=by intro _;rfl) (hfn:X.fn x=true\/X.env.scope.names.lookup x=some .local:=by first | exact .inl rfl | exact .inr rfl | assumption) :
  JS X XE (.Assign [.Name x px] (.ListComp elt [⟨tg,iter,ifs,0⟩] own pos) spos) (xr (dFz (Ip ts.length fr di g f e)) (XJ i)) :=
 EY ts Nc fr hnd hix hx hi hg hf he hsw hc c hN hs hfn λte d=>Fl (tS d) (NR i)
theorem tX (pk:List Nat) (ts Nc:List Str) (fr:List Nat) (hnd:X.N.Nodup) (hix:X.N[i]?=some x) (hx:Loc X.env.scope x) (hi:JI X XE tg iter di)
  (hg:∀ z,JG (ZE X own (ts++Nc) z) tg g) (hf:∀ z,JIf (ZE X own (ts++Nc) z) XN ifs f) (he:∀ z,JE (ZE X own (ts++Nc) z) XN elt e) (hsw:autoParam (swapsWith (.ListComp elt [⟨tg,iter,ifs,0⟩] own pos) (some (.Name x px)) spos.line X.env=pure true) auR)
  (hc:autoParam (X.calm=true) auR) (c:autoParam (Ss own X.env.scope Nc=true) auR) (hN:autoParam (fr.map (X.N[·]?)=Nc.map some) auR)
  (hs:∀ x,foldedSetIterable iter X.env x=pure x:=by intro _;rfl) (hfn:X.fn x=true\/X.env.scope.names.lookup x=some .local:=by first | exact .inl rfl | exact .inr rfl | assumption) :
  JS X XE (.Assign [.Name x px] (.ListComp elt [⟨tg,iter,ifs,0⟩] own pos) spos) (Bv pk i (Ip ts.length fr di g f e)) :=
 EY ts Nc fr hnd hix hx hi hg hf he hsw hc c hN hs hfn λte d=>xA pk i d
end
section
noncomputable def dPut (pk:List Nat) (i:Nat) (de:DE) (w:List D->D->(List D->Prop)->Prop):DS:=λds e=>sO ds[i]? λxs=>de (peekAt pk ds) (λd=>pkO pk d (w xs d λys=>e.nx (ds.set i (.own ys)))) (e.xc ds)
theorem yi {K:aj}{R:Ends->St->Addr->VK}(pk:List Nat) (i:Nat) (d:Den K XE te de)
  (hr:∀ {σ:St}{T:Ends}{l:Addr}{us:List V}{H0 H2:Hp}{xs:List D}{a:D}{y:V}{q:List D->Prop},H2 l=some (.lst us)->Zz H0 H2->Rps K H0 xs us->Rp K H0 a y->w xs a q->(∀ ys vs,Rps K H0 ys vs->q ys->T.nx σ (upd H2 l (.lst vs)))->R T σ l y H2)
  (hw:∀ {σ:St}{H:Hp}{T:Ends}{l:Addr}{us:List V},σ[i]?=some (some (.ref l))->H l=some (.lst us)->te σ H (R T σ l)->ts T σ H):Io K XE ts (dPut pk i de w):=by
 intro B0 B H0 H σ ds e T c h o
 obtain ⟨xs,hi,h⟩:=zS h
 obtain ⟨l,us,e1,h1,h2,h3⟩:=c.slot i _ hi
 refine hw (WB e1) h2 ?_
 by_cases hpk:pk=[]
 ·subst hpk
  refine d c h (λv a H1 H2 e' r h=>?_) (o.kx c)
  refine hr (e'.s _ _ h2) e'.sub (h3.same e'.s0) r (Qb h).2 λys vs rv hq=>?_
  obtain ⟨a',us',f1,f2,f3,f4⟩:=c.push (ys:=ys) hi
  rw [e1] at f1
  cases f1
  exact o.nx _ _ _ _ (f4 H1 H2 vs e' rv) hq
 ·obtain ⟨H1,c1,s1,l1,n1⟩:=c.peekAt pk
  refine d c1 h (λv a H2 H3 e' r h=>?_) (o.kx c)
  obtain ⟨H4,e4,l4,_⟩:=e'.GZ s1 c.sub l1 n1
  have h:=Qb h
  have im:a.imm=true:=h.1.resolve_left hpk
  refine hr (e4.s _ _ h2) e4.sub (h3.same e4.s0) (Rp.less l4 a im r) h.2 λys vs rv hq=>?_
  obtain ⟨a',us',f1,f2,f3,f4⟩:=c.push (ys:=ys) hi
  rw [e1] at f1
  cases f1
  exact o.nx _ _ _ _ (f4 H4 H3 vs e4 rv) hq
noncomputable def wApp:List D->D->(List D->Prop)->Prop:=λxs d q=>xs.length < aA/\q (xs++[d])
noncomputable def wExt:List D->D->(List D->Prop)->Prop:=λxs d q=>match d with
 | .lst ys=>xs.length + ys.length<=aA/\q (xs++ys)
 | _=>False
theorem WC {XE:St->XK}(pk:List Nat) (i:Nat) (he:JE X XE e de) (hN:autoParam (X.N[i]?=some x) auR) (hv:Vis X.env.scope x:=by first | exact Or.inl rfl | exact Or.inr (Or.inl rfl) | exact Or.inr (Or.inr rfl))
  (hst:autoParam (noStar e=true) auR) (hbase:autoParam (attributeBase (.Name x p) "append" X.env (eval (.Name x p) X.env)=eval (.Name x p) X.env) auR)
  (hfew:autoParam (((backTo cpos (starEach [e] X.env)).all (λx => !x.1) && (backToKw cpos (keywordEach [] X.env)).all (λx=>x.1.isSome)
   && decide ([e].length + ([]:List Keyword).length + (if ([]:List Keyword).isEmpty then 0 else 1) < 30))=true) auR)
  (hline:autoParam ((apos.endLine == cpos.line)=true) auR) (hs:autoParam (starEach [e] X.env=(false,eval e X.env)::starEach [] X.env) auR) (hplain:autoParam ((backTo cpos (starEach [] X.env)).any (·.1)=false) auR)
  (hsw:autoParam (swapsWith (.Call (.Attribute (.Name x p) "append" apos) [e] [] cpos) none pos.line X.env=pure false) auR) (hd:autoParam ((x == ("__debug__" : Str))=false) auD) (hcd:autoParam ((x == ("__classdict__" : Str))=false) auD) :
  JS X XE (.Expr (.Call (.Attribute (.Name x p) "append" apos) [e] [] cpos) pos) (dPut pk i de wApp):=by
 obtain ⟨te,p1,d1⟩:=he.ex
 refine ⟨_,Nv (zH PySem.F.plainAttrs_list PySem.F.slot_list_append PySem.F.type_list_append Ie (pv i hN hv hd hcd) (ED p1 Oi hst) hbase hfew hline hs hplain) hsw,yi (R:=λT σ l y H2=>GO (.ref l) [y] H2 λ_ H3=>T.nx σ H3) pk i d1 ?_ ?_⟩
 ·intro σ T l us H0 H2 xs a y q h1 s r ra hq k
  exact ⟨l,us,y,rfl,rfl,h1,by rw [r.length];exact hq.1,k _ _ (r.snoc ra) hq.2⟩
 ·intro σ H T l us hl hH h
  exact ⟨.ref l,hl,.inl ⟨rfl,us,SqL.of hH⟩,h⟩
theorem Bw {XE:St->XK}(pk:List Nat) (i:Nat) (he:JE X XE e de) (hN:autoParam (X.N[i]?=some x) auR) (hv:Vis X.env.scope x:=by first | exact Or.inl rfl | exact Or.inr (Or.inl rfl) | exact Or.inr (Or.inr rfl))
  (hst:autoParam (noStar e=true) auR) (hbase:autoParam (attributeBase (.Name x p) "extend" X.env (eval (.Name x p) X.env)=eval (.Name x p) X.env) auR)
  (hfew:autoParam (((backTo cpos (starEach [e] X.env)).all (λx => !x.1) && (backToKw cpos (keywordEach [] X.env)).all (λx=>x.1.isSome)
   && decide ([e].length + ([]:List Keyword).length + (if ([]:List Keyword).isEmpty then 0 else 1) < 30))=true) auR)
  (hline:autoParam ((apos.endLine == cpos.line)=true) auR) (hs:autoParam (starEach [e] X.env=(false,eval e X.env)::starEach [] X.env) auR) (hplain:autoParam ((backTo cpos (starEach [] X.env)).any (·.1)=false) auR)
  (hsw:autoParam (swapsWith (.Call (.Attribute (.Name x p) "extend" apos) [e] [] cpos) none pos.line X.env=pure false) auR) (hd:autoParam ((x == ("__debug__" : Str))=false) auD) (hcd:autoParam ((x == ("__classdict__" : Str))=false) auD) :
  JS X XE (.Expr (.Call (.Attribute (.Name x p) "extend" apos) [e] [] cpos) pos) (dPut pk i de wExt):=by
 obtain ⟨te,p1,d1⟩:=he.ex
 refine ⟨_,Nv (zH PySem.F.plainAttrs_list PySem.F.slot_list_extend PySem.F.type_list_extend Bp (pv i hN hv hd hcd) (ED p1 Oi hst) hbase hfew hline hs hplain) hsw,yi (R:=λT σ l y H2=>GP (.ref l) [y] H2 λ_ H3=>T.nx σ H3) pk i d1 ?_ ?_⟩
 ·intro σ T l us H0 H2 xs a y q h1 s r ra hq k
  unfold wExt at hq
  split at hq
  ·obtain ⟨b,vs,rfl,h2,h3⟩:=ra
   exact ⟨l,b,us,vs,rfl,rfl,h1,s _ _ h2,by rw [r.length,h3.length];exact hq.1,k _ _ (r.app h3) hq.2⟩
  ·exact hq.elim
 ·intro σ H T l us hl hH h
  exact ⟨.ref l,hl,.inl ⟨rfl,us,SqL.of hH⟩,h⟩
noncomputable def lq (pk:List Nat) (i:Nat) (dk de:DE):DS:=λds e=>sO ds[i]? λxs=>de (peekAt pk ds) (λd=>pkO pk d (dk ds (λk=>aI k λn=>∃ j,ixN xs.length n=some j/\e.nx (ds.set i (.own (xs.set j d)))) (e.xc ds))) (e.xc ds)
theorem Rps.set {K:aj}(r:Rp K H d v):∀ {xs:List D}{vs:List V}(j:Nat),Rps K H xs vs->Rps K H (xs.set j d) (vs.set j v)
 | [],_,_,h=>by rw [show _=[] from h];rfl
 | x::xs,_,0,⟨u,us,e,_,h⟩=>by subst e;exact ⟨v,us,rfl,r,h⟩
 | x::xs,_,j + 1,⟨u,us,e,h1,h⟩=>by subst e;exact ⟨u,_,rfl,h1,Rps.set r j h⟩
theorem om (pk:List Nat) (i:Nat) (hk:JE X XE k dk) (he:JE X XE e de) (hN:autoParam (X.N[i]?=some x) auR) (hv:Vis X.env.scope x:=by first | exact Or.inl rfl | exact Or.inr (Or.inl rfl) | exact Or.inr (Or.inr rfl))
  (ha:∀ v,assign (.Subscript (.Name x p) k ipos) X.env v=(do
   let ov <- holding [v] (eval (.Name x p) X.env)
   let iv <- holding [v,ov] (eval k X.env)
   standAt ipos
   holding [v,ov,iv] (setItem ov iv v)
   release [v,ov,iv] []):=by intro _;rfl)
  (hs:autoParam (swapsWithSole [.Subscript (.Name x p) k ipos] e pos.line X.env=pure false) auR) (hw:autoParam (swappedStores [.Subscript (.Name x p) k ipos] e X.env=pure none) auR)
  (h1:autoParam ((assignEach [.Subscript (.Name x p) k ipos] X.env).map (·.2)=[assign (.Subscript (.Name x p) k ipos) X.env]) auR) (hd:autoParam ((x == ("__debug__" : Str))=false) auD) (hcd:autoParam ((x == ("__classdict__" : Str))=false) auD) :
  JS X XE (.Assign [.Subscript (.Name x p) k ipos] e pos) (lq pk i dk de):=by
 obtain ⟨tk,p2,d2⟩:=hk.ex
 obtain ⟨te,p1,d1⟩:=he.ex
 refine ⟨_,GC p1 (vY (pv i hN hv hd hcd) p2 set_list ha) hs hw h1,λ{B0 B H0 H σ ds e T} c h o=>?_⟩
 obtain ⟨xs,hi,h⟩:=zS h
 obtain ⟨l,us,e1,f1,f2,f3⟩:=c.slot i _ hi
 have fin:∀ {H1 H2:Hp}{a:D}{v:V},Ext H0 H H1 H2->Rp X.K H1 a v->dk ds (λk=>aI k λn=>∃ j,ixN xs.length n=some j/\e.nx (ds.set i (.own (xs.set j a)))) (e.xc ds)->gSub (tVar i) tk ux v σ H2 T.nx:=by
  intro H1 H2 a v e' r h
  refine ⟨.ref l,WB e1,d2 (c.go e') h (λkv kd H3 H4 e2 rk zq=>?_) ((o.kx c).go e'.s)⟩
  obtain ⟨n,z,j,ij,hq⟩:=tm zq
  subst z
  have e3:=e'.trans e2
  refine ⟨l,us,n,j,rfl,rk,e3.s _ _ f2,by rw [f3.length];exact ij,?_⟩
  obtain ⟨a',us',g1,g2,g3,g4⟩:=c.push (ys:=xs.set j a) hi
  rw [e1] at g1
  cases g1
  exact o.nx _ _ _ _ (g4 H3 H4 _ e3 (Rps.set (r.same e2.s0) j (f3.same e3.s0))) hq
 by_cases hpk:pk=[]
 ·subst hpk
  exact d1 c h (λv a H1 H2 e' r h=>fin e' r (Qb h).2) (o.kx c)
 ·obtain ⟨H1,c1,s1,l1,n1⟩:=c.peekAt pk
  refine d1 c1 h (λv a H2 H3 e' r h=>?_) (o.kx c)
  obtain ⟨H4,e4,l4,_⟩:=e'.GZ s1 c.sub l1 n1
  exact fin e4 (Rp.less l4 a ((Qb h).1.resolve_left hpk) r) (Qb h).2
noncomputable def dPop (i:Nat) (g:DG):DS:=λds e=>sO ds[i]? λzs=>∃ xs d,zs=xs++[d]/\g d (ds.set i (.own xs)) e.nx
theorem EZ {K:aj}:∀ {xs:List D}{d:D}{vs:List V},Rps K H (xs++[d]) vs->∃ us v,vs=us++[v]/\Rps K H xs us/\Rp K H d v
 | [],_,_,h=>by
  obtain ⟨v,rfl,r⟩:=Tu h
  exact ⟨[],v,rfl,rfl,r⟩
 | x::xs,d,_,⟨u,us,e,h1,h⟩=>by
  subst e
  obtain ⟨ws,v,rfl,r1,r2⟩:=EZ h
  exact ⟨u::ws,v,rfl,⟨u,ws,rfl,h1,r1⟩,r2⟩
theorem oo {XE:St->XK}{K:aj}(i:Nat) (dg:Bs K t g):Io K XE (GB (tBM0 K "list" rPop (tVar i)) t) (dPop i g):=λ{B0 B H0 H σ ds e T} c h o=>by
 obtain ⟨zs,hi,xs,d,rfl,h⟩:=zS h
 obtain ⟨l,vs,e1,f1,f2,f3⟩:=c.slot i _ hi
 obtain ⟨us,v,rfl,r1,r2⟩:=EZ f3
 refine ⟨.ref l,WB e1,.inl ⟨rfl,_,SqL.of f2⟩,l,us++[v],v,rfl,rfl,f2,by simp,?_⟩
 rw [List.dropLast_concat]
 obtain ⟨a',us',g1,g2,g3,g4⟩:=c.push (ys:=xs) hi
 rw [e1] at g1
 cases g1
 exact dg (g4 H0 H us (.refl c.sub) r1) r2 h λσ' ds' c' _ h'=>o.nx _ _ _ _ c' h'
theorem tY (i:Nat) (hg:JG X tg g) (hN:autoParam (X.N[i]?=some x) auR) (hv:Vis X.env.scope x:=by first | exact Or.inl rfl | exact Or.inr (Or.inl rfl) | exact Or.inr (Or.inr rfl))
  (hbase:autoParam (attributeBase (.Name x p) "pop" X.env (eval (.Name x p) X.env)=eval (.Name x p) X.env) auR) (hline:autoParam ((apos.endLine == cpos.line)=true) auR)
  (hs:autoParam (swapsWithSole [tg] (.Call (.Attribute (.Name x p) "pop" apos) [] [] cpos) pos.line X.env=pure false) auR) (hw:autoParam (swappedStores [tg] (.Call (.Attribute (.Name x p) "pop" apos) [] [] cpos) X.env=pure none) auR)
  (h1:autoParam ((assignEach [tg] X.env).map (·.2)=[assign tg X.env]) auR) (hd:autoParam ((x == ("__debug__" : Str))=false) auD) (hcd:autoParam ((x == ("__classdict__" : Str))=false) auD) :
  JS X XE (.Assign [tg] (.Call (.Attribute (.Name x p) "pop" apos) [] [] cpos) pos) (dPop i g):=by
 obtain ⟨t,p2,d2⟩:=hg.ex
 exact ⟨_,GC (jq PySem.F.plainAttrs_list PySem.F.slot_list_pop PySem.F.type_list_pop pX (pv i hN hv hd hcd) hbase hline) p2 hs hw h1,oo i d2⟩
theorem Rfs.lookup {K:aj}:∀ {gs:List (Str × D)}{fs:List (Str × V)},Rfs K H gs fs->gs.lookup f=some d->∃ v,fs.lookup f=some v/\Rp K H d v
 | [],_,_,e=>by cases e
 | (k,d')::gs,_,⟨v,us,e,r,h⟩,q=>by
  subst e
  rw [lookup_cons] at q ⊢
  cases z:f == k with
  | true=>rw [z] at q;cases q;exact ⟨v,rfl,r⟩
  | false=>rw [z] at q;exact Rfs.lookup h q
theorem Rfs.yj {K:aj}:∀ {gs:List (Str × D)}{fs:List (Str × V)},Rfs K H gs fs->gs.lookup f=none->fs.lookup f=none
 | [],_,h,_=>by rw [show _=[] from h];rfl
 | (k,d')::gs,_,⟨v,us,e,r,h⟩,q=>by
  subst e
  rw [lookup_cons] at q ⊢
  cases z:f == k with
  | true=>rw [z] at q;cases q
  | false=>rw [z] at q;exact Rfs.yj h q
noncomputable def dFld (K:aj) (f:Str) (de:DE):DE:=λds q x=>de ds (λd=>∃ C gs v,d = .obj C gs/\Cls K C/\Xm K C f/\gs.lookup f=some v/\q v) x
theorem Zw {X:Cx}{K:aj}{de:DE}(hK:X.K=K) (h:JE X XE e de) (hb:autoParam (attributeBase e f X.env (eval e X.env)=eval e X.env) auR):JE X XE (.Attribute e f pos) (dFld K f de):=by
 subst hK
 obtain ⟨te,p,d⟩:=h.ex
 refine ⟨_,jh p hb,λc h k kx=>d c h (λv a H1 H2 e r zq=>?_) kx⟩
 obtain ⟨C,gs,w,z,h1,h2,h3,h4⟩:=zq
 subst z
 obtain ⟨a,dx,fs,rfl,h5,h6⟩:=r
 obtain ⟨u,h7,h8⟩:=h6.lookup h3
 exact ⟨a,C,dx,fs,u,rfl,e.sub _ _ h5,h1,h2,h7,k _ w _ _ e h8 h4⟩
noncomputable def putD (f:Str) (v:D):List (Str × D)->List (Str × D)
 | []=>[(f,v)]
 | (g,w)::r=>if g=f then (g,v)::r else (g,w)::putD f v r
end
abbrev DSp:=List D->(D->Prop)->(Addr->Prop)->Prop
noncomputable def spD (K:aj) (g:DSp):Sp:=λvs H Q E=>∃ H0 xs q x,Zz H0 H/\Rps K H0 xs vs/\g xs q x/\KE K H0 H q Q/\∀ C H',Zz H H'->x C->E (.ref C) none H'
theorem oq:Yy X XN:=uX
section
noncomputable def dCall (g:DSp) (da:DA):DE:=λds q x=>da ds (λxs=>g xs q x) x
theorem ot (F:Zx X.prog X.w X.K X.mg X.base (CXE X.prog X.w) k f fd ps (spD X.K g)) (hr:YZ k X.A) (hg:Gl X x) (hm:X.mg x=some (.ref f)) (hk:keepIn X.K (.ref f)=true) (hb:Binds X.K fd ps []) (hx:Yy X XE)
  (ha:JAs X XE (e::es) da) (hst:autoParam (ZZ (e::es)=true) auR) (hdb:autoParam ((x == ("__debug__" : Str))=false) auD):JE X XE (.Call (.Name x p) (e::es) [] pos) (dCall g da):=by
 obtain ⟨ta,p1,d1⟩:=ha.ex
 refine ⟨_,(NI F hr hg hm hk hb hx ⟨p1⟩ hst hdb).get,λc h k kx=>d1 c h (λvs xs H1 H2 e r h=>?_) kx⟩
 exact ⟨H1,xs,_,_,e.sub,r,h,k.go e,(kx.go e.s)⟩
structure MOkD (P:Program) (w:World) (K:aj) (mg:Str->Option Value) (base:Heap) (k:Nat) (C:Addr) (m:Str) (g:DSp):Prop where
 cl:Cls K C
 ok:∃ f fd ps,Meth K C m f/\Zx P w K mg base (CXE P w) k f fd ps (spD K g)/\Binds K fd ps []
noncomputable def tZ (P:Program) (w:World) (K:aj) (mg:Str->Option Value) (base:Heap) (k:Nat) (m:Str) (dO:DE) (da:DA):DE:=λds q x=>dO ds (λo=>∃ C gs g,o = .obj C gs/\MOkD P w K mg base k C m g/\gs.lookup m=none/\da ds (λxs=>g (o::xs) q x) x) x
noncomputable def sd (X:Cx) (XE:St->XK) (k:Nat) (m:Str) (ta:TE) (t:TA):TE:=λσ H Q=>ta σ H λx H1=>∃ a C dx fs sp,x = .ref a/\H1 a=some (.ins C dx fs)/\(Cls X.K C/\∃ f fd ps,Meth X.K C m f/\Zx X.prog X.w X.K X.mg X.base (CXE X.prog X.w) k f fd ps sp/\Binds X.K fd ps [])/\fs.lookup m=none /\
 t σ H1 λvs H2=>sp (x::vs) H2 Q (XE σ)
theorem se (hr:YZ k X.A) (hx:Yy X XE) (he:PE X o ta) (ha:PA X (e::es) t)
  (hst:starEach (e::es) X.env=(false,eval e X.env)::starEach es X.env) (hpl:(backTo pos (starEach es X.env)).any (·.1)=false)
  (ht:eval (.Call (.Attribute o m apos) (e::es) [] pos) X.env=(do
   let ov <- eval o X.env
   standAt apos.atName
   let (f,first) <- holding [ov] (getMethod ov m pl)
   callWith pos f first (backTo pos (starEach (e::es) X.env)) (backToKw pos (keywordEach [] X.env)))) :
  PE X (.Call (.Attribute o m apos) (e::es) [] pos) (sd X XE k m ta t):=by
 intro pins s σ H Q I h
 refine PySem.W.methodCall_KW (pl:=pl) (thn (he pins s σ H _ I h) λu s1 zq=>?_) ht
 obtain ⟨x,H1,I1,rx,a,C,dx,fs,sp,ex,ea,mo,l,q⟩:=zq
 obtain ⟨c,f,fd,ps,hm,F,hb⟩:=mo
 subst ex
 obtain rfl:u=Value.ref a:=rx
 refine CV I1 ea c hm l ?_
 refine callWith_K (first:=[.ref a]) (h₀:=X.base) I.ok.mod.kin hm.kp (thn (ha pos pins s1 σ H1 _ I1 q) λus s2 ⟨vs,H2,I2,r,q2⟩=>⟨I2.kIn,?_⟩) hst hpl
 exact zO (us := .ref a::us) (vs := .ref a::vs) F hr hb hx I2 (.cons rfl r) q2
theorem sf {k:Nat}{m:Str}{P:Program}{w:World}{K:aj}{mg:Str->Option Value}{base:Heap}(e1:X.prog=P) (e2:X.w=w) (e3:X.K=K) (e4:X.mg=mg) (e5:X.base=base) (d1:Den X.K XE ta dO) (d2:DenA X.K XE t da):Den X.K XE (sd X XE k m ta t) (tZ P w K mg base k m dO da):=by
 subst e1 e2 e3 e4 e5
 intro B0 B H0 H σ ds q x Q c h kq kx
 refine d1 c h (λv o H1 H2 e r zq=>?_) kx
 obtain ⟨C,gs,g,z,mo,l,h⟩:=zq
 subst z
 obtain ⟨a,dx,fs,rfl,h1,h2⟩:=r
 obtain ⟨cl,f,fd,ps,hm,F,hb⟩:=mo
 refine ⟨a,C,dx,fs,_,rfl,e.sub _ _ h1,⟨cl,f,fd,ps,hm,F,hb⟩,h2.yj l,d2 (c.go e) h (λvs xs H3 H4 e' r' h'=>?_) (kx.go e.s)⟩
 exact ⟨H3,.obj C gs::xs,_,_,(e.trans e').sub,⟨_,vs,rfl,⟨a,dx,fs,rfl,e'.s0 _ _ h1,h2.same e'.s0⟩,r'⟩,h',kq.go (e.trans e'),kx.go (e.trans e').s⟩
theorem ou {K:aj}{base:Heap}{k:Nat}{m:Str}{pos apos:Pos}{e o:Expr}{es:List Expr}{dO:DE}{da:DA}{pl:Sem Bool}(hr:YZ k X.A) (hx:Yy X XE) (ho:JE X XE o dO) (ha:JAs X XE (e::es) da)
  (e1:autoParam (X.prog=P) auR) (e2:autoParam (X.w=w) auR) (e3:autoParam (X.K=K) auR) (e4:autoParam (X.mg=mg) auR) (e5:autoParam (X.base=base) auR)
  (hst:autoParam (starEach (e::es) X.env=(false,eval e X.env)::starEach es X.env) auR) (hpl:autoParam ((backTo pos (starEach es X.env)).any (·.1)=false) auR)
  (ht:autoParam (eval (.Call (.Attribute o m apos) (e::es) [] pos) X.env=(do
   let ov <- eval o X.env
   standAt apos.atName
   let (f,first) <- holding [ov] (getMethod ov m pl)
   callWith pos f first (backTo pos (starEach (e::es) X.env)) (backToKw pos (keywordEach [] X.env)))) auR):JE X XE (.Call (.Attribute o m apos) (e::es) [] pos) (tZ P w K mg base k m dO da):=by
 obtain ⟨to,p1,d1⟩:=ho.ex
 obtain ⟨ta,p2,d2⟩:=ha.ex
 exact ⟨_,se (pl:=pl) hr hx p1 p2 hst hpl ht,sf e1 e2 e3 e4 e5 d1 d2⟩
theorem Dc (M:MkP X.K C) (hg:Gl X x) (hm:X.mg x=some (.ref C)) (hdb:autoParam ((x == ("__debug__" : Str))=false) auD):JE X XE (.Call (.Name x p) [] [] pos) (dC (.obj C [])) :=
 ⟨_,uL M hg hm hdb,λ{B0 B H0 H σ ds q x Q} c h k kx=>λa dx ha hd ne=>by
  have s0:=c.sub
  have e1:Ext H0 H H0 (upd H dx (.own a)) := .grow s0 (Zz.upd hd)
  have ha2:upd H dx (.own a) a=none:=by rw [Zj ne.symm];exact ha
  exact k _ (.obj C []) _ _ (e1.trans (.put e1.sub ha2)) ⟨a,dx,[],rfl,Zy,rfl⟩ h⟩
abbrev Bx:=List D->(List (Str × D)->Prop)->(Addr->Prop)->Prop
noncomputable def sg (a:Addr) (H H':Hp):Prop:=∀ b o,b≠a->H b=some o->H' b=some o
noncomputable def spI (K:aj) (C:Addr) (g:Bx):Sp:=λvs H Q E=>∃ a dx us H0 xs q x,vs = .ref a::us/\H a=some (.ins C dx [])/\H0 a=none/\Zz H0 H/\Rps K H0 xs us/\g xs q x /\
 (∀ gs fs H0' H',sg a H H'->Zz H0 H0'->Zz H0' H'->(∀ b,H0 b=none->H b≠none->H0' b=none)->H' a=some (.ins C dx fs)->Rfs K H0' gs fs->q gs->Q .non H')/\∀ C' H',sg a H H'->x C'->E (.ref C') none H'
noncomputable def lu (C:Addr) (g:Bx) (dvs:List D) (da:DA):DE:=λds q x=>da ds (λxs=>g (xs++dvs) (λgs=>q (.obj C gs)) x) x
theorem NS (M:Mk X.K C f) (F:Zx X.prog X.w X.K X.mg X.base (CXE X.prog X.w) k f fd ps (spI X.K C g)) (hr:YZ (k + 1) X.A) (hg:Gl X x) (hm:X.mg x=some (.ref C)) (hb:Binds X.K fd ps ds) (hd:Vals dvs ds) (hdd:∀ H,Rps X.K H dds dvs) (hx:Yy X XE)
  (ha:JAs X XE (e::es) da) (hst:autoParam (ZZ (e::es)=true) auR) (hdb:autoParam ((x == ("__debug__" : Str))=false) auD):JE X XE (.Call (.Name x p) (e::es) [] pos) (lu C g dds da):=by
 obtain ⟨ta,p1,d1⟩:=ha.ex
 refine ⟨_,(pV M F hr hg hm hb hd hx ⟨p1⟩ hst hdb).get,λ{B0 B H0 H σ ds q x Q} c h kq kx=>d1 c h (λvs xs H1 H2 ee r h=>λa dx hna hnd ne=>?_) kx⟩
 have s2:Zz H1 H2:=ee.sub
 have na2:upd H2 dx (.own a) a=none:=by rw [Zj ne.symm];exact hna
 have s3:Zz H2 (upd (upd H2 dx (.own a)) a (.ins C dx [])):=(Zz.upd hnd).trans (Zz.upd na2)
 have h1a:H1 a=none:=s2.free hna
 have h1d:H1 dx=none:=s2.free hnd
 refine ⟨a,dx,vs++dvs,H1,xs++dds,λgs=>q (.obj C gs),x,rfl,Zy,h1a,s2.trans s3,r.app (hdd H1),h,λgs fs H0' H' so s0 sub nw hfa rf hq=>⟨rfl,?_⟩,λC' H' so hx'=>?_⟩
 ·have up:Zz H2 H':=λb o z=>so b o (λy=>by rw [y,hna] at z;cases z) (s3 _ _ z)
  have n0a:H0' a=none:=nw a h1a (by rw [Zy];simp)
  have ext:Ext H1 H2 (upd H0' a (.ins C dx fs)) H':=by
   refine ⟨up,s0.trans (Zz.upd n0a),λb o z=>?_,λb z y=>?_⟩
   ·by_cases hb:b=a
    ·subst hb;rw [Zy] at z;rw [hfa];exact z
    ·rw [Zj hb] at z;exact sub _ _ z
   ·rw [Zj (λw=>y (by rw [w];exact hna))]
    refine nw b z λw=>y ?_
    exact s3.free w
  exact kq _ (.obj C gs) _ _ (ee.trans ext) ⟨a,dx,fs,rfl,Zy,rf.same (Zz.upd n0a)⟩ hq
 ·refine kx C' H' (ee.s.trans λb o z=>so b o (λy=>by rw [y,hna] at z;cases z) (s3 _ _ z)) hx'
theorem Rfs.put {K:aj}(r:Rp K H d v):∀ {gs:List (Str × D)}{fs:List (Str × V)},Rfs K H gs fs->Rfs K H (putD f d gs) (Sr f v fs)
 | [],_,h=>by rw [show _=[] from h];exact ⟨v,[],rfl,r,rfl⟩
 | (k,d')::gs,_,⟨u,us,e,r',h⟩=>by
  subst e
  unfold putD Sr
  split
  ·exact ⟨v,us,rfl,r,h⟩
  ·exact ⟨u,_,rfl,r',Rfs.put r h⟩
theorem Rfs.length {K:aj}:∀ {gs:List (Str × D)}{fs:List (Str × V)},Rfs K H gs fs->fs.length=gs.length
 | [],_,h=>by rw [show _=[] from h];rfl
 | (k,d')::gs,_,⟨u,us,e,r',h⟩=>by subst e;rw [length_cons,length_cons,Rfs.length h]
noncomputable def ly (K:aj) (pk:List Nat) (i:Nat) (f:Str) (de:DE):DS:=λds e=>∃ a dx C gs,ds[i]?=some (.ob a dx C gs)/\Cls K C/\Xm K C f/\gs.length < 1000/\de (peekAt pk ds) (λd=>e.nx ((peekAt pk ds).set i (.ob a dx C (putD f d gs)))) (e.xc ds)
theorem ow {i:Nat}(h:ds[i]?=some (.ob a dx C gs)):(peekAt pk ds)[i]?=some (.ob a dx C gs):=by
 unfold peekAt
 induction pk generalizing ds with
 | nil=>exact h
 | cons j pk ih =>
  refine ih ?_
  rw [List.getElem?_modify,h]
  by_cases z:j=i
  ·simp [z,Slot.peek]
  ·simp [z]
theorem Sz {X:Cx}{K:aj}(pk:List Nat) (i:Nat) {de:DE}(hK:X.K=K) (he:JE X XE e de) (hN:autoParam (X.N[i]?=some x) auR) (hv:Vis X.env.scope x:=by first | exact Or.inl rfl | exact Or.inr (Or.inl rfl) | exact Or.inr (Or.inr rfl))
  (hs:autoParam (swapsWith e (some (.Attribute (.Name x p) f apos)) pos.line X.env=pure false) auR) (hd:autoParam ((x == ("__debug__" : Str))=false) auD) (hcd:autoParam ((x == ("__classdict__" : Str))=false) auD):JS X XE (.Assign [.Attribute (.Name x p) f apos] e pos) (ly K pk i f de):=by
 subst hK
 obtain ⟨te,p1,d1⟩:=he.ex
 refine ⟨_,ji (pv i hN hv hd hcd) p1 hs,λ{B0 B H0 H σ ds e T} c h o=>?_⟩
 obtain ⟨a,dx,C,gs,hi,h1,h2,h3,h⟩:=h
 obtain ⟨Hp,cp,_⟩:=c.peekAt pk
 have hip:=ow (pk:=pk) hi
 obtain ⟨fs,e1,f1,f2,f3⟩:=cp.slot i _ hip
 refine d1 cp h (λv d H1 H2 ee r hq=>⟨.ref a,WB e1,a,C,dx,fs,rfl,ee.s _ _ f2,h1,h2,by rw [f3.length];exact h3,?_⟩) (o.kx c)
 have c':=cp.go ee
 refine o.nx _ _ _ _ (c'.write hip e1 (λb z=>z) (s' := .ob a dx C (putD f d gs)) ⟨_,e1,ee.new a f1 (by rw [f2];simp),Zy,(f3.same ee.s0).put r⟩) hq
end
section
variable {P:Program}{w:World}{K:aj}{mg:Str->Option Value}{base:Heap}{N:List Str}{qual:Str}{scope:Scope}{f C:Addr}{cdv:Value}{A:Around}{outer:List Env}{s:Shared}{H:Hp}{E:XK}
 {x:Str}{np cpos pos:Pos}{e₀:Expr}{rest:List Expr}{da:DA}
noncomputable def si (C:Addr) (pk:List Nat) (da:DA):DS:=λds e=>da (peekAt pk ds) (λxs=>xs.length<=aA/\e.xc ds C) (e.xc ds)
theorem Xu (pk:List Nat) (c:Bj K C) (hm:mg x=some (.ref C)) (ha:JAs (XG (CXE P w) P w K mg base N qual scope f cdv A outer s H E) (λ_=>E) (e₀::rest) da)
  (hg:autoParam (Gl (XG (CXE P w) P w K mg base N qual scope f cdv A outer s H E) x) auR) (hst:autoParam (ZZ (e₀::rest)=true) auR) (hdb:autoParam ((x == ("__debug__" : Str))=false) auD) :
  JS (XG (CXE P w) P w K mg base N qual scope f cdv A outer s H E) (λ_=>E) (.Raise (some (.Call (.Name x np) (e₀::rest) [] cpos)) none pos) (si C pk da):=by
 obtain ⟨ta,p1,d1⟩:=ha.ex
 refine ⟨_,(uY c hm ⟨p1⟩ hg hst hdb).get,λ{B0 B H0 H σ ds e T} c h o=>?_⟩
 obtain ⟨H1,c1,_⟩:=c.peekAt pk
 exact d1 c1 h (λvs xs H2 H3 ee r hb=>⟨by rw [r.length];exact hb.1,o.kx c C H3 ee.s hb.2⟩) (o.kx c)
end
section
theorem lA {Xf:ι->Cx}{K:aj}{st:List Stmt}(hK:∀ z,(Xf z).K=K) (h:∀ z,JSs (Xf z) XE' st s):∃ t,(∀ z,PSs (Xf z) st t)/\Io K XE' t s:=by
 refine ⟨λT σ H=>∃ B0 B H0 ds e,Cfg K B0 B H0 H σ ds/\s ds e/\Im K XE' B0 B e T,λz=>?_,λc hs o=>⟨_,_,_,_,_,c,hs,o⟩⟩
 intro pins sh σ H T I ⟨B0,B,H0,ds,e,c,hs,o⟩
 obtain ⟨t,p,d⟩:=(h z).ex
 have kk:=hK z
 subst kk
 exact p pins sh σ H T I (d c hs o)
noncomputable def ib (K:aj) (W:Addr) (j:Nat) (b s:DS):DS:=λds e=>∃ x:DSt->Addr->Prop,b ds { e with xc:=x }/\∀ ds' C,x ds' C->subIn K (.ref C) (.ref W)=some true /\
 s (ds'.set j (.v (.exc C))) { e with nx:=λd2=>e.nx (d2.set j .un),bk:=λd2=>e.bk (d2.set j .un),ct:=λd2=>e.ct (d2.set j .un),xc:=λ_ _=>False }
theorem sk {XE:St->XK}{K:aj}{body suite:List Stmt}{b₀:Stmt}{np hpos pos:Pos}{b s:DS}(hK:X.K=K) (c:WCls X.K W) (hg:Gl X x) (hm:X.mg x=some (.ref W))
  (hN:X.N.Nodup) (hj:X.N[j]?=some n) (hb:∀ XE',∀ pins,JSs (JX X pins XE') XE' body b) (hs:∀ e,JSs (X.handling e) XN (b₀::suite) s)
  (hcalm:autoParam (X.calm=true) auR) (hst:autoParam (X.stack=X.env::X.outer) auR) (hfr:autoParam (X.env.frame=some X.env.locals) auR) (hex:autoParam (X.ex=[]) auR) (hl:autoParam (X.env.scope.names.lookup n=some .local) auR) (hlk:autoParam (X.env.kindOf n=some .local) auR)
  (hfn:autoParam (X.fn n=true) auR) (hdb:autoParam ((x == ("__debug__" : Str))=false) auD) :
  JS X XE (.Try body [.ExceptHandler (some (.Name x np)) (some n) (b₀::suite) hpos] [] [] pos) (ib K W j b s):=by
 subst hK
 have hb':∀ XE',∃ t,(∀ pins,PSs (JX X pins XE') body t)/\Io X.K XE' t b:=λXE'=>lA (Xf:=λpins=>JX X pins XE') (λ_=>rfl) (hb XE')
 obtain ⟨ts,p2,d2⟩:=lA (Xf:=λe=>X.handling e) (K:=X.K) (λ_=>rfl) hs
 refine ⟨_,uR (tb:=λXE'=>(hb' XE').choose) c hg hm hN hj (λpins XE'=>(hb' XE').choose_spec.1 pins) p2 hcalm hst hfr hex hl hlk hfn hdb,λ{B0 B H0 H σ ds e T} c h o=>?_⟩
 obtain ⟨xx,h1,h2⟩:=h
 refine ⟨λσ' cls _ H'=>∃ H0' ds' C,cls = .ref C/\Cfg X.K B0 B H0' H' σ' ds'/\xx ds' C,?_,?_⟩
 ·exact (hb' _).choose_spec.2 c h1 ⟨o.nx,o.rt,λH0 H σ ds C c' h'=>⟨H0,ds,C,rfl,c',h'⟩,o.bk,o.ct,o.rb,o.ro⟩
 ·rintro σ' H' cls ⟨H0',ds',C,rfl,c',hx⟩
  obtain ⟨sb,hh⟩:=h2 ds' C hx
  refine ⟨C,rfl,sb,λex hexn=>?_⟩
  have ee:Ext H0' H' (upd H0' ex (Bk ex C)) (upd H' ex (Bk ex C)) := .put c'.sub hexn
  have c3:=(c'.go ee).uZ j (d := .exc C) (v := .ref ex) ⟨ex,rfl,Zy⟩
  exact d2 c3 hh ⟨λH0 H σ ds c4 h4=>o.nx _ _ _ _ (c4.unset j) h4,o.rt,λ_ _ _ _ _ _ h=>h.elim,λH0 H σ ds c4 h4=>o.bk _ _ _ _ (c4.unset j) h4,λH0 H σ ds c4 h4=>o.ct _ _ _ _ (c4.unset j) h4,o.rb,o.ro⟩
end
section
noncomputable def WO (N:List Str) (xs:List D):DSt:=xs.map .v++replicate (N.length - xs.length) .un
theorem Rps.at {K:aj}:∀ {xs:List D}{vs:List V}{i:Nat}{d:D},Rps K H xs vs->xs[i]?=some d->∃ v,vs[i]?=some v/\Rp K H d v:=λh e=>h.get e
theorem MX {K:aj}(s:Zz H0 H) (r:Rps K H0 xs vs) (hl:xs.length<=N.length):Cfg K H0 H H0 H (start N vs) (WO N xs):=by
 have no:∀ (i:Nat) t,(WO N xs)[i]?=some t->t.isOwn=false:=λi t e=>by
  unfold WO at e
  by_cases h:i < xs.length
  ·rw [getElem?_append_left (by rw [length_map];exact h),getElem?_map,aC h] at e
   cases e;rfl
  ·rw [getElem?_append_right (by rw [length_map];omega),length_map,getElem?_replicate] at e
   split at e
   ·cases e;rfl
   ·cases e
 refine ⟨.refl s,λi t e=>?_,λi t a e q=>?_,λi j t u a _ e _ q=>?_,?_⟩
 ·unfold WO at e
  unfold start
  by_cases h:i < xs.length
  ·rw [getElem?_append_left (by rw [length_map];exact h),getElem?_map,aC h] at e
   cases e
   obtain ⟨v,e1,r1⟩:=r.get (aC h)
   rw [getElem?_append_left (by rw [length_map,r.length];exact h),getElem?_map,e1]
   exact ⟨v,rfl,r1⟩
  ·rw [getElem?_append_right (by rw [length_map];omega),length_map,getElem?_replicate] at e
   split at e
   ·cases e;trivial
   ·cases e
 ·have:=no i t e;rw [Slot.Wk q] at this;cases this
 ·have:=no i t e;rw [Slot.Wk q] at this;cases this
 ·unfold start WO
  simp only [length_append,length_map,length_replicate,r.length]
theorem Fun.okJ {P:Program}{K:aj}{st:Stmt}{f:Addr}{fd:FuncData}{N ps:List Str}{k:Nat}{g:DSp}(F:Fun K x qual st f fd) (S:Zh N ps (Zf st)) (len:∀ xs q x,g xs q x->xs.length=ps.length)
  (hbody:∀ (cdv:Value) (A:Around) (outer:List Env) (s:Shared) (H:Hp) (E:XK),YZ k (A.deeper (envOfC qual (Zf st) s.heap.objs.size f cdv)) ->
   ∃ b,JSs (XG (CXE P w) P w K mg base N qual (Zf st) f cdv A outer s H E) (λ_=>E) (Yc st) b/\∀ xs q x,g xs q x->b (WO N xs) { nx:=λ_=>q .non,rt:=q,xc:=λ_=>x }):Zx P w K mg base (CXE P w) (k + 1) f fd ps (spD K g):=by
 have hpl:ps.length<=N.length:=by have:=congrArg length S.pre;rw [length_take] at this;omega
 refine F.okX S (λvs H Q E zq=>by obtain ⟨H0,xs,q,x,s,r,h,_⟩:=zq;rw [r.length];exact len xs q x h) λcdv A outer s H vs Q E hr hsp=>?_
 obtain ⟨H0,xs,q,x,s0,r,h,kq,kx⟩:=hsp
 obtain ⟨b,j,hb⟩:=hbody cdv A outer s H E hr
 obtain ⟨t,p,d⟩:=j.ex
 refine ⟨t,⟨p⟩,d (MX s0 r (by rw [len xs q x h];exact hpl)) (hb xs q x h) ⟨λH0' H' σ ds c hq=>kq _ .non _ _ c.ext rfl hq,λv d H0' H' e rv hq=>kq _ _ _ _ e rv hq,λH0' H' σ ds C c hx=>kx C H' c.ext.s hx,λ_ _ _ _ _ h=>h.elim,λ_ _ _ _ _ h=>h.elim,λ_ _ _ _ _ _ _ _ h=>h.elim,λ_ _ _ _ _ _ _ _ _ _ _ _ _ h=>h.elim⟩⟩
theorem yk {K:aj}{st:Stmt}{f C:Addr}{N ps:List Str}{g:Bx}{cdv:Value}{A:Around}{outer:List Env}{s:Shared}{H:Hp}{vs:List V}{Q:VK}{E:XK}(hpl:ps.length<=N.length) (len:∀ xs q x,g xs q x->xs.length + 1=ps.length)
  (hbody:∃ b,JSs (XG (CXE P w) P w K mg base N qual (Zf st) f cdv A outer s H E) (λ_=>E) (Yc st) b/\∀ a dx xs q x,g xs q x->b (.ob a dx C []::(xs.map .v++replicate (N.length - (xs.length + 1)) .un)) { nx:=λds=>∃ gs,ds[0]?=some (.ob a dx C gs)/\q gs,rt:=λ_=>False,xc:=λ_=>x })
  (hsp:spI K C g vs H Q E):∃ t,QSs (XG (CXE P w) P w K mg base N qual (Zf st) f cdv A outer s H E) (Yc st) t/\t { nx:=λ_ H'=>Q .non H',rt:=Q } (start N vs) H:=by
 classical
 obtain ⟨a,dx,us,H0,xs,q,x,rfl,ha,h0,s0,r,h,kq,kx⟩:=hsp
 obtain ⟨b,j,hb⟩:=hbody
 obtain ⟨t,p,d⟩:=j.ex
 have hl:=len xs q x h
 -- the heap without the new object
 let B:Hp:=λc=>if c=a then none else H c
 have sB:Zz H0 B:=λc o z=>by
  show (if c=a then none else H c)=_
  rw [if_neg (λy=>by rw [y,h0] at z;cases z)]
  exact s0 _ _ z
 have sBH:Zz B H:=λc o z=>by
  have z:(if c=a then none else H c)=some o:=z
  split at z
  ·cases z
  ·exact z
 have hBa:B a=none:=if_pos rfl
 have len1:(start N (.ref a::us)).length=(Slot.ob a dx C []::(xs.map Slot.v++replicate (N.length - (xs.length + 1)) Slot.un)).length:=by
  unfold start
  simp only [length_append,length_map,length_replicate,length_cons,r.length]
  omega
 have at0:∀ i,(start N (.ref a::us))[i + 1]?=(us.map some++replicate (N.length - (us.length + 1)) none)[i]?:=λi=>by
  unfold start
  rw [map_cons,cons_append,List.getElem?_cons_succ,length_cons]
 have own0:∀ (i:Nat) t,(Slot.ob a dx C []::(xs.map Slot.v++replicate (N.length - (xs.length + 1)) Slot.un))[i]?=some t->t.isOwn=true->i=0:=λi t e w=>by
  cases i with
  | zero=>rfl
  | succ i =>
   rw [List.getElem?_cons_succ] at e
   by_cases hi:i < xs.length
   ·rw [getElem?_append_left (by rw [length_map];exact hi),getElem?_map,aC hi] at e
    cases e;cases w
   ·rw [getElem?_append_right (by rw [length_map];omega),length_map,getElem?_replicate] at e
    split at e
    ·cases e;cases w
    ·cases e
 have c:Cfg K H0 B H0 H (start N (.ref a::us)) (.ob a dx C []::(xs.map .v++replicate (N.length - (xs.length + 1)) .un)):=by
  refine ⟨⟨sBH,.refl _,s0,λb z _=>z⟩,λi t e=>?_,λi t b e w=>?_,λi j t u b ne e e' w w'=>ne ((own0 i t e (Slot.Wk w)).trans (own0 j u e' (Slot.Wk w')).symm),len1⟩
  ·cases i with
   | zero =>
    cases e
    exact ⟨[],rfl,h0,ha,rfl⟩
   | succ i =>
    rw [List.getElem?_cons_succ] at e
    rw [at0]
    by_cases hi:i < xs.length
    ·rw [getElem?_append_left (by rw [length_map];exact hi),getElem?_map,aC hi] at e
     cases e
     obtain ⟨v,e1,r1⟩:=r.get (aC hi)
     rw [getElem?_append_left (by rw [length_map,r.length];exact hi),getElem?_map,e1]
     exact ⟨v,rfl,r1⟩
    ·rw [getElem?_append_right (by rw [length_map];omega),length_map,getElem?_replicate] at e
     split at e
     ·cases e;trivial
     ·cases e
  ·have:=own0 i t e (Slot.Wk w)
   subst this
   cases e
   have z:some (V.ref a)=some (V.ref b):=w
   cases z
   exact hBa
 have so:∀ {H':Hp},Zz B H'->sg a H H':=λsh b o ne z=>sh b o (by show (if b=a then none else H b)=_;rw [if_neg ne];exact z)
 refine ⟨t,⟨p⟩,d c (hb a dx xs q x h) ⟨λH0' H' σ ds c' ⟨gs,e,hq⟩=>?_,λ_ _ _ _ _ _ h=>h.elim,λH0' H' σ ds C' c' hx=>kx C' H' (so c'.ext.s) hx,λ_ _ _ _ _ h=>h.elim,λ_ _ _ _ _ h=>h.elim,λ_ _ _ _ _ _ _ _ h=>h.elim,λ_ _ _ _ _ _ _ _ _ _ _ _ _ h=>h.elim⟩⟩
 obtain ⟨fs,f0,f1,f2,f3⟩:=c'.slot 0 _ e
 refine kq gs fs H0' H' (so c'.ext.s) c'.ext.s0 c'.sub (λb z y=>?_) f2 f3 hq
 by_cases hb:b=a
 ·rw [hb];exact f1
 ·refine c'.ext.new b z ?_
  show (if b=a then none else H b)≠none
  rw [if_neg hb]
  exact y
theorem Fun.okI {K:aj}{st:Stmt}{f C:Addr}{fd:FuncData}{N ps:List Str}{k:Nat}{g:Bx}(F:Fun K x qual st f fd) (S:Zh N ps (Zf st)) (len:∀ xs q x,g xs q x->xs.length + 1=ps.length)
  (hbody:∀ (cdv:Value) (A:Around) (outer:List Env) (s:Shared) (H:Hp) (E:XK),YZ k (A.deeper (envOfC qual (Zf st) s.heap.objs.size f cdv)) ->
   ∃ b,JSs (XG (CXE P w) P w K mg base N qual (Zf st) f cdv A outer s H E) (λ_=>E) (Yc st) b/\∀ a dx xs q x,g xs q x->b (.ob a dx C []::(xs.map .v++replicate (N.length - (xs.length + 1)) .un)) { nx:=λds=>∃ gs,ds[0]?=some (.ob a dx C gs)/\q gs,rt:=λ_=>False,xc:=λ_=>x }):Zx P w K mg base (CXE P w) (k + 1) f fd ps (spI K C g):=by
 have hpl:ps.length<=N.length:=by have:=congrArg length S.pre;rw [length_take] at this;omega
 refine F.okX S (λvs H Q E zq=>by obtain ⟨a,dx,us,H0,xs,q,x,e,_,_,_,r,h,_⟩:=zq;rw [e,length_cons,r.length];exact len xs q x h) λcdv A outer s H vs Q E hr hsp=>?_
 exact yk hpl len (hbody cdv A outer s H E hr) hsp
theorem EG.okI {K:aj}{st:Stmt}{f C:Addr}{fd:FuncData}{ds:List Value}{N ps:List Str}{k:Nat}{g:Bx}(F:EG K x qual st f fd ds) (S:Zh N ps (Zf st)) (len:∀ xs q x,g xs q x->xs.length + 1=ps.length)
  (hbody:∀ (cdv:Value) (A:Around) (outer:List Env) (s:Shared) (H:Hp) (E:XK),YZ k (A.deeper (envOfC qual (Zf st) s.heap.objs.size f cdv)) ->
   ∃ b,JSs (XG (CXE P w) P w K mg base N qual (Zf st) f cdv A outer s H E) (λ_=>E) (Yc st) b/\∀ a dx xs q x,g xs q x->b (.ob a dx C []::(xs.map .v++replicate (N.length - (xs.length + 1)) .un)) { nx:=λds=>∃ gs,ds[0]?=some (.ob a dx C gs)/\q gs,rt:=λ_=>False,xc:=λ_=>x }):Zx P w K mg base (CXE P w) (k + 1) f fd ps (spI K C g):=by
 have hpl:ps.length<=N.length:=by have:=congrArg length S.pre;rw [length_take] at this;omega
 refine F.okX S (λvs H Q E zq=>by obtain ⟨a,dx,us,H0,xs,q,x,e,_,_,_,r,h,_⟩:=zq;rw [e,length_cons,r.length];exact len xs q x h) λcdv A outer s H vs Q E hr hsp=>?_
 exact yk hpl len (hbody cdv A outer s H E hr) hsp
end
section
noncomputable def dAug (i:Nat) (de:DE) (g:Int->Int->Int):DS:=λds e=>sV ds[i]? λz=>aI z λa=>de ds (λd=>aI d λb=>e.nx (ds.set i (.v (.int (g a b))))) (e.xc ds)
end
theorem Zx.noX {K:aj}{f:Addr}{fd:FuncData}{ps:List Str}{sp sp':Sp}(F:Zx P w K mg base (CXE P w) k f fd ps sp)
  (h:∀ vs H Q E,sp' vs H Q E->sp vs H Q (λ_ _ _=>False)):Zx P w K mg base CX0 k f fd ps sp':=by
 refine ⟨λvs H Q E q=>F.len vs H Q _ (h _ _ _ _ q),λA outer s H args us vs Q E hr he hb hv hs=>?_⟩
 refine codeAny_mono (F.run A outer s H args us vs Q _ hr he hb hv (h _ _ _ _ hs)) λr s' hq=>?_
 cases r with
 | ok fl=>cases fl <;> exact hq
 | error e =>
  obtain ⟨_,_,_,_,_,_,_,_,_,_,_,_,_,_,z⟩:=hq
  exact z.elim
noncomputable def yl (K:aj):Sp:=λvs H Q _=>∃ (a:Addr) (ns:List Int),vs=[.ref a]/\SqL K H a (ns.map V.int)/\ns.length<=63/\∀ H',Q (.bl true) H'
noncomputable def gLaw:DSp:=λxs q _=>∃ ns:List Int,xs=[.scr (ns.map .int)]/\ns.length<=63/\q (.bl true)
theorem De {K:aj}:∀ ns:List Int,Rps K H (ns.map .int) (ns.map V.int)
 | []=>rfl
 | n::ns=>⟨.int n,_,rfl,rfl,De ns⟩
theorem Zx.law {K:aj}{f:Addr}{fd:FuncData}{ps:List Str}(F:Zx P w K mg base (CXE P w) k f fd ps (spD K gLaw)):Zx P w K mg base CX0 k f fd ps (yl K) :=
 F.noX λvs H Q E ⟨a,ns,e,hS,hl,kq⟩=>⟨H,[.scr (ns.map .int)],λd=>d = .bl true,λ_=>False,.refl _,by subst e;exact ⟨_,[],rfl,⟨a,_,rfl,hS,De ns⟩,rfl⟩,⟨ns,rfl,hl,rfl⟩,λv d H0' H' e r z=>by subst z;rw [show v = .bl true from r];exact kq H',λ_ _ _ h=>h.elim⟩
section
theorem ox:Br (.int i) (.int j) q=q (.int (i + j)):=rfl
theorem oy:Br (.str i) (.str j) q=(i.length + j.length<=aA/\q (.str (i++j))):=rfl
theorem oz:Br (.lst i) (.lst j) q=(i.length + j.length<=aA/\q (.lst (i++j))):=rfl
theorem oA:Br (.scr i) (.lst j) q=(i.length + j.length<=aA/\q (.lst (i++j))):=rfl
theorem oB:Br (.tup i) (.tup j) q=(i≠[]/\i.length + j.length<=aA/\q (.tup (i++j))):=rfl
theorem z_ii:dII C g (.int i) (.int j) q=(C i j/\q (g i j)):=rfl
theorem z_i0:dI0 g (.int i) (.int j) q=q (g i j):=rfl
theorem z_mul:dMul (.int i) (.int j) q=(Od i j/\q (.int (i * j))):=rfl
theorem z_rep:dMul (.lst xs) (.int k) q=(-(2 ^ 63)<=k/\k < 2 ^ 63/\xs.length * k.toNat<=aA/\q (.lst (replicate k.toNat xs).flatten)):=rfl
theorem z_lt:dLt (.int i) (.int j) q=q (.bl (decide (i < j))):=rfl
theorem z_le:dLe (.int i) (.int j) q=q (.bl (decide (i<=j))):=rfl
theorem z_gt:dGt (.int i) (.int j) q=q (.bl (decide (j < i))):=rfl
theorem z_ge:dGe (.int i) (.int j) q=q (.bl (decide (j<=i))):=rfl
theorem z_isN:dIsN a .non q=q (.bl a.VD):=rfl
theorem ie:tG a .non q=q (.bl (!a.VD)):=rfl
theorem ig:dIx (.lst xs) (.int i) q=∃ d,atI xs i=some d/\q d:=rfl
theorem ik:dIx (.scr xs) (.int i) q=∃ d,atI xs i=some d/\q d:=rfl
theorem iq:dIx (.tup xs) (.int i) q=∃ d,atI xs i=some d/\q d:=rfl
theorem ir:dIx (.str z) (.int i) q=(z.length<=aA/\∃ c,atI z.cps.toList i=some c/\q (.str ⟨#[c]⟩)):=rfl
theorem iu {lo hi:Option Int}:dSl (.lst xs) lo hi q=q (.lst (cutD xs lo hi)):=rfl
theorem iw {lo hi:Option Int}:dSl (.scr xs) lo hi q=q (.lst (cutD xs lo hi)):=rfl
theorem iy {lo hi:Option Int}:dSl (.str y) lo hi q=(y.length<=aA/\q (.str (Txt.slice y lo hi))):=rfl
theorem oC:xm [.lst xs] q=q (.int xs.length):=rfl
theorem oE:xm [.scr xs] q=q (.int xs.length):=rfl
theorem oG:xm [.tup xs] q=q (.int xs.length):=rfl
theorem oH:xm [.str z] q=(z.length<=aA/\q (.int z.length)):=rfl
theorem sr:dAbs [.int i] q=q (.int (if i < 0 then -i else i)):=rfl
theorem su:zY [.int i,.int j] q=q (.int (if j > i then j else i)):=rfl
theorem sv:zZ [.int i] q=q (.int i):=rfl
theorem oI:zZ [.bl b] q=q (.int (if b then 1 else 0)):=rfl
theorem sx:dStr1 [.int i] q=(i.natAbs.log2 < 1920/\q (.str (toString i))):=rfl
theorem sy:Ij [.lst xs] q=q (.lst xs):=rfl
theorem sA:Ij [.scr xs] q=q (.lst xs):=rfl
theorem sC:Ij [.tup xs] q=q (.lst xs):=rfl
theorem oJ:Gd [.lst xs] q=q (.tup xs):=rfl
theorem oK:Gd [.tup xs] q=q (.tup xs):=rfl
theorem iz:dEq b (.int i) (.int j) q=q (.bl (if b then !decide (i=j) else decide (i=j))):=by
 show (true=true/\true=true/\true=true/\_)=_
 simp only [D.toV,true_and,V.int.injEq]
theorem iA:dEq b (.str i) (.str j) q=q (.bl (if b then !decide (i=j) else decide (i=j))):=by
 show (true=true/\true=true/\true=true/\_)=_
 simp only [D.toV,true_and,V.str.injEq]
theorem iB:dEq b (.bl i) (.bl j) q=q (.bl (if b then !decide (i=j) else decide (i=j))):=by
 show (true=true/\true=true/\true=true/\_)=_
 simp only [D.toV,true_and,V.bl.injEq]
theorem iC:dEq b (.tup xs) (.tup ys) q=(RJ (D.PY 80) xs ys=true/\q (.bl (if b then !D.Tv xs ys else D.Tv xs ys))):=rfl
theorem iD:dEq b (.lst xs) (.lst ys) q=(RJ (D.PY 80) xs ys=true/\q (.bl (if b then !D.Tv xs ys else D.Tv xs ys))):=rfl
theorem iE:dIn b (.str i) (.str j) q=q (.bl (if b then !inS i j else inS i j)):=rfl
theorem Gg (zs:List Str):(zs.map D.str).all D.flat=true:=by rw [all_map,all_eq_true];intro _ _;rfl
theorem xB (zs:List Int):(zs.map D.int).all D.flat=true:=by rw [all_map,all_eq_true];intro _ _;rfl
theorem Df (a:Str) (zs:List Str):inD (.str a) (zs.map .str)=decide (a∈zs):=by
 unfold inD
 rw [any_map]
 induction zs with
 | nil=>rfl
 | cons z zs ih =>
  rw [any_cons,ih]
  have:((λy=>D.eqF y (.str a)) ∘ D.str) z=decide (z=a):=by
   show (z == a)=_
   rw [Bool.eq_iff_iff];simp only [beq_iff_eq,decide_eq_true_eq]
  rw [this,Bool.eq_iff_iff]
  simp only [Bool.or_eq_true,decide_eq_true_eq,mem_cons]
  exact or_congr eq_comm Iff.rfl
theorem sD (a:Int) (zs:List Int):inD (.int a) (zs.map .int)=decide (a∈zs):=by
 unfold inD
 rw [any_map]
 induction zs with
 | nil=>rfl
 | cons z zs ih =>
  rw [any_cons,ih]
  have:((λy=>D.eqF y (.int a)) ∘ D.int) z=decide (z=a):=by
   show (z == a)=_
   rw [Bool.eq_iff_iff];simp only [beq_iff_eq,decide_eq_true_eq]
  rw [this,Bool.eq_iff_iff]
  simp only [Bool.or_eq_true,decide_eq_true_eq,mem_cons]
  exact or_congr eq_comm Iff.rfl
theorem oM {zs:List Str}:dIn b (.str a) (.lst (zs.map .str)) q=q (.bl (if b then !decide (a∈zs) else decide (a∈zs))):=by
 show (true=true/\_/\_)=_
 rw [Gg,Df]
 simp only [true_and]
theorem ym {zs:List Str}:dIn b (.str a) (.tup (zs.map .str)) q=q (.bl (if b then !decide (a∈zs) else decide (a∈zs))):=by
 show (true=true/\_/\_)=_
 rw [Gg,Df]
 simp only [true_and]
theorem oO {zs:List Int}:dIn b (.int a) (.lst (zs.map .int)) q=q (.bl (if b then !decide (a∈zs) else decide (a∈zs))):=by
 show (true=true/\_/\_)=_
 rw [xB,sD]
 simp only [true_and]
theorem Gh (bs:List Bool):bools (bs.map .bl)=some bs:=by
 induction bs with
 | nil=>rfl
 | cons b bs ih=>rw [map_cons];unfold bools;rw [ih];rfl
theorem Gi (bs:List Str):texts (bs.map .str)=some bs:=by
 induction bs with
 | nil=>rfl
 | cons b bs ih=>rw [map_cons];unfold texts;rw [ih];rfl
theorem yn {bs:List Bool}:xn [.lst (bs.map .bl)] q=q (.bl (bs.all id)):=by
 show (∃ cs,bools _=some cs/\_)=_
 rw [Gh]
 simp only [Option.some.injEq,exists_eq_left']
theorem lB {bs:List Bool}:dAny [.lst (bs.map .bl)] q=q (.bl (bs.any id)):=by
 show (∃ cs,bools _=some cs/\_)=_
 rw [Gh]
 simp only [Option.some.injEq,exists_eq_left']
theorem sE:yd (.str sep) [.lst (ys.map .str)] q=((ys.map (·.length)).sum + ys.length * sep.length<=16777216/\q (.str (Txt.join sep ys))):=by
 show (∃ cs,texts _=some cs/\_)=_
 rw [Gi]
 simp only [Option.some.injEq,exists_eq_left']
theorem Fm {xs:List α}:xn [.lst (xs.map λx => .bl (f x))] q=q (.bl (xs.all f)):=by
 have:=yn (q:=q) (bs:=xs.map f)
 rw [map_map,all_map] at this
 exact this
theorem iG {xs:List α}:dAny [.lst (xs.map λx => .bl (f x))] q=q (.bl (xs.any f)):=by
 have:=lB (q:=q) (bs:=xs.map f)
 rw [map_map,any_map] at this
 exact this
theorem oP {xs:List α}:yd (.str sep) [.lst (xs.map λx => .str (f x))] q=((xs.map λx=>(f x).length).sum + xs.length * sep.length<=16777216/\q (.str (Txt.join sep (xs.map f)))):=by
 have:=sE (q:=q) (sep:=sep) (ys:=xs.map f)
 rw [map_map,map_map,length_map] at this
 exact this
theorem oQ:jU (.str y) [] q=(y.length<=5592405/\q (.str (Txt.lower y))):=rfl
theorem oS:jT (.str y) [] q=(y.length<=5592405/\q (.str (Txt.upper y))):=rfl
theorem Ud {K:aj}(ht:d.tyN=some t) (hn:n∈MU) (he:Sd K [d,.ty n] q=∃ t,d.tyN=some t/\n∈MU/\q (.bl (tN t n))):Sd K [d,.ty n] q=q (.bl (tN t n)):=by
 rw [he,ht]
 simp only [Option.some.injEq,exists_eq_left',hn,true_and]
theorem sF {K:aj}:Sd K [.int i,.ty "int"] q=q (.bl true):=Ud (t := "int") rfl (by decide) rfl
theorem sG {K:aj}:Sd K [.int i,.ty "bool"] q=q (.bl false):=Ud (t := "int") rfl (by decide) rfl
theorem sH {K:aj}:Sd K [.int i,.ty "str"] q=q (.bl false):=Ud (t := "int") rfl (by decide) rfl
theorem sI {K:aj}:Sd K [.int i,.ty "tuple"] q=q (.bl false):=Ud (t := "int") rfl (by decide) rfl
theorem sJ {K:aj}:Sd K [.int i,.ty "list"] q=q (.bl false):=Ud (t := "int") rfl (by decide) rfl
theorem sL {K:aj}:Sd K [.bl i,.ty "bool"] q=q (.bl true):=Ud (t := "bool") rfl (by decide) rfl
theorem sM {K:aj}:Sd K [.bl i,.ty "int"] q=q (.bl true):=Ud (t := "bool") rfl (by decide) rfl
theorem sN {K:aj}:Sd K [.str i,.ty "str"] q=q (.bl true):=Ud (t := "str") rfl (by decide) rfl
theorem sP {K:aj}:Sd K [.str i,.ty "int"] q=q (.bl false):=Ud (t := "str") rfl (by decide) rfl
theorem sQ {K:aj}:Sd K [.str i,.ty "tuple"] q=q (.bl false):=Ud (t := "str") rfl (by decide) rfl
theorem sR {K:aj}:Sd K [.tup i,.ty "tuple"] q=q (.bl true):=Ud (t := "tuple") rfl (by decide) rfl
theorem sU {K:aj}:Sd K [.tup i,.ty "int"] q=q (.bl false):=Ud (t := "tuple") rfl (by decide) rfl
theorem sW {K:aj}:Sd K [.tup i,.ty "str"] q=q (.bl false):=Ud (t := "tuple") rfl (by decide) rfl
theorem sX {K:aj}:Sd K [.lst i,.ty "list"] q=q (.bl true):=Ud (t := "list") rfl (by decide) rfl
theorem sY {K:aj}:Sd K [.lst i,.ty "tuple"] q=q (.bl false):=Ud (t := "list") rfl (by decide) rfl
theorem sZ {K:aj}:Sd K [.lst i,.tup [.ty "list",.ty "tuple"]] q=q (.bl true):=by
 show (∃ as b,tys _=some as/\_)=_
 refine propext ⟨?_,λh=>⟨_,true,rfl,by with_unfolding_all rfl,h⟩⟩
 rintro ⟨as,b,e,k,h⟩
 cases e
 have:kitAny K (.type "list") (["list", "tuple"].map Value.type)=some true:=by with_unfolding_all rfl
 rw [this] at k
 cases k
 exact h
theorem rg {K:aj}:Sd K [.tup i,.tup [.ty "list",.ty "tuple"]] q=q (.bl true):=by
 show (∃ as b,tys _=some as/\_)=_
 refine propext ⟨?_,λh=>⟨_,true,rfl,by with_unfolding_all rfl,h⟩⟩
 rintro ⟨as,b,e,k,h⟩
 cases e
 have:kitAny K (.type "tuple") (["list", "tuple"].map Value.type)=some true:=by with_unfolding_all rfl
 rw [this] at k
 cases k
 exact h
theorem oT:D.tru .non k=k false:=rfl
theorem oU:D.tru (.bl b) k=k b:=rfl
theorem oV:D.tru (.int i) k=k (i != 0):=rfl
theorem oW:D.tru (.str y) k=(y.length<=aA/\k ((y.length:Int) != 0)):=rfl
theorem oX:D.tru (.lst xs) k=k (!xs.isEmpty):=rfl
theorem oY:D.tru (.tup xs) k=k (!xs.isEmpty):=rfl
theorem oZ:D.VD .non=true:=rfl
theorem nc:D.VD (.int i)=false:=rfl
theorem ng:D.VD (.bl i)=false:=rfl
theorem nh:D.VD (.str i)=false:=rfl
theorem nq:D.VD (.tup i)=false:=rfl
theorem nr:D.VD (.lst i)=false:=rfl
theorem nu:D.VD (.obj C i)=false:=rfl
theorem nv:D.VD (.exc C)=false:=rfl
theorem rh:Fe i (no_index (@OfNat.ofNat Int n instOfNat))=i % (@OfNat.ofNat Int n instOfNat):=by
 unfold Fe
 rw [if_pos]
 exact Int.natCast_nonneg n
theorem rj:ER i (no_index (@OfNat.ofNat Int n instOfNat))=i / (@OfNat.ofNat Int n instOfNat):=by
 unfold ER
 rw [if_pos]
 exact Int.natCast_nonneg n
theorem Xd (h:0 < j):Fe i j=i % j:=by unfold Fe;rw [if_pos (by omega)]
end
theorem Dg (I:Nat->DSt->Prop) (h0:I 0 ds)
  (hs:∀ i x ds N,xs[i]?=some x->I i ds->(∀ ds',I (i + 1) ds'->N ds')->g x ds λds'=>b ds' { e with nx:=N,ct:=N,bk:=e.nx })
  (he:∀ ds,I xs.length ds->e.nx ds):Se g b e xs ds:=by
 have key:∀ (k:Nat) (ys:List D) (i:Nat) (ds:DSt),ys.length=k->xs.drop i=ys->i<=xs.length->I i ds->Se g b e ys ds:=by
  intro k
  induction k with
  | zero =>
   intro ys i ds hl hd hi h
   have:ys=[]:=eq_nil_of_length_eq_zero hl
   subst this
   have:i=xs.length:=by have:=List.drop_eq_nil_iff.mp hd;omega
   subst this
   exact he ds h
  | succ k ih =>
   intro ys i ds hl hd hi h
   cases ys with
   | nil=>cases hl
   | cons y ys =>
    have hi2:i < xs.length:=by
     rcases Nat.lt_or_ge i xs.length with z | z
     ·exact z
     ·rw [List.drop_eq_nil_of_le z] at hd;cases hd
    rw [drop_eq_getElem_cons hi2] at hd
    cases hd
    unfold Se
    exact hs i _ ds _ (aC hi2) h λds' h'=>ih _ (i + 1) ds' (by simp at hl ⊢;omega) rfl hi2 h'
 exact key xs.length xs 0 ds rfl rfl (Nat.zero_le _) h0
theorem YH {xs:List α}{ds:DSt}(I:Nat->DSt->Prop) (h0:I 0 ds)
  (hs:∀ i x ds N,xs[i]?=some x->I i ds->(∀ ds',I (i + 1) ds'->N ds')->g (c x) ds λds'=>b ds' { e with nx:=N,ct:=N,bk:=e.nx })
  (he:∀ ds,I xs.length ds->e.nx ds):Se g b e (xs.map c) ds:=by
 refine Dg I h0 (λi x ds N hx hi hn=>?_) (by rw [length_map];exact he)
 rw [getElem?_map] at hx
 cases q:xs[i]? with
 | none=>rw [q] at hx;cases hx
 | some y=>rw [q] at hx;cases hx;exact hs i y ds N q hi hn
theorem Ue {lo:Int}{ds:DSt}(I:Nat->DSt->Prop) (h0:I 0 ds)
  (hs:∀ i ds N,i < n->I i ds->(∀ ds',I (i + 1) ds'->N ds')->g (.int (lo + i)) ds λds'=>b ds' { e with nx:=N,ct:=N,bk:=e.nx })
  (he:∀ ds,I n ds->e.nx ds):Se g b e (intsFrom lo n) ds:=by
 refine YH (xs:=List.range n) I h0 (λi x ds N hx hi hn=>?_) (by rw [List.length_range];exact he)
 obtain ⟨h1,h2⟩:=List.getElem?_eq_some_iff.mp hx
 rw [List.length_range] at h1
 rw [List.getElem_range] at h2
 subst h2
 exact hs i ds N h1 hi hn
theorem Iq {xs:List α}{ds:DSt}{acc:List D}(C:DSt->Prop) (p:α->Bool) (h:α->D) (h0:C ds)
  (hs:∀ x∈xs,∀ ds (N0:DSt->Prop) (N1:DSt->D->Prop),C ds->(p x=false->∀ ds',C ds'->N0 ds')->(p x=true->∀ ds',C ds'->N1 ds' (h x))->g (c x) ds λds1=>f ds1 (λb=>if b=true then e ds1 (λy=>N1 ds1 y) (λ_=>False) else N0 ds1) (λ_=>False))
  (hl:acc.length + xs.length<=aA) (hq:q (acc++(xs.filter p).map h)):Vp g f e q (xs.map c) ds acc:=by
 induction xs generalizing ds acc with
 | nil =>
  unfold Vp
  simpa using hq
 | cons x xs ih =>
  rw [map_cons]
  unfold Vp
  refine hs x (mem_cons_self ..) ds _ (λds1 y=>acc.length < aA/\Vp g f e q (xs.map c) ds1 (acc++[y])) h0 (λhp ds' h'=>?_) (λhp ds' h'=>?_)
  ·refine ih h' (λy hy=>hs y (mem_cons_of_mem _ hy)) (by simp at hl ⊢;omega) ?_
   rw [filter_cons,hp] at hq
   exact hq
  ·refine ⟨by simp at hl;omega,ih h' (λy hy=>hs y (mem_cons_of_mem _ hy)) (by simp at hl ⊢;omega) ?_⟩
   rw [filter_cons,hp,if_pos rfl,map_cons] at hq
   simpa using hq
theorem Ir (xs:List α):xs.filter (λ_=>true)=xs:=List.filter_eq_self.mpr λ_ _=>rfl
theorem Xv {xs:List α}{caps:DSt}(h:α->D) (hl:xs.length<=aA)
  (hs:∀ x∈xs,∀ N:D->Prop,N (h x)->e (.v (c x)::caps) N (λ_=>False)) (hq:q (xs.map h)):Vp (XJ 0) xu e q (xs.map c) (s::caps) []:=by
 refine Iq (λds=>∃ s,ds=s::caps) (λ_=>true) h ⟨s,rfl⟩ (λx hx ds N0 N1 hc _ h1=>?_) (by simpa using hl) (by rw [Ir];exact hq)
 obtain ⟨s,rfl⟩:=hc
 have z:=hs x hx (λy=>N1 (.v (c x)::caps) y) (h1 rfl _ ⟨_,rfl⟩)
 show (if true=true then e (.v (c x)::caps) (λy=>N1 (.v (c x)::caps) y) (λ_=>False) else N0 (.v (c x)::caps))
 rw [if_pos rfl]
 exact z
theorem SA {xs:List α}{s:Slot}{caps:DSt}(p:α->Bool) (h:α->D) (hl:xs.length<=aA)
  (hf:∀ x∈xs,∀ N:Bool->Prop,N (p x)->f (.v (c x)::caps) N (λ_=>False))
  (hs:∀ x∈xs,p x=true->∀ N:D->Prop,N (h x)->e (.v (c x)::caps) N (λ_=>False)) (hq:q ((xs.filter p).map h)):Vp (XJ 0) f e q (xs.map c) (s::caps) []:=by
 refine Iq (λds=>∃ s,ds=s::caps) p h ⟨s,rfl⟩ (λx hx ds N0 N1 hc h0 h1=>?_) (by simpa using hl) (by simpa using hq)
 obtain ⟨s,rfl⟩:=hc
 refine hf x hx _ ?_
 cases hp:p x with
 | true=>rw [if_pos rfl];exact hs x hx hp _ (h1 hp _ ⟨_,rfl⟩)
 | false=>rw [if_neg aD];exact h0 hp _ ⟨_,rfl⟩
theorem Sf {c c':α->D}{xs:List α}{s s':Slot}{caps:DSt}(p:α->Bool) (h:α->D) (hl:xs.length<=aA)
  (hf:∀ x∈xs,∀ N:Bool->Prop,N (p x)->f (.v (c x) :: .v (c' x)::caps) N (λ_=>False))
  (hs:∀ x∈xs,p x=true->∀ N:D->Prop,N (h x)->e (.v (c x) :: .v (c' x)::caps) N (λ_=>False)) (hq:q ((xs.filter p).map h)) :
  Vp (yf 2 (MV (XJ 0) (MV (XJ 1) ye))) f e q (xs.map λx => .tup [c x,c' x]) (s::s'::caps) []:=by
 refine Iq (c:=λx => .tup [c x,c' x]) (λds=>∃ s s',ds=s::s'::caps) p h ⟨s,s',rfl⟩ (λx hx ds N0 N1 hc h0 h1=>?_) (by simpa using hl) (by simpa using hq)
 obtain ⟨s,s',rfl⟩:=hc
 refine hf x hx _ ?_
 cases hp:p x with
 | true=>rw [if_pos rfl];exact hs x hx hp _ (h1 hp _ ⟨_,_,rfl⟩)
 | false=>rw [if_neg aD];exact h0 hp _ ⟨_,_,rfl⟩
theorem QU {c c':α->D}{xs:List α}{s s':Slot}{caps:DSt}(h:α->D) (hl:xs.length<=aA)
  (hs:∀ x∈xs,∀ N:D->Prop,N (h x)->e (.v (c x) :: .v (c' x)::caps) N (λ_=>False)) (hq:q (xs.map h)) :
  Vp (yf 2 (MV (XJ 0) (MV (XJ 1) ye))) xu e q (xs.map λx => .tup [c x,c' x]) (s::s'::caps) [] :=
 Sf (λ_=>true) h hl (λ_ _ _ hn=>hn) (λx hx _=>hs x hx) (by rw [Ir];exact hq)
abbrev TP2:=Str->St->Hp->(Str->Hp->Prop)->Prop
noncomputable def PP (X:Cx) (n:Nat) (es:List Expr) (t:TP2):Prop :=
 ∀ (acc:Str) (pins:List (Addr × Obj)) (s:Shared) (σ:St) (H:Hp) (Q:Str->Hp->Prop),acc.length + n<=aA->Inv X pins σ H s->t acc σ H Q ->
  wpAny (model X.prog X.w) X.A (joinParts acc (evalEach es X.env)) (EP X pins σ λv H'=>∃ z,v = .str z/\Q z H') X.xe s
noncomputable def D.fmt:D->(Str->Prop)->Prop
 | .str y,q=>y.length<=100000/\q y
 | .int i,q=>i.natAbs.log2 < 1920/\(toString i:Str).length<=100000/\q (toString i)
 | _,_=>False
noncomputable def vFmt (K:aj) (v:V) (q:Str->Prop):Prop:=(∃ y:Str,v = .str y/\y.length<=100000/\q y)\/(∃ i:Int,v = .int i/\i.natAbs.log2 < 1920/\(toString i:Str).length<=100000/\q (toString i))
section
theorem iH:PP X 0 [] λacc σ H Q=>Q acc H:=λacc pins s σ H Q hn I h=>joinParts_nil ⟨.str acc,H,I.tok _,⟨_,rfl⟩,acc,rfl,h⟩ (by omega)
theorem ny (hr:PP X n es t) (hx:x.length<=100000):PP X (n + 100000) (.Constant (.str x) j pos::es) λacc σ H Q=>t (acc++x) σ H Q :=
 λacc pins s σ H Q hn I h=>by
  have e:=strLen_append acc x
  exact joinParts_cons (Calls.Constant_str ⟨by omega,hr _ _ _ _ _ _ (by omega) (I.tok _) h⟩)
theorem iI (he:PE X e te) (hr:PP X n es t):PP X (n + 100000) (.FormattedValue e (-1) none pos::es) λacc σ H Q=>te σ H λv H1=>vFmt X.K v λy=>t (acc++y) σ H1 Q :=
 λacc pins s σ H Q hn I h=>by
  refine joinParts_cons (FormattedValue_plain (thn (he pins s σ H _ I h) λu s1 zq=>?_))
  obtain ⟨v,H1,I1,r1,q1⟩:=zq
  rcases q1 with ⟨y,rfl,hy,q⟩ | ⟨i,rfl,hi,hy,q⟩
  ·obtain ⟨tk,rfl⟩:=r1
   have e:=strLen_append acc y
   exact formatField_str (λt' tk=>⟨by omega,hr _ _ _ _ _ _ (by omega) (I1.tok _) q⟩) (by omega)
  ·obtain ⟨tk,rfl⟩:=r1
   have e:=strLen_append acc (toString i)
   exact formatField_int_small hi ⟨by omega,hr _ _ _ _ _ _ (by omega) (I1.tok _) q⟩
theorem nz (hr:PP X n (a::b::es) t) (hn:n<=aA):PE X (.JoinedStr (a::b::es) pos) λσ H Q=>t Str.empty σ H λz H'=>Q (.str z) H' :=
 λpins s σ H Q I h=>JoinedStr_many (thn (hr Str.empty pins s σ H _ (by rw [show Str.empty.length=0 from rfl];omega) I h) λu s1 ⟨v,H1,I1,r1,z,e,q⟩=>⟨v,H1,I1,r1,by rw [e];exact q⟩)
abbrev DP:=Str->DSt->(Str->Prop)->(Addr->Prop)->Prop
noncomputable def DenP (K:aj) (XE:St->XK) (te:TP2) (de:DP):Prop:=∀ {acc:Str}{B0 B H0 H:Hp}{σ:St}{ds:DSt}{q:Str->Prop}{x:Addr->Prop}{Q:Str->Hp->Prop},Cfg K B0 B H0 H σ ds->de acc ds q x->(∀ z H0' H',Ext H0 H H0' H'->q z->Q z H')->KX XE σ H x->te acc σ H Q
structure JP (X:Cx) (XE:St->XK) (n:Nat) (es:List Expr) (de:DP):Prop where
 ex:∃ te,PP X n es te/\DenP X.K XE te de
noncomputable def lD:DP:=λacc _ q _=>q acc
noncomputable def rn (x:Str) (dr:DP):DP:=λacc ds q y=>dr (acc++x) ds q y
noncomputable def lE (de:DE) (dr:DP):DP:=λacc ds q x=>de ds (λd=>d.fmt λy=>dr (acc++y) ds q x) x
noncomputable def lF (dr:DP):DE:=λds q x=>dr Str.empty ds (λz=>q (.str z)) x
theorem Fo:JP X XE 0 [] lD:=⟨_,iH,λc h k _=>k _ _ _ (.refl c.sub) h⟩
theorem SC (hr:JP X XE n es dr) (hx:autoParam (x.length<=100000) auD):JP X XE (n + 100000) (.Constant (.str x) j pos::es) (rn x dr):=by
 obtain ⟨t,p,d⟩:=hr.ex
 exact ⟨_,ny p hx,λc h k kx=>d c h k kx⟩
theorem Fp (he:JE X XE e de) (hr:JP X XE n es dr):JP X XE (n + 100000) (.FormattedValue e (-1) none pos::es) (lE de dr):=by
 obtain ⟨te,p1,d1⟩:=he.ex
 obtain ⟨t,p,d⟩:=hr.ex
 refine ⟨_,iI p1 p,λ{acc _ _ _ _ σ ds q x Q} c h k kx=>d1 c h (λv a H1 H2 e r h=>?_) kx⟩
 have go:∀ {y:Str},dr (acc++y) ds q x->t (acc++y) σ H2 Q:=λh=>d (c.go e) h (λz H0' H' e' hq=>k z _ _ (e.trans e') hq) (kx.go e.s)
 cases a with
 | str y=>rw [show v = .str y from r];exact .inl ⟨y,rfl,h.1,go h.2⟩
 | int i=>rw [show v = .int i from r];exact .inr ⟨i,rfl,h.1,h.2.1,go h.2.2⟩
 | _=>exact h.elim
theorem Ju (hr:JP X XE n (a::b::es) dr) (hn:autoParam (n<=aA) auD):JE X XE (.JoinedStr (a::b::es) pos) (lF dr):=by
 obtain ⟨t,p,d⟩:=hr.ex
 exact ⟨_,nz p hn,λc h k kx=>d c h (λz H0' H' e hq=>k (.str z) (.str z) _ _ e rfl hq) kx⟩
end
theorem rp (h:TV k v=true):v.scannable=true:=by
 rcases Yq h with ⟨i,t,rfl,rfl⟩ | ⟨x,t,rfl,rfl⟩ <;> rfl
instance lawKey:LawfulBEq Key where
 eq_of_beq {a b} h:=by
  cases a <;> cases b
  ·exact congrArg _ (eq_of_beq h)
  ·cases h
  ·cases h
  ·exact congrArg _ (eq_of_beq h)
 rfl {a}:=by
  cases a with
  | inl i=>exact (beq_self_eq_true i:(i == i)=true)
  | inr i=>exact (beq_self_eq_true i:(i == i)=true)
instance memKey (k:Key) (a:List Key):Decidable (k∈a):=@List.instDecidableMemOfLawfulBEq Key instBEqOfDecidableEq inferInstance k a
noncomputable def Vy (a:List Key) (k:Key):List Key:=if k∈a then a else a++[k]
noncomputable def dedup (ks:List Key):List Key:=ks.foldl Vy []
theorem Iu (ks:List Key) (k:Key):dedup (ks++[k])=Vy (dedup ks) k:=by unfold dedup;rw [foldl_append];rfl
theorem Bz (a:List Key) (k j:Key):j∈Vy a k↔j∈a\/j=k:=by
 unfold Vy
 split
 ·rename_i h
  exact ⟨.inl,λz=>z.elim id λe=>e ▸ h⟩
 ·simp
theorem Iv (a:List Key) (k:Key):(Vy a k).length=if k∈a then a.length else a.length + 1:=by
 unfold Vy
 split <;> simp
theorem Iw (ks:List Key):(dedup ks).length<=ks.length:=by
 have go:∀ (ks a:List Key),(ks.foldl Vy a).length<=a.length + ks.length:=by
  intro ks
  induction ks with
  | nil=>intro a;exact Nat.le_refl _
  | cons k ks ih =>
   intro a
   rw [foldl_cons]
   have h1:=ih (Vy a k)
   have h2:=Iv a k
   rw [length_cons]
   split at h2 <;> omega
 have:=go ks []
 simpa [dedup] using this
section
theorem SetOf.eq' {h:Heap}(z:h.SetOf (ZG P w) a S n) (e:∀ k,S k=S' k) (m:n=n'):h.SetOf (ZG P w) a S' n':=by
 rw [<-m,<-(funext e:S=S')]
 exact z
theorem rq {A:Around}{G:Array GenState->Array GenState->Prop}{ks:List Key}{Pv:Nat->Value->Prop}{St:Nat->Shared->Prop}
  (W:WalksS P w A.in1 I fp wr G ks.length Pv St) (out:Z∉fp) (hv:∀ i v,Pv i v->∃ k,ks[i]?=some k/\TV k v=true) (hb:ks.length + 1 < scanBound) :
  ∀ (m i:Nat) (s:Shared),i + m=ks.length->St i s->s.heap.SetOf (ZG P w) Z (λk=>decide (k∈dedup (ks.take i))) (dedup (ks.take i)).length ->
   (∀ s',Moved (Z::wr) G s s'->s'.heap.SetOf (ZG P w) Z (λk=>decide (k∈dedup ks)) (dedup ks).length->R (.ok (.ret .none)) s') ->
   codeAny (model P w) A (.builtin "set.update.loop" ⟨[.ref Z,.ref I],[]⟩) R s:=by
 have outw:Z∉wr:=λh=>out (W.sub _ h)
 intro m
 induction m with
 | zero =>
  intro i s hi st hS k
  have ei:i=ks.length:=by omega
  subst ei
  rw [take_length] at hS
  refine codeAny_builtin F.entry_set_update_loop ?_
  rw [Around.under_plainId F.plain_set_update_loop _]
  refine ak (m:=pyNext (.ref I)) (W.done s _ _ st λs' mv=>ao (k s' (mv.mono λb h=>mem_cons_of_mem _ h) ?_))
  obtain ⟨o,es,ep,t,ho,r⟩:=hS
  exact ⟨o,es,ep,t,mv.heap Z _ outw ho,r⟩
 | succ m ih =>
  intro i s hi st hS k
  have lt:i < ks.length:=by omega
  refine codeAny_builtin F.entry_set_update_loop ?_
  rw [Around.under_plainId F.plain_set_update_loop _]
  refine ak (m:=pyNext (.ref I)) (W.item i s _ _ lt st λv s' pv st' mv=>?_)
  obtain ⟨c,hc,hcv⟩:=hv i v pv
  have hS':s'.heap.SetOf (ZG P w) Z (λk=>decide (k∈dedup (ks.take i))) (dedup (ks.take i)).length:=by
   obtain ⟨o,es,ep,t,ho,r⟩:=hS
   exact ⟨o,es,ep,t,mv.heap Z _ outw ho,r⟩
  have et:ks.take (i + 1)=ks.take i++[c]:=by rw [take_add_one,hc];rfl
  have room:(dedup (ks.take i)).length + 1 < scanBound:=by
   have:=Iw (ks.take i)
   rw [length_take] at this
   omega
  refine ak (m:=holding [v] (setAdd Z v)) (wpAny_holding ?_)
  unfold setAdd
  refine wpAny_holding (ak ((ZG P w).pyHash (k:=c) hcv (wpAny_setAddHashed_of (knd:=ZG P w) (s:={ s' with toks:=s'.toks + 1 }) hcv (rp hcv) hS' room λh' sb hS2=>?_)))
  have hS3:h'.SetOf (ZG P w) Z (λk=>decide (k∈dedup (ks.take (i + 1)))) (dedup (ks.take (i + 1))).length:=by
   refine SetOf.eq' hS2 (λj=>?_) ?_
   ·rw [et,Iu]
    simp [Bz]
   ·rw [et,Iu,Iv]
    simp
  refine ao ⟨plainId_quiet F.plain_set_update_loop _,ih (i + 1) _ (by omega) (W.frame _ s' _ _ st' (Nat.le_succ _) λb hb o e=>?_) hS3 λs'' mv' hS4=>k s'' (Moved.trans W.gtrans ((mv.mono λb h=>mem_cons_of_mem _ h).then_heap (Nat.le_succ _) λb o nb e=>?_) mv') hS4⟩
  ·exact (sb.2 b (λy=>out (y ▸ hb))).trans e
  ·exact (sb.2 b (λy=>nb (y ▸ mem_cons_self))).trans e
noncomputable def Qh (led:Bool):Obj:={ cls := .type "set",dict:=none,data := .set #[] 0 (.fresh 0 0 led) }
theorem rA {A:Around}{us:Array Value}{ks:List Key}{Q:Value->Shared->Prop}(hh:A.handled=none) (hl:s.heap.IsList l us) (en:us.size=ks.length)
  (hk:∀ (i:Nat) v,us[i]?=some v->∃ k,ks[i]?=some k/\TV k v=true) (hb:ks.length + 1 < scanBound)
  (h:∀ (h':Heap) (tk:Nat),h'.SetOf (ZG P w) s.heap.objs.size (λk=>decide (k∈dedup ks)) (dedup ks).length->(∀ b o,s.heap.get? b=some o->h'.get? b=some o)->Q (.ref s.heap.objs.size) { s with heap:=h',toks:=tk }) :
  wpAny (model P w) A (call (.type "set") [.ref l]) Q E s:=by
 obtain ⟨cc,tl,hmro⟩:=PySem.F.called_set.mro
 have made:=PySem.F.called_set.made
 have sub:=PySem.F.called_set.sub
 have h1:=PySem.F.called_set.notType
 have h2:=PySem.F.called_set.canCreate
 have ct:=PySem.F.typeCall_set_1 (.ref l)
 refine wpAny_call (codeAny_of_tree (show wpAny _ _ (callAny (.type "set") _) _ _ _ from ao ⟨Code.quiet_builtin _ (by decide +kernel),codeAny_builtin PySem.F.entry_type_call ?_⟩))
 rw [Around.under_plain (weight_type_call_type "set" [.ref l] []) rfl]
 repeat (any_goals (first | assumption | wp_step))
 refine codeAny_mono (PySem.code_set_new_1 (.ref l) (E:=E) (Q₁:=λob s1=>∃ led:Bool,ob = .ref s.heap.objs.size/\s1={ s with heap:=s.heap.push (Qh led) }) λled=>⟨led,rfl,rfl⟩) λr s1 hr=>?_
 rcases r with e | fl
 ·exact hr
 cases fl with
 | ret ob =>
  obtain ⟨led,rfl,rfl⟩:=hr
  have at0:(s.heap.push (Qh led)).get? s.heap.objs.size=some (Qh led):=au _ rfl
  have ty:Shared.TypeIs { s with heap:=s.heap.push (Qh led) } (.ref s.heap.objs.size) "set" := ⟨_,at0,rfl⟩
  have look:=PySem.F.called_set.init.lookup
  have bnd:=PySem.F.called_set.init.bind (.ref s.heap.objs.size)
  repeat (any_goals (first | assumption | wp_step))
  refine codeAny_mono (codeAny_call_builtin (R:=wants (λr s2=>r = .none/\Q (.ref s.heap.objs.size) s2) E) PySem.F.called_set.init.plain PySem.F.entry_set_init (PySem.check_set_init_1 ty ?_)) λr2 s2 hr2=>?_
  ·obtain ⟨⟨c0,d0,x0,sl0⟩,hol,hcl,nl,hdl⟩:=id hl
   simp only at hcl hdl
   subst hcl
   subst hdl
   have hol':(s.heap.push (Qh led)).get? l=some { cls := .type "list",dict:=d0,data := .seq us nl,slots:=sl0 }:=aq _ hol
   have l1:(s.heap.push (Qh led)).IsList l us:=⟨_,hol',rfl,nl,rfl⟩
   have n1:=PySem.F.sub_list_set
   have n2:=PySem.F.sub_list_frozenset
   have n3:(Value.type "list" == Value.type "dict")=false:=by decide
   have lts:l < s.heap.objs.size:=az hol
   unfold Builtin.«set.__init__» noKeywords Builtin.Frozenset.updateFrom
   generalize gi:pyIter=PI
   wp_walk
   subst gi
   refine wpAny_pyIter_list l1 (ak (wpAny_runValue ?_))
   have ne1:l≠(s.heap.push (Qh led)).objs.size:=by rw [Heap.size_push];exact Nat.ne_of_lt (Nat.lt_succ_of_lt lts)
   have out:s.heap.objs.size∉[(s.heap.push (Qh led)).objs.size,l]:=by
    rw [Heap.size_push]
    intro z
    rcases mem_cons.mp z with z | z
    ·exact absurd z (Nat.ne_of_lt (Nat.lt_succ_self _))
    ·exact absurd (mem_singleton.mp z) (Nat.ne_of_gt lts)
   have at1:((s.heap.push (Qh led)).push { cls := .type "list_iterator",data := .fields #[.ref l,.int 0 0] }).get? s.heap.objs.size=some (Qh led):=aq _ at0
   have W:=(Walks.list (prog:=P) (w:=w) (A:=A.in1.in1.in1) (by simp [hh]) (s.heap.push (Qh led)).objs.size l ne1 us).toS
   rw [en] at W
   refine rq W out hk hb ks.length 0 _ (by omega) ⟨⟨_,au _ rfl,rfl,rfl⟩,l1.push _⟩ (SetOf.eq' ((setObjOf_fresh (knd:=ZG P w) led).setOf at1 (by unfold scanBound;omega)) (λ_=>rfl) rfl) λs' mv hS=>?_
   obtain ⟨h',g',dr',tk',os'⟩:=s'
   have e1:g'=s.gens:=mv.gens
   have e2:dr'=s.drawn:=mv.drawn
   have e3:os'=s.os:=mv.os
   subst e1
   subst e2
   subst e3
   refine ao (show wpAny _ _ (ret Value.none) _ _ _ from ao ⟨rfl,h h' tk' hS λb o e=>?_⟩)
   have lb:=az e
   refine mv.heap b o ?_ (aq _ (aq _ e))
   rw [Heap.size_push]
   intro z
   rcases mem_cons.mp z with z | z
   ·exact absurd z (Nat.ne_of_lt lb)
   ·exact absurd (mem_singleton.mp z) (Nat.ne_of_lt (Nat.lt_succ_of_lt lb))
  ·rcases r2 with e | f2
   ·exact hr2
   cases f2 with
   | ret r =>
    obtain ⟨rfl,hq⟩:=hr2
    repeat (any_goals (first | assumption | wp_step))
   | _=>exact hr2.elim
 | _=>exact hr.elim
end
theorem Fq (hx:s.heap.get? a=some { cls := .type "list",data := .seq xs n }) (hA:A.handled=none)
  (h:∀ h' tk,(∀ b o,s.heap.get? b=some o->h'.get? b=some o)->Q none { s with heap:=h',toks:=tk }):wpAny (model P w) A (getAttr? (.ref a) "keys") Q E s:=by
 have miss:typeLookup (.type "list") "keys" = pure none:=by rw [typeLookup_type,builtinLookup_eq_fast];kernel_rfl
 have nm:(["__module__", "__name__", "__qualname__", "__doc__", "__annotations__"]:List Str).contains "keys" = false:=by decide
 obtain ⟨hp,g,d,tk,os⟩:=s
 have ty:∀ tk',(⟨hp,g,d,tk',os⟩:Shared).TypeIs (.ref a) "list" := λ_=>⟨_,hx,rfl⟩
 have f1:=sub_AttributeError
 have f3:=PySem.F.slot_list_getattribute.lookup
 have f4:=PySem.F.slot_list_getattribute.bind (.ref a)
 have f5:=am_list_getattr_none
 unfold getAttr? getAttrBy? getAttrBy
 repeat (any_goals (first | assumption | exact ty _ | ((with_reducible show wpAny _ _ (call (Value.builtin "list.__getattribute__") _ _) _ _ _);refine call_meets PySem.F.slot_list_getattribute (ty _) am_entry_list_getattribute (PySem.F.args_list_getattribute_2 _ _) (meets_getattribute_miss_list a xs n _ "keys" _ miss nm) ⟨hx,hA,λh' tk' e hn=>?_⟩) | wp_step))
 obtain ⟨t',u',he⟩:=hn.there
 show wpAny _ _ (getattributeRaised _ _ _ _ _ _ _) _ _ _
 unfold getattributeRaised
 repeat (any_goals (first | assumption | wp_step))
 exact h _ _ hn.keeps
theorem Gj:entryFor table "dict.update.loop" = some Builtin.«dict.update.loop»:=entryFor_of_tree (by kernel_rfl)
theorem QV:plainId "dict.update.loop" = true:=by decide +kernel
structure Pr where
 p:Addr
 k:Key
 kv:Value
 vv:Value
noncomputable def Pr.ok (h:Heap) (r:Pr):Prop:=IsTup h r.p #[r.kv,r.vv]/\TV r.k r.kv=true
noncomputable def putAll (xs:List Pr):List (Key × Value):=xs.foldl (λa r=>stored a r.k r.vv) []
theorem putAll_snoc (xs:List Pr) (r:Pr):putAll (xs++[r])=stored (putAll xs) r.k r.vv:=by unfold putAll;rw [foldl_append];rfl
theorem xC {K:Type} [DecidableEq K] (kvs:List (K × Value)) (k:K) (v:Value):(stored kvs k v).length<=kvs.length + 1:=by
 unfold stored
 split <;> simp
theorem Gk (xs:List Pr):(putAll xs).length<=xs.length:=by
 have go:∀ (xs:List Pr) (a:List (Key × Value)),(xs.foldl (λa r=>stored a r.k r.vv) a).length<=a.length + xs.length:=by
  intro xs
  induction xs with
  | nil=>intro a;exact Nat.le_refl _
  | cons r xs ih =>
   intro a
   have h1:=ih (stored a r.k r.vv)
   have h2:=xC a r.k r.vv
   rw [foldl_cons,length_cons]
   omega
 have:=go xs []
 simpa [putAll] using this
section
theorem pair_items (h:IsTup s.heap p us) (q:Q us.toList s):wpAny (model P w) A (Builtin.Dict.pairItems (.ref p)) Q E s:=by
 obtain ⟨o,ho,hc,n,hd⟩:=h
 have ty:s.TypeIs (.ref p) "tuple" := ⟨o,ho,hc⟩
 unfold Builtin.Dict.pairItems
 refine ak (wpAny_typeOf ty ?_)
 rw [if_pos (by decide)]
 unfold seqItems?
 refine ak (ak (wpAny_load ho ?_))
 rw [hd]
 exact ao (ao q)
theorem rB {G:Array GenState->Array GenState->Prop}{xs:List Pr}{Pv:Nat->Value->Prop}{St:Nat->Shared->Prop}
  (W:WalksS P w A.in1 I fp wr G xs.length Pv St) (out:Z∉fp) (hv:∀ i v,Pv i v->∃ r,xs[i]?=some r/\v = .ref r.p) (hz:xs.length<=aA) (away:∀ r∈xs,r.p∉Z::wr) :
  ∀ (m i:Nat) (t:Tok) (s:Shared),i + m=xs.length->St i s->(∀ r∈xs,r.ok s.heap)->s.heap.DictOf (ZG P w) Z (putAll (xs.take i)) ->
   (∀ s',Moved (Z::wr) G s s'->s'.heap.DictOf (ZG P w) Z (putAll xs)->R (.ok (.ret .none)) s') ->
   codeAny (model P w) A (.builtin "dict.update.loop" ⟨[.ref Z,.ref I,.int i t,.none],[]⟩) R s:=by
 have outw:Z∉wr:=λh=>out (W.sub _ h)
 intro m
 induction m with
 | zero =>
  intro i t s hi st ok hS k
  have ei:i=xs.length:=by omega
  subst ei
  rw [take_length] at hS
  refine codeAny_builtin Gj ?_
  rw [Around.under_plainId QV _]
  refine ak (m:=pyNext (.ref I)) (W.done s _ _ st λs' mv=>?_)
  refine ak (m:=Builtin.Dict.addKeywords Z []) (ao (ao (k s' (mv.mono λb h=>mem_cons_of_mem _ h) ?_)))
  obtain ⟨o,es,ep,ho,r⟩:=hS
  exact ⟨o,es,ep,mv.heap Z _ outw ho,r⟩
 | succ m ih =>
  intro i t s hi st ok hS k
  have lt:i < xs.length:=by omega
  refine codeAny_builtin Gj ?_
  rw [Around.under_plainId QV _]
  refine ak (m:=pyNext (.ref I)) (W.item i s _ _ lt st λv s' pv st' mv=>?_)
  obtain ⟨r,hr,rfl⟩:=hv i v pv
  have rm:r∈xs:=mem_of_getElem? hr
  have ok':∀ r∈xs,r.ok s'.heap:=λr h=>by
   obtain ⟨⟨o,ho,z⟩,y⟩:=ok r h
   exact ⟨⟨o,mv.heap _ _ (λq=>away r h (mem_cons_of_mem _ q)) ho,z⟩,y⟩
  have hS':s'.heap.DictOf (ZG P w) Z (putAll (xs.take i)):=by
   obtain ⟨o,es,ep,ho,r⟩:=hS
   exact ⟨o,es,ep,mv.heap Z _ outw ho,r⟩
  have et:xs.take (i + 1)=xs.take i++[r]:=by rw [take_add_one,hr];rfl
  have fits:(putAll (xs.take i)).length<=aA:=by
   have:=Gk (xs.take i)
   rw [length_take] at this
   omega
  refine ak (wpAny_holding (ak (wpAny_tryCatch (pair_items (ok' r rm).1 (wpAny_holding ?_)))))
  unfold dictSet
  refine wpAny_holding (ak ((ZG P w).pyHash (k:=r.k) (ok' r rm).2 (wpAny_dictSetHashed_pairs (s:={ s' with toks:=s'.toks + 1 }) (ok' r rm).2 hS' (λh' hS2 sb=>?_) fits)))
  rw [<-putAll_snoc,<-et] at hS2
  refine ao ⟨plainId_quiet QV _,ih (i + 1) _ _ (by omega) (W.frame _ s' _ _ st' (Nat.le_succ _) λb hb o e=>?_) (λr h=>?_) hS2 λs'' mv' hS4=>k s'' (Moved.trans W.gtrans ((mv.mono λb h=>mem_cons_of_mem _ h).then_heap (Nat.le_succ _) λb o nb e=>?_) mv') hS4⟩
  ·exact (sb.2 b (λy=>out (y ▸ hb))).trans e
  ·obtain ⟨⟨o,ho,z⟩,y⟩:=ok' r h
   exact ⟨⟨o,(sb.2 _ (λy=>away r h (y ▸ mem_cons_self))).trans ho,z⟩,y⟩
  ·exact (sb.2 b (λy=>nb (y ▸ mem_cons_self))).trans e
noncomputable def Fs:Obj:={ cls := .type "dict",data := .dict #[] }
theorem xD (hh:A.handled=none) (hl:s.heap.get? l=some { cls := .type "list",data := .seq us.toArray n }) (en:us=xs.map λr => .ref r.p)
  (ok:∀ r∈xs,r.ok s.heap) (hz:xs.length<=aA)
  (h:∀ (h':Heap) (tk:Nat),h'.DictOf (ZG P w) s.heap.objs.size (putAll xs)->(∀ b o,s.heap.get? b=some o->h'.get? b=some o)->Q (.ref s.heap.objs.size) { s with heap:=h',toks:=tk }) :
  wpAny (model P w) A (call (.type "dict") [.ref l]) Q E s:=by
 refine callType_codes (Q₁:=λob s1=>ob = .ref s.heap.objs.size/\s1={ s with heap:=s.heap.push Fs }) PySem.F.kt_called_dict (PySem.F.kt_typeCall_dict_1 _) PySem.F.entry_dict_init (kt_code_dict_new _ ⟨rfl,rfl⟩) ?_
 rintro ob s1 ⟨rfl,rfl⟩
 have new:(s.heap.push Fs).DictOf (ZG P w) s.heap.objs.size []:=Heap.DictOf.new s.heap
 have lts:l < s.heap.objs.size:=az hl
 have hl1:(s.heap.push Fs).get? l=some { cls := .type "list",data := .seq us.toArray n }:=aq _ hl
 have ty:Shared.TypeIs { s with heap:=s.heap.push Fs } (.ref l) "list" := ⟨_,hl1,rfl⟩
 refine ⟨new.typeIs,PySem.F.args_dict_init_2 _ _,?_⟩
 unfold Builtin.«dict.__init__»
 refine ak ?_
 unfold Builtin.Dict.selfAndRest
 refine ak (wpAny_notOrdered_dict new.typeIs (show wpAny _ _ (pure (s.heap.objs.size,[Value.ref l])) _ _ _ from ao ?_))
 show wpAny _ _ (Builtin.Dict.updateFrom "dict.__init__" s.heap.objs.size (.ref l) [] .none) _ _ _
 unfold Builtin.Dict.updateFrom
 refine ak (wpAny_typeOf ty ?_)
 rw [if_pos (by decide)]
 refine ak (Fq hl1 (by simp [hh]) λh1 tk1 k1=>?_)
 have l1:h1.IsList l us.toArray:=⟨_,k1 _ _ hl1,rfl,n,rfl⟩
 have new1:h1.DictOf (ZG P w) s.heap.objs.size []:=by
  obtain ⟨o,es,ep,ho,r⟩:=new
  exact ⟨o,es,ep,k1 _ _ ho,r⟩
 have lt1:l < h1.objs.size:=az (k1 _ _ hl1)
 have ltn:s.heap.objs.size < h1.objs.size:=by
  obtain ⟨o,es,ep,ho,r⟩:=new1
  exact az ho
 refine ak (wpAny_rule (ak (wpAny_pyIter_list l1 ?_)))
 have W:=(Walks.list (prog:=P) (w:=w) (A:=A.in1.in1) (by simp [hh]) h1.objs.size l (Nat.ne_of_lt lt1) us.toArray).toS
 have out:s.heap.objs.size∉[h1.objs.size,l]:=λz=>by
  rcases mem_cons.mp z with z | z
  ·exact absurd z (Nat.ne_of_lt ltn)
  ·exact absurd (mem_singleton.mp z) (Nat.ne_of_gt lts)
 have el:us.toArray.size=xs.length:=by rw [en];simp
 rw [el] at W
 have keep:∀ b o,s.heap.get? b=some o->h1.get? b=some o:=λb o e=>k1 _ _ (aq _ e)
 refine ao ⟨plainId_quiet QV _,rB W out (λi v hv=>?_) hz (λr hr z=>?_) xs.length 0 0 _ (by omega) ⟨⟨_,au _ rfl,rfl,rfl⟩,l1.push _⟩ (λr hr=>?_) ?_ λs' mv hS=>?_⟩
 ·have hv:us.toArray[i]?=some v:=hv
  rw [en] at hv
  simp at hv
  obtain ⟨r,h1,h2⟩:=hv
  exact ⟨r,h1,h2.symm⟩
 ·obtain ⟨⟨o,ho,_⟩,_⟩:=ok r hr
  have lb:=az ho
  rcases mem_cons.mp z with z | z
  ·exact absurd z (Nat.ne_of_lt lb)
  ·exact absurd (mem_singleton.mp z) (Nat.ne_of_lt (Nat.lt_trans lb ltn))
 ·obtain ⟨⟨o,ho,z⟩,y⟩:=ok r hr
  exact ⟨⟨o,aq _ (keep _ _ ho),z⟩,y⟩
 ·obtain ⟨o,es,ep,ho,r⟩:=new1
  exact ⟨o,es,ep,aq _ ho,r⟩
 ·obtain ⟨h',g',dr',tk',os'⟩:=s'
  have e1:g'=s.gens:=mv.gens
  have e2:dr'=s.drawn:=mv.drawn
  have e3:os'=s.os:=mv.os
  subst e1
  subst e2
  subst e3
  refine ⟨rfl,h h' tk' hS λb o e=>?_⟩
  have lb:=az e
  refine mv.heap b o (λz=>?_) (aq _ (keep _ _ e))
  rcases mem_cons.mp z with z | z
  ·exact absurd z (Nat.ne_of_lt lb)
  ·exact absurd (mem_singleton.mp z) (Nat.ne_of_lt (Nat.lt_trans lb ltn))
end
noncomputable def Iy (h:Heap) (a:Addr) (n:Nat):Prop:=∃ o es ep t,h.get? a=some o/\o.ExactSet/\o.data = .set es ep t/\t.fits es.size=true/\es.size=n
theorem xE (z:Iy h a n):Yj P w H h a (.ext λh=>Iy h a n):=by
 refine ⟨z,?_,λh1 h2 z k=>?_⟩
 ·obtain ⟨o,es,ep,t,ho,_⟩:=z
  exact ⟨o,ho⟩
 ·obtain ⟨o,es,ep,t,ho,r⟩:=z
  exact ⟨o,es,ep,t,k _ ho,r⟩
theorem nA {ks:List Key}:∀ {us:List Value},Vals (ks.map kV) us->us.length=ks.length/\∀ (i:Nat) v,us[i]?=some v->∃ k,ks[i]?=some k/\TV k v=true:=by
 induction ks with
 | nil=>intro us r;cases r;exact ⟨rfl,λi v h=>by simp at h⟩
 | cons k ks ih =>
  intro us r
  cases r with
  | @cons _ u _ us r1 r2 =>
   obtain ⟨e,h⟩:=ih r2
   refine ⟨by rw [length_cons,length_cons,e],λi v hv=>?_⟩
   cases i with
   | zero =>
    simp at hv
    subst hv
    refine ⟨k,rfl,?_⟩
    cases k with
    | inl i=>obtain ⟨t,rfl⟩:=r1;exact MI i t
    | inr x=>obtain ⟨t,rfl⟩:=r1;exact MJ x t
   | succ i=>exact h i v (by simpa using hv)
section
theorem xF {X:Cx}(hc:X.calm=true):Xs X (.type "set") (λxs H Q=>∃ p ks,xs=[.ref p]/\SqL X.K H p (ks.map kV)/\ks.length + 1 < scanBound/\∀ l,H l=none->Q (.ref l) (upd H l (.ext λh=>Iy h l (dedup ks).length))):=by
 intro pins s σ H xs us Q I r h
 obtain ⟨p,ks,rfl,hq,hb,q⟩:=h
 obtain ⟨u,rfl,rx⟩:=vals1 r
 cases rx
 obtain ⟨its,r',pl,hz⟩:=I.list hq
 obtain ⟨e,hk⟩:=nA r'
 refine rA (I.ok.hd hc) pl.isList (by simpa using e) (λi v hv=>hk i v (by simpa using hv)) hb λh' tk hS kp=>?_
 have z:Iy h' s.heap.objs.size (dedup ks).length:=by
  obtain ⟨o,es,ep,t,ho,hex,hd,_,_,_,hf,hn⟩:=hS
  exact ⟨o,es,ep,t,ho,hex,hd,hf,hn⟩
 exact ⟨.ref s.heap.objs.size,_,I.laid (t':=tk) kp (Nat.le_refl _) (xE z),rfl,q _ (I.hok.fresh (Nat.le_refl _))⟩
theorem Dh:Xs X (.builtin "len") (λxs H Q=>∃ p n,xs=[.ref p]/\H p=some (.ext λh=>Iy h p n)/\(n:Int) < 2 ^ 63/\Q (.int n) H):=by
 intro pins s σ H xs us Q I r h
 obtain ⟨p,n,rfl,hq,hb,q⟩:=h
 obtain ⟨u,rfl,rx⟩:=vals1 r
 cases rx
 obtain ⟨z,_⟩:=I.hok p _ hq
 obtain ⟨o,es,ep,t,ho,hex,hd,hf,hn⟩:=z
 exact call_len_set ho hex hd hf (by rw [hn];exact hb) ⟨.int n,H,I.tok _,⟨_,by rw [hn]⟩,q⟩
noncomputable def Ft (H:Hp):List Addr->List (Key × V)->Prop:=Paired λa kv=>H a=some (.tup [kV kv.1,kv.2])
theorem iJ (ok:HOk P w H h):∀ {ps:List Addr}{kvs:List (Key × V)},Ft H ps kvs->∃ xs:List Pr,xs.map (·.p)=ps/\(∀ r∈xs,r.ok h)/\KV kvs (xs.map λr=>(r.k,r.vv)):=by
 intro ps kvs r
 induction r with
 | nil=>exact ⟨[],rfl,λr h=>by simp at h,.nil⟩
 | @cons a kv ps kvs ha _ ih =>
  obtain ⟨xs,h1,h2,h3⟩:=ih
  obtain ⟨_,its,rv,ht⟩:=ok a _ ha
  obtain ⟨u1,us,e1,r1,r2⟩:∃ u1 us,its=u1::us/\RelV (kV kv.1) u1/\Vals [kv.2] us:=by cases rv with | cons a b=>exact ⟨_,_,rfl,a,b⟩
  obtain ⟨u2,e2,r3⟩:=vals1 r2
  subst e1 e2
  have kk:TV kv.1 u1=true:=by
   cases q:kv.1 with
   | inl i=>rw [q] at r1;obtain ⟨t,rfl⟩:=r1;exact MI i t
   | inr x=>rw [q] at r1;obtain ⟨t,rfl⟩:=r1;exact MJ x t
  refine ⟨⟨a,kv.1,u1,u2⟩::xs,by rw [map_cons,h1],λr h=>?_,.cons ⟨rfl,r3⟩ h3⟩
  rcases mem_cons.mp h with rfl | h
  ·exact ⟨ht,kk⟩
  ·exact h2 r h
theorem xG:∀ (xs:List Pr) {kvs:List (Key × V)},KV kvs (xs.map λr=>(r.k,r.vv))->KV (JR [] kvs) (putAll xs):=by
 have go:∀ (xs:List Pr) {kvs acc:List (Key × V)}{va:List (Key × Value)},KV kvs (xs.map λr=>(r.k,r.vv))->KV acc va->KV (kvs.foldl (λacc kv=>putK acc kv.1 kv.2) acc) (xs.foldl (λa r=>stored a r.k r.vv) va):=by
  intro xs
  induction xs with
  | nil=>intro kvs acc va r ra;cases r;exact ra
  | cons x xs ih =>
   intro kvs acc va r ra
   rw [map_cons] at r
   cases r with
   | @cons kv _ kvs _ r1 r2 =>
    rw [foldl_cons,foldl_cons]
    refine ih r2 ?_
    rw [r1.1]
    exact ra.put _ r1.2
 exact λxs kvs r=>go xs r .nil
theorem BA (hc:X.calm=true):Xs X (.type "dict") (λxs H Q=>∃ p ps kvs,xs=[.ref p]/\H p=some (.lst (ps.map .ref))/\Ft H ps kvs/\∀ l,H l=none->Q (.ref l) (upd H l (.dK (JR [] kvs)))):=by
 intro pins s σ H xs us Q I r h
 obtain ⟨p,ps,kvs,rfl,hq,hp,q⟩:=h
 obtain ⟨u,rfl,rx⟩:=vals1 r
 cases rx
 obtain ⟨hz,its,n,rv,ho⟩:=I.hok p _ hq
 obtain ⟨rs,e1,ok,rk⟩:=iJ I.hok hp
 have el:rs.length=ps.length:=by rw [<-e1,length_map]
 rw [length_map] at hz
 refine xD (I.ok.hd hc) ho (xs:=rs) (by rw [MR rv,<-e1,map_map];rfl) ok (by omega) λh' tk hd kp=>?_
 have rm:=xG rs rk
 refine ⟨.ref s.heap.objs.size,_,I.laid (t':=tk) kp (Nat.le_refl _) (show Yj X.prog X.w _ h' _ (.dK (JR [] kvs)) from ⟨?_,?_,_,rm,hd⟩),rfl,q _ (I.hok.fresh (Nat.le_refl _))⟩
 ·rw [rm.length]
  have:=Gk rs
  omega
 ·exact beq_false_of_ne (Nat.ne_of_gt I.big)
theorem xH (r:KV kvs vs):∀ {us:List Value},us.length=vs.length->(∀ (i:Nat) v,us[i]?=some v->∃ k x,vs[i]?=some (k,x)/\TV k v=true)->Vals (kvs.map λkv=>kV kv.1) us:=by
 induction r with
 | nil=>intro us e _;rw [length_nil,List.length_eq_zero_iff] at e;rw [e];exact .nil
 | @cons kv ku kvs vs r1 _ ih =>
  intro us e h
  cases us with
  | nil=>simp at e
  | cons u us =>
   refine .cons ?_ (ih (by simpa using e) λi v hv=>?_)
   ·obtain ⟨k,x,h1,h2⟩:=h 0 u rfl
    simp at h1
    show RelV (kV kv.1) u
    rw [r1.1,h1]
    rcases Yq h2 with ⟨i,t,rfl,rfl⟩ | ⟨y,t,rfl,rfl⟩
    ·exact ⟨t,rfl⟩
    ·exact ⟨t,rfl⟩
   ·obtain ⟨k,x,h1,h2⟩:=h (i + 1) v (by simpa using hv)
    exact ⟨k,x,by simpa using h1,h2⟩
theorem BC (hc:X.calm=true):Xs X (.type "list") (λxs H Q=>∃ p kvs,xs=[.ref p]/\H p=some (.dK kvs)/\∀ l,H l=none->Q (.ref l) (upd H l (.lst (kvs.map λkv=>kV kv.1)))):=by
 intro pins s σ H xs us Q I r h
 obtain ⟨p,kvs,rfl,hq,q⟩:=h
 obtain ⟨u,rfl,rx⟩:=vals1 r
 cases rx
 obtain ⟨hz,lo,vs,rk,hd⟩:=I.hok p _ hq
 obtain ⟨ep,hat⟩:=hd.dictAt
 refine PySem.W.kdl_call (PySem.W.kdl_dict (knd:=ZG X.prog X.w) (kvs:=vs) (ep:=ep) lo) (I.ok.hd hc) hat (by rw [<-rk.length];exact hz) λh' tk acc c kp e it=>?_
 refine ⟨.ref s.heap.objs.size,_,I.laid (t':=tk) kp (Nat.le_refl _) (show Yj X.prog X.w _ h' _ (.lst (kvs.map λkv=>kV kv.1)) from ⟨by rw [length_map];exact hz,acc.toList,c,xH rk ?_ ?_,e⟩),rfl,q _ (I.hok.fresh (Nat.le_refl _))⟩
 ·rw [Array.length_toList];exact it.1
 ·exact λi v hv=>it.2 i v (by simpa using hv)
theorem nB:D.fmt (.str y) q=(y.length<=100000/\q y):=rfl
theorem nC:D.fmt (.int i) q=(i.natAbs.log2 < 1920/\(toString i:Str).length<=100000/\q (toString i)):=rfl
noncomputable def kD:Key->D
 | .inl i => .int i
 | .inr x => .str x
noncomputable def D.key:D->Option Key
 | .int i=>some (.inl i)
 | .str x=>some (.inr x)
 | _=>none
theorem rp_kD {K:aj}(k:Key):Rp K H (kD k) (kV k):=by cases k <;> rfl
theorem rC {K:aj}(r:Rp K H (kD k) v):v=kV k:=by
 cases k <;> exact r
theorem rD {K:aj}:∀ {ks:List Key}{vs:List V},Rps K H (ks.map kD) vs->vs=ks.map kV:=by
 intro ks
 induction ks with
 | nil=>intro vs r;exact r
 | cons k ks ih =>
  intro vs r
  obtain ⟨v,us,rfl,r1,r2⟩:=r
  rw [rC r1,ih r2,map_cons]
noncomputable def yo (de:DE):DE:=λds q x=>de ds (λd=>∃ ks:List Key,d = .lst (ks.map kD)/\ks.length < 4000/\q (.int (dedup ks).length)) x
theorem xI {X:Cx}(hg:Gl X "len") (hm:X.mg "len" = none) (hg':Gl X "set") (hm':X.mg "set" = none) (he:JE X XE e de) (hc:autoParam (X.calm=true) auR)
  (h1:autoParam (noStar e=true) auR) (hst:autoParam (ZZ [e]=true) auR):JE X XE (.Call (.Name "len" p1) [.Call (.Name "set" p2) [e] [] pos2] [] pos1) (yo de):=by
 obtain ⟨te,p,d⟩:=he.ex
 refine ⟨_,pe_b Dh hg hm PySem.boot_len (ED (mQ (xF hc) hg' hm' PyProof.Rows.boot_set (ED p Oi h1) hst) Oi rfl) rfl,λc h k kx=>d c h (λv a H1 H2 e r h=>?_) kx⟩
 obtain ⟨ks,rfl,hb,hq⟩:=h
 obtain ⟨l,vs,rfl,h5,h6⟩:=r
 rw [rD h6] at h5
 refine ⟨l,ks,rfl,SqL.of (e.sub _ _ h5),by unfold scanBound;omega,λn hn=>⟨n,_,rfl,Zy,?_,k _ (.int _) _ _ (e.trans (.grow e.sub (Zz.upd hn))) rfl hq⟩⟩
 have:=Iw ks
 omega
noncomputable def Sg (kvs:List (Key × D)) (k:Key) (d:D):List (Key × D):=if kvs.any (λkv=>decide (kv.1=k)) then kvs.map (λkv=>if kv.1=k then (kv.1,d) else kv) else kvs++[(k,d)]
noncomputable def Qi (kvs more:List (Key × D)):List (Key × D):=more.foldl (λacc kv=>Sg acc kv.1 kv.2) kvs
theorem nE {K:aj}(k:Key):∀ {gs:List (Key × D)}{kvs:List (Key × V)},Rks K H gs kvs->(kvs.any λkv=>decide (kv.1=k))=gs.any λkv=>decide (kv.1=k):=by
 intro gs
 induction gs with
 | nil=>intro kvs r;rw [show kvs=[] from r];rfl
 | cons g gs ih =>
  intro kvs r
  obtain ⟨v,us,rfl,_,r2⟩:=r
  rw [any_cons,any_cons,ih r2]
theorem nF {K:aj}(rd:Rp K H d v):∀ {gs:List (Key × D)}{kvs:List (Key × V)},Rks K H gs kvs->Rks K H (gs++[(k,d)]) (kvs++[(k,v)]):=by
 intro gs
 induction gs with
 | nil=>intro kvs r;rw [show kvs=[] from r];exact ⟨v,[],rfl,rd,rfl⟩
 | cons g gs ih =>
  intro kvs r
  obtain ⟨u,us,rfl,r1,r2⟩:=r
  exact ⟨u,_,rfl,r1,ih r2⟩
theorem rE {K:aj}(rd:Rp K H d v):∀ {gs:List (Key × D)}{kvs:List (Key × V)},Rks K H gs kvs ->
  Rks K H (gs.map λkv=>if kv.1=k then (kv.1,d) else kv) (kvs.map λkv=>if kv.1=k then (kv.1,v) else kv):=by
 intro gs
 induction gs with
 | nil=>intro kvs r;rw [show kvs=[] from r];rfl
 | cons g gs ih =>
  intro kvs r
  obtain ⟨u,us,rfl,r1,r2⟩:=r
  obtain ⟨g1,g2⟩:=g
  rw [map_cons,map_cons]
  by_cases e:g1=k
  ·rw [if_pos e,if_pos e]
   exact ⟨v,_,rfl,rd,ih r2⟩
  ·rw [if_neg e,if_neg e]
   exact ⟨u,_,rfl,r1,ih r2⟩
theorem yp {K:aj}{kvs:List (Key × V)}(r:Rks K H gs kvs) (rd:Rp K H d v):Rks K H (Sg gs k d) (putK kvs k v):=by
 unfold Sg putK
 rw [nE k r]
 split
 ·exact rE rd r
 ·exact nF rd r
theorem xJ {K:aj}:∀ {more:List (Key × D)}{mv:List (Key × V)}{gs:List (Key × D)}{kvs:List (Key × V)},Rks K H more mv->Rks K H gs kvs->Rks K H (Qi gs more) (JR kvs mv):=by
 intro more
 induction more with
 | nil=>intro mv gs kvs rm r;rw [show mv=[] from rm];exact r
 | cons m more ih =>
  intro mv gs kvs rm r
  obtain ⟨v,us,rfl,r1,r2⟩:=rm
  show Rks K H (Qi (Sg gs m.1 m.2) more) (JR (putK kvs m.1 v) us)
  exact ih r2 (yp r r1)
noncomputable def prD (kv:Key × D):D := .tup [kD kv.1,kv.2]
theorem nG {K:aj}(s:Zz H H'):∀ {kvs:List (Key × D)}{vs:List V},Rps K H (kvs.map prD) vs->∃ ps mv,vs=ps.map V.ref/\Ft H' ps mv/\Rks K H kvs mv:=by
 intro kvs
 induction kvs with
 | nil=>intro vs r;exact ⟨[],[],r,.nil,rfl⟩
 | cons kv kvs ih =>
  intro vs r
  obtain ⟨v,us,rfl,r1,r2⟩:=r
  obtain ⟨ps,mv,rfl,h1,h2⟩:=ih r2
  obtain ⟨a,ws,rfl,h3,h4⟩:=r1
  obtain ⟨v1,v2,rfl,h5,h6⟩:=tJ h4
  refine ⟨a::ps,(kv.1,v2)::mv,rfl,.cons ?_ h1,v2,mv,rfl,h6,h2⟩
  rw [rC h5] at h3
  exact s _ _ h3
noncomputable def iK (xs:List D) (q:D->Prop):Prop:=∃ kvs:List (Key × D),xs=[.lst (kvs.map prD)]/\q (.dic (Qi [] kvs))
theorem iL {K:aj}(r:Rks K H gs kvs) (hp:H p=none):Rp K (upd H p (.dK kvs)) (.dic gs) (.ref p):=⟨p,kvs,rfl,Zy,r.same (Zz.upd hp)⟩
theorem nH {X:Cx}(hc:autoParam (X.calm=true) auR):Sb X (.type "dict") iK:=by
 refine ⟨_,BA hc,λ{H0 H vs xs q Q} s r h k=>?_⟩
 obtain ⟨kvs,rfl,hq⟩:=h
 obtain ⟨v,rfl,p,ws,rfl,h1,h2⟩:=Tu r
 obtain ⟨ps,mv,rfl,h3,h4⟩:=nG s h2
 exact ⟨p,ps,mv,rfl,s _ _ h1,h3,λl hl=>k _ (.dic _) _ _ (.put s hl) (iL (xJ h4 (show Rks X.K H0 [] [] from rfl)) (s.free hl)) hq⟩
noncomputable def iM (xs:List D) (q:D->Prop):Prop:=∃ kvs:List (Key × D),xs=[.dic kvs]/\q (.lst (kvs.map λkv=>kD kv.1))
theorem iO {K:aj}:∀ {gs:List (Key × D)}{kvs:List (Key × V)},Rks K H gs kvs->Rps K H (gs.map λkv=>kD kv.1) (kvs.map λkv=>kV kv.1):=by
 intro gs
 induction gs with
 | nil=>intro kvs r;rw [show kvs=[] from r];rfl
 | cons g gs ih =>
  intro kvs r
  obtain ⟨u,us,rfl,r1,r2⟩:=r
  exact ⟨_,_,rfl,rp_kD _,ih r2⟩
theorem rF (hc:autoParam (X.calm=true) auR):Sb X (.type "list") iM:=by
 refine ⟨_,BC hc,λ{H0 H vs xs q Q} s r h k=>?_⟩
 obtain ⟨kvs,rfl,hq⟩:=h
 obtain ⟨v,rfl,p,ws,rfl,h1,h2⟩:=Tu r
 exact ⟨p,ws,rfl,s _ _ h1,λl hl=>k _ (.lst _) _ _ (.put s hl) (Vv (iO h2) (s.free hl)) hq⟩
noncomputable def D.fld (K:aj) (f:Str) (d:D) (q:D->Prop):Prop:=∃ C gs v,d = .obj C gs/\Cls K C/\Xm K C f/\gs.lookup f=some v/\q v
theorem D.SD {K:aj}(c:Cls K C) (n:Xm K C f) (l:gs.lookup f=some v):D.fld K f (.obj C gs) q=q v:=by
 refine propext ⟨?_,λh=>⟨C,gs,v,rfl,c,n,l,h⟩⟩
 rintro ⟨C',gs',v',e,_,_,l',h⟩
 cases e
 rw [l] at l'
 cases l'
 exact h
theorem iP {K:aj}:dFld K f de ds q x=de ds (λd=>d.fld K f q) x:=rfl
end
section
noncomputable def iQ:D->List D->(D->Prop)->Prop
 | .lst xs,[.str a]=>λq=>∃ zs,texts xs=some zs/\a∈zs/\q (.int (zs.idxOf a:Nat))
 | _,_=>λ_=>False
theorem nI {zs:List Str}:iQ (.lst (zs.map .str)) [.str a] q=(a∈zs/\q (.int (zs.idxOf a:Nat))):=by
 show (∃ cs,texts _=some cs/\_)=_
 rw [Gi]
 simp only [Option.some.injEq,exists_eq_left']
end
noncomputable def sIt (tp:Bool) (h:Heap) (I l:Addr) (k:Nat):Prop:=if tp=true then h.IsTupleIter I l k else h.IsListIter I l k
noncomputable def sOb (tp:Bool) (h:Heap) (l:Addr) (xs:Array Value):Prop:=if tp=true then h.IsTuple l xs else h.IsList l xs
theorem sIt.mv (x:sIt tp h I l k) (m:∀ o,h.get? I=some o->h'.get? I=some o):sIt tp h' I l k:=by
 cases tp <;> exact let ⟨o,ho,r⟩:=x;⟨o,m o ho,r⟩
theorem sOb.mv (x:sOb tp h l xs) (m:∀ o,h.get? l=some o->h'.get? l=some o):sOb tp h' l xs:=by
 cases tp <;> exact let ⟨o,ho,r⟩:=x;⟨o,m o ho,r⟩
theorem sIt.at (x:sIt tp h I l k):∃ o,h.get? I=some o/\o.data = .fields #[.ref l,.int k 0]:=by
 cases tp <;> exact let ⟨o,ho,_,d⟩:=x;⟨o,ho,d⟩
section
theorem Jv (it:sIt tp s.heap I l k) (ob:sOb tp s.heap l xs) (hx:xs[k]?=some x)
  (hQ:∀ h',sIt tp h' I l (k + 1)->aG I s.heap h'->Q x { s with heap:=h' }):wpAny (model P w) A (Builtin.SmallTypes.nextOf (.ref I)) Q E s:=by
 cases tp with
 | false=>exact wpAny_nextOf_list_item it ob hx hQ
 | true =>
  obtain ⟨o,ho,hc,hd⟩:=id it
  obtain ⟨ol,hol,_,nl,hdl⟩:=ob
  have ty:s.TypeIs (.ref I) "tuple_iterator" := ⟨o,ho,hc⟩
  unfold Builtin.SmallTypes.nextOf
  refine ak (wpAny_callSpecial?_slot (name:=Str.ofString "__next__") ty PySem.F.slot_tuple_iterator_next (wpAny_call_entry PySem.F.slot_tuple_iterator_next ty PySem.F.entry_tuple_iterator_next ?_ (PySem.F.args_tuple_iterator_next_1 _)))
  refine ak (m:=field (.ref I) 0) (wpAny_field ho hd (x := .ref l) rfl ?_)
  show wpAny _ _ (if (Value.ref l == Value.none)=true then _ else _) _ _ s
  rw [if_neg (λz=>by cases z)]
  refine ak (m:=field (.ref I) 1) (wpAny_field ho hd (x := .int k 0) rfl (ak (m:=seqItems? (.ref l)) (wpAny_seqItems hol hdl ?_)))
  simp only [Int.toNat_natCast,hx]
  refine ak (wpAny_setField ho hd (by simp) (ao ⟨x,rfl,ao (hQ _ (show Heap.IsTupleIter _ I l (k + 1) from ⟨_,Heap.get?_update_self _ ho (Obj.isFreed_of_fields (Obj.data_mapFields hd _)),(Obj.cls_mapFields ..).trans hc,?_⟩) (Heap.SameBut.update ..))⟩))
  rw [Obj.data_mapFields hd]
  simp [rawInt]
theorem BD (hh:A.handled=none) (it:sIt tp s.heap I l k) (ob:sOb tp s.heap l xs) (hx:xs[k]?=none)
  (hE:∀ h' e,Heap.ExtBut I s.heap h'->(∃ o,h'.get? e=some o/\o.cls = .type "StopIteration")->E (.ref e) { s with heap:=h' }):wpAny (model P w) A (Builtin.SmallTypes.nextOf (.ref I)) Q E s:=by
 cases tp with
 | false=>exact wpAny_nextOf_list_end hh it ob hx hE
 | true =>
  obtain ⟨o,ho,hc,hd⟩:=id it
  obtain ⟨ol,hol,_,nl,hdl⟩:=ob
  have ty:s.TypeIs (.ref I) "tuple_iterator" := ⟨o,ho,hc⟩
  unfold Builtin.SmallTypes.nextOf
  refine ak (wpAny_callSpecial?_slot (name:=Str.ofString "__next__") ty PySem.F.slot_tuple_iterator_next (wpAny_call_entry PySem.F.slot_tuple_iterator_next ty PySem.F.entry_tuple_iterator_next ?_ (PySem.F.args_tuple_iterator_next_1 _)))
  refine ak (m:=field (.ref I) 0) (wpAny_field ho hd (x := .ref l) rfl ?_)
  show wpAny _ _ (if (Value.ref l == Value.none)=true then _ else _) _ _ s
  rw [if_neg (λz=>by cases z)]
  refine ak (m:=field (.ref I) 1) (wpAny_field ho hd (x := .int k 0) rfl (ak (m:=seqItems? (.ref l)) (wpAny_seqItems hol hdl ?_)))
  simp only [Int.toNat_natCast,hx]
  refine ak (wpAny_rule (ak (wpAny_setField ho hd (by simp) (ak (m:=newExc (.type "StopIteration") []) ?_))))
  simp only [newExc,newTuple]
  refine ak (wpAny_newObj_type (ak (m:=firstArgMember _ _) (wpAny_of_eq (a:=Value.none) (by first | rfl | (simp only [firstArgMember];rfl)) (wpAny_newObj_type ?_ (by size_fits)))) (by size_fits))
  simp only [raiseNew]
  refine ak (wpAny_handled ?_)
  rw [show A.in1.handled=none from hh]
  exact ak (ao (wpAny_throw (hE _ _ (((Heap.SameBut.update ..).extBut.push _).push _) ⟨_,au _ rfl,rfl⟩)))
structure Zp (b1 b2:Bool) (h:Heap) (z TI TO i1 i2 l1 l2:Addr) (k:Nat) (f0:Value) (xs ys:Array Value):Prop where
 zip:IsZip h z TI TO f0
 ti:IsPair h TI (.ref i1) (.ref i2)
 to:∃ a b,IsPair h TO a b
 it1:sIt b1 h i1 l1 k
 it2:sIt b2 h i2 l2 k
 ob1:sOb b1 h l1 xs
 ob2:sOb b2 h l2 ys
theorem rG {z TI TO i1 i2 l1 l2:Addr}{k:Nat}{xs ys:Array Value}{x y:Value}{Q:Value->Shared->Prop}(D:ZipApart z TI TO i1 i2 l1 l2) (Z:Zp b1 b2 s.heap z TI TO i1 i2 l1 l2 k .none xs ys) (hx:xs[k]?=some x) (hy:ys[k]?=some y)
  (hQ:∀ h',Zp b1 b2 h' z TI TO i1 i2 l1 l2 (k + 1) (rawInt s.heap.objs.size) xs ys->IsPair h' s.heap.objs.size x y->(∀ c o,c≠z->c≠TO->c≠i1->c≠i2->s.heap.get? c=some o->h'.get? c=some o)->Q (.ref s.heap.objs.size) { s with heap:=h' }) :
  wpAny (model P w) A (Builtin.«zip.__next__» ⟨[.ref z],[]⟩) (λfin s'=>∃ v,fin = .done (.ret v)/\Q v s') E s:=by
 obtain ⟨hz,hTI,⟨a,b,hTO⟩,h1,h2,o1,o2⟩:=Z
 refine ak (m:=field (.ref z) 2) (wpAny_field hz rfl (x := .bool false) rfl ?_)
 refine ak (m:=field (.ref z) 3) (wpAny_field hz rfl (x := .ref TI) rfl (ak (wpAny_seqItems hTI rfl ?_)))
 refine ak (m:=Builtin.SmallTypes.ownedTupleIsFree (.ref z)) ?_
 unfold Builtin.SmallTypes.ownedTupleIsFree
 refine ak (wpAny_field hz rfl (x := .none) rfl (ao ?_))
 simp only [if_true]
 refine ak (wpAny_rule (ak (wpAny_field hz rfl (x := .ref TO) rfl (ak (wpAny_setField_rec hz (by simp) λg1 gz gs=>ak ?_)))))
 replace gz:IsZip g1 z TI TO .ellipsis:=gz
 have m1:∀ c o,c≠z->s.heap.get? c=some o->g1.get? c=some o:=λc o n e=>gs.extBut _ _ n e
 simp only [List.zipIdx_cons,List.zipIdx_nil,forIn_cons,List.forIn_nil]
 refine ak (ak (wpAny_onRaise (ak (m:=Builtin.SmallTypes.nextOf (.ref i1)) (Jv (h1.mv λo e=>m1 _ o D.i1z e) (o1.mv λo e=>m1 _ o D.l1z e) hx λg2 it2 gs2=>ao ?_))))
 have m2:∀ c o,c≠z->c≠i1->s.heap.get? c=some o->g2.get? c=some o:=λc o n n' e=>gs2.extBut _ _ n' (m1 c o n e)
 have p2:IsPair g2 TO a b:=m2 _ _ D.TOz D.TOi1 hTO
 refine ak (wpAny_seqItems p2 rfl (ak (wpAny_updateSeq_pair p2 λg3 p3 gs3=>ak (wpAny_letGo (ao ?_)))))
 replace p3:IsPair g3 TO x b:=p3
 have m3:∀ c o,c≠z->c≠i1->c≠TO->s.heap.get? c=some o->g3.get? c=some o:=λc o n n' n'' e=>gs3.extBut _ _ n'' (m2 c o n n' e)
 refine ak (ak (wpAny_onRaise (ak (m:=Builtin.SmallTypes.nextOf (.ref i2)) (Jv (h2.mv λo e=>m3 _ o D.i2z D.i12.symm D.TOi2.symm e) (o2.mv λo e=>m3 _ o D.l2z D.l2i1 D.l2TO e) hy λg4 it4 gs4=>ao ?_))))
 have p4:IsPair g4 TO x b:=gs4.extBut _ _ D.TOi2 p3
 refine ak (wpAny_seqItems p4 rfl (ak (wpAny_updateSeq_pair p4 λg5 p5 gs5=>ak (wpAny_letGo (ao (ao ?_))))))
 replace p5:IsPair g5 TO x y:=p5
 have m5:∀ c o,c≠z->c≠TO->c≠i1->c≠i2->s.heap.get? c=some o->g5.get? c=some o:=λc o a1 a2 a3 a4 e=>gs5.extBut _ _ a2 (gs4.extBut _ _ a4 (m3 c o a1 a3 a2 e))
 refine ak (wpAny_seqItems p5 rfl (ak (wpAny_newTuple ?_)))
 have sz:g5.objs.size=s.heap.objs.size:=by rw [gs5.1,gs4.1,gs3.1,gs2.1,gs.1]
 have z5:IsZip g5 z TI TO .ellipsis:=gs5.extBut _ _ D.TOz.symm (gs4.extBut _ _ D.i2z.symm (gs3.extBut _ _ D.TOz.symm (gs2.extBut _ _ D.i1z.symm gz)))
 have j1:sIt b1 g5 i1 l1 (k + 1):=it2.mv λo e=>gs5.extBut _ _ D.TOi1.symm (gs4.extBut _ _ D.i12 (gs3.extBut _ _ D.TOi1.symm e))
 have j2:sIt b2 g5 i2 l2 (k + 1):=it4.mv λo e=>gs5.extBut _ _ D.TOi2.symm e
 have zlt:z < g5.objs.size:=az z5
 refine ak (m:=Builtin.SmallTypes.ownedTupleHandOut (.ref z) (.ref g5.objs.size)) ?_
 unfold Builtin.SmallTypes.ownedTupleHandOut
 have z6:IsZip (g5.push { cls := .type "tuple",data := .seq #[x,y] }) z TI TO .ellipsis:=aq _ z5
 refine ak (wpAny_setField_rec z6 (by simp) λg7 z7 gs7=>?_)
 replace z7:IsZip g7 z TI TO (rawInt g5.objs.size):=z7
 refine wpAny_setField_rec z7 (by simp) λg8 z8 gs8=>?_
 replace z8:IsZip g8 z TI TO (rawInt g5.objs.size):=z8
 have up:∀ c o,c≠z->g5.get? c=some o->g8.get? c=some o:=λc o n e=>gs8.extBut _ _ n (gs7.extBut _ _ n (aq _ e))
 have t8:IsPair g8 g5.objs.size x y:=gs8.extBut _ _ (Nat.ne_of_gt zlt) (gs7.extBut _ _ (Nat.ne_of_gt zlt) (au _ rfl))
 refine ao ⟨_,rfl,?_⟩
 show Q (.ref g5.objs.size) _
 rw [sz] at z8 t8 ⊢
 have all:∀ c o,c≠z->c≠TO->c≠i1->c≠i2->s.heap.get? c=some o->g8.get? c=some o:=λc o a1 a2 a3 a4 e=>up c o a1 (m5 c o a1 a2 a3 a4 e)
 exact hQ g8 ⟨z8,all _ _ D.TIz D.TITO D.TIi1 D.TIi2 hTI,⟨_,_,up _ _ D.TOz p5⟩,j1.mv λo e=>up _ o D.i1z e,j2.mv λo e=>up _ o D.i2z e,o1.mv λo e=>all _ o D.l1z D.l1TO D.l1i1 D.l1i2 e,o2.mv λo e=>all _ o D.l2z D.l2TO D.l2i1 D.l2i2 e⟩ t8 all
theorem nJ {z TI TO i1 i2 l1 l2:Addr}{k:Nat}{xs ys:Array Value}{Q:Fin->Shared->Prop}(hh:A.handled=none) (D:ZipApart z TI TO i1 i2 l1 l2) (Z:Zp b1 b2 s.heap z TI TO i1 i2 l1 l2 k .none xs ys) (hend:xs[k]?=none\/ys[k]?=none)
  (hE:∀ h' e,(∀ c o,c≠z->c≠TO->c≠i1->c≠i2->s.heap.get? c=some o->h'.get? c=some o)->(∃ o,h'.get? e=some o/\o.cls = .type "StopIteration")->E (.ref e) { s with heap:=h' }) :
  wpAny (model P w) A (Builtin.«zip.__next__» ⟨[.ref z],[]⟩) Q E s:=by
 obtain ⟨hz,hTI,⟨a,b,hTO⟩,h1,h2,o1,o2⟩:=Z
 refine ak (m:=field (.ref z) 2) (wpAny_field hz rfl (x := .bool false) rfl ?_)
 refine ak (m:=field (.ref z) 3) (wpAny_field hz rfl (x := .ref TI) rfl (ak (wpAny_seqItems hTI rfl ?_)))
 refine ak (m:=Builtin.SmallTypes.ownedTupleIsFree (.ref z)) ?_
 unfold Builtin.SmallTypes.ownedTupleIsFree
 refine ak (wpAny_field hz rfl (x := .none) rfl (ao ?_))
 simp only [if_true]
 refine ak (wpAny_rule (ak (wpAny_field hz rfl (x := .ref TO) rfl (ak (wpAny_setField_rec hz (by simp) λg1 gz gs=>ak ?_)))))
 replace gz:IsZip g1 z TI TO .ellipsis:=gz
 have m1:∀ c o,c≠z->s.heap.get? c=some o->g1.get? c=some o:=λc o n e=>gs.extBut _ _ n e
 simp only [List.zipIdx_cons,List.zipIdx_nil,forIn_cons,List.forIn_nil]
 cases hx:xs[k]? with
 | none =>
  refine ak (ak (wpAny_onRaise (ak (m:=Builtin.SmallTypes.nextOf (.ref i1)) (BD hh (h1.mv λo e=>m1 _ o D.i1z e) (o1.mv λo e=>m1 _ o D.l1z e) hx λg2 e gs2 he=>?_))))
  obtain ⟨oe,hoe,hce⟩:=he
  have z2:IsZip g2 z TI TO .ellipsis:=gs2 _ _ D.i1z.symm gz
  have ez:e≠z:=λq=>by subst q;rw [z2] at hoe;cases hoe;simp at hce
  exact wpAny_setField_rec z2 (by simp) λg3 _ gs3=>hE g3 e (λc o c1 _ c3 _ q=>gs3.extBut _ _ c1 (gs2 _ _ c3 (m1 _ _ c1 q))) ⟨oe,gs3.extBut _ _ ez hoe,hce⟩
 | some x =>
  have hy:ys[k]?=none:=hend.resolve_left λq=>by rw [hx] at q;cases q
  refine ak (ak (wpAny_onRaise (ak (m:=Builtin.SmallTypes.nextOf (.ref i1)) (Jv (h1.mv λo e=>m1 _ o D.i1z e) (o1.mv λo e=>m1 _ o D.l1z e) hx λg2 it2 gs2=>ao ?_))))
  have m2:∀ c o,c≠z->c≠i1->s.heap.get? c=some o->g2.get? c=some o:=λc o n n' e=>gs2.extBut _ _ n' (m1 c o n e)
  have p2:IsPair g2 TO a b:=m2 _ _ D.TOz D.TOi1 hTO
  refine ak (wpAny_seqItems p2 rfl (ak (wpAny_updateSeq_pair p2 λg3 p3 gs3=>ak (wpAny_letGo (ao ?_)))))
  have m3:∀ c o,c≠z->c≠i1->c≠TO->s.heap.get? c=some o->g3.get? c=some o:=λc o n n' n'' e=>gs3.extBut _ _ n'' (m2 c o n n' e)
  refine ak (ak (wpAny_onRaise (ak (m:=Builtin.SmallTypes.nextOf (.ref i2)) (BD hh (h2.mv λo e=>m3 _ o D.i2z D.i12.symm D.TOi2.symm e) (o2.mv λo e=>m3 _ o D.l2z D.l2i1 D.l2TO e) hy λg4 e gs4 he=>?_))))
  obtain ⟨oe,hoe,hce⟩:=he
  have z4:IsZip g4 z TI TO .ellipsis:=gs4 _ _ D.i2z.symm (gs3.extBut _ _ D.TOz.symm (gs2.extBut _ _ D.i1z.symm gz))
  have ez:e≠z:=λq=>by subst q;rw [z4] at hoe;cases hoe;simp at hce
  exact wpAny_setField_rec z4 (by simp) λg5 _ gs5=>hE g5 e (λc o c1 c2 c3 c4 q=>gs5.extBut _ _ c1 (gs4 _ _ c4 (m3 _ _ c1 c3 c2 q))) ⟨oe,gs5.extBut _ _ ez hoe,hce⟩
theorem rH {z TI TO i1 i2 l1 l2:Addr}{k:Nat}{xs ys:Array Value}{x y:Value}{Q:Option Value->Shared->Prop}(D:ZipApart z TI TO i1 i2 l1 l2) (Z:Zp b1 b2 s.heap z TI TO i1 i2 l1 l2 k .none xs ys) (hx:xs[k]?=some x) (hy:ys[k]?=some y)
  (hQ:∀ h',Zp b1 b2 h' z TI TO i1 i2 l1 l2 (k + 1) (rawInt s.heap.objs.size) xs ys->IsPair h' s.heap.objs.size x y->(∀ c o,c≠z->c≠TO->c≠i1->c≠i2->s.heap.get? c=some o->h'.get? c=some o)->Q (some (.ref s.heap.objs.size)) { s with heap:=h' }) :
  wpAny (model P w) A (pyNext (.ref z)) Q E s:=by
 have ty:s.TypeIs (.ref z) "zip" := ⟨_,Z.zip,rfl⟩
 unfold pyNext
 exact ak (wpAny_attempt (wpAny_callSpecial?_slot (name:=Str.ofString "__next__") ty PySem.F.slot_zip_next (wpAny_call_entry PySem.F.slot_zip_next ty PySem.F.entry_zip_next (rG D Z hx hy λh' a1 a2 a3=>ao (hQ h' a1 a2 a3)) (PySem.F.args_zip_next_1 _))))
theorem rJ {z TI TO i1 i2 l1 l2:Addr}{k:Nat}{xs ys:Array Value}{Q:Option Value->Shared->Prop}(hh:A.handled=none) (D:ZipApart z TI TO i1 i2 l1 l2) (Z:Zp b1 b2 s.heap z TI TO i1 i2 l1 l2 k .none xs ys) (hend:xs[k]?=none\/ys[k]?=none)
  (hQ:∀ h',(∀ c o,c≠z->c≠TO->c≠i1->c≠i2->s.heap.get? c=some o->h'.get? c=some o)->Q none { s with heap:=h' }):wpAny (model P w) A (pyNext (.ref z)) Q E s:=by
 have ty:s.TypeIs (.ref z) "zip" := ⟨_,Z.zip,rfl⟩
 unfold pyNext
 refine ak (wpAny_attempt (wpAny_callSpecial?_slot (name:=Str.ofString "__next__") ty PySem.F.slot_zip_next (wpAny_call_entry PySem.F.slot_zip_next ty PySem.F.entry_zip_next (nJ (A:=A.in1) (by simp [hh]) D Z hend λh' e hk he=>?_) (PySem.F.args_zip_next_1 _))))
 obtain ⟨o,ho,hc⟩:=he
 exact ak (wpAny_isInstance (T := "StopIteration") (b:=true) ⟨o,ho,hc⟩ isSubtype_stop (ao (hQ _ hk)))
end
noncomputable def SqB (tp:Bool) (K:aj) (H:Hp) (a:Addr) (xs:List V):Prop:=if tp=true then SqT K H a xs else SqL K H a xs
theorem Inv.sq (I:Inv X pins σ H s) (h:SqB tp X.K H a xs):∃ its:List Value,Vals xs its/\sOb tp s.heap a its.toArray/\xs.length<=aA:=by
 cases tp with
 | false=>obtain ⟨its,r,p,z⟩:=I.list h;exact ⟨its,r,p.isList,z⟩
 | true=>obtain ⟨its,r,p,z⟩:=I.tuple h;exact ⟨its,r,p,z⟩
theorem Inv.BE (I:Inv X pins σ H s) (h:SqB tp X.K H a xs) (h':SqB tp X.K H a ys):xs=ys:=by
 cases tp with
 | false=>exact I.Nu h h'
 | true=>exact I.QQ h h'
noncomputable def Itz (b1 b2:Bool) (K:aj) (a b:Addr):It :=
  ⟨λi H=>∃ xs ys x y,SqB b1 K H a xs/\SqB b2 K H b ys/\xs[i]?=some x/\ys[i]?=some y,
   λi H v H'=>∃ p x y,v = .ref p/\H p=none/\H'=upd H p (.tup [x,y])/\(∀ xs,SqB b1 K H a xs->xs[i]?=some x)/\∀ ys,SqB b2 K H b ys->ys[i]?=some y,
   λi H=>∃ xs ys,SqB b1 K H a xs/\SqB b2 K H b ys/\(xs.length<=i\/ys.length<=i)⟩
noncomputable def tnz (b1 b2:Bool) (z TI TO i1 i2 l1 l2:Addr) (k:Nat) (h:Heap):Prop:=IsZip h z TI TO .none/\IsPair h TI (.ref i1) (.ref i2)/\(∃ a b,IsPair h TO a b)/\sIt b1 h i1 l1 k/\sIt b2 h i2 l2 k
theorem rK {K:aj}{b1 b2:Bool}{z TI TO i1 i2 l1 l2:Addr}(D:ZipApart z TI TO i1 i2 l1 l2) :
  Turn P w K (.Tuple elts x1 tpos) (Itz b1 b2 K l1 l2) [z,TI,TO,i1,i2] z (tnz b1 b2 z TI TO i1 i2 l1 l2) where
 mem:=by simp
 obj:=λi h st b hb=>by
  obtain ⟨h1,h2,⟨_,_,h3⟩,h4,h5⟩:=st
  obtain ⟨o4,g4,d4⟩:=h4.at
  obtain ⟨o5,g5,d5⟩:=h5.at
  simp only [mem_cons,not_mem_nil,or_false] at hb
  rcases hb with rfl | rfl | rfl | rfl | rfl
  ·exact ⟨_,h1,λv z=>by cases z⟩
  ·exact ⟨_,h2,λv z=>by cases z⟩
  ·exact ⟨_,h3,λv z=>by cases z⟩
  ·exact ⟨_,g4,λv z=>by rw [d4] at z;cases z⟩
  ·exact ⟨_,g5,λv z=>by rw [d5] at z;cases z⟩
 keep:=λi h h' st k=>by
  obtain ⟨h1,h2,⟨a,b,h3⟩,h4,h5⟩:=st
  exact ⟨k z (by simp) _ h1,k TI (by simp) _ h2,⟨a,b,k TO (by simp) _ h3⟩,h4.mv λo q=>k i1 (by simp) o q,h5.mv λo q=>k i2 (by simp) o q⟩
 item:=by
  intro X hP hw hK hc i pins s σ H E I hf st hg
  subst hP hw hK
  obtain ⟨h1,h2,h3,h4,h5⟩:=st
  obtain ⟨xs,ys,x,y,hq,hq',hx,hy⟩:=hg
  obtain ⟨its,rv,p,hz⟩:=I.sq hq
  obtain ⟨its',rv',p',hz'⟩:=I.sq hq'
  obtain ⟨u,hu,ru⟩:=rv.get hx
  obtain ⟨u',hu',ru'⟩:=rv'.get hy
  have fr:∀ b,(b=z\/b=TO\/b=i1\/b=i2)->MN X pins H b:=λb hb=>hf b (by rcases hb with rfl | rfl | rfl | rfl <;> simp)
  refine rH D ⟨h1,h2,h3,h4,h5,p,p'⟩ (x:=u) (y:=u') (by simpa using hu) (by simpa using hu') λh' Z t8 kp0=>?_
  refine ⟨_,rfl,wpAny_letOwnedTupleGo_zip Z.zip λh'' z2 sb=>?_⟩
  have lt:∀ {c:Addr}{o:Obj},s.heap.get? c=some o->s.heap.objs.size≠c:=λe=>Nat.ne_of_gt (az e)
  have lz:s.heap.objs.size≠z:=lt h1
  have hp0:H s.heap.objs.size=none:=I.fresh
  have kp:∀ b o,¬ (b=z\/b=TO\/b=i1\/b=i2)->s.heap.get? b=some o->h''.get? b=some o:=λb o n q=>(sb.2 b (λe=>n (.inl e))).trans (kp0 b o (λe=>n (.inl e)) (λe=>n (.inr (.inl e))) (λe=>n (.inr (.inr (.inl e)))) (λe=>n (.inr (.inr (.inr e)))) q)
  have tp:h''.get? s.heap.objs.size=some { cls := .type "tuple",data := .seq #[u,u'] }:=(sb.2 _ lz).trans t8
  refine ⟨.ref s.heap.objs.size,upd H s.heap.objs.size (.tup [x,y]),?_,rfl,⟨_,x,y,rfl,hp0,rfl,λys hy=>by rw [I.BE hy hq];exact hx,λys hy'=>by rw [I.BE hy' hq'];exact hy⟩,?_,λb hb=>?_⟩
  ·have nt:∀ b o,H b=some o->¬ (b=z\/b=TO\/b=i1\/b=i2):=λb o q hb=>by
    have:=(fr b hb).1
    rw [q] at this
    cases this
   have ok':HOk X.prog X.w (upd H s.heap.objs.size (.tup [x,y])) h'':=λb o q=>by
    by_cases hb:b=s.heap.objs.size
    ·subst hb
     rw [Zy] at q
     cases q
     exact ⟨by show 2<=aA;decide,[u,u'],.cons ru (.cons ru' .nil),_,tp,rfl,0,rfl⟩
    ·rw [Zj hb] at q
     refine (I.hok b o q).stay (λc v hc q'=>kp c v ?_ q') (λc q'=>by rw [Zj (ZC q' hp0)];exact q') λc zs q'=>by rw [Zj (ZC q' hp0)];exact q'
     rcases hc with rfl | hc
     ·exact nt _ _ q
     ·exact nt _ _ hc
   have I3:Inv X pins σ (upd H s.heap.objs.size (.tup [x,y])) { s with heap:=h'',gens:=s.gens,drawn:=s.drawn,toks:=s.toks }:=by
    have out:∀ b,b∉[z,TO,i1,i2]->¬ (b=z\/b=TO\/b=i1\/b=i2):=λb hb q=>hb (by rcases q with rfl | rfl | rfl | rfl <;> simp)
    refine Inv.step (s:=s) I (g':=s.gens) (d':=s.drawn) (ch:=[z,TO,i1,i2]) (λb hb=>?_) (λb o _ _ hc q _=>kp b o (out b hc) q)
     (λb o _ _ hc q _=>⟨o.slots,kp b o (out b hc) q⟩)
     (λb o _ q n=>by rw [Zj (Nat.ne_of_lt (az q))];exact n)
     (λb o hc q=>⟨o,kp b o (out b hc) q⟩)
     (λb zs q=>by rw [Zj (ZC q hp0)];exact q) (λb ob zs q=>by rw [Zj (ZC q hp0)];exact q)
     (λb ps q=>⟨#[],by rw [Zj (ZC q hp0),q];simp⟩) (λm hm=>?_) ok' I.bare
    ·obtain ⟨f0,f1,f2,f3,f4,f5⟩:=fr b (by simpa using hb)
     exact ⟨f3,f1,f4,f5⟩
    ·obtain ⟨o,es,ep,ho,r⟩:=hm
     exact ⟨o,es,ep,kp _ o (λhb=>(fr _ hb).2.1 rfl) ho,r⟩
   exact I3
  ·obtain ⟨w1,w2,⟨a,b,w3⟩,w4,w5,_,_⟩:=Z
   exact ⟨z2,(sb.2 _ D.TIz).trans w2,⟨a,b,(sb.2 _ D.TOz).trans w3⟩,w4.mv λo q=>(sb.2 _ D.i1z).trans q,w5.mv λo q=>(sb.2 _ D.i2z).trans q⟩
  ·have hb0:=(hf b hb).1
   obtain ⟨h1',h2',⟨_,_,h3'⟩,h4',h5'⟩:tnz b1 b2 z TI TO i1 i2 l1 l2 i s.heap:=⟨h1,h2,h3,h4,h5⟩
   obtain ⟨o4,g4,_⟩:=h4'.at
   obtain ⟨o5,g5,_⟩:=h5'.at
   rw [Zj (λe=>?_)]
   ·exact hb0
   simp only [mem_cons,not_mem_nil,or_false] at hb
   rcases hb with rfl | rfl | rfl | rfl | rfl
   ·exact lt h1' e.symm
   ·exact lt h2' e.symm
   ·exact lt h3' e.symm
   ·exact lt g4 e.symm
   ·exact lt g5 e.symm
 done:=by
  intro X hP hw hK hc i pins s σ H E I hf st hg
  subst hP hw hK
  obtain ⟨h1,h2,h3,h4,h5⟩:=st
  obtain ⟨xs,ys,hq,hq',hx⟩:=hg
  obtain ⟨its,rv,p,hz⟩:=I.sq hq
  obtain ⟨its',rv',p',hz'⟩:=I.sq hq'
  have l1:=rv.length
  have l2:=rv'.length
  have fr:∀ b,(b=z\/b=TO\/b=i1\/b=i2)->MN X pins H b:=λb hb=>hf b (by rcases hb with rfl | rfl | rfl | rfl <;> simp)
  refine rJ (I.ok.hd hc) D ⟨h1,h2,h3,h4,h5,p,p'⟩ (by rcases hx with e | e;exact .inl (by simp;omega);exact .inr (by simp;omega)) λh' kp0=>⟨rfl,?_⟩
  have kp:∀ b o,¬ (b=z\/b=TO\/b=i1\/b=i2)->s.heap.get? b=some o->h'.get? b=some o:=λb o n q=>kp0 b o (λe=>n (.inl e)) (λe=>n (.inr (.inl e))) (λe=>n (.inr (.inr (.inl e)))) (λe=>n (.inr (.inr (.inr e)))) q
  have nt:∀ b o,H b=some o->¬ (b=z\/b=TO\/b=i1\/b=i2):=λb o q hb=>by
   have:=(fr b hb).1
   rw [q] at this
   cases this
  have ok':HOk X.prog X.w H h':=λb o q=>by
   refine (I.hok b o q).stay (λc v hc q'=>kp c v ?_ q') (λc q'=>q') λc zs q'=>q'
   rcases hc with rfl | hc
   ·exact nt _ _ q
   ·exact nt _ _ hc
  have out:∀ b,b∉[z,TO,i1,i2]->¬ (b=z\/b=TO\/b=i1\/b=i2):=λb hb q=>hb (by rcases q with rfl | rfl | rfl | rfl <;> simp)
  refine Inv.step (s:=s) I (g':=s.gens) (d':=s.drawn) (ch:=[z,TO,i1,i2]) (λb hb=>?_) (λb o _ _ hc q _=>kp b o (out b hc) q)
   (λb o _ _ hc q _=>⟨o.slots,kp b o (out b hc) q⟩) (λb o _ q n=>n) (λb o hc q=>⟨o,kp b o (out b hc) q⟩) (λb zs q=>q) (λb ob zs q=>q) (λb ps q=>⟨#[],by rw [q];simp⟩) (λm hm=>?_) ok' I.bare
  ·obtain ⟨f0,f1,f2,f3,f4,f5⟩:=fr b (by simpa using hb)
   exact ⟨f3,f1,f4,f5⟩
  ·obtain ⟨o,es,ep,ho,r⟩:=hm
   exact ⟨o,es,ep,kp _ o (λhb=>(fr _ hb).2.1 rfl) ho,r⟩
 self:=λ_ _ _ _ _ st h=>wpAny_pyIter_zip st.1 h
noncomputable def itO (tp:Bool) (l:Addr):Obj:={ cls := .type (if tp=true then "tuple_iterator" else "list_iterator"),data := .fields #[.ref l,.int 0 0] }
section
theorem QW (ob:sOb tp s.heap l xs) (hQ:Q (.ref s.heap.objs.size) { s with heap:=s.heap.push (itO tp l) }):wpAny (model P w) A (pyIter (.ref l)) Q E s:=by
 cases tp with
 | false=>exact wpAny_pyIter_list ob hQ
 | true=>exact wpAny_pyIter_tuple ob hQ
noncomputable def zA (h:Heap) (b1:Bool) (l1:Addr):Heap:=h.push (itO b1 l1)
noncomputable def zB (h:Heap) (b1 b2:Bool) (l1 l2:Addr):Heap:=(zA h b1 l1).push (itO b2 l2)
noncomputable def zC (h:Heap) (b1 b2:Bool) (l1 l2:Addr):Heap:=(zB h b1 b2 l1 l2).push { cls := .type "tuple",data := .seq #[.ref h.objs.size,.ref (zA h b1 l1).objs.size] }
noncomputable def zD (h:Heap) (b1 b2:Bool) (l1 l2:Addr):Heap:=(zC h b1 b2 l1 l2).push { cls := .type "tuple",data := .seq #[.none,.none] }
noncomputable def zE (h:Heap) (b1 b2:Bool) (l1 l2:Addr):Heap:=(zD h b1 b2 l1 l2).push { cls := .type "zip",data := .fields #[.none,.bool false,.bool false,.ref (zB h b1 b2 l1 l2).objs.size,.ref (zC h b1 b2 l1 l2).objs.size] }
theorem nK (b1 b2:Bool) (l1 l2:Addr) (xs ys:Array Value) :
  Meets (Builtin.«zip.__new__» ⟨[.type "zip",.ref l1,.ref l2],[]⟩) (λ_ R s=>sOb b1 s.heap l1 xs/\sOb b2 s.heap l2 ys/\R (.ok (.ret (.ref (zD s.heap b1 b2 l1 l2).objs.size))) { s with heap:=zE s.heap b1 b2 l1 l2 }) :=
 .of_wp λP w A R s h=>by
  obtain ⟨hp,g,d,tk,os⟩:=s
  obtain ⟨o1,o2,h⟩:=h
  have sub:=sub_zip
  have k1:sOb b1 (Shared.heap ⟨hp,g,d,tk,os⟩) l1 xs:=o1
  have k2:sOb b2 (Shared.heap ⟨hp.push (itO b1 l1),g,d,tk,os⟩) l2 ys:=o2.mv λo e=>aq _ e
  wp_walk using QW k1,QW k2
  exact ⟨_,rfl,h⟩
theorem rL (o1:sOb b1 s.heap l1 xs) (o2:sOb b2 s.heap l2 ys)
  (h:∀ h',tnz b1 b2 (s.heap.objs.size + 4) (s.heap.objs.size + 2) (s.heap.objs.size + 3) s.heap.objs.size (s.heap.objs.size + 1) l1 l2 0 h'->(∀ c o,s.heap.get? c=some o->h'.get? c=some o)->Q (.ref (s.heap.objs.size + 4)) { s with heap:=h' }) :
  wpAny (model P w) A (call (.type "zip") [.ref l1,.ref l2]) Q E s:=by
 refine callType_new PySem.F.called_zip (by decide) (PySem.F.typeCall_zip_2 _ _) (PySem.F.newCall_zip_2 _ _) (λobj=>PySem.F.args_object_init_3 obj _ _) PySem.F.entry_zip_new (nK b1 b2 l1 l2 xs ys) ⟨o1,o2,?_⟩
 have n1:(zA s.heap b1 l1).objs.size=s.heap.objs.size + 1:=Heap.size_push ..
 have n2:(zB s.heap b1 b2 l1 l2).objs.size=s.heap.objs.size + 2:=by unfold zB;rw [Heap.size_push,n1]
 have n3:(zC s.heap b1 b2 l1 l2).objs.size=s.heap.objs.size + 3:=by unfold zC;rw [Heap.size_push,n2]
 have n4:(zD s.heap b1 b2 l1 l2).objs.size=s.heap.objs.size + 4:=by unfold zD;rw [Heap.size_push,n3]
 have kE:∀ {c o},(zD s.heap b1 b2 l1 l2).get? c=some o->(zE s.heap b1 b2 l1 l2).get? c=some o:=λe=>aq _ e
 have kD:∀ {c o},(zC s.heap b1 b2 l1 l2).get? c=some o->(zE s.heap b1 b2 l1 l2).get? c=some o:=λe=>kE (aq _ e)
 have kC:∀ {c o},(zB s.heap b1 b2 l1 l2).get? c=some o->(zE s.heap b1 b2 l1 l2).get? c=some o:=λe=>kD (aq _ e)
 have kB:∀ {c o},(zA s.heap b1 l1).get? c=some o->(zE s.heap b1 b2 l1 l2).get? c=some o:=λe=>kC (aq _ e)
 have e5:(zE s.heap b1 b2 l1 l2).get? (zD s.heap b1 b2 l1 l2).objs.size=some _:=au _ rfl
 have e4:(zE s.heap b1 b2 l1 l2).get? (zC s.heap b1 b2 l1 l2).objs.size=some _:=kE (au _ rfl)
 have e3:(zE s.heap b1 b2 l1 l2).get? (zB s.heap b1 b2 l1 l2).objs.size=some _:=kD (au _ rfl)
 have e2:(zE s.heap b1 b2 l1 l2).get? (zA s.heap b1 l1).objs.size=some (itO b2 l2):=kC (au _ (by cases b2 <;> rfl))
 have e1:(zE s.heap b1 b2 l1 l2).get? s.heap.objs.size=some (itO b1 l1):=kB (au _ (by cases b1 <;> rfl))
 rw [n2,n3,n4] at e5
 rw [n1,n2] at e3
 rw [n3] at e4
 rw [n1] at e2
 rw [n4]
 have f1:sIt b1 (zE s.heap b1 b2 l1 l2) s.heap.objs.size l1 0:=by cases b1 <;> exact ⟨_,e1,rfl,rfl⟩
 have f2:sIt b2 (zE s.heap b1 b2 l1 l2) (s.heap.objs.size + 1) l2 0:=by cases b2 <;> exact ⟨_,e2,rfl,rfl⟩
 exact ⟨⟨_,e5,rfl⟩,h _ ⟨e5,e3,⟨_,_,e4⟩,f1,f2⟩ λc o x=>kB (aq _ x)⟩
end
noncomputable def iZip (K:aj) (ta:TA):TI:=λσ H R=>ta σ H λvs H1=>∃ a b b1 b2,vs=[.ref a,.ref b]/\(∃ xs,SqB b1 K H1 a xs)/\(∃ ys,SqB b2 K H1 b ys)/\R (Itz b1 b2 K a b) H1
section
theorem iR (hg:Gl X "zip") (hm:X.mg "zip" = none) (ha:PA X [a,b] ta) (hv:bootBuiltins "zip" = some (.type "zip"):=by decide +kernel)
  (hs:autoParam (starEach [a,b] X.env=(false,eval a X.env)::starEach [b] X.env) auR) (hpl:autoParam ((backTo pos (starEach [b] X.env)).any (·.1)=false) auR):PI X (.Tuple elts x1 tpos) (.Call (.Name "zip" p) [a,b] [] pos) (iZip X.K ta):=by
 intro pins s σ H R I h
 refine Call_ (ML I hg hm hv (PyProof.Rows.callWith_type1 (thn (ha pos pins s σ H _ I h) λus s1 zq=>?_) hs hpl))
 obtain ⟨vs,H1,I1,r1,q1⟩:=zq
 obtain ⟨a1,a2,b1,b2,e,⟨xs,hq⟩,⟨ys,hq'⟩,q⟩:=q1
 subst e
 obtain ⟨u,us',e1,ru,r2⟩:∃ u us',us=u::us'/\RelV (.ref a1) u/\Vals [.ref a2] us':=by cases r1 with | cons a b=>exact ⟨_,_,rfl,a,b⟩
 obtain ⟨u',e2,ru'⟩:=vals1 r2
 subst e1 e2
 cases ru
 cases ru'
 obtain ⟨its,rv,p,hz⟩:=I1.sq hq
 obtain ⟨its',rv',p',hz'⟩:=I1.sq hq'
 refine rL p p' λh' t kp=>wpAny_pyIter_zip t.1 ?_
 have I2:Inv X pins σ H1 { s1 with heap:=h' }:=I1.kept (t':=s1.toks) kp
 have lt:∀ {tp:Bool}{l:Addr}{zs:Array Value},sOb tp s1.heap l zs->l < s1.heap.objs.size:=λ{tp l zs} o=>by
  cases tp <;> exact let ⟨_,ho,_⟩:=o;az ho
 have L1:(a1:Nat) < s1.heap.objs.size:=lt p
 have L2:(a2:Nat) < s1.heap.objs.size:=lt p'
 have D:ZipApart (s1.heap.objs.size + 4) (s1.heap.objs.size + 2) (s1.heap.objs.size + 3) s1.heap.objs.size (s1.heap.objs.size + 1) a1 a2:=by
  exact zipApart_new L1 L2
 refine ⟨_,[s1.heap.objs.size + 4,s1.heap.objs.size + 2,s1.heap.objs.size + 3,s1.heap.objs.size,s1.heap.objs.size + 1],_,_,H1,rfl,I2,rK D,t,λb hb=>?_,q⟩
 have hb:s1.heap.objs.size<=b:=by
  simp only [mem_cons,not_mem_nil,or_false] at hb
  rcases hb with rfl | rfl | rfl | rfl | rfl
  ·exact Nat.le_add_right _ _
  ·exact Nat.le_add_right _ _
  ·exact Nat.le_add_right _ _
  ·exact Nat.le_refl _
  ·exact Nat.le_add_right _ _
 exact I1.CM hb (I1.hok.fresh hb)
noncomputable def D.sq:D->Option (List D)
 | .lst xs=>some xs
 | .scr xs=>some xs
 | .tup xs=>some xs
 | _=>none
noncomputable def NT (xs ys:List D):List D:=(xs.zip ys).map λp => .tup [p.1,p.2]
noncomputable def dZip (da:DA):DI:=λds q x=>da ds (λts=>∃ a b xs ys,ts=[a,b]/\a.sq=some xs/\b.sq=some ys/\q (NT xs ys)) x
theorem rM {K:aj}(r:Rp K H d v) (e:d.sq=some xs):∃ tp a vs,v = .ref a/\SqB tp K H a vs/\Rps K H xs vs:=by
 cases d with
 | lst ys=>cases e;obtain ⟨a,vs,rfl,h1,h2⟩:=r;exact ⟨false,a,vs,rfl,SqL.of h1,h2⟩
 | scr ys=>cases e;obtain ⟨a,vs,rfl,h1,h2⟩:=r;exact ⟨false,a,vs,rfl,h1,h2⟩
 | tup ys=>cases e;obtain ⟨a,vs,rfl,h1,h2⟩:=r;exact ⟨true,a,vs,rfl,SqT.of h1,h2⟩
 | _=>cases e
theorem SqB.same {K:aj}(s:Zz H H') (h:SqB tp K H a xs):SqB tp K H' a xs:=by
 cases tp with
 | false=>exact s.seq h
 | true=>exact SqT.same s h
theorem rN {K:aj}(h:SqB b1 K W0 a vs) (h':SqB b2 K W0 b us) (r:Rps K W0 xs vs) (r':Rps K W0 ys us):Walks K (Itz b1 b2 K a b) (NT xs ys) W0:=by
 intro i H0 H s0 s
 have hs:=h.same (s0.trans s)
 have hs':=h'.same (s0.trans s)
 have hl:(NT xs ys).length=min xs.length ys.length:=by unfold NT;simp
 refine ⟨λhi=>?_,λhi=>⟨vs,us,hs,hs',by rw [r.length,r'.length];rw [hl] at hi;omega⟩⟩
 rw [hl] at hi
 obtain ⟨v,e,rv⟩:=r.get (aC (show i < xs.length by omega))
 obtain ⟨u,e',ru⟩:=r'.get (aC (show i < ys.length by omega))
 refine ⟨⟨vs,us,v,u,hs,hs',e,e'⟩,λx H' y=>?_⟩
 obtain ⟨p,w1,w2,rfl,hp,rfl,y1,y2⟩:=y
 have z1:=y1 vs hs
 have z2:=y2 us hs'
 rw [e] at z1
 rw [e'] at z2
 cases z1
 cases z2
 refine ⟨upd H0 p (.tup [v,u]),.put s hp,.tup [xs[i]'(by omega),ys[i]'(by omega)],?_,Ot (xs:=[xs[i]'(by omega),ys[i]'(by omega)]) ⟨_,_,rfl,rv.same s0,_,_,rfl,ru.same s0,rfl⟩ (s.free hp)⟩
 unfold NT
 rw [getElem?_map,aC (by rw [length_zip];omega),List.getElem_zip]
 rfl
theorem UM {X:Cx}{x1}{tpos:Pos}(hg:Gl X "zip") (hm:X.mg "zip" = none) (ha:JAs X XE [a,b] da)
  (hs:autoParam (starEach [a,b] X.env=(false,eval a X.env)::starEach [b] X.env) auR) (hpl:autoParam ((backTo pos (starEach [b] X.env)).any (·.1)=false) auR):JI X XE (.Tuple elts x1 tpos) (.Call (.Name "zip" p) [a,b] [] pos) (dZip da):=by
 obtain ⟨ta,p,d⟩:=ha.ex
 refine ⟨_,iR hg hm p (by decide +kernel) hs hpl,λc h k kx=>d c h (λvs ts H1 H2 e r h=>?_) kx⟩
 obtain ⟨d1,d2,xs,ys,rfl,e1,e2,hq⟩:=h
 obtain ⟨v,u,rfl,r1,r2⟩:=tJ r
 obtain ⟨b1,a1,vs,rfl,s1,t1⟩:=rM r1 e1
 obtain ⟨b2,a2,us,rfl,s2,t2⟩:=rM r2 e2
 exact ⟨a1,a2,b1,b2,rfl,⟨vs,s1.same e.sub⟩,⟨us,s2.same e.sub⟩,k _ _ _ _ e (rN s1 s2 t1 t2) hq⟩
end
section
end
section
variable {X:Cx}{XE:St->XK}
noncomputable def lG (xs:List α) (k:Nat) (y:α):List α:=xs.take k++y::xs.drop k
theorem Rps.ins {K:aj}(r:Rp K H d v):∀ {xs:List D}{vs:List V}(j:Nat),Rps K H xs vs->Rps K H (lG xs j d) (lG vs j v)
 | _,_,0,h=>⟨v,_,rfl,r,h⟩
 | [],_,_ + 1,h=>by rw [show _=[] from h];exact ⟨v,[],rfl,r,rfl⟩
 | x::xs,_,j + 1,⟨u,us,e,h1,h⟩=>by subst e;exact ⟨u,_,rfl,h1,Rps.ins r j h⟩
noncomputable def dRevL (de:DE):DE:=λds q x=>de ds (λd=>∃ xs,d = .lst xs/\q (.lst xs.reverse)) x
section
variable {prog:Program}{w:World}{A:Around}{E:Value->Shared->Prop}{s:Shared}{l:Addr}{a b:Int}{t u:Tok}{Q:Value->Shared->Prop}
end
end
section
end
section
end
section
end
section
end
section
noncomputable def lH (i:Nat):DS:=λds e=>e.nx (ds.set i (.od []))
theorem nL (hN:X.N.Nodup) (hi:X.N[i]?=some x) (hx:Loc X.env.scope x) (hs:autoParam (swapsWith (.Dict [] [] dpos) (some (.Name x pos')) pos.line X.env=pure false) auR)
  (hf:X.fn x=true\/X.env.scope.names.lookup x=some .local:=by first | exact .inl rfl | exact .inr rfl | assumption):JS X XE (.Assign [.Name x pos'] (.Dict [] [] dpos) pos) (lH i):=by
 refine ⟨_,MM hN hi hx uG hs hf,λ{B0 B H0 H σ ds e T} c h o=>?_⟩
 intro p hp
 have h0:H0 p=none:=c.sub.free hp
 exact o.nx _ _ _ _ (c.newOd i (Ext.grow c.sub (Zz.upd hp)) hp h0 Zy (show Rks X.K H0 [] [] from rfl)) h
noncomputable def lI (pk:List Nat) (i:Nat) (dk de:DE):DS:=λds e=>∃ kvs,ds[i]?=some (.od kvs)/\de (peekAt pk ds) (λd=>(pk=[]\/d.imm=true)/\dk ds (λk=>∃ key,k=kD key/\kvs.length < aA/\e.nx (ds.set i (.od (Sg kvs key d)))) (e.xc ds)) (e.xc ds)
theorem yq {K:aj}:∀ {gs:List (Key × D)}{kvs:List (Key × V)},Rks K H gs kvs->kvs.length=gs.length
 | [],_,h=>by rw [show _=[] from h];rfl
 | (k,d)::gs,_,⟨v,us,e,_,h⟩=>by subst e;rw [length_cons,length_cons,yq h]
theorem rO {K:aj}(r:Rp K H (kD k) v):v=kV k:=by
 cases k with
 | inl i=>exact r
 | inr x=>exact r
theorem nM (pk:List Nat) (i:Nat) (hu:X.A.units + 1 < cLine) (hk:JE X XE k dk) (he:JE X XE e de) (hN:autoParam (X.N[i]?=some x) auR) (hv:Vis X.env.scope x:=by first | exact Or.inl rfl | exact Or.inr (Or.inl rfl) | exact Or.inr (Or.inr rfl))
  (hs:autoParam (swapsWith e (some (.Subscript (.Name x p) k ipos)) pos.line X.env=pure false) auR) (hd:autoParam ((x == ("__debug__" : Str))=false) auD) (hcd:autoParam ((x == ("__classdict__" : Str))=false) auD) :
  JS X XE (.Assign [.Subscript (.Name x p) k ipos] e pos) (lI pk i dk de):=by
 obtain ⟨tk,p2,d2⟩:=hk.ex
 obtain ⟨te,p1,d1⟩:=he.ex
 refine ⟨_,pP hu (pv i hN hv hd hcd) p2 p1 hs,λ{B0 B H0 H σ ds e T} c h o=>?_⟩
 obtain ⟨kvs,hi,h⟩:=h
 obtain ⟨l,us,e1,f1,f2,f3⟩:=c.slot i _ hi
 have fin:∀ {H1 H2:Hp}{a:D}{v:V},Ext H0 H H1 H2->Rp X.K H1 a v->dk ds (λk=>∃ key,k=kD key/\kvs.length < aA/\e.nx (ds.set i (.od (Sg kvs key a)))) (e.xc ds) ->
   ∃ x,σ[i]?=some (some x)/\tk σ H2 λy H3=>∃ b H4,x = .ref b/\Ex H3 b y v H4/\T.nx σ H4:=by
  intro H1 H2 a v e' r h
  refine ⟨.ref l,WB e1,d2 (c.go e') h (λkv kd H3 H4 e2 rk ⟨key,z,hz,hq⟩=>?_) ((o.kx c).go e'.s)⟩
  subst z
  have e3:=e'.trans e2
  rw [rO rk]
  have hl:=yq f3
  refine ⟨l,_,rfl,Ex.k (e3.s _ _ f2) (by omega),?_⟩
  obtain ⟨a',us',g1,g2,g3,g4⟩:=c.pushD (ys:=Sg kvs key a) hi
  rw [e1] at g1
  cases g1
  exact o.nx _ _ _ _ (g4 H3 H4 _ e3 (yp (f3.same e3.s0) (r.same e2.s0))) hq
 by_cases hpk:pk=[]
 ·subst hpk
  exact d1 c h (λv a H1 H2 e' r h=>fin e' r h.2) (o.kx c)
 ·obtain ⟨H1,c1,s1,l1,n1⟩:=c.peekAt pk
  refine d1 c1 h (λv a H2 H3 e' r h=>?_) (o.kx c)
  obtain ⟨H4,e4,l4,_⟩:=e'.GZ s1 c.sub l1 n1
  exact fin e4 (Rp.less l4 a (h.1.resolve_left hpk) r) h.2
noncomputable def UH (kvs:List (Key × D)) (k:Key):Option D:=(kvs.find? λkv=>decide (kv.1=k)).map (·.2)
theorem Fu {K:aj}(k:Key):∀ {gs:List (Key × D)}{kvs:List (Key × V)},Rks K H gs kvs->UH gs k=some d->∃ v,Ol kvs k=some v/\Rp K H d v
 | [],_,_,e=>by cases e
 | (j,g)::gs,_,⟨v,us,ee,h1,h2⟩,e=>by
  subst ee
  by_cases hj:j=k
  ·have:UH ((j,g)::gs) k=some g:=by unfold UH;rw [List.find?_cons_of_pos (by simpa using hj)];rfl
   rw [this] at e
   cases e
   exact ⟨v,NF hj,h1⟩
  ·have:UH ((j,g)::gs) k=UH gs k:=by unfold UH;rw [find?_cons_of_neg (by simpa using hj)]
   rw [this] at e
   obtain ⟨u,q1,q2⟩:=Fu k h2 e
   exact ⟨u,by rw [Qa hj];exact q1,q2⟩
noncomputable def lJ (dO dk:DE):DE:=λds q x=>dO ds (λd=>dk ds (λk=>∃ kvs key v,d = .dic kvs/\k=kD key/\UH kvs key=some v/\q v) x) x
theorem nN {X:Cx}(hu:X.A.units + 1 < cLine) (ho:JE X XE o dO) (hk:JE X XE k dk) (hs:NoSl k:=by intro _ _;rfl):JE X XE (.Subscript o k pos) (lJ dO dk):=by
 obtain ⟨t1,p1,d1⟩:=ho.ex
 obtain ⟨t2,p2,d2⟩:=hk.ex
 refine ⟨_,pO hu p1 p2 hs,λc h kk kx=>d1 c h (λv d H1 H2 e r h=>d2 (c.go e) h (λu kd H3 H4 e' r' h'=>?_) (kx.go e.s)) kx⟩
 obtain ⟨kvs,key,w,rfl,rfl,hw,hq⟩:=h'
 obtain ⟨a,vs,rfl,g1,g2⟩:=r
 rw [rO r']
 obtain ⟨y,q1,q2⟩:=Fu key g2 hw
 have e3:=e.trans e'
 exact ⟨a,y,rfl,by rw [<-q1];exact JQ.k (e'.s _ _ (e.sub _ _ g1)),kk _ w _ _ e3 (q2.same e'.s0) hq⟩
end
section
end
noncomputable def rP (K:aj) (H0 H:Hp) (μ:Mu):Prop:=∀ b m,μ.lookup b=some m->H0 b=none/\∃ u,H b=some u/\xj K H0 m u
structure Lv (K:aj) (μ μ':Mu) (H0 H H0' H':Hp):Prop where
 s:∀ b o,μ.lookup b=none->H b=some o->H' b=some o
 s0:Zz H0 H0'
 sub:Zz H0' H'
 new:∀ b,μ.lookup b=none->H0 b=none->H b≠none->H0' b=none
 ok:rP K H0' H' μ'
 old:∀ b m,μ'.lookup b=some m->μ.lookup b≠none\/H b=none
abbrev BF:=List D->Mu->(D->Mu->Prop)->Prop
noncomputable def spS (K:aj) (p:Nat) (g:BF):Sp:=λvs H Q _=>∃ H0 xs a μ q,Zz H0 H/\Rps K H0 xs vs/\xs[p]?=some (.rf a)/\rP K H0 H μ/\g xs μ q /\
 ∀ v d μ' H0' H',Lv K μ μ' H0 H H0' H'->Rp K H0' d v->q d μ'->Q v H'
abbrev xK:=List D->(List D->Prop)->(Addr->Prop)->Prop
noncomputable def spF (K:aj) (g:xK):Sp:=λvs H Q E=>∃ H0 xs q x,Zz H0 H/\Rps K H0 xs vs/\g xs q x /\
 (∀ a us ys H0' H',Ext H0 H H0' H'->H a=none->H0' a=none->H' a=some (.lst us)->Rps K H0' ys us->q ys->Q (.ref a) H')/\∀ C H',Zz H H'->x C->E (.ref C) none H'
section
theorem Cfg.goS {K:aj}{H':Hp}{σ:St}{ds:DSt}(c:Cfg K B0 B H0 H σ ds) {j:Nat}{a a':Addr}{μ μ':Mu}(q:ds[j]?=some (.st a μ)) (l:Lv K μ μ' H0 H H0' H'):Cfg K B0 B H0' H' σ (ds.set j (.st a μ')):=by
 have hj:j < ds.length:=(List.getElem?_eq_some_iff.mp q).1
 have sj:=c.slot j _ q
 have out:∀ (i:Nat) t b,i≠j->ds[i]?=some t->t.foot ((σ[i]?).getD none) b->μ.lookup b=none:=λi t b ne r f=>by
  cases z:μ.lookup b with
  | none=>rfl
  | some m=>exact (c.sep i j t _ b ne r q f ⟨m,z⟩).elim
 refine ⟨⟨λb o z=>?_,c.ext.s0.trans l.s0,l.sub,λb z n=>?_⟩,λi t r=>?_,λi t b r f=>?_,λi k t u b ne r y f g=>?_,by rw [length_set];exact c.len⟩
 ·refine l.s b o ?_ (c.ext.s _ _ z)
  cases w:μ.lookup b with
  | none=>rfl
  | some m=>have:=c.young j _ b q ⟨m,w⟩;rw [z] at this;cases this
 ·refine l.new b ?_ (c.ext.new b z n) (λw=>n (c.ext.s.free w))
  cases w:μ.lookup b with
  | none=>rfl
  | some m=>exact absurd (c.young j _ b q ⟨m,w⟩) n
 ·rw [Wi hj] at r
  split at r
  ·rename_i e
   cases r
   rw [e]
   exact ⟨sj.1,l.ok⟩
  ·rename_i ne
   have old:=c.slot i t r
   cases t with
   | un=>trivial
   | v d=>obtain ⟨v,z1,z2⟩:=old;exact ⟨v,z1,z2.same l.s0⟩
   | own ys =>
    obtain ⟨b,us,f1,f2,f3,f4⟩:=old
    exact ⟨b,us,f1,l.new b (out i _ b ne r f1) f2 (by rw [f3];simp),l.s _ _ (out i _ b ne r f1) f3,f4.same l.s0⟩
   | ob b dx C gs =>
    obtain ⟨us,f1,f2,f3,f4⟩:=old
    exact ⟨us,f1,l.new b (out i _ b ne r f1) f2 (by rw [f3];simp),l.s _ _ (out i _ b ne r f1) f3,f4.same l.s0⟩
   | od gs =>
    obtain ⟨b,us,f1,f2,f3,f4⟩:=old
    exact ⟨b,us,f1,l.new b (out i _ b ne r f1) f2 (by rw [f3];simp),l.s _ _ (out i _ b ne r f1) f3,f4.same l.s0⟩
   | st b ν =>
    refine ⟨old.1,λb' m w=>?_⟩
    obtain ⟨g1,u,g2,g3⟩:=old.2 b' m w
    exact ⟨l.new b' (out i _ b' ne r ⟨m,w⟩) g1 (by rw [g2];simp),u,l.s _ _ (out i _ b' ne r ⟨m,w⟩) g2,g3.same l.s0⟩
 ·rw [Wi hj] at r
  split at r
  ·cases r
   obtain ⟨m,w⟩:=f
   rcases l.old b m w with z | z
   ·cases y:μ.lookup b with
    | none=>exact absurd y z
    | some n=>exact c.young j _ b q ⟨n,y⟩
   ·exact c.ext.s.free z
  ·exact c.young i t b r f
 ·have key:∀ (i:Nat) t,i≠j->ds[i]?=some t->t.foot ((σ[i]?).getD none) b->∀ m,μ'.lookup b=some m->False:=λi t ne r f m w=>by
   rcases l.old b m w with z | z
   ·exact z (out i t b ne r f)
   ·exact (c.Oq r f).2 z
  rw [Wi hj] at r y
  split at r
  ·rename_i ej
   cases r
   rw [if_neg (λz=>ne (ej.trans z.symm))] at y
   obtain ⟨m,w⟩:=f
   exact key k u (λz=>ne (ej.trans z.symm)) y g m w
  ·rename_i ni
   split at y
   ·cases y
    obtain ⟨m,w⟩:=g
    exact key i t ni r f m w
   ·exact c.sep i k t u b ne r y f g
end
section
noncomputable def dRef (i:Nat):DE:=λds q _=>sS ds[i]? λa _=>q (.rf a)
theorem jvS (i:Nat) (hN:autoParam (X.N[i]?=some x) auR) (hv:Vis X.env.scope x:=by first | exact Or.inl rfl | exact Or.inr (Or.inl rfl) | exact Or.inr (Or.inr rfl)) (hd:autoParam ((x == ("__debug__" : Str))=false) auD)
  (hcd:autoParam ((x == ("__classdict__" : Str))=false) auD):JE X XE (.Name x pos) (dRef i) :=
 ⟨_,pv i hN hv hd hcd,λc h k _=>by
  obtain ⟨a,μ,e,h⟩:=tj h
  have s:=c.slot i _ e
  exact ⟨.ref a,WB s.1,k (.ref a) (.rf a) _ _ (.refl c.sub) rfl h⟩⟩
noncomputable def dIxS (i:Nat) (de dk:DE):DE:=λds q x=>sS ds[i]? λa μ=>de ds (λo=>dk ds (λk=>∃ b xs n d,o = .rf b/\k = .int n/\μ.lookup b=some (.lst xs)/\atI xs n=some d/\q d) x) x
theorem Ug (i:Nat) (ha:JE X XE a da) (hb:JE X XE b db) (hs:GH b:=by exact λ_ _=>rfl):JE X XE (.Subscript a b pos) (dIxS i da db):=by
 obtain ⟨ta,p1,d1⟩:=ha.ex
 obtain ⟨tb,p2,d2⟩:=hb.ex
 refine ⟨_,mM uw p1 p2 hs,λc h k kx=>?_⟩
 obtain ⟨r,μ,hi,h⟩:=tj h
 refine d1 c h (λv o H1 H2 e r1 h=>d2 (c.go e) h (λu n H3 H4 e' r2 h'=>?_) (kx.go e.s)) kx
 obtain ⟨b,xs,n,d,rfl,rfl,hl,hx,hq⟩:=h'
 have e2:=e.trans e'
 obtain ⟨h0,u',h1,vs,rfl,h2⟩:=((c.go e2).slot i _ hi).2 b _ hl
 obtain ⟨v',e3,r3⟩:=Fh h2 hx
 exact .inl ⟨b,vs,n,v',r1,r2,SqL.of h1,e3,k _ d _ _ e2 r3 hq⟩
noncomputable def dLenS (i:Nat) (da:DA):DE:=λds q x=>sS ds[i]? λa μ=>da ds (λos=>∃ b xs,os=[.rf b]/\μ.lookup b=some (.lst xs)/\q (.int xs.length)) x
noncomputable def Mu.put (μ:Mu) (b:Addr) (m:MO):Mu:=μ.map λx=>if x.1=b then (x.1,m) else x
theorem Mu.Iz {μ:Mu}(h:μ.lookup b=some n) (c:Addr):(μ.put b m).lookup c=if c=b then some m else μ.lookup c:=by
 induction μ with
 | nil=>cases h
 | cons x μ ih =>
  obtain ⟨a,o⟩:=x
  unfold Mu.put at ih ⊢
  rw [map_cons]
  by_cases ab:a=b
  ·subst ab
   rw [if_pos rfl,lookup_cons,lookup_cons]
   by_cases ca:c=a
   ·subst ca;simp
   ·have:(c == a)=false:=by simpa using ca
    rw [this,if_neg ca]
    dsimp only
    have:∀ ν:Mu,(ν.map λx=>if x.1=a then (x.1,m) else x).lookup c=ν.lookup c:=by
     intro ν
     induction ν with
     | nil=>rfl
     | cons y ν ih2 =>
      rw [map_cons]
      by_cases ya:y.1=a
      ·rw [if_pos ya,lookup_cons,lookup_cons,ih2]
       have:(c == y.1)=false:=by rw [ya];simpa using ca
       rw [this]
      ·rw [if_neg ya,lookup_cons,lookup_cons,ih2]
    exact this μ
  ·rw [if_neg ab,lookup_cons,lookup_cons]
   have hb:(b == a)=false:=by simpa using Ne.symm ab
   rw [lookup_cons,hb] at h
   by_cases ca:c=a
   ·subst ca
    simp [ab]
   ·have:(c == a)=false:=by simpa using ca
    rw [this]
    exact ih h
theorem Cfg.putS {K:aj}(c:Cfg K B0 B H0 H σ ds) {μ:Mu}{m n:MO}{o:HO}(q:ds[i]?=some (.st a μ)) (l:μ.lookup b=some n) (h:xj K H0 m o):Cfg K B0 B H0 (upd H b o) σ (ds.set i (.st a (μ.put b m))):=by
 have old:=c.slot i _ q
 refine c.write q ⟨n,l⟩ (λb' ⟨m',f⟩=>?_) ⟨old.1,λb' m' f=>?_⟩
 ·rw [Mu.Iz l] at f
  split at f
  ·rename_i e;exact ⟨n,e ▸ l⟩
  ·exact ⟨m',f⟩
 ·rw [Mu.Iz l] at f
  split at f
  ·rename_i e
   cases f
   rw [e]
   exact ⟨(old.2 b n l).1,o,Zy,h⟩
  ·rename_i ne
   obtain ⟨h1,u,h2,h3⟩:=old.2 b' m' f
   exact ⟨h1,u,by rw [Zj ne];exact h2,h3⟩
noncomputable def lK (pk:List Nat) (i:Nat) (dO dk de:DE):DS:=λds e=>sS ds[i]? λa μ=>de (peekAt pk ds) (λd=>pkO pk d (dO ds (λo=>dk ds (λk=>∃ b xs n j,o = .rf b/\k = .int n/\μ.lookup b=some (.lst xs)/\ixN xs.length n=some j/\e.nx (ds.set i (.st a (μ.put b (.lst (xs.set j d)))))) (e.xc ds)) (e.xc ds))) (e.xc ds)
theorem Jw {X:Cx}(pk:List Nat) (i:Nat) (ht:JE X XE t dO) (hk:JE X XE k dk) (he:JE X XE e de)
  (ha:∀ v,assign (.Subscript t k ipos) X.env v=(do
   let ov <- holding [v] (eval t X.env)
   let iv <- holding [v,ov] (eval k X.env)
   standAt ipos
   holding [v,ov,iv] (setItem ov iv v)
   release [v,ov,iv] []):=by intro _;rfl)
  (hs:autoParam (swapsWithSole [.Subscript t k ipos] e pos.line X.env=pure false) auR) (hw:autoParam (swappedStores [.Subscript t k ipos] e X.env=pure none) auR)
  (h1:autoParam ((assignEach [.Subscript t k ipos] X.env).map (·.2)=[assign (.Subscript t k ipos) X.env]) auR) :
  JS X XE (.Assign [.Subscript t k ipos] e pos) (lK pk i dO dk de):=by
 obtain ⟨tk,p2,d2⟩:=hk.ex
 obtain ⟨te,p1,d1⟩:=he.ex
 obtain ⟨to,p3,d3⟩:=ht.ex
 refine ⟨_,GC p1 (vY p3 p2 set_list ha) hs hw h1,λ{B0 B H0 H σ ds e T} c h o=>?_⟩
 obtain ⟨r,μ,hi,h⟩:=tj h
 have fin:∀ {H1 H2:Hp}{a:D}{v:V},Ext H0 H H1 H2->Rp X.K H1 a v->dO ds (λo=>dk ds (λk=>∃ b xs n j,o = .rf b/\k = .int n/\μ.lookup b=some (.lst xs)/\ixN xs.length n=some j/\e.nx (ds.set i (.st r (μ.put b (.lst (xs.set j a)))))) (e.xc ds)) (e.xc ds)->gSub to tk ux v σ H2 T.nx:=by
  intro H1 H2 a v e' ra h
  refine d3 (c.go e') h (λov od H3 H4 e2 ro h=>d2 (c.go (e'.trans e2)) h (λkv kd H5 H6 e3 rk h=>?_) ((o.kx c).go (e'.trans e2).s)) ((o.kx c).go e'.s)
  obtain ⟨b,xs,n,j,rfl,rfl,hl,ij,hq⟩:=h
  have e4:=(e'.trans e2).trans e3
  have c4:=c.go e4
  obtain ⟨h0,u',h1,vs,rfl,h2⟩:=(c4.slot i _ hi).2 b _ hl
  refine ⟨b,vs,n,j,ro,rk,h1,by rw [h2.length];exact ij,?_⟩
  exact o.nx _ _ _ _ (c4.putS hi hl (m := .lst (xs.set j a)) ⟨_,rfl,Rps.set (ra.same (e2.trans e3).s0) j h2⟩) hq
 by_cases hpk:pk=[]
 ·subst hpk
  exact d1 c h (λv a H1 H2 e' r h=>fin e' r (Qb h).2) (o.kx c)
 ·obtain ⟨H1,c1,s1,l1,n1⟩:=c.peekAt pk
  refine d1 c1 h (λv a H2 H3 e' r h=>?_) (o.kx c)
  obtain ⟨H4,e4,l4,_⟩:=e'.GZ s1 c.sub l1 n1
  exact fin e4 (Rp.less l4 a ((Qb h).1.resolve_left hpk) r) (Qb h).2
noncomputable def lL (pk:List Nat) (i:Nat) (df:DA):DS:=λds e=>df (peekAt pk ds) (λxs=>D.GX xs=true/\∀ a,e.nx (ds.set i (.st a [(a,.lst xs)]))) (e.xc ds)
theorem Cfg.newS {K:aj}(c:Cfg K B0 B H0 H σ ds) (i:Nat) {xs:List D}(e:Ext H0 H H0' H') (n:H a=none) (n0:H0' a=none) (h:H' a=some (.lst vs)) (r:Rps K H0' xs vs):Cfg K B0 B H0' H' (σ.set i (some (.ref a))) (ds.set i (.st a [(a,.lst xs)])):=by
 have one:∀ b m,([(a,MO.lst xs)]:Mu).lookup b=some m->b=a/\m = .lst xs:=λb m l=>by
  rw [lookup_cons] at l
  by_cases e:b=a
  ·subst e;simp at l;exact ⟨rfl,l.symm⟩
  ·have:(b == a)=false:=by simpa using e
   rw [this] at l;cases l
 refine (c.go e).lay i (s := .st a [(a,.lst xs)]) ⟨rfl,λb m l=>?_⟩ (λb ⟨m,l⟩=>?_) λb j t _ q ⟨m,l⟩ g=>?_
 ·obtain ⟨rfl,rfl⟩:=one b m l
  exact ⟨n0,_,h,vs,rfl,r⟩
 ·obtain ⟨rfl,rfl⟩:=one b m l
  exact c.ext.s.free n
 ·obtain ⟨rfl,rfl⟩:=one b m l
  exact (c.Oq q g).2 n
theorem yr {X:Cx}(pk:List Nat) {pos pos':Pos}(hN:X.N.Nodup) (hi:X.N[i]?=some x) (hx:Loc X.env.scope x) (he:JF X XE e df) (hs:autoParam (swapsWith e (some (.Name x pos')) pos.line X.env=pure false) auR)
  (hf:X.fn x=true\/X.env.scope.names.lookup x=some .local:=by first | exact .inl rfl | exact .inr rfl | assumption):JS X XE (.Assign [.Name x pos'] e pos) (lL pk i df):=by
 obtain ⟨te,p,d⟩:=he.ex
 refine ⟨_,MM hN hi hx p hs hf,λ{B0 B H0 H σ ds e T} c h o=>?_⟩
 obtain ⟨H1,c1,s1,l1,n1⟩:=c.peekAt pk
 refine d c1 h (λa vs xs H2 H3 e' n n0 ha r hq=>?_) (o.kx c)
 obtain ⟨H4,e4,l4,s4⟩:=e'.GZ s1 c.sub l1 n1
 exact o.nx _ _ _ _ (c.newS i e4 n (s4.free n0) ha (Rps.less l4 xs hq.1 r)) (hq.2 a)
noncomputable def lM (pk:List Nat) (de:DE):DS:=λds e=>de (peekAt pk ds) (λd=>e.rb d (peekAt pk ds)) (e.xc ds)
theorem yt (pk:List Nat) (he:JE X XE e de):JS X XE (.Return (some e) pos) (lM pk de):=by
 obtain ⟨te,p,d⟩:=he.ex
 refine ⟨_,JH p,λ{B0 B H0 H σ ds e T} c h o=>?_⟩
 obtain ⟨H1,c1,s1,l1,n1⟩:=c.peekAt pk
 exact d c1 h (λv a H2 H3 e' r h=>o.rb v a H2 H3 _ _ (c1.go e') r h) (o.kx c)
noncomputable def lN (i:Nat):DS:=λds e=>sO ds[i]? λys=>e.ro ys (ds.set i .un)
theorem Cfg.drop {K:aj}(c:Cfg K B0 B H0 H σ ds) (i:Nat):Cfg K B0 B H0 H σ (ds.set i .un):=by
 by_cases hi:i < ds.length
 case neg=>rw [Js hi];exact c
 have e:σ.set i ((σ[i]?).getD none)=σ:=by
  have hi':i < σ.length:=by rw [c.len];exact hi
  rw [aC hi']
  exact List.set_getElem_self hi'
 have:=c.setN i (s := .un) (o:=(σ[i]?).getD none) rfl trivial
 rw [e] at this
 exact this
theorem nP (i:Nat) (hN:autoParam (X.N[i]?=some x) auR) (hv:Vis X.env.scope x:=by first | exact Or.inl rfl | exact Or.inr (Or.inl rfl) | exact Or.inr (Or.inr rfl)) (hd:autoParam ((x == ("__debug__" : Str))=false) auD)
  (hcd:autoParam ((x == ("__classdict__" : Str))=false) auD):JS X XE (.Return (some (.Name x p)) pos) (lN i):=by
 refine ⟨_,JH (pv i hN hv hd hcd),λ{B0 B H0 H σ ds e T} c h o=>?_⟩
 obtain ⟨ys,hi,h⟩:=zS h
 obtain ⟨a,vs,e1,h0,h1,h2⟩:=c.slot i _ hi
 refine ⟨.ref a,WB e1,?_⟩
 refine o.ro a vs ys H0 H σ _ (c.drop i) (c.young i _ a hi e1) h0 h1 h2 (λj s q f=>?_) h
 have hl:i < ds.length:=(List.getElem?_eq_some_iff.mp hi).1
 rw [Wi hl] at q
 split at q
 ·cases q;exact f.elim
 ·rename_i ne
  exact c.sep j i s _ a ne q hi f e1
noncomputable def lO (pk:List Nat) (df:DA):DS:=λds e=>df (peekAt pk ds) (λys=>e.ro ys (peekAt pk ds)) (e.xc ds)
theorem nQ (pk:List Nat) (he:JF X XE e df):JS X XE (.Return (some e) pos) (lO pk df):=by
 obtain ⟨te,p,d⟩:=he.ex
 refine ⟨_,JH p,λ{B0 B H0 H σ ds e T} c h o=>?_⟩
 obtain ⟨H1,c1,s1,l1,n1⟩:=c.peekAt pk
 refine d c1 h (λa vs ys H2 H3 e' n n0 ha r hq=>o.ro a vs ys H2 H3 _ _ (c1.go e') (c.ext.s.free n) n0 ha r (λj s q f=>(c1.Oq q f).2 n) hq) (o.kx c)
end
end L2
namespace HT
open PySem PySem.Spec PyProof.Rows L2
section
theorem BH (n:Nat):Builtin.Slice.sliceAdjust none none (-1) (n:Int)=((n:Int) - 1,-1):=by
 unfold Builtin.Slice.sliceAdjust
 simp
theorem BI (n:Nat):Builtin.Slice.slicePlaces ((n:Int) - 1) (-1) (-1)=n:=by
 unfold Builtin.Slice.slicePlaces
 have h1:¬ ((-1:Int) > 0):=by decide
 simp only [h1,if_false]
 have e:((n:Int) - 1 - -1 - 1) / (- -1)=(n:Int) - 1:=by
  rw [show (- -1:Int)=1 by decide,Int.ediv_one]
  omega
 rw [e]
 split <;> omega
theorem MY {vk:Value}{n:Nat}{Q:Int × Int × Nat->Shared->Prop}(hs:s.heap.IsSliceOf sl .none .none vk) (pk:IsPart vk (some (-1)))
  (h:Q ((n:Int) - 1,-1,n) s):wpAny (model prog w) A (Builtin.Slice.sliceApplied (.ref sl) (pure (n:Int))) Q E s:=by
 obtain ⟨os,hos,hcs,hds⟩:=id hs
 unfold Builtin.Slice.sliceApplied Builtin.Slice.sliceFields
 refine ak (ak (wpAny_field hos hds (x := .none) rfl (ak (wpAny_field hos hds (x := .none) rfl (ak (wpAny_field hos hds (x:=vk) rfl (ao ?_)))))))
 refine ak (Oj pk ?_)
 show wpAny _ _ (if ((-1:Int) == 0)=true then _ else _) _ _ s
 rw [if_neg (by decide)]
 refine ak (slicePart_none (ak (slicePart_none (ak (ao ?_)))))
 show wpAny _ _ (match Builtin.Slice.sliceAdjust none none (-1) (n:Int) with | (lo,hi)=>pure (lo,(-1:Int),Builtin.Slice.slicePlaces lo hi (-1))) _ _ s
 rw [BH n]
 show wpAny _ _ (pure ((n:Int) - 1,(-1:Int),Builtin.Slice.slicePlaces ((n:Int) - 1) (-1) (-1))) _ _ s
 rw [BI]
 exact ao h
theorem rQ (xs:Array Value):((List.range xs.size).filterMap λ(m:Nat)=>xs[((xs.size:Int) - 1 + (m:Int) * -1).toNat]?).toArray=xs.toList.reverse.toArray:=by
 have e:(List.range xs.size).filterMap (λ(m:Nat)=>xs[((xs.size:Int) - 1 + (m:Int) * -1).toNat]?)=((List.range xs.size).map (λk=>xs.size - 1 - k)).filterMap (xs[·]?):=by
  rw [List.filterMap_map]
  have key:∀ l:List Nat,(∀ m∈l,m < xs.size)->l.filterMap (λ(m:Nat)=>xs[((xs.size:Int) - 1 + (m:Int) * -1).toNat]?)=l.filterMap ((xs[·]?) ∘ λk=>xs.size - 1 - k):=by
   intro l
   induction l with
   | nil=>intro _;rfl
   | cons m l ih =>
    intro h
    have hm:=h m (mem_cons_self ..)
    have e:((xs.size:Int) - 1 + (m:Int) * -1).toNat=xs.size - 1 - m:=by omega
    rw [filterMap_cons,filterMap_cons,ih λk hk=>h k (mem_cons_of_mem _ hk),e]
    rfl
  exact key _ λm hm=>mem_range.mp hm
 rw [e,PySem.W.krv_range,List.filterMap_reverse,PySem.W.krv_all]
theorem NU (ht:IsTup s.heap t items) (hs:s.heap.IsSliceOf sl .none .none vk) (pk:IsPart vk (some (-1)))
  (h:Q (.ref s.heap.objs.size) { s with heap:=s.heap.push { cls := .type "tuple",data := .seq items.toList.reverse.toArray } })
  (hsz:items.size<=aA):wpAny (model prog w) A (getItem (.ref t) (.ref sl)) Q E s:=by
 have htake:sizeOk (.seq items.toList.reverse.toArray):=by
  show items.toList.reverse.toArray.size<=aA
  rw [size_toArray,List.length_reverse,Array.length_toList]
  omega
 obtain ⟨os,hos,hcs,hds⟩:=id hs
 have hTs:s.TypeIs (.ref sl) "slice" := ⟨os,hos,hcs⟩
 unfold getItem
 try with_reducible refine wpAny_holding ?_
 first | refine ak (ao ?_) | skip
 refine ak (wpAny_sequenceKey ht.typeIs (by decide) ?_)
 refine ak (wpAny_callSpecial?_slot (name:=Str.ofString "__getitem__") ht.typeIs PyProof.Rows.slot_tuple_getitem
  (wpAny_call_entry PyProof.Rows.slot_tuple_getitem ht.typeIs entry_tuple_getitem ?_ (args_tuple_getitem _ _)))
 show wpAny _ _ (Builtin.Tuple.tupleItemsOf (.ref t) >>= _) _ _ s
 refine ak (tupleItemsOf_ ht ?_)
 refine ak (wpAny_typeOf hTs ?_)
 rw [if_pos (by decide)]
 refine ak (MY hs pk ?_)
 have hno:¬ (((items.size:Int) - 1 == 0 && (-1:Int) == 1 && items.size == items.size)=true):=by
  intro q
  rw [aF,aF] at q
  exact absurd q.1.2 (by decide)
 show wpAny _ _ (if ((items.size:Int) - 1 == 0 && (-1:Int) == 1 && items.size == items.size)=true then _ else _) _ _ s
 rw [if_neg hno,rQ]
 first
  | exact ak (m:=Builtin.Tuple.tupleExact _) (wpAny_newObj_type (ao ⟨_,rfl,ao h⟩) htake)
  | exact ak (m:=Builtin.Tuple.tupleExact _) (wpAny_newObj_type (ak (ao (ao ⟨_,rfl,ao h⟩))) htake)
  | exact ak (ak (m:=Builtin.Tuple.tupleExact _) (wpAny_newObj_type (ao (ao ⟨_,rfl,ao h⟩)) htake))
  | exact ak (ak (m:=Builtin.Tuple.tupleExact _) (wpAny_newObj_type (ao ⟨_,rfl,ao h⟩) htake))
theorem PZ {items:Array Value}{vl vu:Value}{lo hi:Option Int}{Q:Value->Shared->Prop}(ht:IsTup s.heap t items) (hs:s.heap.IsSliceOf sl vl vu .none) (pl:IsPart vl lo) (pu:IsPart vu hi)
  (hw:sIx items.size 0 lo=0/\sIx items.size items.size hi=items.size)
  (h:Q (.ref t) s):wpAny (model prog w) A (getItem (.ref t) (.ref sl)) Q E s:=by
 obtain ⟨os,hos,hcs,hds⟩:=id hs
 have hTs:s.TypeIs (.ref sl) "slice" := ⟨os,hos,hcs⟩
 unfold getItem
 try with_reducible refine wpAny_holding ?_
 first | refine ak (ao ?_) | skip
 refine ak (wpAny_sequenceKey ht.typeIs (by decide) ?_)
 refine ak (wpAny_callSpecial?_slot (name:=Str.ofString "__getitem__") ht.typeIs PyProof.Rows.slot_tuple_getitem
  (wpAny_call_entry PyProof.Rows.slot_tuple_getitem ht.typeIs entry_tuple_getitem ?_ (args_tuple_getitem _ _)))
 show wpAny _ _ (Builtin.Tuple.tupleItemsOf (.ref t) >>= _) _ _ s
 refine ak (tupleItemsOf_ ht ?_)
 refine ak (wpAny_typeOf hTs ?_)
 rw [if_pos (by decide)]
 refine ak (TX hs pl pu ?_)
 have hyes:(((sIx items.size 0 lo:Nat):Int) == 0 && (1:Int) == 1 && (sIx items.size items.size hi - sIx items.size 0 lo) == items.size)=true:=by
  rw [hw.1,hw.2]
  simp
 show wpAny _ _ (if (((sIx items.size 0 lo:Nat):Int) == 0 && (1:Int) == 1 && (sIx items.size items.size hi - sIx items.size 0 lo) == items.size)=true then _ else _) _ _ s
 rw [if_pos hyes]
 unfold Builtin.Tuple.tupleIsExact
 refine ak (ak (wpAny_typeOf ht.typeIs (ao ?_)))
 show wpAny _ _ (if ((Value.type "tuple" == Value.type "tuple")=true) then _ else _) _ _ s
 rw [if_pos (by decide)]
 exact ak (wpAny_rule (ao ⟨_,rfl,ao h⟩))
end
end HT
namespace L2
open PySem PySem.Spec PyProof.Rows
section
noncomputable def rSlW (K:aj):V->Option Int->Option Int->Hp->VK->Prop:=λx lo hi H Q=>∃ a xs,x = .ref a/\SqT K H a xs /\
 (HT.sIx xs.length 0 lo=0/\HT.sIx xs.length xs.length hi=xs.length)/\Q (.ref a) H
theorem nR:SlR X (rSlW X.K):=by
 intro pins s σ H x v vl vu lo hi sl Q I rx hs pl pu h
 obtain ⟨a,xs,rfl,hx,hw,q⟩:=h
 cases rx
 obtain ⟨its,r,ht,hz⟩:=I.tuple hx
 have hlen:its.toArray.size=xs.length:=by rw [size_toArray];exact r.length.symm
 refine ⟨"tuple",_,PyProof.Rows.slot_tuple_getitem.lookup,ht.typeIs,?_⟩
 refine HT.PZ ht hs pl pu (by rw [hlen];exact hw) ?_
 exact ⟨.ref a,H,I,rfl,q⟩
noncomputable def yu (de:DE) (dl dh:DO):DE:=λds q x=>de ds (λa=>dl ds (λlo=>dh ds (λhi=>∃ xs,a = .tup xs/\q (.tup (cutD xs lo hi))) x) x) x
theorem Xe {lo hi:Option Expr}{dl dh:DO}{pos p2:Pos}(he:JE X XE e de) (hl:JO X XE lo dl) (hh:JO X XE hi dh):JE X XE (.Subscript e (.Slice lo hi none p2) pos) (yu de dl dh):=by
 obtain ⟨ta,p1,d1⟩:=he.ex
 obtain ⟨tl,p3,d3⟩:=hl.ex
 obtain ⟨th,p4,d4⟩:=hh.ex
 refine ⟨_,Ep (nR.or jl) p1 p3 p4,λc h k kx=>d1 c h (λv a H1 H2 e r h=>d3 (c.go e) h (λlo H3 H4 e' h'=>d4 (c.go (e.trans e')) h' (λhi H5 H6 e2 h2=>?_) (kx.go (e.trans e').s)) (kx.go e.s)) kx⟩
 have e3:=(e.trans e').trans e2
 have s3:=(c.go e3).sub
 have r3:=r.same (e'.trans e2).s0
 obtain ⟨xs,rfl,hq⟩:=h2
 obtain ⟨p,vs,rfl,h5,h6⟩:=r3
 by_cases hw:HT.sIx vs.length 0 lo=0/\HT.sIx vs.length vs.length hi=vs.length
 ·refine .inl ⟨p,vs,rfl,SqT.of (s3 _ _ h5),hw,?_⟩
  have:cutD xs lo hi=xs:=by
   unfold cutD
   rw [h6.length] at hw
   rw [hw.1,hw.2,List.drop_zero,Nat.sub_zero,take_length]
  rw [this] at hq
  exact k _ (.tup xs) _ _ e3 ⟨p,vs,rfl,h5,h6⟩ hq
 ·refine .inr ⟨p,vs,rfl,SqT.of (s3 _ _ h5),hw,λl hl=>?_⟩
  exact k _ (.tup _) _ _ (e3.trans (.put s3 hl)) (Ot (Fi h6) (s3.free hl)) hq
noncomputable def lP (de:DE) (dk:DE):DE:=λds q x=>de ds (λa=>dk ds (λk=>k = .int (-1)/\∃ xs,a = .tup xs/\q (.tup xs.reverse)) x) x
theorem iT (he:JE X XE e de) (hk:JE X XE k dk) (hsub:∀ a b:Addr,∃ ops,subscripted (.Slice none none (some k) p2) false (.ref a) (.ref b)=operate ops (getItem (.ref a) (.ref b)):=by intro a b;exact ⟨_,by with_unfolding_all rfl⟩):JE X XE (.Subscript e (.Slice none none (some k) p2) pos) (lP de dk):=by
 obtain ⟨ta,p1,d1⟩:=he.ex
 obtain ⟨tk,p3,d3⟩:=hk.ex
 refine ⟨λσ H Q=>ta σ H λx H1=>mL tk σ H1 λy H2=>y=some (-1)/\∃ a xs,x = .ref a/\SqT X.K H2 a xs/\∀ p,H2 p=none->Q (.ref p) (upd H2 p (.tup xs.reverse)),?_,λc h kq kx=>d1 c h (λv a H1 H2 e r h=>d3 (c.go e) h (λu b H3 H4 e' r' h'=>?_) (kx.go e.s)) kx⟩
 ·intro pins s σ H Q I h
  refine Subscript_ (thn (p1 pins s σ H _ I h) λv s1 zq=>?_)
  obtain ⟨x,H1,I1,r1,q1⟩:=zq
  refine wpAny_Slice ?_
  rw [evalPart_none]
  refine ao (ao ?_)
  refine thn (zF p3 pins s1 σ H1 _ I1 q1) λvk s3 zq=>?_
  obtain ⟨o,H3,I3,pk,q3⟩:=zq
  obtain ⟨rfl,a,xs,rfl,hx,hq⟩:=q3
  cases r1
  have I4:Inv X pins σ H3 { s3 with heap:=s3.heap.push { cls := .type "slice",data := .fields #[.none,.none,vk] } }:=I3.kept (t':=s3.toks) λb ob q=>aq _ q
  show wpAny (model X.prog X.w) X.A (subscriptTail e (.Slice none none (some k) p2) (.ref a) (.ref s3.heap.objs.size)) (EP X pins σ Q) X.xe { s3 with heap:=s3.heap.push { cls := .type "slice",data := .fields #[.none,.none,vk] } }
  obtain ⟨its,r,ht,hz⟩:=I4.tuple hx
  have hlen:its.toArray.size=xs.length:=by rw [size_toArray];exact r.length.symm
  obtain ⟨ops,hops⟩:=hsub a s3.heap.objs.size
  refine tail_any (ops:=ops) ht.typeIs PyProof.Rows.slot_tuple_getitem.lookup ?_ hops
  refine HT.NU ht (Heap.IsSliceOf.new ..) pk ?_ (by rw [hlen];exact hz)
  refine ⟨.ref _,_,I4.laid (t':=s3.toks) (o := .tup xs.reverse) (λb ob q=>aq _ q) (Nat.le_refl _) ?_,rfl,hq _ (I4.hok.fresh (Nat.le_refl _))⟩
  exact ⟨by rw [List.length_reverse];exact hz,_,Vals.reverse r,IsTup.new _ _⟩
 ·obtain ⟨rfl,xs,rfl,hq⟩:=h'
  have e3:=e.trans e'
  have s3:=(c.go e3).sub
  obtain ⟨p,vs,rfl,h5,h6⟩:=r.same e'.s0
  exact ⟨_,r',rfl,p,vs,rfl,SqT.of (s3 _ _ h5),λl hl=>kq _ (.tup _) _ _ (e3.trans (.put s3 hl)) (Ot (Rps.rev h6) (s3.free hl)) hq⟩
end
section
theorem Zx.never {K:aj}{k:Nat}{f:Addr}{fd:FuncData}{ps:List Str}{sp:Sp}(h:∀ vs H Q E,¬ sp vs H Q E):Zx P w K mg base CX k f fd ps sp :=
 ⟨λvs H Q E q=>(h _ _ _ _ q).elim,λA outer s H args us vs Q E _ _ _ _ q=>(h _ _ _ _ q).elim⟩
theorem BJ {K:aj}{a:Addr}{μ:Mu}(s:Zz H0 H) (r:Rps K H0 xs vs) (hl:xs.length<=N.length) (hp:xs[p]?=some (.rf a)) (hm:rP K H0 H μ) :
  ∃ B:Hp,(∀ b,μ.lookup b=none->B b=H b)/\(∀ b m,μ.lookup b=some m->B b=none)/\Cfg K H0 B H0 H (start N vs) ((WO N xs).set p (.st a μ)):=by
 classical
 have c:=MX s r hl
 let B:Hp:=λb=>if μ.lookup b=none then H b else none
 have hB1:∀ b,μ.lookup b=none->B b=H b:=λb e=>if_pos e
 have hB2:∀ b m,μ.lookup b=some m->B b=none:=λb m e=>if_neg (by rw [e];simp)
 have c':Cfg K H0 B H0 H (start N vs) (WO N xs):=by
  refine ⟨⟨λb o z=>?_,.refl _,s,λb z n=>z⟩,c.slot,λi t b e f=>?_,c.sep,c.len⟩
  ·by_cases e:μ.lookup b=none
   ·rw [hB1 b e] at z;exact z
   ·have:B b=none:=if_neg e
    rw [this] at z;cases z
  ·by_cases e':μ.lookup b=none
   ·rw [hB1 b e'];exact c.young i t b e f
   ·exact if_neg e'
 have hp':p < xs.length:=(List.getElem?_eq_some_iff.mp hp).1
 obtain ⟨v,e1,rv⟩:=r.get hp
 have rv:v = .ref a:=rv
 subst rv
 have hv:p < vs.length:=(List.getElem?_eq_some_iff.mp e1).1
 have es:((start N vs)[p]?).getD none=some (.ref a):=by
  unfold start
  rw [getElem?_append_left (by rw [length_map];exact hv),getElem?_map,e1]
  rfl
 have hs:p < (start N vs).length:=by
  unfold start
  rw [length_append,length_map]
  omega
 have no:∀ (i:Nat) t b,(WO N xs)[i]?=some t->t.foot (((start N vs)[i]?).getD none) b->False:=λi t b e f=>by
  have:=Slot.Wk f
  unfold WO at e
  by_cases h:i < xs.length
  ·rw [getElem?_append_left (by rw [length_map];exact h),getElem?_map,aC h] at e
   cases e;cases this
  ·rw [getElem?_append_right (by rw [length_map];omega),length_map,getElem?_replicate] at e
   split at e
   ·cases e;cases this
   ·cases e
 refine ⟨B,hB1,hB2,?_⟩
 have:=c'.lay p (s := .st a μ) (o:=((start N vs)[p]?).getD none) ⟨es,hm⟩ (λb ⟨m,l⟩=>hB2 b m l) λb j t _ q _ f=>no j t b q f
 have e:(start N vs).set p (((start N vs)[p]?).getD none)=start N vs:=by
  rw [aC hs]
  exact List.set_getElem_self hs
 rw [e] at this
 exact this
theorem Lv.of {K:aj}{p:Nat}{μ μ':Mu}(h1:∀ b,μ.lookup b=none->B b=H b) (h2:∀ b m,μ.lookup b=some m->B b=none) (hm:rP K H0 H μ) (c:Cfg K H0 B H0' H' σ ds) (q:ds[p]?=some (.st a μ')):Lv K μ μ' H0 H H0' H':=by
 have sl:=c.slot p _ q
 refine ⟨λb o e z=>c.ext.s _ _ (by rw [h1 b e];exact z),c.ext.s0,c.sub,λb e z n=>c.ext.new b z (by rw [h1 b e];exact n),sl.2,λb m e=>?_⟩
 ·have y:=c.young p _ b q ⟨m,e⟩
  cases z:μ.lookup b with
  | none=>right;rw [<-h1 b z];exact y
  | some m'=>left;simp
theorem Fun.okS {P:Program}{K:aj}{base:Heap}{st:Stmt}{f:Addr}{fd:FuncData}{N ps:List Str}{k p:Nat}{g:BF}(F:Fun K x qual st f fd) (S:Zh N ps (Zf st)) (len:∀ xs μ q,g xs μ q->xs.length=ps.length)
  (hbody:∀ (cdv:Value) (A:Around) (outer:List Env) (s:Shared) (H:Hp) (E:XK),YZ k (A.deeper (envOfC qual (Zf st) s.heap.objs.size f cdv)) ->
   ∃ b,JSs (XG (CXE P w) P w K mg base N qual (Zf st) f cdv A outer s H E) (λ_=>E) (Yc st) b/\∀ xs μ a q,xs[p]?=some (.rf a)->g xs μ q ->
    b ((WO N xs).set p (.st a μ)) { nx:=λds=>∃ a' μ',ds[p]?=some (.st a' μ')/\q .non μ',rt:=λ_=>False,xc:=λ_ _=>False,rb:=λd ds=>∃ a' μ',ds[p]?=some (.st a' μ')/\q d μ' }):Zx P w K mg base (CXE P w) (k + 1) f fd ps (spS K p g):=by
 have hpl:ps.length<=N.length:=by have:=congrArg length S.pre;rw [length_take] at this;omega
 refine F.okX S (λvs H Q E zq=>by obtain ⟨H0,xs,a,μ,q,s,r,hp,hm,h,_⟩:=zq;rw [r.length];exact len xs μ q h) λcdv A outer s H vs Q E hr hsp=>?_
 obtain ⟨H0,xs,a,μ,q,s0,r,hp,hm,h,kq⟩:=hsp
 obtain ⟨b,j,hb⟩:=hbody cdv A outer s H E hr
 obtain ⟨t,pt,d⟩:=j.ex
 obtain ⟨B,b1,b2,c⟩:=BJ s0 r (by rw [len xs μ q h];exact hpl) hp hm
 refine ⟨t,⟨pt⟩,d c (hb xs μ a q hp h) ⟨λH0' H' σ ds c' ⟨a',μ',e,hq⟩=>kq .non .non μ' H0' H' (.of b1 b2 hm c' e) rfl hq,λ_ _ _ _ _ _ h=>h.elim,λ_ _ _ _ _ _ h=>h.elim,λ_ _ _ _ _ h=>h.elim,λ_ _ _ _ _ h=>h.elim,λv d H0' H' σ ds c' r' ⟨a',μ',e,hq⟩=>kq v d μ' H0' H' (.of b1 b2 hm c' e) r' hq,λ_ _ _ _ _ _ _ _ _ _ _ _ _ h=>h.elim⟩⟩
theorem Fun.okF {K:aj}{st:Stmt}{f:Addr}{fd:FuncData}{N ps:List Str}{k:Nat}{g:xK}(F:Fun K x qual st f fd) (S:Zh N ps (Zf st)) (len:∀ xs q x,g xs q x->xs.length=ps.length)
  (hbody:∀ (cdv:Value) (A:Around) (outer:List Env) (s:Shared) (H:Hp) (E:XK),YZ k (A.deeper (envOfC qual (Zf st) s.heap.objs.size f cdv)) ->
   ∃ b,JSs (XG (CXE P w) P w K mg base N qual (Zf st) f cdv A outer s H E) (λ_=>E) (Yc st) b/\∀ xs q x,g xs q x->b (WO N xs) { nx:=λ_=>False,rt:=λ_=>False,xc:=λ_=>x,ro:=λys _=>q ys }):Zx P w K mg base (CXE P w) (k + 1) f fd ps (spF K g):=by
 have hpl:ps.length<=N.length:=by have:=congrArg length S.pre;rw [length_take] at this;omega
 refine F.okX S (λvs H Q E zq=>by obtain ⟨H0,xs,q,x,s,r,h,_⟩:=zq;rw [r.length];exact len xs q x h) λcdv A outer s H vs Q E hr hsp=>?_
 obtain ⟨H0,xs,q,x,s0,r,h,kq,kx⟩:=hsp
 obtain ⟨b,j,hb⟩:=hbody cdv A outer s H E hr
 obtain ⟨t,p,d⟩:=j.ex
 refine ⟨t,⟨p⟩,d (MX s0 r (by rw [len xs q x h];exact hpl)) (hb xs q x h) ⟨λ_ _ _ _ _ h=>h.elim,λ_ _ _ _ _ _ h=>h.elim,λH0' H' σ ds C c hx=>kx C H' c.ext.s hx,λ_ _ _ _ _ h=>h.elim,λ_ _ _ _ _ h=>h.elim,λ_ _ _ _ _ _ _ _ h=>h.elim,λa us ys H0' H' σ ds c n n0 e r' _ hq=>kq a us ys H0' H' c.ext n n0 e r' hq⟩⟩
theorem Zx.fz {K:aj}{f:Addr}{fd:FuncData}{ps:List Str}{g:xK}(F:Zx P w K mg base (CXE P w) k f fd ps (spF K g)):Zx P w K mg base (CXE P w) k f fd ps (spD K λxs q x=>g xs (λys=>q (.lst ys)) x) :=
 F.imp λvs H Q E ⟨H0,xs,q,x,s,r,h,kq,kx⟩=>⟨H0,xs,_,x,s,r,h,λa us ys H0' H' e n n0 ha r' hq=>kq _ (.lst ys) _ _ (tR e n n0 ha) (Vv r' n0) hq,kx⟩
end
section
noncomputable def IA (p j:Nat) (g:BF) (da:DA) (k:D->DSt->Il->Prop):DS:=λds e=>∃ a0 μ,ds[j]?=some (.st a0 μ)/\da ds (λxs=>(∃ a,xs[p]?=some (.rf a))/\g xs μ λd μ'=>k d (ds.set j (.st a0 μ')) e) (e.xc ds)
theorem MZ {K:aj}{k:D->DSt->Il->Prop}(d1:DenA K XE ta da) {B0 B H0 H:Hp}{σ:St}{ds:DSt}{e:Il}{T:Ends}(c:Cfg K B0 B H0 H σ ds) (h:IA p j g da k ds e) (o:Im K XE B0 B e T) {Q:VK}
  (kq:∀ v d ds' H0' H',Cfg K B0 B H0' H' σ ds'->Rp K H0' d v->(∀ i,i≠j->ds'[i]?=ds[i]?)->(∀ i s a u,i≠j->ds[i]?=some s->s.foot ((σ[i]?).getD none) a->H a=some u->H' a=some u)->k d ds' e->Q v H'):Bi (spS K p g) XE ta σ H Q:=by
 obtain ⟨a0,μ,hj,h⟩:=h
 refine d1 c h (λvs xs H1 H2 e1 r h=>?_) (o.kx c)
 obtain ⟨⟨a,hp⟩,h⟩:=h
 have c1:=c.go e1
 refine ⟨H1,xs,a,μ,_,e1.sub,r,hp,(c1.slot j _ hj).2,h,λv d μ' H0' H' l r' hq=>?_⟩
 refine kq v d _ H0' H' (c1.goS (a':=a) hj l) r' (λi ne=>by rw [getElem?_set_ne (Ne.symm ne)]) (λi s b u ne q f z=>l.s b u ?_ (e1.s _ _ z)) hq
 cases w:μ.lookup b with
 | none=>rfl
 | some m=>exact (c1.sep i j s _ b ne q hj f ⟨m,w⟩).elim
theorem Di (p j:Nat) (F:Zx X.prog X.w X.K X.mg X.base (CXE X.prog X.w) k f fd ps (spS X.K p g)) (hr:YZ k X.A) (hg:Gl X x) (hm:X.mg x=some (.ref f)) (hk:keepIn X.K (.ref f)=true) (hb:Binds X.K fd ps []) (hx:Yy X XE)
  (ha:JAs X XE (e::es) da) (hN:X.N.Nodup) (hi:X.N[i]?=some y) (hy:Loc X.env.scope y) (hst:autoParam (ZZ (e::es)=true) auR) (hdb:autoParam ((x == ("__debug__" : Str))=false) auD) (hs:autoParam (swapsWith (.Call (.Name x np) (e::es) [] cpos) (some (.Name y pos')) pos.line X.env=pure false) auR)
  (hf:X.fn y=true\/X.env.scope.names.lookup y=some .local:=by first | exact .inl rfl | exact .inr rfl | assumption):JS X XE (.Assign [.Name y pos'] (.Call (.Name x np) (e::es) [] cpos) pos) (IA p j g da λd ds e=>e.nx (ds.set i (.v d))):=by
 obtain ⟨ta,p1,d1⟩:=ha.ex
 refine ⟨_,MM hN hi hy (NI F hr hg hm hk hb hx ⟨p1⟩ hst hdb).get hs hf,λ{B0 B H0 H σ ds e T} c h o=>?_⟩
 exact MZ d1 c h o λv d ds' H0' H' c' r _ _ hq=>o.nx _ _ _ _ (c'.uZ i r) hq
theorem Dj (p j:Nat) (F:Zx X.prog X.w X.K X.mg X.base (CXE X.prog X.w) k f fd ps (spS X.K p g)) (hr:YZ k X.A) (hg:Gl X x) (hm:X.mg x=some (.ref f)) (hk:keepIn X.K (.ref f)=true) (hb:Binds X.K fd ps []) (hx:Yy X XE)
  (ha:JAs X XE (e::es) da) (hst:autoParam (ZZ (e::es)=true) auR) (hdb:autoParam ((x == ("__debug__" : Str))=false) auD) (hs:autoParam (swapsWith (.Call (.Name x np) (e::es) [] cpos) none pos.line X.env=pure false) auR):JS X XE (.Expr (.Call (.Name x np) (e::es) [] cpos) pos) (IA p j g da λ_ ds e=>e.nx ds):=by
 obtain ⟨ta,p1,d1⟩:=ha.ex
 refine ⟨_,Nv (NI F hr hg hm hk hb hx ⟨p1⟩ hst hdb).get hs,λ{B0 B H0 H σ ds e T} c h o=>?_⟩
 exact MZ d1 c h o λv d ds' H0' H' c' r _ _ hq=>o.nx _ _ _ _ c' hq
theorem nS {XE:St->XK}(i p j:Nat) (hij:i≠j) {g:BF}{x y:Str}{np apos bpos cpos dpos pos:Pos}{e:Expr}{es:List Expr}{da:DA}(F:Zx X.prog X.w X.K X.mg X.base (CXE X.prog X.w) k f fd ps (spS X.K p g)) (hr:YZ k X.A) (hg:Gl X x) (hm:X.mg x=some (.ref f)) (hk:keepIn X.K (.ref f)=true) (hb:Binds X.K fd ps []) (hx:Yy X XE)
  (ha:JAs X XE (e::es) da) (hst:autoParam (ZZ (e::es)=true) auR) (hdb:autoParam ((x == ("__debug__" : Str))=false) auD)
  (hN:autoParam (X.N[i]?=some y) auR) (hv:Vis X.env.scope y:=by first | exact Or.inl rfl | exact Or.inr (Or.inl rfl) | exact Or.inr (Or.inr rfl))
  (hst':autoParam (noStar (.Call (.Name x np) (e::es) [] cpos)=true) auR) (hbase:autoParam (attributeBase (.Name y bpos) "append" X.env (eval (.Name y bpos) X.env)=eval (.Name y bpos) X.env) auR)
  (hfew:autoParam (((backTo dpos (starEach [.Call (.Name x np) (e::es) [] cpos] X.env)).all (λx => !x.1) && (backToKw dpos (keywordEach [] X.env)).all (λx=>x.1.isSome)
   && decide ([Expr.Call (.Name x np) (e::es) [] cpos].length + ([]:List Keyword).length + (if ([]:List Keyword).isEmpty then 0 else 1) < 30))=true) auR)
  (hline:autoParam ((apos.endLine == dpos.line)=true) auR) (hs:autoParam (starEach [.Call (.Name x np) (e::es) [] cpos] X.env=(false,eval (.Call (.Name x np) (e::es) [] cpos) X.env)::starEach [] X.env) auR) (hplain:autoParam ((backTo dpos (starEach [] X.env)).any (·.1)=false) auR)
  (hsw:autoParam (swapsWith (.Call (.Attribute (.Name y bpos) "append" apos) [.Call (.Name x np) (e::es) [] cpos] [] dpos) none pos.line X.env=pure false) auR) (hd:autoParam ((y == ("__debug__" : Str))=false) auD) (hcd:autoParam ((y == ("__classdict__" : Str))=false) auD) :
  JS X XE (.Expr (.Call (.Attribute (.Name y bpos) "append" apos) [.Call (.Name x np) (e::es) [] cpos] [] dpos) pos) (λds e=>∃ xs,ds[i]?=some (.own xs)/\xs.length < aA/\IA p j g da (λd ds e=>e.nx (ds.set i (.own (xs++[d])))) ds e):=by
 obtain ⟨ta,p1,d1⟩:=ha.ex
 refine ⟨_,Nv (zH PySem.F.plainAttrs_list PySem.F.slot_list_append PySem.F.type_list_append Ie (pv i hN hv hd hcd) (ED (NI F hr hg hm hk hb hx ⟨p1⟩ hst hdb).get Oi hst') hbase hfew hline hs hplain) hsw,λ{B0 B H0 H σ ds e T} c h o=>?_⟩
 obtain ⟨xs,hi,hl,h⟩:=h
 obtain ⟨l,us,e1,f1,f2,f3⟩:=c.slot i _ hi
 refine ⟨.ref l,WB e1,.inl ⟨rfl,us,SqL.of f2⟩,?_⟩
 refine MZ d1 c h o λv d ds' H0' H' c' r same keep hq=>?_
 have hi':ds'[i]?=some (.own xs):=by rw [same i hij];exact hi
 obtain ⟨l',us',e1',f1',f2',f3'⟩:=c'.slot i _ hi'
 rw [e1] at e1'
 cases e1'
 refine ⟨l,us',v,rfl,rfl,f2',by rw [f3'.length];exact hl,?_⟩
 obtain ⟨a',us2,g1,g2,g3,g4⟩:=c'.push (ys:=xs++[d]) hi'
 rw [e1] at g1
 cases g1
 exact o.nx _ _ _ _ (g4 H0' H' _ (.refl c'.sub) (f3'.snoc r)) hq
noncomputable def DenN (K:aj) (XE:St->XK) (ta:TA) (da:DSt->(List D->List D->Prop)->(Addr->Prop)->Prop):Prop:=∀ {B0 B H0 H:Hp}{σ:St}{ds:DSt}{q:List D->List D->Prop}{x:Addr->Prop}{Q:List V->Hp->Prop},Cfg K B0 B H0 H σ ds->da ds q x ->
 (∀ vs a us xs ys H0' H',Ext H0 H H0' H'->H a=none->H0' a=none->H' a=some (.lst us)->Rps K H0' ys us->Rps K H0' xs vs->q xs ys->Q (vs++[.ref a]) H')->KX XE σ H x->ta σ H Q
structure JN (X:Cx) (XE:St->XK) (es:List Expr) (da:DSt->(List D->List D->Prop)->(Addr->Prop)->Prop):Prop where
 ex:∃ ta,PA X es ta/\DenN X.K XE ta da
theorem nT (h:JF X XE e df) (hs:autoParam (noStar e=true) auR):JN X XE [e] (λds q x=>df ds (λys=>q [] ys) x):=by
 obtain ⟨te,p,d⟩:=h.ex
 exact ⟨_,ED p Oi hs,λc h k kx=>d c h (λa us ys H0' H' e n n0 ha r hq=>k [] a us [] ys H0' H' e n n0 ha r rfl hq) kx⟩
theorem jn_c (h1:JE X XE e de) (h2:JN X XE es da) (hs:autoParam (noStar e=true) auR):JN X XE (e::es) (λds q x=>de ds (λd=>da ds (λxs ys=>q (d::xs) ys) x) x):=by
 obtain ⟨te,p,d1⟩:=h1.ex
 obtain ⟨ta,p2,d2⟩:=h2.ex
 refine ⟨_,ED p p2 hs,λc h k kx=>d1 c h (λv d H1 H2 e r h=>d2 (c.go e) h (λvs a us xs ys H0' H' e' n n0 ha r1 r2 hq=>?_) (kx.go e.s)) kx⟩
 exact k (v::vs) a us (d::xs) ys H0' H' (e.trans e') (e.s.free n) n0 ha r1 ⟨v,vs,rfl,r.same e'.s0,r2⟩ hq
theorem Ov (h:([(a,m)]:Mu).lookup b=some n):b=a/\n=m:=by
 rw [lookup_cons] at h
 by_cases e:b=a
 ·subst e;simp at h;exact ⟨rfl,h.symm⟩
 ·have:(b == a)=false:=by simpa using e
  rw [this] at h;cases h
theorem rR (p:Nat) (F:Zx X.prog X.w X.K X.mg X.base (CXE X.prog X.w) k f fd ps (spS X.K p g)) (hr:YZ k X.A) (hg:Gl X x) (hm:X.mg x=some (.ref f)) (hk:keepIn X.K (.ref f)=true) (hb:Binds X.K fd ps []) (hx:Yy X XE)
  (ha:JN X XE (e::es) da) (hst:autoParam (ZZ (e::es)=true) auR) (hdb:autoParam ((x == ("__debug__" : Str))=false) auD):JE X XE (.Call (.Name x np) (e::es) [] pos) (λds q x=>da ds (λxs ys=>xs.length=p/\∀ a,g (xs++[.rf a]) [(a,.lst ys)] λd _=>q d) x):=by
 obtain ⟨ta,p1,d1⟩:=ha.ex
 refine ⟨_,(NI F hr hg hm hk hb hx ⟨p1⟩ hst hdb).get,λc h k kx=>d1 c h (λvs a us xs ys H1 H2 e n n0 ha r1 r2 hq=>?_) kx⟩
 have hmu:rP X.K H1 H2 [(a,.lst ys)]:=λb m l=>by
  obtain ⟨rfl,rfl⟩:=Ov l
  exact ⟨n0,_,ha,us,rfl,r1⟩
 refine ⟨H1,xs++[.rf a],a,[(a,.lst ys)],_,e.sub,r2.snoc (d := .rf a) rfl,by rw [<-hq.1];simp,hmu,hq.2 a,λv d μ' H0' H' l r' hq'=>k v d H0' H' ⟨λb o z=>?_,e.s0.trans l.s0,l.sub,λb z y=>?_⟩ r' hq'⟩
 ·refine l.s b o ?_ (e.s _ _ z)
  cases w:([(a,MO.lst ys)]:Mu).lookup b with
  | none=>rfl
  | some m=>obtain ⟨rfl,_⟩:=Ov w;rw [n] at z;cases z
 ·refine l.new b ?_ (e.new b z y) (λw=>y (e.s.free w))
  cases w:([(a,MO.lst ys)]:Mu).lookup b with
  | none=>rfl
  | some m=>obtain ⟨rfl,_⟩:=Ov w;exact absurd n y
end
section
theorem rS:PGet X (rIxL X.K):=by
 intro pins s σ H x y v u Q I rx ry h
 obtain ⟨p,xs,i,z,rfl,rfl,hq,he,q⟩:=h
 cases rx
 obtain ⟨t,rfl⟩:=ry
 obtain ⟨its,r,pl,hz⟩:=I.list hq
 obtain ⟨j,h1,h2,h3,h4,h5⟩:=Jr he
 obtain ⟨w,ew,rw'⟩:=r.get h2
 have hl:=r.length
 have hn:=RY
 have fin:EP X pins σ Q w s:=⟨z,H,I,rw',q⟩
 by_cases h0:0<=i
 ·have hj:i.toNat=j:=by
   rw [seqIndex_of h0 h5] at h1
   exact Option.some.inj h1
  exact wpAny_getItem_list pl.isList h0 (by omega) (by rw [hj];simpa using ew) fin
 ·have hj:(i + (its.toArray.size:Int)).toNat=j:=by
   rw [seqIndex_neg (by omega) h4] at h1
   rw [size_toArray,<-hl]
   exact Option.some.inj h1
  exact wpAny_getItem_list_neg pl.isList (by omega) (by rw [size_toArray] <;> omega) (by omega) (by rw [hj];simpa using ew) fin
noncomputable def lQ (i:Nat) (dk de:DE) (f:Int->Int->Int):DS:=λds e=>∃ xs,ds[i]?=some (.own xs)/\dk ds (λk=>∃ n j u,k = .int n/\ixN xs.length n=some j/\xs[j]?=some (.int u)/\de ds (λd=>∃ v,d = .int v/\e.nx (ds.set i (.own (xs.set j (.int (f u v)))))) (e.xc ds)) (e.xc ds)
theorem nU (i:Nat) (hk:JE X XE k dk) (he:JE X XE e de) (hN:autoParam (X.N[i]?=some x) auR) (hv:Vis X.env.scope x:=by first | exact Or.inl rfl | exact Or.inr (Or.inl rfl) | exact Or.inr (Or.inr rfl))
  (ha:∀ ov iv new,augStore k ov iv new=(do holding [new,ov,iv] (setItem ov iv new);release [new,ov,iv] [];pure .next):=by intros;rfl) (hd:autoParam ((x == ("__debug__" : Str))=false) auD) (hcd:autoParam ((x == ("__classdict__" : Str))=false) auD) :
  JS X XE (.AugAssign (.Subscript (.Name x p) k ipos) .Add e pos) (lQ i dk de λi j=>i + j):=by
 obtain ⟨tk,p2,d2⟩:=hk.ex
 obtain ⟨te,p1,d1⟩:=he.ex
 refine ⟨_,pz (pv i hN hv hd hcd) p2 rS p1 kU set_list ha,λ{B0 B H0 H σ ds e T} c h o=>?_⟩
 obtain ⟨xs,hi,h⟩:=h
 obtain ⟨l,us,e1,f1,f2,f3⟩:=c.slot i _ hi
 refine ⟨.ref l,WB e1,d2 c h (λkv kd H1 H2 e' rk zq=>?_) (o.kx c)⟩
 obtain ⟨n,j,u,z,ij,hj,h⟩:=zq
 subst z
 have g3:=f3.same e'.s0
 obtain ⟨v,ev,rv⟩:=g3.get hj
 have rv:v = .int u:=rv
 subst rv
 refine ⟨l,us,n,.int u,rfl,rk,SqL.of (e'.s _ _ f2),?_,?_⟩
 ·unfold atI
  rw [f3.length,ij]
  exact ev
 refine d1 (c.go e') h (λw d H3 H4 e2 rd ⟨v',z,hq⟩=>?_) ((o.kx c).go e'.s)
 subst z
 have rd:w = .int v':=rd
 subst rd
 have e3:=e'.trans e2
 refine ⟨u,v',rfl,rfl,l,us,n,j,rfl,rk,e3.s _ _ f2,by rw [f3.length];exact ij,?_⟩
 obtain ⟨a',us',g1,g2,g3,g4⟩:=c.push (ys:=xs.set j (.int (u + v'))) hi
 rw [e1] at g1
 cases g1
 exact o.nx _ _ _ _ (g4 H3 H4 _ e3 (Rps.set (d := .int (u + v')) (v := .int (u + v')) (show Rp _ _ _ _ from rfl) j (f3.same e3.s0))) hq
end
section
noncomputable def lR (i:Nat):DS:=λds e=>∃ a μ ys,ds[i]?=some (.st a μ)/\μ.lookup a=some (.lst ys)/\e.ro ys (ds.set i .un)
theorem nV (i:Nat) (hN:autoParam (X.N[i]?=some x) auR) (hv:Vis X.env.scope x:=by first | exact Or.inl rfl | exact Or.inr (Or.inl rfl) | exact Or.inr (Or.inr rfl)) (hd:autoParam ((x == ("__debug__" : Str))=false) auD)
  (hcd:autoParam ((x == ("__classdict__" : Str))=false) auD):JS X XE (.Return (some (.Name x p)) pos) (lR i):=by
 refine ⟨_,JH (pv i hN hv hd hcd),λ{B0 B H0 H σ ds e T} c h o=>?_⟩
 obtain ⟨a,μ,ys,hi,hl,h⟩:=h
 have s:=c.slot i _ hi
 obtain ⟨h0,u,h1,vs,rfl,h2⟩:=s.2 a _ hl
 refine ⟨.ref a,WB s.1,?_⟩
 refine o.ro a vs ys H0 H σ _ (c.drop i) (c.young i _ a hi ⟨_,hl⟩) h0 h1 h2 (λj s' q f=>?_) h
 have hlt:i < ds.length:=(List.getElem?_eq_some_iff.mp hi).1
 rw [Wi hlt] at q
 split at q
 ·cases q;exact f.elim
 ·rename_i ne
  exact c.sep j i s' _ a ne q hi f ⟨_,hl⟩
end
section
theorem rT (hc:X.calm=true):Xs X (.builtin "sum") (λxs H Q=>∃ (p:Addr) (ns:List Int),xs=[.ref p]/\SqL X.K H p (ns.map V.int)/\Q (.int ns.sum) H):=by
 intro pins s σ H xs us Q I r h
 obtain ⟨p,ns,rfl,hq,q⟩:=h
 obtain ⟨u,rfl,ru⟩:=vals1 r
 cases ru
 obtain ⟨its,rv,pl,hz⟩:=I.list hq
 have hi:IntsAre its ns:=intsAre_of rv
 obtain ⟨xs,hx⟩:=hi.allInts.items
 have hl':s.heap.IsList p (intItems xs):=hx ▸ pl.isList
 refine sum_intListG (I.ok.hd hc) hl' λh' tk t' hk=>?_
 have e1:ns=xs.toList.map (·.1):=by
  rw [<-nums_intItems,<-hx]
  exact (show numsOf its.toArray.toList=ns from hi.numsOf).symm
 have e2:preSum (numAt xs) xs.size=ns.sum:=by
  rw [preSum_eq,List.take_of_length_le (by simp),e1]
 rw [e2]
 exact ⟨.int ns.sum,H,I.kept (h':=h') (t':=tk) hk,⟨_,rfl⟩,q⟩
noncomputable def KB:List D->Option (List Int)
 | []=>some []
 | .int i::r=>(KB r).map (i :: ·)
 | _::_=>none
theorem Gm {K:aj}:∀ {xs:List D}{bs:List Int}{vs:List V},KB xs=some bs->Rps K H xs vs->vs=bs.map V.int
 | [],_,_,e,r=>by cases e;exact r
 | d::ds,bs,_,e,⟨v,us,z,h,h'⟩=>by
  cases d with
  | int b =>
   unfold KB at e
   cases q:KB ds with
   | none=>rw [q] at e;cases e
   | some cs =>
    rw [q] at e
    cases e
    rw [z,Gm q h',show v = .int b from h]
    rfl
  | _=>cases e
noncomputable def dSum:List D->(D->Prop)->Prop
 | [.lst xs]=>λq=>∃ bs,KB xs=some bs/\q (.int bs.sum)
 | _=>λ_=>False
theorem iU (hc:autoParam (X.calm=true) auR):Sb X (.builtin "sum") dSum:=by
 refine ⟨_,rT hc,λ{H0 H vs xs q Q} s r h k=>?_⟩
 unfold dSum at h
 split at h
 ·obtain ⟨v,rfl,p,ws,rfl,h1,h2⟩:=Tu r
  obtain ⟨bs,e,hq⟩:=h
  rw [Gm e h2] at h1
  exact ⟨p,bs,rfl,SqL.of (s _ _ h1),k _ (.int _) _ _ (.refl s) rfl hq⟩
 ·exact h.elim
theorem ints_map (bs:List Int):KB (bs.map .int)=some bs:=by
 induction bs with
 | nil=>rfl
 | cons b bs ih=>rw [map_cons,KB,ih];rfl
theorem rV {bs:List Int}:dSum [.lst (bs.map .int)] q=q (.int bs.sum):=by
 show (∃ cs,KB (bs.map .int)=some cs/\q (.int cs.sum))=_
 rw [ints_map]
 simp
noncomputable def rX (dO dk dx:DE):DE:=λds q x=>dO ds (λd=>∃ kvs,d = .dic kvs/\dk ds (λk=>dx ds (λz=>∃ key,k=kD key/\q ((UH kvs key).getD z)) x) x) x
theorem Dk {K:aj}(k:Key):∀ {gs:List (Key × D)}{kvs:List (Key × V)},Rks K H gs kvs->UH gs k=none->Ol kvs k=none
 | [],_,h,e=>by rw [show _=[] from h];rfl
 | (j,g)::gs,_,⟨v,us,ee,h1,h2⟩,e=>by
  subst ee
  by_cases hj:j=k
  ·have:UH ((j,g)::gs) k=some g:=by unfold UH;rw [List.find?_cons_of_pos (by simpa using hj)];rfl
   rw [this] at e
   cases e
  ·have:UH ((j,g)::gs) k=UH gs k:=by unfold UH;rw [find?_cons_of_neg (by simpa using hj)]
   rw [this] at e
   rw [Qa hj]
   exact Dk k h2 e
theorem rY (hu:X.A.units + 1 < cLine) (ho:JE X XE o dO) (hk:JE X XE e dk) (hx:JE X XE f dx) (m:M2 X o "get" apos e f cpos:=by exact ⟨rfl,rfl,rfl,rfl⟩):JE X XE (.Call (.Attribute o "get" apos) [e,f] [] cpos) (rX dO dk dx):=by
 obtain ⟨t1,p1,d1⟩:=ho.ex
 obtain ⟨t2,p2,d2⟩:=hk.ex
 obtain ⟨t3,p3,d3⟩:=hx.ex
 refine ⟨_,uH hu p1 p2 p3 m,λc h kk kx=>d1 c h (λv d H1 H2 e r h=>?_) kx⟩
 obtain ⟨kvs,rfl,h⟩:=h
 obtain ⟨a,vs,rfl,g1,g2⟩:=r
 refine ⟨a,rfl,.inl ⟨vs,.inl (e.sub _ _ g1)⟩,d2 (c.go e) h (λu kd H3 H4 e' r' h'=>d3 (c.go (e.trans e')) h' (λw zd H5 H6 e2 r2 h2=>?_) (kx.go (e.trans e').s)) (kx.go e.s)⟩
 obtain ⟨key,rfl,hq⟩:=h2
 have ee:=(e.trans e').trans e2
 rw [rO r']
 refine ⟨Ol vs key,JQ.k (e2.s _ _ (e'.s _ _ (e.sub _ _ g1))),?_⟩
 cases hv:UH kvs key with
 | none =>
  rw [hv] at hq
  rw [Dk key g2 hv]
  exact kk _ zd _ _ ee r2 hq
 | some d =>
  rw [hv] at hq
  obtain ⟨y,q1,q2⟩:=Fu key g2 hv
  rw [q1]
  exact kk _ d _ _ ee (q2.same (e'.trans e2).s0) hq
end
structure FnB (K:aj) (mg:Str->Option Value) (x:Str) (st:Stmt) (ps:List Str) (f:Addr) (d:FuncData):Prop where
 F:Fun K x x st f d
 m:mg x=some (.ref f)
 a:Binds K d ps []
noncomputable def LkB (K:aj) (x:Str) (st:Stmt) (ps:List Str) (f:Addr):Prop:=PySem.W.nsIn K mainGlobals x=some (some (.ref f))/\∃ fd,Fun K x x st f fd/\Binds K fd ps []
theorem iV {K:aj}{st:Stmt}{od an:Option Addr}{osl:Array (Option Value)}{kV doc pm cdv ct:Value}(a:PySem.W.nsIn K mainGlobals x=some (some (.ref f)))
  (l:K.lookup f=some ⟨oc,od,.func (PySem.W.fnOf x x (XC st) (Yc st) (Zf st) .none kV doc pm an cdv ct),osl⟩) (c:PySem.W.codeIn K cdv x=true) (k:keepIn K (.ref f)=true)
  (b:∀ (kV doc pm:Value) (an:Option Addr) (cdv ct:Value) (us:List Value),us.length=ps.length->bindArgs (PySem.W.fnOf x x (XC st) (Yc st) (Zf st) .none kV doc pm an cdv ct) ⟨us,[]⟩=pure (ps.zip us)):LkB K x st ps f:=⟨a,_,MQ l c k,(MQ l c k).binds b⟩
theorem LkB.get {K:aj}{st:Stmt}{mg:Str->Option Value}(z:LkB K x st ps f) (X:K.In h) (G:h.Ns mainGlobals mg):∃ d,FnB K mg x st ps f d :=
 let ⟨a,d,F,b⟩:=z
 ⟨d,F,mg_of X G a,b⟩
structure ExB (K:aj) (mg:Str->Option Value) (x:Str) (C:Addr):Prop where
 M:mg x=some (.ref C)
 x:Bj K C
 t:XTy K C
noncomputable def ExK (K:aj) (x:Str) (C:Addr):Prop:=PySem.W.nsIn K mainGlobals x=some (some (.ref C))/\Bj K C/\XTy K C
theorem ExK.get {K:aj}(z:ExK K x C) (X:K.In h) (G:h.Ns mainGlobals mg):ExB K mg x C:=⟨mg_of X G z.1,z.2.1,z.2.2⟩
theorem iW {K:aj}(a:PySem.W.nsIn K mainGlobals x=some (some (.ref C))) (b:excIn K C [.type "ValueError",.type "Exception",.type "BaseException",.type "object"] "ValueError.__new__" = true)
  (c:findIn K (.ref C) "__getattribute__" = some (some (.builtin "BaseException.__getattribute__"))) (d:findIn K (.ref C) "__getattr__" = some none) (e:findIn K (.ref C) "__class__" = some (some (.builtin "object.__class__")))
  (f:mroIn K C (.type "object")=some true) (g:mroIn K C (.type "BaseException")=some true) (h:isClsIn K C=true):ExK K x C:=⟨a,⟨b⟩,⟨c,d,e,f,g,h⟩⟩
section
theorem Qj {x:Str}{st:Stmt}{e:Expr}{es:List Expr}{g:DSp}{p pos:Pos}{da:DA}(F:Zx X.prog X.w X.K X.mg X.base (CXE X.prog X.w) k f fd ps (spD X.K g)) (B:FnB X.K X.mg x st ps f fd) (hr:YZ k X.A) (hx:Yy X XE) (ha:JAs X XE (e::es) da) (hg:autoParam (Gl X x) auR)
  (hst:autoParam (ZZ (e::es)=true) auR) (hdb:autoParam ((x == ("__debug__" : Str))=false) auD):JE X XE (.Call (.Name x p) (e::es) [] pos) (dCall g da):=ot F hr hg B.m B.F.kp B.a hx ha hst hdb
end
theorem us1 {P:List α->Prop}(h:∀ a,P [a]):∀ us,us.length=1->P us | [a],_=>h a
theorem us2 {P:List α->Prop}(h:∀ a b,P [a,b]):∀ us,us.length=2->P us | [a,b],_=>h a b
theorem us3 {P:List α->Prop}(h:∀ a b c,P [a,b,c]):∀ us,us.length=3->P us | [a,b,c],_=>h a b c
theorem us4 {P:List α->Prop}(h:∀ a b c d,P [a,b,c,d]):∀ us,us.length=4->P us | [a,b,c,d],_=>h a b c d
theorem us5 {P:List α->Prop}(h:∀ a b c d e,P [a,b,c,d,e]):∀ us,us.length=5->P us | [a,b,c,d,e],_=>h a b c d e
theorem us6 {P:List α->Prop}(h:∀ a b c d e f,P [a,b,c,d,e,f]):∀ us,us.length=6->P us | [a,b,c,d,e,f],_=>h a b c d e f
section
theorem nW {e I l:Addr}{k:Nat}{xs:Array Value}{x old:Value}{Q:Value->Shared->Prop}(he:IsEnum s.heap e I k old) (it:sIt tp s.heap I l k) (ob:sOb tp s.heap l xs) (hx:xs[k]?=some x) (ne:e≠I)
  (hQ:∀ h',IsEnumOut h' e I ((k:Int) + 1) x s.heap.objs.size->sIt tp h' I l (k + 1)->h'.get? s.heap.objs.size=some { cls := .type "tuple",data := .seq #[.int k s.toks,x] }->(∀ b o,b≠e->b≠I->s.heap.get? b=some o->h'.get? b=some o)->Q (.ref s.heap.objs.size) { s with heap:=h',toks:=s.toks + 1 }) :
  wpAny (model P w) A (Builtin.«enumerate.__next__» ⟨[.ref e],[]⟩) (λf s'=>∃ v,f = .done (.ret v)/\Q v s') E s:=by
 obtain ⟨hp,g,d,tk,os⟩:=s
 have el:e < hp.objs.size:=az he
 have nl:hp.objs.size≠e:=Nat.ne_of_gt el
 refine ak (m:=field (.ref e) 2) (wpAny_field he rfl (x := .ref I) rfl (ak (Jv it ob hx λh1 i1 s1=>?_)))
 have s1:aG I hp h1:=s1
 have e1:IsEnum h1 e I k old:=(s1.2 e ne).trans he
 refine ak (m:=field (.ref e) 3) (wpAny_field e1 rfl (x:=rawInt k) rfl (ak (m:=field (.ref e) 4) (wpAny_field e1 rfl (x := .none) rfl (ak (m:=mkInt k) (wpAny_mkInt ?_)))))
 refine ak (m:=setField (.ref e) 3 (rawInt ((k:Int) + 1))) (wpAny_setField_rec e1 (by simp) λh2 e2 s2=>?_)
 have s2:aG e h1 h2:=s2
 have e2:IsEnum h2 e I ((k:Int) + 1) old:=e2
 refine ak (m:=setField (.ref e) 4 .none) (wpAny_setField_rec e2 (by simp) λh3 e3 s3=>?_)
 have s3:aG e h2 h3:=s3
 have e3:IsEnum h3 e I ((k:Int) + 1) old:=e3
 refine ak (m:=newTuple [.int k tk,x]) (wpAny_newTuple ?_)
 have z3:h3.objs.size=hp.objs.size:=by rw [s3.1,s2.1,s1.1]
 have e4:IsEnum (h3.push { cls := .type "tuple",data := .seq #[.int k tk,x] }) e I ((k:Int) + 1) old:=aq _ e3
 have t4:(h3.push { cls := .type "tuple",data := .seq #[.int k tk,x] }).get? hp.objs.size=some { cls := .type "tuple",data := .seq #[.int k tk,x] }:=by rw [<-z3];exact au _ rfl
 have k4:∀ b o,b≠e->b≠I->hp.get? b=some o->(h3.push { cls := .type "tuple",data := .seq #[.int k tk,x] }).get? b=some o:=λb o n1 n2 q=>aq _ (s3.extBut b o n1 (s2.extBut b o n1 (s1.extBut b o n2 q)))
 have i4:sIt tp (h3.push { cls := .type "tuple",data := .seq #[.int k tk,x] }) I l (k + 1):=i1.mv λo q=>aq _ (s3.extBut _ o ne.symm (s2.extBut _ o ne.symm q))
 rw [z3]
 generalize h3.push { cls := .type "tuple",data := .seq #[.int k tk,x] }=h4 at e4 t4 k4 i4
 show wpAny _ _ (_ >>= _) _ _ ⟨h4,g,d,tk + 1,os⟩
 refine ak (m:=Builtin.SmallTypes.ownedTupleIsFree (.ref e)) ?_
 unfold Builtin.SmallTypes.ownedTupleIsFree
 refine ak (wpAny_field e4 rfl (x := .none) rfl (ao ?_))
 simp only [if_true]
 refine ak (wpAny_rule (ak (wpAny_field e4 rfl (x:=old) rfl (ak (wpAny_setField_rec e4 (by simp) λh5 e5 s5=>?_)))))
 have s5:aG e h4 h5:=s5
 have e5:IsEnum h5 e I ((k:Int) + 1) x:=e5
 refine ak (m:=Builtin.SmallTypes.ownedTupleHandOut (.ref e) (.ref hp.objs.size)) ?_
 unfold Builtin.SmallTypes.ownedTupleHandOut
 refine ak (wpAny_setField_rec e5 (by simp) λh6 e6 s6=>?_)
 have s6:aG e h5 h6:=s6
 have e6:IsEnumOut h6 e I ((k:Int) + 1) x hp.objs.size:=e6
 refine wpAny_setField_rec e6 (by simp) λh7 e7 s7=>ak (wpAny_letGo (ao ?_))
 have s7:aG e h6 h7:=s7
 have up:∀ b o,b≠e->h4.get? b=some o->h7.get? b=some o:=λb o n q=>s7.extBut b o n (s6.extBut b o n (s5.extBut b o n q))
 exact ⟨_,rfl,hQ h7 e7 (i4.mv λo q=>up _ o ne.symm q) (up _ _ nl t4) λb o n1 n2 q=>up b o n1 (k4 b o n1 n2 q)⟩
theorem nX {e I l:Addr}{k:Nat}{xs:Array Value}{x old:Value}{Q:Option Value->Shared->Prop}(he:IsEnum s.heap e I k old) (it:sIt tp s.heap I l k) (ob:sOb tp s.heap l xs) (hx:xs[k]?=some x) (ne:e≠I)
  (hQ:∀ h',IsEnumOut h' e I ((k:Int) + 1) x s.heap.objs.size->sIt tp h' I l (k + 1)->h'.get? s.heap.objs.size=some { cls := .type "tuple",data := .seq #[.int k s.toks,x] }->(∀ b o,b≠e->b≠I->s.heap.get? b=some o->h'.get? b=some o)->Q (some (.ref s.heap.objs.size)) { s with heap:=h',toks:=s.toks + 1 }) :
  wpAny (model P w) A (pyNext (.ref e)) Q E s:=by
 have ty:s.TypeIs (.ref e) "enumerate" := ⟨_,he,rfl⟩
 unfold pyNext
 exact ak (wpAny_attempt (wpAny_callSpecial?_slot (name:=Str.ofString "__next__") ty PySem.F.slot_enumerate_next (wpAny_call_entry PySem.F.slot_enumerate_next ty PySem.F.entry_enumerate_next (nW he it ob hx ne λh' a b c k=>ao (hQ h' a b c k)) (PySem.F.args_enumerate_next_1 _))))
theorem nY {e I l:Addr}{k:Nat}{xs:Array Value}{old:Value}{Q:Option Value->Shared->Prop}(hh:A.handled=none) (he:IsEnum s.heap e I k old) (it:sIt tp s.heap I l k) (ob:sOb tp s.heap l xs) (hx:xs[k]?=none)
  (hQ:∀ h',Heap.ExtBut I s.heap h'->Q none { s with heap:=h' }):wpAny (model P w) A (pyNext (.ref e)) Q E s:=by
 have ty:s.TypeIs (.ref e) "enumerate" := ⟨_,he,rfl⟩
 unfold pyNext
 refine ak (wpAny_attempt (wpAny_callSpecial?_slot (name:=Str.ofString "__next__") ty PySem.F.slot_enumerate_next (wpAny_call_entry PySem.F.slot_enumerate_next ty PySem.F.entry_enumerate_next ?_ (PySem.F.args_enumerate_next_1 _))))
 refine ak (m:=field (.ref e) 2) (wpAny_field he rfl (x := .ref I) rfl (ak (BD hh it ob hx λh' x a ⟨o,ho,hc⟩=>?_)))
 exact ak (wpAny_isInstance (T := "StopIteration") (b:=true) ⟨o,ho,hc⟩ isSubtype_stop (ao (hQ _ a)))
noncomputable def enH (h:Heap) (tp:Bool) (l:Addr):Heap:=(h.push (itO tp l)).push { cls := .type "enumerate",data := .fields #[.none,.bool false,.ref h.objs.size,rawInt 0,.none,.none] }
theorem iX (tp:Bool) (l:Addr) (xs:Array Value) :
  Meets (Builtin.«enumerate.__new__» ⟨[.type "enumerate",.ref l],[]⟩) (λ_ R s=>sOb tp s.heap l xs/\R (.ok (.ret (.ref (s.heap.push (itO tp l)).objs.size))) { s with heap:=enH s.heap tp l }) :=
 .of_wp λP w A R s h=>by
  obtain ⟨hp,g,d,tk,os⟩:=s
  obtain ⟨o1,h⟩:=h
  have sub:=sub_enumerate
  have k1:sOb tp (Shared.heap ⟨hp,g,d,tk,os⟩) l xs:=o1
  obtain ⟨⟨c,dc,dt,sl⟩,hl,hcls⟩:∃ o,hp.get? l=some o/\o.cls = .type (if tp=true then "tuple" else "list"):=by cases tp <;> exact let ⟨o,ho,hc,_⟩:=o1;⟨o,ho,hc⟩
  have hcls:c=_:=hcls
  subst hcls
  cases tp with
  | false =>
   wp_walk using AutoSeq1.wpAny_loadPart' hl
   refine wpAny_stack_any λst=>ao ?_
   split
   ·rename_i c _ _ _ _ _
    cases (c == Value.type "enumerate") <;> (wp_walk using AutoSeq1.wpAny_loadPart' hl,QW k1;exact ⟨_,rfl,h⟩)
   ·wp_walk using AutoSeq1.wpAny_loadPart' hl,QW k1
    exact ⟨_,rfl,h⟩
  | true =>
   wp_walk using AutoSeq1.wpAny_loadPart' hl
   refine wpAny_stack_any λst=>ao ?_
   split
   ·rename_i c _ _ _ _ _
    cases (c == Value.type "enumerate") <;> (wp_walk using AutoSeq1.wpAny_loadPart' hl,QW k1;exact ⟨_,rfl,h⟩)
   ·wp_walk using AutoSeq1.wpAny_loadPart' hl,QW k1
    exact ⟨_,rfl,h⟩
end
theorem nZ (ob:sOb tp s.heap l xs)
  (h:∀ h',IsEnum h' (s.heap.objs.size + 1) s.heap.objs.size 0 .none->sIt tp h' s.heap.objs.size l 0->(∀ b o,s.heap.get? b=some o->h'.get? b=some o)->Q (.ref (s.heap.objs.size + 1)) { s with heap:=h' }) :
  wpAny (model P w) A (call (.type "enumerate") [.ref l]) Q E s:=by
 refine callType_new PySem.F.called_enumerate (by decide) (PySem.F.typeCall_enumerate_1 _) (PySem.F.newCall_enumerate_1 _) (λobj=>PySem.F.args_object_init_2 obj _) PySem.F.entry_enumerate_new (iX tp l xs) ⟨ob,?_⟩
 have z:(s.heap.push (itO tp l)).objs.size=s.heap.objs.size + 1:=Heap.size_push ..
 have e1:(enH s.heap tp l).get? (s.heap.push (itO tp l)).objs.size=some _:=au _ rfl
 have e2:(enH s.heap tp l).get? s.heap.objs.size=some (itO tp l):=aq _ (au _ (by cases tp <;> rfl))
 rw [z] at e1 ⊢
 have f:sIt tp (enH s.heap tp l) s.heap.objs.size l 0:=by cases tp <;> exact ⟨_,e2,rfl,rfl⟩
 exact ⟨⟨_,e1,rfl⟩,h _ e1 f λb o q=>aq _ (aq _ q)⟩
noncomputable def ItB (tp:Bool) (K:aj) (a:Addr):It :=
  ⟨λi H=>∃ xs x,SqB tp K H a xs/\xs[i]?=some x,
   λi H x H'=>∃ p y,x = .ref p/\H p=none/\H'=upd H p (.tup [.int i,y])/\∀ xs,SqB tp K H a xs->xs[i]?=some y,
   λi H=>∃ xs,SqB tp K H a xs/\xs.length<=i⟩
theorem rZ {K:aj}{tpos:Pos}(a e it:Addr) (hne:e≠it) :
    Turn P w K (.Tuple elts x1 tpos) (ItB tp K a) [e,it] e (λi h=>(∃ old,IsEnum h e it i old)/\sIt tp h it a i) where
  mem:=by simp
  obj:=λi h st b hb=>by
    obtain ⟨⟨old,h1⟩,st2⟩:=st
    obtain ⟨o,h2,d⟩:=st2.at
    have e:b=e\/b=it:=by simpa using hb
    rcases e with rfl | rfl
    · exact ⟨_,h1,λv z=>by
        have z':Data.fields _=Data.cell v:=z
        cases z'⟩
    · exact ⟨o,h2,λv z=>by rw [d] at z;cases z⟩
  keep:=λi h h' st k=>by
    obtain ⟨⟨old,h1⟩,h2⟩:=st
    exact ⟨⟨old,k e (by simp) _ h1⟩,h2.mv λo q=>k it (by simp) o q⟩
  item:=by
    intro X hP hw hK hc i pins s σ H E I hf st hg
    subst hP hw hK
    obtain ⟨⟨old,h1⟩,h2⟩:=st
    obtain ⟨xs,x,hq,hx⟩:=hg
    obtain ⟨its,rv,p,hz⟩:=I.sq hq
    obtain ⟨u,hu,ru⟩:=rv.get hx
    obtain ⟨f0,f1,f2,f3,f4,f5⟩:=hf e (by simp)
    obtain ⟨g0,g1,g2,g3,g4,g5⟩:=hf it (by simp)
    refine nX h1 h2 p (x:=u) (by simpa using hu) hne λh' a1 a2 a3 a5=>?_
    refine ⟨_,rfl,wpAny_letOwnedTupleGo_enum a1 λh'' b1 b2=>?_⟩
    have hpe:s.heap.objs.size≠e:=Nat.ne_of_gt (az h1)
    have hpi:s.heap.objs.size≠it:=by
      obtain ⟨o,h2',_⟩:=h2.at
      exact Nat.ne_of_gt (az h2')
    have hie:it≠e:=Ne.symm hne
    have hp0:H s.heap.objs.size=none:=I.fresh
    have kp:∀ b o,b≠e->b≠it->s.heap.get? b=some o->h''.get? b=some o:=λb o z1 z2 q=>(b2.2 b z1).trans (a5 b o z1 z2 q)
    have tp:h''.get? s.heap.objs.size=some { cls := .type "tuple",data := .seq #[.int i s.toks,u] }:=(b2.2 _ hpe).trans a3
    refine ⟨.ref s.heap.objs.size,upd H s.heap.objs.size (.tup [.int i,x]),?_,rfl,⟨_,x,rfl,hp0,rfl,λys hy=>by rw [I.BE hy hq];exact hx⟩,⟨⟨u,b1⟩,a2.mv λo q=>(b2.2 it hie).trans q⟩,λb hb=>?_⟩
    · -- both records have turned,a tuple is laid
      have nt:∀ b o,H b=some o->b≠e/\b≠it:=λb o q=>⟨ZC q f0,ZC q g0⟩
      have ok':HOk X.prog X.w (upd H s.heap.objs.size (.tup [.int i,x])) h'':=λb o q=>by
        by_cases hb:b=s.heap.objs.size
        · subst hb
          rw [Zy] at q
          cases q
          exact ⟨by show 2<=aA;decide,[.int i s.toks,u],.cons ⟨_,rfl⟩ (.cons ru .nil),_,tp,rfl,0,rfl⟩
        · rw [Zj hb] at q
          refine (I.hok b o q).stay (λc v hc q'=>kp c v ?_ ?_ q') (λc q'=>by rw [Zj (ZC q' hp0)];exact q') λc zs q'=>by rw [Zj (ZC q' hp0)];exact q'
          · rcases hc with rfl | hc
            · exact (nt _ _ q).1
            · exact (nt _ _ hc).1
          · rcases hc with rfl | hc
            · exact (nt _ _ q).2
            · exact (nt _ _ hc).2
      have hL:X.env.locals≠s.heap.objs.size:=by
        obtain ⟨m,⟨o,_,_,ho,_⟩,_⟩:=id I.loc
        exact Nat.ne_of_lt (az ho)
      have I3:Inv X pins σ (upd H s.heap.objs.size (.tup [.int i,x])) { s with heap:=h'',gens:=s.gens,drawn:=s.drawn,toks:=s.toks + 1 }:=by
       refine Inv.step (s:=s) I (g':=s.gens) (d':=s.drawn) (ch:=[e,it]) (λb hb=>?_) (λb o _ _ hc q _=>kp b o (λz=>hc (by simp [z])) (λz=>hc (by simp [z])) q)
        (λb o _ _ hc q _=>⟨o.slots,kp b o (λz=>hc (by simp [z])) (λz=>hc (by simp [z])) q⟩)
        (λb o _ q n=>by rw [Zj (Nat.ne_of_lt (az q))];exact n)
        (λb o hc q=>⟨o,kp b o (λz=>hc (by simp [z])) (λz=>hc (by simp [z])) q⟩)
        (λb zs q=>by rw [Zj (ZC q hp0)];exact q) (λb ob zs q=>by rw [Zj (ZC q hp0)];exact q)
        (λb ps q=>⟨#[],by rw [Zj (ZC q hp0),q];simp⟩) (λm hm=>?_) ok' I.bare
       · have z:b=e\/b=it:=by simpa using hb
         rcases z with rfl | rfl
         · exact ⟨f3,f1,f4,f5⟩
         · exact ⟨g3,g1,g4,g5⟩
       · obtain ⟨o,es,ep,ho,r⟩:=hm
         exact ⟨o,es,ep,kp _ o (Ne.symm f1) (Ne.symm g1) ho,r⟩
      exact I3
    · have z:b=e\/b=it:=by simpa using hb
      rcases z with rfl | rfl
      · rw [Zj (Ne.symm hpe)];exact f0
      · rw [Zj (Ne.symm hpi)];exact g0
  done:=by
    intro X hP hw hK hc i pins s σ H E I hf st hg
    subst hP hw hK
    obtain ⟨⟨old,h1⟩,h2⟩:=st
    obtain ⟨xs,hq,hx⟩:=hg
    obtain ⟨its,rv,p,hz⟩:=I.sq hq
    obtain ⟨g0,g1,g2,g3,g4,g5⟩:=hf it (by simp)
    have hl:=rv.length
    exact nY (I.ok.hd hc) h1 h2 p (by simp;omega) λh' eb=>⟨rfl,I.turned (t':=s.toks) (λb o hb e=>eb b o hb e) g0 g1 g3 g4 g5⟩
  self:=λ_ _ _ _ _ st h=>by
    obtain ⟨⟨old,h1⟩,h2⟩:=st
    exact wpAny_pyIter_enum h1 h
section
noncomputable def iEnB (K:aj) (ta:TA):TI:=λσ H R=>ta σ H λvs H1=>∃ a tp,vs=[.ref a]/\(∃ xs,SqB tp K H1 a xs)/\R (ItB tp K a) H1
theorem iY {p pos:Pos}{tpos:Pos}(hg:Gl X "enumerate") (hm:X.mg "enumerate" = none) (ha:PA X [a] ta) (hs:autoParam (starEach [a] X.env=[(false,eval a X.env)]) auR) :
  PI X (.Tuple elts x1 tpos) (.Call (.Name "enumerate" p) [a] [] pos) (iEnB X.K ta):=by
 intro pins s σ H R I h
 refine Call_ (ML I hg hm boot_enumerate (PyProof.Rows.callWith_type1 (thn (ha pos pins s σ H _ I h) λus s1 zq=>?_) hs rfl))
 obtain ⟨vs,H1,I1,r1,q1⟩:=zq
 obtain ⟨l,tp,e,⟨xs,hq⟩,q⟩:=q1
 subst e
 obtain ⟨u,rfl,ru⟩:=vals1 r1
 cases ru
 obtain ⟨its,rv,p,hz⟩:=I1.sq hq
 refine nZ p λh' c1 c2 c4=>?_
 refine wpAny_pyIter_enum c1 ?_
 have I2:Inv X pins σ H1 { s1 with heap:=h' }:=I1.kept (t':=s1.toks) c4
 refine ⟨_,[s1.heap.objs.size + 1,s1.heap.objs.size],_,_,H1,rfl,I2,rZ l _ _ (Nat.succ_ne_self _),⟨⟨_,c1⟩,c2⟩,λb hb=>?_,q⟩
 have z:b=s1.heap.objs.size + 1\/b=s1.heap.objs.size:=by simpa using hb
 rcases z with rfl | rfl
 ·exact I1.CM (Nat.le_succ _) (I1.hok.fresh (Nat.le_succ _))
 ·exact I1.CM (Nat.le_refl _) (I1.hok.fresh (Nat.le_refl _))
end
theorem qa {K:aj}(h:SqB tp K W0 a vs) (r:Rps K W0 xs vs):Walks K (ItB tp K a) (Qf xs) W0:=by
 intro i H0 H s0 s
 have hs:SqB tp K H a vs:=h.same (s0.trans s)
 have hl:(Qf xs).length=xs.length:=by unfold Qf;simp
 refine ⟨λhi=>?_,λhi=>⟨vs,hs,by rw [r.length];rw [hl] at hi;exact hi⟩⟩
 rw [hl] at hi
 obtain ⟨v,e,rv⟩:=r.get (aC hi)
 refine ⟨⟨vs,v,hs,e⟩,λx H' y=>?_⟩
 obtain ⟨p,w,rfl,hp,rfl,y⟩:=y
 have:=y vs hs
 rw [e] at this
 cases this
 refine ⟨upd H0 p (.tup [.int i,v]),.put s hp,.tup [.int i,xs[i]],?_,?_⟩
 ·unfold Qf
  rw [List.getElem?_mapIdx,aC hi]
  rfl
 ·exact Ot (xs:=[.int i,xs[i]]) ⟨_,_,rfl,rfl,_,_,rfl,rv.same s0,rfl⟩ (s.free hp)
section
noncomputable def D.sqQ:D->(List D->Prop)->Prop
 | .lst xs,q=>q xs
 | .scr xs,q=>q xs
 | .tup xs,q=>q xs
 | _,_=>False
theorem D.iZ {d:D}(h:d.sqQ q):∃ xs,d.sq=some xs/\q xs:=by
 unfold D.sqQ at h
 split at h
 ·exact ⟨_,rfl,h⟩
 ·exact ⟨_,rfl,h⟩
 ·exact ⟨_,rfl,h⟩
 ·exact h.elim
theorem z_sqL:(D.lst xs).sqQ q=q xs:=rfl
theorem z_sqT:(D.tup xs).sqQ q=q xs:=rfl
noncomputable def dEnB (da:DA):DI:=λds q x=>da ds (λxs=>lC xs λd r=>lz 0 r (d.sqQ λys=>q (Qf ys))) x
theorem qb {x1}{tpos:Pos}(hg:Gl X "enumerate") (hm:X.mg "enumerate" = none) (ha:JAs X XE [a] da) (hs:autoParam (starEach [a] X.env=[(false,eval a X.env)]) auR):JI X XE (.Tuple elts x1 tpos) (.Call (.Name "enumerate" p) [a] [] pos) (dEnB da):=by
 obtain ⟨ta,p,d⟩:=ha.ex
 refine ⟨_,iY hg hm p hs,λc h k kx=>d c h (λvs xs H1 H2 e r h=>?_) kx⟩
 obtain ⟨y,ys,rfl,h1⟩:=zT h
 obtain ⟨z,h2⟩:=Ga h1
 cases eq_nil_of_length_eq_zero z
 obtain ⟨zs,h3,h4⟩:=D.iZ h2
 obtain ⟨v,rfl,rv⟩:=Tu r
 obtain ⟨tp,a,ws,rfl,h5,h6⟩:=rM rv h3
 exact ⟨a,tp,rfl,⟨ws,h5.same e.sub⟩,k _ _ _ _ e (qa h5 h6) h4⟩
end
noncomputable def rAdd0 (K:aj):R2:=λx y H Q=>∃ a b ys,x = .ref a/\y = .ref b/\SqT K H a []/\SqT K H b ys/\Q (.ref b) H
theorem md:OpR X (binaryOp .Add) (rAdd0 X.K):=by
 intro pins s σ H x y v u Q I rx ry h
 obtain ⟨a,b,ys,rfl,rfl,ha,hb,q⟩:=h
 cases rx
 cases ry
 obtain ⟨is,r1,p1,_⟩:=I.tuple ha
 obtain ⟨js,r2,p2,_⟩:=I.tuple hb
 cases r1
 obtain ⟨⟨c,dd,dt,sl⟩,ho,hc,n,hd⟩:=p1
 obtain ⟨⟨c2,dd2,dt2,sl2⟩,ho2,hc2,n2,hd2⟩:=p2
 cases show c=_ from hc
 cases show dt=_ from hd
 cases show c2=_ from hc2
 cases show dt2=_ from hd2
 exact concat_meets ⟨_,ho,rfl⟩ ⟨_,ho2,rfl⟩ noFill_tuple_add seq_tuple_add PySem.F.slot_tuple_add PySem.F.entry_tuple_add (PySem.F.args_tuple_add_2 _ _) (tuple_addW0 a b #[] js.toArray n n2 dd dd2 sl sl2 rfl) ⟨ho,ho2,.ref b,H,I,rfl,q⟩
noncomputable def qc:D->D->(D->Prop)->Prop
 | .tup xs,.tup ys=>λq=>xs.length + ys.length<=aA/\q (.tup (xs++ys))
 | _,_=>λ_=>False
theorem hJ:qc (.tup xs) (.tup ys) q=(xs.length + ys.length<=aA/\q (.tup (xs++ys))):=rfl
theorem VG:JOp X (binaryOp .Add) qc:=by
 obtain ⟨r,o,l⟩:=(ZJ (X:=X)).ex
 refine ⟨_,o.or md,λ{H0 H x y a b q Q} s ra rb h k=>?_⟩
 unfold qc at h
 split at h
 ·rename_i xs ys
  cases xs with
  | nil =>
   obtain ⟨a1,vs,rfl,h1,h2⟩:=ra
   obtain ⟨b1,us,rfl,h3,h4⟩:=id rb
   cases show vs=[] from h2
   exact .inr ⟨a1,b1,us,rfl,rfl,SqT.of (s _ _ h1),SqT.of (s _ _ h3),k _ (.tup ys) _ _ (.refl s) rb h.2⟩
  | cons x xs=>exact .inl (l s ra rb ⟨by simp,h⟩ k)
 ·exact h.elim
theorem nDk (a b:List Str) (h:(a++b).Nodup:=by decide +kernel):(a++b).Nodup:=h
section
variable {X:Cx}{XE:St->XK}
theorem ZQ (i:Nat) {x:Str}{pos:Pos}(hN:X.N.Nodup) (hi:autoParam (X.N[i]?=some x) auR) (hx:Loc X.env.scope x:=by first | exact .inl rfl | exact .inr rfl) (hf:X.fn x=true\/X.env.scope.names.lookup x=some .local:=by first | exact .inl rfl | exact .inr rfl | assumption):JG X (.Name x pos) (XJ i):=oh hN hi hx hf
theorem ZR (i:Nat) {x:Str}{e:Expr}{de:DE}{pos pos':Pos}(hN:X.N.Nodup) (he:JE X XE e de) (hi:autoParam (X.N[i]?=some x) auR) (hx:Loc X.env.scope x:=by first | exact .inl rfl | exact .inr rfl) (hs:autoParam (swapsWith e (some (.Name x pos')) pos.line X.env=pure false) auR)
  (hf:X.fn x=true\/X.env.scope.names.lookup x=some .local:=by first | exact .inl rfl | exact .inr rfl | assumption):JS X XE (.Assign [.Name x pos'] e pos) (xr de (XJ i)):=jV hN hi hx he hs hf
theorem Zq {n k:Nat}{f:Addr}{fd:FuncData}{ps:List Str}{x:Str}{st:Stmt}{e:Expr}{es:List Expr}{g:DSp}{p pos:Pos}{da:DA}(F:Zx X.prog X.w X.K X.mg X.base (CXE X.prog X.w) k f fd ps (spD X.K g)) (B:FnB X.K X.mg x st ps f fd) (hr:YZ n X.A) (ha:JAs X XE (e::es) da)
  (hx:Yy X XE:=by first | exact Yr | exact oq | exact yW) (hk:autoParam (k<=n) auD) (hg:autoParam (Gl X x) auR) (hst:autoParam (ZZ (e::es)=true) auR) (hdb:autoParam ((x == ("__debug__" : Str))=false) auD):JE X XE (.Call (.Name x p) (e::es) [] pos) (dCall g da):=Qj F B (hr.mono hk) hx ha hg hst hdb
end
end L2
namespace My
open PySem L2 MA
local macro_rules | `(tactic| walk_at "sc") => `(tactic| exact ⟨rfl, rfl, rfl, by decide +kernel, rfl, by decide +kernel, by decide +kernel⟩)
local macro_rules | `(tactic| walk_at "ln") => `(tactic| (intro xs q x h; repeat (first | (obtain ⟨e, _⟩ := h; subst e; rfl) | obtain ⟨_, h⟩ := h)))
noncomputable def top (i:Nat):Stmt:=PySem.Challenge.pw_kbestwood_k46_grammars_taught.main.body.getD i (.Pass ⟨0,0,0,0⟩)
abbrev YR:Stmt:=inClass (top 37) 0
theorem La:Zh ["self", "title", "head", "parts", "weight", "tag", "under"] ["self", "title", "head", "parts", "weight", "tag", "under"] (Zf YR):=by walk_at "sc"
abbrev Ym:Stmt:=inClass (top 38) 0
theorem Oa:Zh ["self", "scale", "start", "rules"] ["self", "scale", "start", "rules"] (Zf Ym):=by walk_at "sc"
abbrev XY:Stmt:=inClass (top 23) 2
theorem Hq:Zh ["self", "weight"] ["self", "weight"] (Zf XY):=by walk_at "sc"
abbrev Xg:Stmt:=inClass (top 24) 2
theorem KP:Zh ["self", "weight"] ["self", "weight"] (Zf Xg):=by walk_at "sc"
abbrev WQ:Stmt:=top 16
abbrev XZ:List Str:=["one", "other"]
theorem WD:Zh ["one", "other"] XZ (Zf WQ):=by walk_at "sc"
abbrev Ow:Stmt:=top 17
abbrev SE:List Str:=["top", "bottom"]
theorem Qk:Zh ["top", "bottom", "divisor"] SE (Zf Ow):=by walk_at "sc"
abbrev Ox:Stmt:=top 25
abbrev SG:List Str:=["word"]
theorem Dl:Zh ["word"] SG (Zf Ox):=by walk_at "sc"
abbrev Uh:Stmt:=top 31
abbrev WG:List Str:=["sign"]
theorem KQ:Zh ["sign"] WG (Zf Uh):=by walk_at "sc"
abbrev Lb:Stmt:=top 32
abbrev QX:List Str:=["text"]
theorem BK:Zh ["text"] QX (Zf Lb):=by walk_at "sc"
abbrev Lc:Stmt:=top 33
abbrev QY:List Str:=["text"]
theorem BL:Zh ["text"] QY (Zf Lc):=by walk_at "sc"
abbrev Ld:Stmt:=top 34
abbrev QZ:List Str:=["text"]
theorem BM:Zh ["text"] QZ (Zf Ld):=by walk_at "sc"
abbrev Ql:Stmt:=top 35
abbrev UN:List Str:=["parts"]
theorem Fv:Zh ["parts"] UN (Zf Ql):=by walk_at "sc"
abbrev SH:Stmt:=top 36
abbrev VH:List Str:=["titles"]
theorem Hr:Zh ["titles"] VH (Zf SH):=by walk_at "sc"
abbrev YJ:Stmt:=top 39
abbrev Yg:List Str:=["scale", "rules"]
theorem YB:Zh ["scale", "rules", "titles", "rule"] Yg (Zf YJ):=by walk_at "sc"
abbrev XM:Stmt:=top 40
abbrev YT:List Str:=["rules"]
theorem XA:Zh ["rules", "titles", "rule"] YT (Zf XM):=by walk_at "sc"
abbrev Tw:Stmt:=top 41
abbrev WY:List Str:=["start", "rules"]
theorem Ui:Zh ["start", "rules", "heads", "rule"] WY (Zf Tw):=by walk_at "sc"
abbrev Tx:Stmt:=top 42
abbrev WZ:List Str:=["rules"]
theorem Qm:Zh ["rules", "heads"] WZ (Zf Tx):=by walk_at "sc"
abbrev WR:Stmt:=top 43
abbrev Wa:List Str:=["rules"]
theorem ZX:Zh ["rules", "steps", "waiting", "order", "ready", "held"] Wa (Zf WR):=by walk_at "sc"
abbrev Qn:Stmt:=top 44
abbrev UO:List Str:=["grammar", "number", "above"]
theorem NV:Zh ["grammar", "number", "above", "under"] UO (Zf Qn):=by walk_at "sc"
abbrev Oy:Stmt:=top 46
abbrev SJ:List Str:=["tree"]
theorem Vq:Zh ["tree", "numbers", "waiting", "number", "kids"] SJ (Zf Oy):=by walk_at "sc"
abbrev SK:Stmt:=top 47
abbrev VI:List Str:=["grammar", "kind", "above", "thing"]
theorem Tz:Zh ["grammar", "kind", "above", "thing", "number", "kids"] VI (Zf SK):=by walk_at "sc"
abbrev TC:Stmt:=top 48
abbrev Va:List Str:=["grammar", "tree"]
theorem Uj:Zh ["grammar", "tree", "number", "kids"] Va (Zf TC):=by walk_at "sc"
abbrev Qo:Stmt:=top 50
abbrev UQ:List Str:=["grammar", "trees"]
theorem VJ:Zh ["grammar", "trees", "counts", "tree", "number"] UQ (Zf Qo):=by walk_at "sc"
abbrev TF:Stmt:=top 51
abbrev Vb:List Str:=["grammar", "trees"]
theorem IB:Zh ["grammar", "trees"] Vb (Zf TF):=by walk_at "sc"
abbrev Le:Stmt:=top 52
abbrev Pa:List Str:=["grammar", "tree"]
theorem Uk:Zh ["grammar", "tree", "waiting", "part", "above", "thing"] Pa (Zf Le):=by walk_at "sc"
abbrev IC:Stmt:=top 53
abbrev NW:List Str:=["grammar", "trees"]
theorem Sh:Zh ["grammar", "trees", "counts", "heads", "rule", "count"] NW (Zf IC):=by walk_at "sc"
abbrev IE:Stmt:=top 54
abbrev NY:List Str:=["grammar", "trees"]
theorem Pb:Zh ["grammar", "trees", "weights", "kept", "titles"] NY (Zf IE):=by walk_at "sc"
abbrev TH:Stmt:=top 55
abbrev Vc:List Str:=["rule", "weight", "titles"]
theorem Ul:Zh ["rule", "weight", "titles", "under"] Vc (Zf TH):=by walk_at "sc"
abbrev BO:Stmt:=top 57
abbrev Fw:List Str:=["_law_script", "_law_k"]
theorem me:Zh ["_law_script", "_law_k"] Fw (Zf BO):=by walk_at "sc"
abbrev Fx:Stmt:=top 58
abbrev Jx:List Str:=["_law_cell", "_law_k"]
theorem IG:Zh ["_law_cell", "_law_k", "_law_factor", "_law_number"] Jx (Zf Fx):=by walk_at "sc"
abbrev Lf:Stmt:=top 59
abbrev Pg:List Str:=["_law_cell", "_law_many", "_law_firsts"]
theorem Xp:Zh ["_law_cell", "_law_many", "_law_firsts", "_law_rest", "_law_number", "_law_start_here", "_law_tail", "_law_size", "_law_at_here"] Pg (Zf Lf):=by walk_at "sc"
abbrev Lg:Stmt:=top 60
abbrev Ph:List Str:=["_law_script"]
theorem II:Zh ["_law_script", "_law_many"] Ph (Zf Lg):=by walk_at "sc"
abbrev Lh:Stmt:=top 61
abbrev Pj:List Str:=["_law_script"]
theorem BP:Zh ["_law_script"] Pj (Zf Lh):=by walk_at "sc"
abbrev Oz:Stmt:=top 62
abbrev SL:List Str:=["_law_script"]
theorem Dm:Zh ["_law_script"] SL (Zf Oz):=by walk_at "sc"
abbrev OA:Stmt:=top 63
abbrev SM:List Str:=["_law_top", "_law_bottom"]
theorem Wu:Zh ["_law_top", "_law_bottom", "_law_one", "_law_other", "_law_kept_here"] SM (Zf OA):=by walk_at "sc"
abbrev OB:Stmt:=top 64
abbrev SN:List Str:=["_law_cell", "_law_k", "_law_scale"]
theorem Wv:Zh ["_law_cell", "_law_k", "_law_scale", "_law_m", "_law_top", "_law_bottom"] SN (Zf OB):=by walk_at "sc"
abbrev Li:Stmt:=top 65
abbrev Pk:List Str:=["_law_kinds_here", "_law_words_here", "_law_head", "_law_m"]
theorem Wq:Zh ["_law_kinds_here", "_law_words_here", "_law_head", "_law_m", "_law_size", "_law_some", "_law_k"] Pk (Zf Li):=by walk_at "sc"
abbrev Lj:Stmt:=top 66
abbrev Pl:List Str:=["_law_script", "_law_scale"]
theorem ZM:Zh ["_law_script", "_law_scale", "_law_kinds_here", "_law_words_here", "_law_titles_here", "_law_rows", "_law_k", "_law_cell", "_law_m", "_law_tag", "_law_many", "_law_head", "_law_some", "_law_n", "_law_under"] Pl (Zf Lj):=by walk_at "sc"
abbrev Lk:Stmt:=top 67
abbrev Pm:List Str:=["_law_rows", "_law_script", "_law_at_here", "_law_kind", "_law_above"]
theorem Xa:Zh ["_law_rows", "_law_script", "_law_at_here", "_law_kind", "_law_above", "_law_m", "_law_some", "_law_number", "_law_row", "_law_kids", "_law_part"] Pm (Zf Lk):=by walk_at "sc"
abbrev Qp:Stmt:=top 68
abbrev UR:List Str:=["_law_rows", "_law_scale"]
theorem SQ:Zh ["_law_rows", "_law_scale", "_law_rules_here", "_law_row"] UR (Zf Qp):=by walk_at "sc"
abbrev Ln:Stmt:=top 69
abbrev Pn:List Str:=["_law_tree", "_law_cell", "_law_at_here"]
theorem OC:Zh ["_law_tree", "_law_cell", "_law_at_here", "_law_kids", "_law_kid"] Pn (Zf Ln):=by walk_at "sc"
abbrev Vz:Stmt:=top 70
abbrev Wl:List Str:=["_law_script", "_law_rows"]
theorem Yn:Zh ["_law_script", "_law_rows", "_law_trees", "_law_count", "_law_k", "_law_spare", "_law_state", "_law_tree"] Wl (Zf Vz):=by walk_at "sc"
abbrev Lp:Stmt:=top 71
abbrev Pp:List Str:=["_law_script"]
theorem OD:Zh ["_law_script", "_law_scale", "_law_rows"] Pp (Zf Lp):=by walk_at "sc"
abbrev Qq:Stmt:=top 72
abbrev UT:List Str:=["_law_tree", "_law_counts_here"]
theorem NZ:Zh ["_law_tree", "_law_counts_here", "_law_kid"] UT (Zf Qq):=by walk_at "sc"
abbrev OG:Stmt:=top 73
abbrev SR:List Str:=["_law_rows", "_law_trees"]
theorem Qr:Zh ["_law_rows", "_law_trees", "_law_counts_here", "_law_tree"] SR (Zf OG):=by walk_at "sc"
abbrev IJ:Stmt:=top 74
abbrev Ma:List Str:=["_law_rows", "_law_counts_here"]
theorem Ww:Zh ["_law_rows", "_law_counts_here", "_law_titles_here", "_law_kept_here", "_law_row", "_law_count", "_law_of_head", "_law_under"] Ma (Zf IJ):=by walk_at "sc"
abbrev OH:Stmt:=top 75
abbrev SU:List Str:=["_law_found", "_law_rows", "_law_counts_here"]
theorem Qs:Zh ["_law_found", "_law_rows", "_law_counts_here", "_law_told", "_law_one"] SU (Zf OH):=by walk_at "sc"
abbrev Qt:Stmt:=top 76
abbrev UU:List Str:=["_law_rows", "_law_tree", "_law_kind", "_law_above"]
theorem VL:Zh ["_law_rows", "_law_tree", "_law_kind", "_law_above", "_law_row", "_law_part", "_law_kid"] UU (Zf Qt):=by walk_at "sc"
abbrev OI:Stmt:=top 77
abbrev SV:List Str:=["_law_tree", "_law_m"]
theorem Wx:Zh ["_law_tree", "_law_m", "_law_trees", "_law_at_here", "_law_kid", "_law_way"] SV (Zf OI):=by walk_at "sc"
abbrev Qu:Stmt:=top 78
abbrev UW:List Str:=["_law_caught"]
theorem Fy:Zh ["_law_caught"] UW (Zf Qu):=by walk_at "sc"
abbrev Qv:Stmt:=top 79
abbrev UX:List Str:=["_law_grammar_here", "_law_trees", "_law_way"]
theorem VM:Zh ["_law_grammar_here", "_law_trees", "_law_way", "_law_caught", "error"] UX (Zf Qv):=by walk_at "sc"
abbrev Mb:Stmt:=top 80
abbrev qe:List Str:=["_law_script"]
theorem Um:Zh ["_law_script", "_law_rows", "_law_grammar_here", "_law_trees", "_law_m", "_law_at_here", "_law_spoilt_here", "_law_right", "_law_way"] qe (Zf Mb):=by walk_at "sc"
abbrev Yw:Str := "abcdefghijklmnopqrstuvwxyz"
abbrev ZL:Str := "ABCDEFGHIJKLMNOPQRSTUVWXYZ"
abbrev WT:Str := "0123456789"
set_option genSizeOf false in
set_option genInjectivity false in
structure Adr where
 ZY:Addr
 XO:Addr
 C_NoNet:Addr
 Xh:Addr
 YD:Addr
 Xi:Addr
 Yo:Addr
 C_Twice:Addr
 Yv:Addr
 Xj:Addr
 C_Ring:Addr
 Zo:Addr
 C_Cost:Addr
 Yx:Addr
 C_Rule:Addr
 Zt:Addr
 ZU:Addr
 Xw:FuncData
 ZO:Addr
 Wr:FuncData
 YV:Addr
 SW:FuncData
 Ys:Addr
 Uo:FuncData
 Wb:Addr
 WU:FuncData
 SX:Addr
 OJ:FuncData
 SY:Addr
 OL:FuncData
 WH:Addr
 Uq:FuncData
 Pq:Addr
 Lq:FuncData
 Pt:Addr
 Lr:FuncData
 Pu:Addr
 Ls:FuncData
 UY:Addr
 Qw:FuncData
 VN:Addr
 Ra:FuncData
 Yh:Addr
 YK:FuncData
 YW:Addr
 XQ:FuncData
 Vd:Addr
 TJ:FuncData
 Ve:Addr
 TN:FuncData
 Wc:Addr
 WV:FuncData
 UZ:Addr
 Qx:FuncData
 Rb:Addr
 OM:FuncData
 VO:Addr
 Rc:FuncData
 Vf:Addr
 TQ:FuncData
 Ta:Addr
 Qy:FuncData
 Vg:Addr
 TR:FuncData
 Pw:Addr
 Lw:FuncData
 Md:Addr
 IK:FuncData
 Mf:Addr
 IL:FuncData
 Vh:Addr
 TU:FuncData
 f_l_at:Addr
 d_l_at:FuncData
 f_l_mix:Addr
 d_l_mix:FuncData
 Px:Addr
 Lx:FuncData
 Py:Addr
 Ly:FuncData
 Pz:Addr
 Lz:FuncData
 Re:Addr
 OO:FuncData
 Rf:Addr
 OQ:FuncData
 Rg:Addr
 OS:FuncData
 PB:Addr
 LA:FuncData
 PC:Addr
 LD:FuncData
 PD:Addr
 LI:FuncData
 Tb:Addr
 Qz:FuncData
 PF:Addr
 LJ:FuncData
 Wm:Addr
 VA:FuncData
 PH:Addr
 LK:FuncData
 Tc:Addr
 QB:FuncData
 Rh:Addr
 OT:FuncData
 Mg:Addr
 IM:FuncData
 Ri:Addr
 OU:FuncData
 Td:Addr
 QC:FuncData
 Rj:Addr
 OV:FuncData
 Te:Addr
 QD:FuncData
 Tf:Addr
 QF:FuncData
 f_law:Addr
 d_law:FuncData
 YF:Tok
structure Txt (K:aj) (mg:Str->Option Value) (A:Adr):Prop where
 cl_Cost:Cls K A.C_Cost
 M_Cost:mg "Cost" = some (.ref A.C_Cost)
 mk_Cost:MkP K A.C_Cost
 xM:Cls K A.Yx
 qf:mg "Chance" = some (.ref A.Yx)
 LL:MkP K A.Yx
 cl_Rule:Cls K A.C_Rule
 M_Rule:mg "Rule" = some (.ref A.C_Rule)
 mk_Rule:Mk K A.C_Rule A.ZU
 Mh:Xm K A.C_Rule "title"
 KC:Xm K A.C_Rule "head"
 Mi:Xm K A.C_Rule "parts"
 Oe:Xm K A.C_Rule "weight"
 IP:Xm K A.C_Rule "tag"
 Mj:Xm K A.C_Rule "under"
 Ws:Cls K A.Zt
 LN:mg "Grammar" = some (.ref A.Zt)
 Rk:Mk K A.Zt A.ZO
 RK:Xm K A.Zt "scale"
 RL:Xm K A.Zt "start"
 RM:Xm K A.Zt "rules"
 ty_Grammar:zM K A.Zt
 Dn:mg "WoodError" = some (.ref A.ZY)
 qg:mg "NoLine" = some (.ref A.XO)
 M_NoNet:mg "NoNet" = some (.ref A.C_NoNet)
 xN:mg "TooMany" = some (.ref A.Xh)
 LQ:ExB K mg "NoScale" A.YD
 Ur:ExB K mg "NoRule" A.Xi
 OW:ExB K mg "NoWeight" A.Yo
 E_Twice:ExB K mg "Twice" A.C_Twice
 LR:ExB K mg "NoTitle" A.Yv
 QG:ExB K mg "NoKind" A.Xj
 E_Ring:ExB K mg "Ring" A.C_Ring
 WK:ExB K mg "NoTree" A.Zo
 Dp:WCls K A.ZY
 OX:subIn K (.ref A.Zo) (.ref A.ZY)=some true
 BQ:kitOne K (.ref A.Zo) (.ref A.ZY)=some true
 KR:kitOne K (.ref A.Zo) (.ref A.XO)=some false
 IQ:kitOne K (.ref A.Zo) (.ref A.C_NoNet)=some false
 LU:kitOne K (.ref A.Zo) (.ref A.Xh)=some false
 LV:kitOne K (.ref A.Zo) (.ref A.YD)=some false
 KU:kitOne K (.ref A.Zo) (.ref A.Xi)=some false
 Ml:kitOne K (.ref A.Zo) (.ref A.Yo)=some false
 IT:kitOne K (.ref A.Zo) (.ref A.C_Twice)=some false
 LX:kitOne K (.ref A.Zo) (.ref A.Yv)=some false
 KW:kitOne K (.ref A.Zo) (.ref A.Xj)=some false
 Hs:kitOne K (.ref A.Zo) (.ref A.C_Ring)=some false
 KY:kitOne K (.ref A.Zo) (.ref A.Zo)=some true
 xO:kitOne K (.ref A.Zo) (.type "ValueError")=some true
 Mm:kitOne K (.ref A.Zt) (.ref A.Zt)=some true
 YS:EG K "__init__" "Rule.__init__" YR A.ZU A.Xw [.str "" A.YF,.none]
 xP:Binds K A.Xw ["self", "title", "head", "parts", "weight", "tag", "under"] [.none]
 LY:Binds K A.Xw ["self", "title", "head", "parts", "weight", "tag", "under"] [.str "" A.YF,.none]
 xQ:Meth K A.C_Rule "__init__" A.ZU
 Xx:Binds K A.Xw ["self", "title", "head", "parts", "weight", "tag", "under"] []
 Xq:Fun K "__init__" "Grammar.__init__" Ym A.ZO A.Wr
 CC:Meth K A.Zt "__init__" A.ZO
 YL:Binds K A.Wr ["self", "scale", "start", "rules"] []
 VP:Fun K "takes" "Cost.takes" XY A.YV A.SW
 Ht:Meth K A.C_Cost "takes" A.YV
 Rl:Binds K A.SW ["self", "weight"] []
 WL:Fun K "takes" "Chance.takes" Xg A.Ys A.Uo
 KZ:Meth K A.Yx "takes" A.Ys
 Us:Binds K A.Uo ["self", "weight"] []
 Wd:FnB K mg "common_divisor" WQ XZ A.Wb A.WU
 Rm:FnB K mg "fraction" Ow SE A.SX A.OJ
 Rn:FnB K mg "scale_of" Ox SG A.SY A.OL
 WM:FnB K mg "is_name_sign" Uh WG A.WH A.Uq
 VV:FnB K mg "is_name" Lb QX A.Pq A.Lq
 VW:FnB K mg "is_kind" Lc QY A.Pt A.Lr
 VX:FnB K mg "is_word" Ld QZ A.Pu A.Ls
 Tg:FnB K mg "are_parts" Ql UN A.UY A.Qw
 VQ:FnB K mg "are_titles" SH VH A.VN A.Ra
 Yi:FnB K mg "check_weights_and_titles" YJ Yg A.Yh A.YK
 YX:FnB K mg "check_titles_under" XM YT A.YW A.XQ
 Vi:FnB K mg "check_kinds" Tw WY A.Vd A.TJ
 Vj:FnB K mg "check_rings" Tx WZ A.Ve A.TN
 We:FnB K mg "heads_in_order" WR Wa A.Wc A.WV
 Th:FnB K mg "may_stand" Qn UO A.UZ A.Qx
 Ro:FnB K mg "rules_in" Oy SJ A.Rb A.OM
 VR:FnB K mg "rule_fault" SK VI A.VO A.Rc
 Vk:FnB K mg "seated_kids" TC Va A.Vf A.TQ
 Vr:FnB K mg "counts_of" Qo UQ A.Ta A.Qy
 Vl:FnB K mg "check_trees" TF Vb A.Vg A.TR
 PJ:FnB K mg "is_tree" Le Pa A.Pw A.Lw
 QH:FnB K mg "learnt" IC NW A.Md A.IK
 QI:FnB K mg "taught" IE NY A.Mf A.IL
 Vm:FnB K mg "taught_rule" TH Vc A.Vh A.TU
 L_l_at:FnB K mg "_law_at" BO Fw A.f_l_at A.d_l_at
 L_l_mix:FnB K mg "_law_mix" Fx Jx A.f_l_mix A.d_l_mix
 VY:FnB K mg "_law_names" Lf Pg A.Px A.Lx
 PK:FnB K mg "_law_kinds" Lg Ph A.Py A.Ly
 PL:FnB K mg "_law_words" Lh Pj A.Pz A.Lz
 Rq:FnB K mg "_law_titles" Oz SL A.Re A.OO
 Ut:FnB K mg "_law_lowest" OA SM A.Rf A.OQ
 Uu:FnB K mg "_law_weight" OB SN A.Rg A.OS
 PN:FnB K mg "_law_parts" Li Pk A.PB A.LA
 PQ:FnB K mg "_law_rules" Lj Pl A.PC A.LD
 Wf:FnB K mg "_law_grown" Lk Pm A.PD A.LI
 Ti:FnB K mg "_law_grammar" Qp UR A.Tb A.Qz
 Wg:FnB K mg "_law_edged" Ln Pn A.PF A.LJ
 Wn:FnB K mg "_law_drawn_trees" Vz Wl A.Wm A.VA
 PR:FnB K mg "_law_start" Lp Pp A.PH A.LK
 YY:FnB K mg "_law_counted" Qq UT A.Tc A.QB
 Rr:FnB K mg "_law_counts" OG SR A.Rh A.OT
 Mo:FnB K mg "_law_kept" IJ Ma A.Mg A.IM
 Rt:FnB K mg "_law_taught" OH SU A.Ri A.OU
 Vs:FnB K mg "_law_is_tree" Qt UU A.Td A.QC
 Uv:FnB K mg "_law_spoilt" OI SV A.Rj A.OV
 Tj:FnB K mg "_law_no_tree" Qu UW A.Te A.QD
 Tn:FnB K mg "_law_refused" Qv UX A.Tf A.QF
 L_law:FnB K mg "law" Mb qe A.f_law A.d_law
 Ja:∃ t,mg "SMALL_LETTERS" = some (.str Yw t)
 VB:∃ t,mg "GREAT_LETTERS" = some (.str ZL t)
 xR:∃ t,mg "FIGURES" = some (.str WT t)
 IU:∃ t,mg "LONGEST_NAME" = some (.int 12 t)
 Fz:∃ t,mg "MOST_PARTS" = some (.int 4 t)
 b_tuple:mg "tuple" = none
 b_abs:mg "abs" = none
 b_all:mg "all" = none
 ZF:mg "isinstance" = none
 b_str:mg "str" = none
 b_len:mg "len" = none
 b_list:mg "list" = none
 b_set:mg "set" = none
 b_dict:mg "dict" = none
 b_zip:mg "zip" = none
 b_max:mg "max" = none
 b_range:mg "range" = none
 b_int:mg "int" = none
 KD:mg "enumerate" = none
 b_sum:mg "sum" = none
 FA:mg "ValueError" = none
class TxC (K:aj) (A:Adr):Prop where
 ex:∃ mg,Txt K mg A
section
variable {P:Program}{w:World}{K:aj}{mg:Str->Option Value}{base:Heap}
def rdM (s:String):Lean.MacroM (Lean.TSyntax `tactic):=do
 let ls <- (s.splitOn " ").toArray.mapM λn=>`(Lean.Parser.Tactic.simpLemma| $(Lean.mkIdent n.toName):ident)
 `(tactic| simp only [↓zi_t,↓zi_f,$ls,*])
def rd1:String := "dSeq dIf z_sV z_sO z_sS z_aB z_aI z_aT z_lC z_lz z_lzS z_pk z_pkS lF lE rn lD nB nC yo dB dOp dVar dCB zU dNil dRet dC mW xr XJ yf MV ye dTup dLst dTru oT oU oV oW oX oY oZ nc ng nh nq nr nu nv dAnd dOr dNot mR dOrV mS dIfE tI zX mV dNeg dCall dBM tyD tq mX dPar tT tV Bv dPut wApp iP dFz lu si ly dAug dPop ox oy oz oA oB z_ii z_i0 z_mul z_rep z_lt z_le z_gt z_ge z_isN ie ig ik iq ir iu iw iy oC oE oG oH sr su sv oI sx sy sA sC nI oJ oK iz iA iB iC iD iE oM ym oO yn lB sE Fm iG oP oQ oS sF sG sH sI sJ sL sM sN sP sQ sR sU sW sX sY sZ rg rh rj mY mZ dRng2 dEnum Ip dpre tZ peekAt Slot.peek WO zf_c zf_n List.modify List.modifyTailIdx List.modifyTailIdx.go zh_c List.modifyHead_nil zm_c zm_n List.length_cons List.length_nil List.replicate List.cons_append List.nil_append Nat.reduceAdd Nat.reduceSub Nat.zero_add List.getElem?_cons_succ List.getElem?_cons_zero List.set_cons_zero List.set_cons_succ Option.some.injEq Slot.v.injEq Slot.own.injEq Slot.ob.injEq D.int.injEq D.bl.injEq D.str.injEq D.tup.injEq D.lst.injEq D.obj.injEq List.cons.injEq exists_eq_left' exists_eq_left and_true true_and and_assoc exists_eq_right exists_and_left reduceCtorEq false_and and_false exists_false if_true if_false Bool.false_eq_true List.length_map ite_self Option.getD_some Option.getD_none zn_t zn_f decide_true decide_false D.imm D.GX Bool.and_self Bool.and_true Bool.true_and List.lookup ne_eq not_false_eq_true false_or true_or or_true or_false dEnB z_sqL z_sqT hJ"
local macro_rules | `(tactic| walk_at "rd") => rdM rd1
theorem XF {c A B:Prop} [Decidable c] (h1:c->A) (h2:¬ c->B):if decide c=true then A else B:=by
 by_cases hc:c
 ·rw [if_pos (decide_eq_true hc)];exact h1 hc
 ·rw [if_neg (by simp [hc])];exact h2 hc
theorem LZ {c A B:Prop} [Decidable c] (h1:¬ c->A) (h2:c->B):if (!decide c)=true then A else B:=by
 by_cases hc:c
 ·rw [if_neg (by simp [hc])];exact h2 hc
 ·rw [if_pos (by simp [hc])];exact h1 hc
theorem OY {α:Type}{xs:List α}{i:Int}{j:Nat}(e:i=(j:Int)) (h:j < xs.length):atI xs i=some xs[j]:=by
 subst e
 exact Xn (aC h)
theorem Jy {α β:Type}(f:α->β) (ns:List α) (d:α) {i:Int}(h0:0<=i) (h:i < ns.length):atI (ns.map f) i=some (f (ns.getD i.toNat d)):=by
 have hj:i.toNat < ns.length:=by omega
 rw [OY (j:=i.toNat) (by omega) (by rw [length_map];exact hj),List.getElem_map,getD_eq_getElem?_getD,aC hj]
 rfl
theorem qi {α:Type}{ns:List α}{d:α}{P:α->Prop}(j:Nat) (h:∀ n∈ns,P n) (hd:P d):P (ns.getD j d):=by
 rw [getD_eq_getElem?_getD]
 cases q:ns[j]? with
 | none=>exact hd
 | some n=>exact h n (mem_of_getElem? q)
theorem Mp {e:DE}{q:List D->Prop}{n:Nat}{s:L2.Slot}{caps:DSt}(h:Nat->D) (hl:n<=aA)
  (hs:∀ i,i < n->∀ N:D->Prop,N (h i)->e (.v (.int (i:Int))::caps) N (λ_=>False)) (hq:q ((List.range n).map h)):Vp (XJ 0) xu e q (L2.intsFrom 0 n) (s::caps) []:=by
 refine Xv (c:=λi:Nat => .int (0 + (i:Int))) (xs:=List.range n) h (by rw [List.length_range];exact hl) (λi hi N hN=>?_) hq
 rw [Int.zero_add]
 exact hs i (mem_range.mp hi) N hN
noncomputable def atZ (ns:List Int) (k:Int):Int:=ns.getD k.toNat 0
noncomputable def BR:DSp:=λxs q _=>∃ (ns:List Int) (k:Int),xs=[.scr (ns.map .int),.int k]/\0<=k/\q (.int (atZ ns k))
theorem Wh {A:Adr}(T:Txt K mg A):Zx P w K mg base (CXE P w) 1 A.f_l_at A.d_l_at Fw (spD K BR):=by
 haveI:TxC K A:=⟨⟨_,T⟩⟩
 refine T.L_l_at.F.okJ me (by walk_at "ln") (λcdv Ar outer s H E hr=>⟨_,(Za (ZD [] (Zn Ii (jv 1) (Yl Yd (by rfl) T.b_len PySem.boot_len (Zc (jv 0) Zb)) (Zr _)) (Ze (Zm [] (Zg (jv 0) (jv 1)))) Zk)
   (Ze (Zm [] Zd))),λxs q x h=>?_⟩)
 ·obtain ⟨ns,k,rfl,h0,hq⟩:=h
  walk_at "rd"
  refine XF (λh=>?_) (λh=>?_)
  ·have hk:k.toNat < ns.length:=by omega
   refine ⟨_,OY (j:=k.toNat) (by omega) (by rw [length_map];exact hk),?_⟩
   rw [List.getElem_map]
   unfold atZ at hq
   rw [getD_eq_getElem?_getD,aC hk] at hq
   exact hq
  ·unfold atZ at hq
   rw [getD_eq_getElem?_getD,List.getElem?_eq_none (by omega)] at hq
   exact hq
noncomputable def BU (k:Int):Int:=([48271,69621,16807,40692,30269,62089,45991]:List Int).getD (k % 7).toNat 0
noncomputable def mix (c k:Int):Int:=((c % 2147483647 + 97 * k * k + 11) * BU k % 2147483629) * ((c % 2147483647 + 97 * k * k + 11) * BU k % 2147483629) % 1999999973
theorem Rv (c k:Int):0<=mix c k:=Int.emod_nonneg _ (by decide)
theorem OZ (c k:Int):mix c k < 1999999973:=Int.emod_lt_of_pos _ (by decide)
noncomputable def FC:DSp:=λxs q _=>∃ (c k:Int),xs=[.int c,.int k] /\ -(2 ^ 20) < k/\k < 2 ^ 20/\q (.int (mix c k))
theorem XR {A:Adr}(T:Txt K mg A):Zx P w K mg base (CXE P w) 1 A.f_l_mix A.d_l_mix Jx (spD K FC):=by
 haveI:TxC K A:=⟨⟨_,T⟩⟩
 refine T.L_l_mix.F.okJ IG (by walk_at "ln") (λcdv Ar outer s H E hr=>⟨_,(Za (ZR 2 IG.nd (Zg (Vw (Zc Zd (Zc Zd (Zc Zd (Zc Zd (Zc Zd (Zc Zd (Zc Zd Zb)))))))) (Zi Zv (jv 1) Zd)))
   (Za (ZR 3 IG.nd (Zi Zv (Zi Qc (Zi ZJ (Zi ZJ (Zi Zv (jv 0) Zd) (Zi Qc (Zi Qc Zd (jv 1)) (jv 1))) Zd) (jv 2)) Zd))
   (Ze (Zm [] (Zi Zv (Zi Qc (jv 3) (jv 3)) Zd))))),λxs q x h=>?_⟩)
 ·obtain ⟨c,k,rfl,k1,k2,hq⟩:=h
  walk_at "rd"
  have h1:(k % 7).toNat < 7:=by omega
  have e1:k % 7=((k % 7).toNat:Int):=by omega
  refine ⟨by decide,by decide,.int (BU k),?_,?_⟩
  ·exact Jy D.int [48271,69621,16807,40692,30269,62089,45991] 0 (by omega) (by show k % 7 < 7;omega)
  walk_at "rd"
  have f1:0<=BU k/\BU k < 100000:=qi (P:=λn:Int=>0<=n/\n < 100000) _ (by decide) (by decide)
  refine ⟨by decide,.l (by decide) (by decide),.r (by omega) (by omega),.r (by omega) (by omega),by decide,.l ?_ ?_,by decide,hq⟩
  ·have:=Int.emod_nonneg ((c % 2147483647 + 97 * k * k + 11) * BU k) (show (2147483629:Int)≠0 by decide)
   omega
  ·have:=Int.emod_lt_of_pos ((c % 2147483647 + 97 * k * k + 11) * BU k) (show (0:Int) < 2147483629 by decide)
   omega
noncomputable def nmS (c:Nat):Bool:=decide (c∈Yw.cps.toList) || decide (c∈ZL.cps.toList) || decide (c∈WT.cps.toList)
noncomputable def grS (c:Nat):Bool:=decide (c∈ZL.cps.toList)
noncomputable def isNm (x:Str):Bool:=decide (1<=x.length) && decide (x.length<=12) && x.cps.toList.all nmS
noncomputable def fst (x:Str):Nat:=x.cps.toList.getD 0 0
noncomputable def Wy (x:Str):Bool:=isNm x && grS (fst x)
noncomputable def Si (x:Str):Bool:=isNm x && !grS (fst x)
theorem Rx (c:Nat) (j:Str):inS ⟨#[c]⟩ j=decide (c∈j.cps.toList):=by
 unfold inS
 exact StrLaws.found_one _ _
theorem QJ {x:Str}(h:isNm x=true):1<=x.length/\x.length<=12:=by
 unfold isNm at h
 simp only [aF,decide_eq_true_eq] at h
 exact h.1
theorem at0 {x:Str}(h:1<=x.length):atI x.cps.toList 0=some (fst x):=by
 have hl:0 < x.cps.toList.length:=by rw [Array.length_toList];exact h
 refine (OY (i:=0) (j:=0) rfl hl).trans ?_
 unfold fst
 rw [getD_eq_getElem?_getD,aC hl]
 rfl
noncomputable def Uw:DSp:=λxs q _=>∃ c:Nat,xs=[.str ⟨#[c]⟩]/\q (.bl (nmS c))
theorem Jb {c:Nat}{q:D->Prop}{x:Addr->Prop}:Uw [.str ⟨#[c]⟩] q x=q (.bl (nmS c)):=by unfold Uw;simp
theorem Jc {A:Adr}(T:Txt K mg A):Zx P w K mg base (CXE P w) 1 A.WH A.Uq WG (spD K Uw):=by
 haveI:TxC K A:=⟨⟨_,T⟩⟩
 refine T.WM.F.okJ KQ (by walk_at "ln") (λcdv Ar outer s H E hr=>⟨_,(Ze (Zm [] (mU (RH Uc (jv 0) (Xo (.str Yw) (by rfl) T.Ja.choose_spec (show RelV (.str Yw) _ from ⟨_,rfl⟩) (λ_ _=>rfl)) (by with_unfolding_all rfl)) (mU (RH Uc (jv 0) (Xo (.str ZL) (by rfl) T.VB.choose_spec (show RelV (.str ZL) _ from ⟨_,rfl⟩) (λ_ _=>rfl)) (by with_unfolding_all rfl)) (Fd (RH Uc (jv 0) (Xo (.str WT) (by rfl) T.xR.choose_spec (show RelV (.str WT) _ from ⟨_,rfl⟩) (λ_ _=>rfl)) (by with_unfolding_all rfl))))))),λxs q x h=>?_⟩)
 ·obtain ⟨c,rfl,hq⟩:=h
  walk_at "rd"
  unfold nmS at hq
  rw [Rx,Rx,Rx]
  generalize decide (c∈Yw.cps.toList)=b1 at hq ⊢
  generalize decide (c∈ZL.cps.toList)=b2 at hq ⊢
  cases b1 <;> cases b2 <;> exact hq
noncomputable def PU:DSp:=λxs q _=>∃ z:Str,xs=[.str z]/\z.length<=aA/\q (.bl (isNm z))
theorem BV {z:Str}{q:D->Prop}{x:Addr->Prop}:PU [.str z] q x=(z.length<=aA/\q (.bl (isNm z))):=by unfold PU;simp
theorem Nb {A:Adr}(T:Txt K mg A):Zx P w K mg base (CXE P w) 2 A.Pq A.Lq QX (spD K PU):=by
 haveI:TxC K A:=⟨⟨_,T⟩⟩
 refine T.VV.F.okJ BK (by walk_at "ln") (λcdv Ar outer s H E hr=>⟨_,(Za (ZD [] (Tt (Sa (Yk (ZS (Yl (XI (K:=K) rfl) (by rfl) T.ZF PyProof.Rows.boot_isinstance (Zc (jv 0) (Zc (Wp (n := "str") (by rfl) T.b_str PyProof.Rows.boot_str) Zb))))) (Ub (Yk (NM Gb Gb Zd (Yl Yd (by rfl) T.b_len PySem.boot_len (Zc (jv 0) Zb)) (Xo (.int 12) (by rfl) T.IU.choose_spec (show RelV (.int 12) _ from ⟨_,rfl⟩) (λ_ _=>rfl))))))) (Ze (Zm [] TZ)) Zk)
   (Ze (Zm [] (Yl MT (by rfl) T.b_all PyProof.Rows.boot_all (Zc (Ye ["sign"] [] [] (jX (jv 0)) (λ_=>(ZQ 0 (nDk ["sign"] []))) (λ_=>Yz) (λ_=>(Zq (Jc T) T.WM hr (Zc (jv 0) Zb)))) Zb))))),λxs q x h=>?_⟩)
 ·obtain ⟨z,rfl,hz,hq⟩:=h
  walk_at "rd"
  have kf:isNm z=false->q (.bl false):=λe=>by rw [<-e];exact hq
  refine ⟨hz,XF (λh1=>LZ (λh2=>kf ?_) (λh2=>?_)) (λh1=>kf ?_)⟩
  ·unfold isNm;rw [decide_eq_false (show ¬ z.length<=12 by omega)];simp
  ·refine Xv (c:=λc => .str ⟨#[c]⟩) (xs:=z.cps.toList) (λc => .bl (nmS c)) (by rw [Array.length_toList];exact hz) (λc _ N hN=>?_) ?_
   ·exact ⟨c,rfl,hN⟩
   ·rw [Fm]
    unfold isNm at hq
    rw [decide_eq_true (show 1<=z.length by omega),decide_eq_true (show z.length<=12 by omega)] at hq
    exact hq
  ·unfold isNm;rw [decide_eq_false (show ¬ 1<=z.length by omega)];simp
noncomputable def Ka:DSp:=λxs q _=>∃ z:Str,xs=[.str z]/\z.length<=aA/\q (.bl (Wy z))
theorem BW {z:Str}{q:D->Prop}{x:Addr->Prop}:Ka [.str z] q x=(z.length<=aA/\q (.bl (Wy z))):=by unfold Ka;simp
theorem Nf {A:Adr}(T:Txt K mg A):Zx P w K mg base (CXE P w) 3 A.Pt A.Lr QY (spD K Ka):=by
 haveI:TxC K A:=⟨⟨_,T⟩⟩
 refine T.VW.F.okJ BL (by walk_at "ln") (λcdv Ar outer s H E hr=>⟨_,(Ze (Zm [] (Bq (Zq (Nb T) T.VV hr (Zc (jv 0) Zb)) (Fd (RH Uc (Zg (jv 0) Zd) (Xo (.str ZL) (by rfl) T.VB.choose_spec (show RelV (.str ZL) _ from ⟨_,rfl⟩) (λ_ _=>rfl)) (by with_unfolding_all rfl)))))),λxs q x h=>?_⟩)
 ·obtain ⟨z,rfl,hz,hq⟩:=h
  walk_at "rd"
  refine ⟨z,rfl,hz,?_⟩
  simp only [z_aB]
  unfold Wy at hq
  cases hn:isNm z with
  | false=>rw [hn] at hq;exact hq
  | true =>
   rw [if_pos rfl]
   refine ⟨hz,fst z,at0 (QJ hn).1,?_⟩
   rw [Rx]
   rw [hn] at hq
   exact hq
noncomputable def PV:DSp:=λxs q _=>∃ z:Str,xs=[.str z]/\z.length<=aA/\q (.bl (Si z))
theorem BX {z:Str}{q:D->Prop}{x:Addr->Prop}:PV [.str z] q x=(z.length<=aA/\q (.bl (Si z))):=by unfold PV;simp
theorem Ng {A:Adr}(T:Txt K mg A):Zx P w K mg base (CXE P w) 3 A.Pu A.Ls QZ (spD K PV):=by
 haveI:TxC K A:=⟨⟨_,T⟩⟩
 refine T.VX.F.okJ BM (by walk_at "ln") (λcdv Ar outer s H E hr=>⟨_,(Ze (Zm [] (Bq (Zq (Nb T) T.VV hr (Zc (jv 0) Zb)) (Fd (RH Qd (Zg (jv 0) Zd) (Xo (.str ZL) (by rfl) T.VB.choose_spec (show RelV (.str ZL) _ from ⟨_,rfl⟩) (λ_ _=>rfl)) (by with_unfolding_all rfl)))))),λxs q x h=>?_⟩)
 ·obtain ⟨z,rfl,hz,hq⟩:=h
  walk_at "rd"
  refine ⟨z,rfl,hz,?_⟩
  simp only [z_aB]
  unfold Si at hq
  cases hn:isNm z with
  | false=>rw [hn] at hq;exact hq
  | true =>
   rw [if_pos rfl]
   refine ⟨hz,fst z,at0 (QJ hn).1,?_⟩
   rw [Rx]
   rw [hn] at hq
   exact hq
noncomputable def Vn (zs:List Str):Bool:=decide (1<=zs.length) && decide (zs.length<=4) && zs.all isNm
noncomputable def XS (zs:List Str):Bool:=decide (1<=zs.length) && zs.all Si
noncomputable def Fits (zs:List Str):Prop:=zs.length<=1000/\∀ z∈zs,z.length<=1000
noncomputable def isSeq (d:D) (zs:List Str):Prop:=d = .lst (zs.map .str)\/d = .tup (zs.map .str)
noncomputable def KG:DSp:=λxs q _=>∃ d zs,xs=[d]/\isSeq d zs/\Fits zs/\q (.bl (Vn zs))
theorem FD {A:Adr}(T:Txt K mg A):Zx P w K mg base (CXE P w) 3 A.UY A.Qw UN (spD K KG):=by
 haveI:TxC K A:=⟨⟨_,T⟩⟩
 refine T.Tg.F.okJ Fv (by walk_at "ln") (λcdv Ar outer s H E hr=>⟨_,(Za (ZD [] (Tt (Sa (Yk (ZS (Yl (XI (K:=K) rfl) (by rfl) T.ZF PyProof.Rows.boot_isinstance (Zc (jv 0) (Zc (ZW (Zc (Wp (n := "list") (by rfl) T.b_list PyProof.Rows.boot_list) (Zc (Wp (n := "tuple") (by rfl) T.b_tuple PyProof.Rows.boot_tuple) Zb))) Zb))))) (Ub (Yk (NM Gb Gb Zd (Yl Yd (by rfl) T.b_len PySem.boot_len (Zc (jv 0) Zb)) (Xo (.int 4) (by rfl) T.Fz.choose_spec (show RelV (.int 4) _ from ⟨_,rfl⟩) (λ_ _=>rfl))))))) (Ze (Zm [] TZ)) Zk)
   (Ze (Zm [] (Yl MT (by rfl) T.b_all PyProof.Rows.boot_all (Zc (Ye ["part"] [] [] (Yb (jv 0)) (λ_=>(ZQ 0 (nDk ["part"] []))) (λ_=>Yz) (λ_=>(Zq (Nb T) T.VV hr (Zc (jv 0) Zb)))) Zb))))),λxs q x h=>?_⟩)
 ·obtain ⟨d,zs,rfl,hd,⟨hf1,hf2⟩,hq⟩:=h
  have hsz:aA=16777216:=rfl
  have kf:Vn zs=false->q (.bl false):=λe=>by rw [<-e];exact hq
  have fin:(decide ((1:Int)<=zs.length)=true->decide ((zs.length:Int)<=4)=true->Vp (XJ 0) xu (dCall PU (zU (dVar 0) dNil)) (λxs=>xn [D.lst xs] q) (zs.map .str) [.un] []):=by
   intro h1 h2
   simp only [decide_eq_true_eq] at h1 h2
   refine Xv (λz => .bl (isNm z)) (by omega) (λz hz N hN=>⟨z,rfl,by have:=hf2 z hz;omega,hN⟩) ?_
   rw [Fm]
   unfold Vn at hq
   rw [decide_eq_true (show 1<=zs.length by omega),decide_eq_true (show zs.length<=4 by omega)] at hq
   exact hq
  rcases hd with rfl | rfl
  all_goals
   walk_at "rd"
   refine ⟨by decide,XF (λh1=>LZ (λh2=>kf ?_) (λh2=>?_)) (λh1=>kf ?_)⟩
   ·unfold Vn;rw [decide_eq_false (show ¬ zs.length<=4 by omega)];simp
   ·exact fin (decide_eq_true h1) (decide_eq_true h2)
   ·unfold Vn;rw [decide_eq_false (show ¬ 1<=zs.length by omega)];simp
noncomputable def FE:DSp:=λxs q _=>∃ d zs,xs=[d]/\isSeq d zs/\Fits zs/\q (.bl (XS zs))
theorem Hu {A:Adr}(T:Txt K mg A):Zx P w K mg base (CXE P w) 4 A.VN A.Ra VH (spD K FE):=by
 haveI:TxC K A:=⟨⟨_,T⟩⟩
 refine T.VQ.F.okJ Hr (by walk_at "ln") (λcdv Ar outer s H E hr=>⟨_,(Za (ZD [] (Tt (Sa (Yk (ZS (Yl (XI (K:=K) rfl) (by rfl) T.ZF PyProof.Rows.boot_isinstance (Zc (jv 0) (Zc (ZW (Zc (Wp (n := "list") (by rfl) T.b_list PyProof.Rows.boot_list) (Zc (Wp (n := "tuple") (by rfl) T.b_tuple PyProof.Rows.boot_tuple) Zb))) Zb))))) (Ub (Zn (XH hr.XW) (Yl Yd (by rfl) T.b_len PySem.boot_len (Zc (jv 0) Zb)) Zd (Zr _))))) (Ze (Zm [] TZ)) Zk)
   (Ze (Zm [] (Yl MT (by rfl) T.b_all PyProof.Rows.boot_all (Zc (Ye ["title"] [] [] (Yb (jv 0)) (λ_=>(ZQ 0 (nDk ["title"] []))) (λ_=>Yz) (λ_=>(Zq (Ng T) T.VX hr (Zc (jv 0) Zb)))) Zb))))),λxs q x h=>?_⟩)
 ·obtain ⟨d,zs,rfl,hd,⟨hf1,hf2⟩,hq⟩:=h
  have hsz:aA=16777216:=rfl
  have kf:XS zs=false->q (.bl false):=λe=>by rw [<-e];exact hq
  have fin:(1<=zs.length->Vp (XJ 0) xu (dCall PV (zU (dVar 0) dNil)) (λxs=>xn [D.lst xs] q) (zs.map .str) [.un] []):=by
   intro h1
   refine Xv (λz => .bl (Si z)) (by omega) (λz hz N hN=>⟨z,rfl,by have:=hf2 z hz;omega,hN⟩) ?_
   rw [Fm]
   unfold XS at hq
   rw [decide_eq_true h1] at hq
   exact hq
  rcases hd with rfl | rfl
  all_goals
   walk_at "rd"
   refine ⟨by decide,XF (λh1=>kf ?_) (λh1=>fin ?_)⟩
   ·unfold XS;rw [decide_eq_false (show ¬ 1<=zs.length by omega)];simp
   ·omega
def rd2:String:=rd1 ++ " Jb BV BW BX"
local macro_rules | `(tactic| walk_at "rd") => rdM rd2
noncomputable def lS (d:D):Option (List Str)->Prop
 | none=>d = .non
 | some us=>isSeq d us/\Fits us
noncomputable def RT:Option (List Str)->D
 | none => .non
 | some us => .tup (us.map .str)
noncomputable def KH:Option (List Str)->Bool
 | none=>true
 | some us=>XS us
noncomputable def Xk (ti hd:Str) (ps:List Str) (tg:Str) (t:Option (List Str)):Bool:=Si ti && Wy hd && Vn ps && (decide (tg = "") || Si tg) && KH t
noncomputable def qj (ti hd:Str) (ps:List Str) (wv:D) (tg:Str) (t:Option (List Str)):List (Str × D):=[("title",.str ti),("head",.str hd),("parts",.tup (ps.map .str)),("weight",wv),("tag",.str tg),("under",RT t)]
noncomputable def VC (A:Adr):Bx:=λxs q x=>∃ ti hd dp ps wv tg un t,xs=[.str ti,.str hd,dp,wv,.str tg,un]/\isSeq dp ps/\Fits ps/\lS un t/\ti.length<=1000/\hd.length<=1000/\tg.length<=1000 /\
 (Xk ti hd ps tg t=true->q (qj ti hd ps wv tg t))/\(Xk ti hd ps tg t=false->x A.Xi)
theorem ifB {b:Bool}{A B:Prop}(h1:b=true->A) (h2:b=false->B):if b=true then A else B:=by
 cases b
 ·exact h2 rfl
 ·exact h1 rfl
theorem Ob {b:Bool}{A B:Prop}(h1:b=false->A) (h2:b=true->B):if (!b)=true then A else B:=by
 cases b
 ·exact h1 rfl
 ·exact h2 rfl
theorem WW {A:Adr}(T:Txt K mg A):Zx P w K mg base (CXE P w) 5 A.ZU A.Xw ["self", "title", "head", "parts", "weight", "tag", "under"] (spI K A.C_Rule (VC A)):=by
 haveI:TxC K A:=⟨⟨_,T⟩⟩
 refine T.YS.okI La (λxs q x h=>?_) (λcdv Ar outer s H E hr=>⟨_,(Za (WN (ZD [] (Tt (Sa (Yk (ZS (Zq (Ng T) T.VX hr (Zc (jv 1) Zb)))) (Sa (Yk (ZS (Zq (Nf T) T.VW hr (Zc (jv 2) Zb)))) (Ub (Yk (ZS (Zq (FD T) T.Tg hr (Zc (jv 3) Zb)))))))) (Ze (Xu [] T.Ur.x T.Ur.M (Zc Yt Zb))) Zk))
   (Za (WN (ZD [] (Tt (Ts (Zn (Qe hr.XW) (jv 5) Yt (Zr _)) (WX (Yk (ZS (Zq (Ng T) T.VX hr (Zc (jv 5) Zb))))))) (Ze (Xu [] T.Ur.x T.Ur.M (Zc Yt Zb))) Zk))
   (Za (WN (ZD [] (Tt (Ts (Zn NQ (jv 6) UJ (Zr _)) (WX (Yk (ZS (Zq (Hu T) T.VQ hr (Zc (jv 6) Zb))))))) (Ze (Xu [] T.Ur.x T.Ur.M (Zc Yt Zb))) Zk))
   (Za (Sz (K:=K) [] 0 rfl (jv 1))
   (Za (Sz (K:=K) [] 0 rfl (jv 2))
   (Za (Sz (K:=K) [] 0 rfl (UK Ou (by rfl) T.b_tuple PyProof.Rows.boot_tuple (Zc (jv 3) Zb)))
   (Za (Sz (K:=K) [] 0 rfl (jv 4))
   (Za (Sz (K:=K) [] 0 rfl (jv 5))
   (Ze (Sz (K:=K) [] 0 rfl (je_if (Zn Fg (jv 6) UJ (Zr _)) UJ (UK Ou (by rfl) T.b_tuple PyProof.Rows.boot_tuple (Zc (jv 6) Zb))))))))))))),λoa dx xs q x h=>?_⟩)
 ·obtain ⟨ti,hd,dp,ps,wv,tg,un,t,rfl,_⟩:=h
  rfl
 ·obtain ⟨ti,hd,dp,ps,wv,tg,un,t,rfl,hdp,hfp,htie,l1,l2,l3,kg,kb⟩:=h
  have hsz:aA=16777216:=rfl
  have no:Xk ti hd ps tg t=false->1<=aA/\x A.Xi:=λz=>⟨by decide,kb z⟩
  have seqp:∀ {N:D->Prop},N (.bl (Vn ps))->KG [dp] N x:=λh=>⟨dp,ps,rfl,hdp,hfp,h⟩
  refine ⟨λds'=>ds'=[.ob oa dx A.C_Rule [],.v (.str ti),.v (.str hd),.v dp,.v wv,.v (.str tg),.v un]/\Si ti=true/\Wy hd=true/\Vn ps=true,?_,?_⟩
  ·walk_at "rd"
   refine ⟨by omega,Ob (λe=>no (by unfold Xk;rw [e];rfl)) λe1=>⟨by omega,Ob (λe=>no (by unfold Xk;rw [e1,e];rfl)) λe2=>seqp ?_⟩⟩
   walk_at "rd"
   exact Ob (λe=>no (by unfold Xk;rw [e1,e2,e];rfl)) λe3=>⟨e1,e2,e3⟩
  rintro _ ⟨rfl,e1,e2,e3⟩
  refine ⟨λds'=>ds'=[.ob oa dx A.C_Rule [],.v (.str ti),.v (.str hd),.v dp,.v wv,.v (.str tg),.v un]/\(decide (tg = "") || Si tg)=true,?_,?_⟩
  ·walk_at "rd"
   refine LZ (λz=>⟨by omega,Ob (λe=>no (by unfold Xk;rw [e,decide_eq_false z];simp)) λe=>by rw [e];simp⟩) (λz=>by rw [decide_eq_true z];rfl)
  rintro _ ⟨rfl,e4⟩
  refine ⟨λds'=>ds'=[.ob oa dx A.C_Rule [],.v (.str ti),.v (.str hd),.v dp,.v wv,.v (.str tg),.v un]/\KH t=true,?_,?_⟩
  ·walk_at "rd"
   cases t with
   | none =>
    rw [show un = .non from htie]
    walk_at "rd"
    rfl
   | some us =>
    have nn:un.VD=false:=by rcases htie.1 with z | z <;> rw [z] <;> rfl
    rw [nn]
    refine ⟨un,us,rfl,htie.1,htie.2,?_⟩
    walk_at "rd"
    exact Ob (λe=>no (by unfold Xk;rw [show KH (some us)=XS us from rfl,e];simp)) λe=>e
  rintro _ ⟨rfl,e5⟩
  have good:Xk ti hd ps tg t=true:=by unfold Xk;rw [e1,e2,e3,e4,e5];rfl
  walk_at "rd"
  have tp:∀ {N:D->Prop},N (.tup (ps.map .str))->Gd [dp] N:=λh=>by
   rcases hdp with rfl | rfl <;> exact h
  refine ⟨T.cl_Rule,T.Mh,by decide,T.cl_Rule,T.KC,by show 1 < 1000;decide,T.cl_Rule,T.Mi,by show 2 < 1000;decide,tp ⟨T.cl_Rule,T.Oe,by show 3 < 1000;decide,T.cl_Rule,T.IP,by show 4 < 1000;decide,T.cl_Rule,T.Mj,by show 5 < 1000;decide,?_⟩⟩
  cases t with
  | none =>
   rw [show un = .non from htie]
   exact kg good
  | some us =>
   have nn:un.VD=false:=by rcases htie.1 with z | z <;> rw [z] <;> rfl
   rw [nn]
   have tu:∀ {N:D->Prop},N (.tup (us.map .str))->Gd [un] N:=λh=>by
    rcases htie.1 with z | z <;> rw [z] <;> exact h
   exact tu (kg good)
structure Ru where
 ti:Str
 hd:Str
 ps:List Str
 wa:Int
 wb:Int
 tg:Str
 t:Option (List Str)
noncomputable def wD (a b:Int):D := .tup [.int a,.int b]
noncomputable def Ru.d (A:Adr) (r:Ru):D := .obj A.C_Rule (qj r.ti r.hd r.ps (wD r.wa r.wb) r.tg r.t)
noncomputable def Ru.Fit (r:Ru):Prop:=r.ti.length<=1000/\r.hd.length<=1000/\Fits r.ps/\∀ us,r.t=some us->Fits us
noncomputable def Rus (rs:List Ru):Prop:=rs.length<=1000/\∀ r∈rs,r.Fit
noncomputable def scD (A:Adr) (z:Str):D := .obj (if z = "cost" then A.C_Cost else A.Yx) []
noncomputable def okW (z:Str) (a:Int):Bool:=decide (z = "cost") || decide (0 < a)
section
variable {A:Adr} [TxC K A] {q:D->Prop}{r:Ru}
theorem zf_ti:D.fld K "title" (r.d A) q=q (.str r.ti):=by obtain ⟨mg,T⟩:=(inferInstance:TxC K A).ex;exact D.SD T.cl_Rule T.Mh rfl
theorem zf_hd:D.fld K "head" (r.d A) q=q (.str r.hd):=by obtain ⟨mg,T⟩:=(inferInstance:TxC K A).ex;exact D.SD T.cl_Rule T.KC rfl
theorem zf_ps:D.fld K "parts" (r.d A) q=q (.tup (r.ps.map .str)):=by obtain ⟨mg,T⟩:=(inferInstance:TxC K A).ex;exact D.SD T.cl_Rule T.Mi rfl
theorem zf_we:D.fld K "weight" (r.d A) q=q (wD r.wa r.wb):=by obtain ⟨mg,T⟩:=(inferInstance:TxC K A).ex;exact D.SD T.cl_Rule T.Oe rfl
theorem zf_tg:D.fld K "tag" (r.d A) q=q (.str r.tg):=by obtain ⟨mg,T⟩:=(inferInstance:TxC K A).ex;exact D.SD T.cl_Rule T.IP rfl
theorem zf_un:D.fld K "under" (r.d A) q=q (RT r.t):=by obtain ⟨mg,T⟩:=(inferInstance:TxC K A).ex;exact D.SD T.cl_Rule T.Mj rfl
end
def rd3:String:=rd2 ++ " zf_ti zf_hd zf_ps zf_we zf_tg zf_un"
local macro_rules | `(tactic| walk_at "rd") => rdM rd3
noncomputable def BZ (A:Adr):DSp:=λxs q x=>∃ z:Str,xs=[.str z]/\((z = "cost" \/ z = "chance")->q (scD A z))/\(z ≠ "cost" -> z ≠ "chance" -> x A.YD)
theorem Dq {A:Adr}(T:Txt K mg A):Zx P w K mg base (CXE P w) 1 A.SY A.OL SG (spD K (BZ A)):=by
 haveI:TxC K A:=⟨⟨_,T⟩⟩
 refine T.Rn.F.okJ Dl (by walk_at "ln") (λcdv Ar outer s H E hr=>⟨_,(Za (ZD [] (Zn (XH hr.XW) (jv 0) Yt (Zr _)) (Ze (Zm [] (Dc T.mk_Cost (by rfl) T.M_Cost))) Zk)
   (Za (ZD [] (Zn (XH hr.XW) (jv 0) Yt (Zr _)) (Ze (Zm [] (Dc T.LL (by rfl) T.qf))) Zk)
   (Ze (Xu [] T.LQ.x T.LQ.M (Zc Yt Zb))))),λxs q x h=>?_⟩)
 ·obtain ⟨z,rfl,hq,hx⟩:=h
  walk_at "rd"
  refine XF (λe=>?_) (λe1=>XF (λe=>?_) (λe2=>⟨by decide,hx e1 e2⟩))
  ·have:=hq (.inl e)
   unfold scD at this
   rw [if_pos e] at this
   exact this
  ·have:=hq (.inr e)
   unfold scD at this
   rw [if_neg e1] at this
   exact this
noncomputable def Mq:DSp:=λxs q _=>∃ o w,xs=[o,w]/\q (.bl true)
theorem Hv {A:Adr}(T:Txt K mg A):Zx P w K mg base (CXE P w) 1 A.YV A.SW ["self", "weight"] (spD K Mq):=by
 haveI:TxC K A:=⟨⟨_,T⟩⟩
 refine T.VP.okJ Hq (by walk_at "ln") (λcdv Ar outer s H E hr=>⟨_,(Ze (Zm [] TZ)),λxs q x h=>?_⟩)
 ·obtain ⟨o,w,rfl,hq⟩:=h
  walk_at "rd"
  exact hq
noncomputable def QK:DSp:=λxs q _=>∃ o a b,xs=[o,wD a b]/\q (.bl (decide (0 < a)))
theorem Jd {A:Adr}(T:Txt K mg A):Zx P w K mg base (CXE P w) 1 A.Ys A.Uo ["self", "weight"] (spD K QK):=by
 haveI:TxC K A:=⟨⟨_,T⟩⟩
 refine T.WL.okJ KP (by walk_at "ln") (λcdv Ar outer s H E hr=>⟨_,(Ze (Zm [] (RH Kz (Zg (jv 1) Zd) Zd (Zr _)))),λxs q x h=>?_⟩)
 ·obtain ⟨o,a,b,rfl,hq⟩:=h
  unfold wD
  walk_at "rd"
  exact ⟨_,rfl,hq⟩
theorem qk {A:Adr}(T:Txt K mg A) (z:Str):∃ C g,scD A z = .obj C []/\MOkD P w K mg base 1 C "takes" g/\∀ {a b:Int}{q:D->Prop}{x:Addr->Prop},q (.bl (okW z a))->g [scD A z,wD a b] q x:=by
 by_cases e:z = "cost"
 ·refine ⟨A.C_Cost,Mq,by unfold scD;rw [if_pos e],⟨T.cl_Cost,_,_,_,T.Ht,Hv T,T.Rl⟩,λ{a b q x} h=>⟨_,_,rfl,?_⟩⟩
  unfold okW at h
  rw [decide_eq_true e] at h
  exact h
 ·refine ⟨A.Yx,QK,by unfold scD;rw [if_neg e],⟨T.xM,_,_,_,T.KZ,Jd T,T.Us⟩,λ{a b q x} h=>⟨_,_,_,rfl,?_⟩⟩
  unfold okW at h
  rw [decide_eq_false e] at h
  exact h
noncomputable def cwt (z:Str):List Str->List Ru->Nat
 | _,[]=>0
 | seen,r::rs=>if okW z r.wa=false then 1 else if r.ti∈seen then 2 else cwt z (seen++[r.ti]) rs
noncomputable def Ux (A:Adr):DSp:=λxs q x=>∃ (z:Str) (rs:List Ru),xs=[scD A z,.lst (rs.map (Ru.d A))]/\Rus rs/\(cwt z [] rs=0->q .non)/\(cwt z [] rs=1->x A.Yo)/\(cwt z [] rs=2->x A.C_Twice)
theorem VS {A:Adr}(T:Txt K mg A):Zx P w K mg base (CXE P w) 2 A.Yh A.YK Yg (spD K (Ux A)):=by
 haveI:TxC K A:=⟨⟨_,T⟩⟩
 refine T.Yi.F.okJ YB (by walk_at "ln") (λcdv Ar outer s H E hr=>⟨_,(Za (Xb (i:=2) YB.nd rfl (Or.inl rfl) (Xz Zb))
   (Ze (Xc PassesOwn.leaving (Yb (jv 1)) (ZQ 3 YB.nd) (Za (ZD [] (Yk (ZS (ou (k:=1) (hr.mono (by decide)) Yr (jv 0) (Zc (Zw (K:=K) rfl (jv 3)) Zb)))) (Ze (Xu [] T.OW.x T.OW.M (Zc (Ju (SC (Fp (Zw (K:=K) rfl (jv 3)) (SC Fo)))) Zb))) Zk)
   (Za (ZD [2] (Zn Uc (Zw (K:=K) rfl (jv 3)) (jv 2) (by with_unfolding_all rfl)) (Ze (Xu [] T.E_Twice.x T.E_Twice.M (Zc (Ju (SC (Fp (Zw (K:=K) rfl (jv 3)) Fo))) Zb))) Zk)
   (Ze (WC [] 2 (Zw (K:=K) rfl (jv 3))))))))),λxs q x h=>?_⟩)
 ·obtain ⟨z,rs,rfl,⟨l1,l2⟩,h0,h1,h2⟩:=h
  walk_at "rd"
  have hsz:aA=16777216:=rfl
  refine ⟨by decide,[],?_⟩
  walk_at "rd"
  refine YH (λi ds=>∃ s,ds=[.v (scD A z),.v (.lst (rs.map (Ru.d A))),.own (((rs.take i).map (·.ti)).map .str),s]/\cwt z ((rs.take i).map (·.ti)) (rs.drop i)=cwt z [] rs) ⟨.un,rfl,rfl⟩ (λi r ds N hr hi hn=>?_) (λds hi=>?_)
  ·obtain ⟨s,rfl,hc⟩:=hi
   obtain ⟨C,g,e,mo,tk⟩:=qk (P:=P) (w:=w) (base:=base) T z
   obtain ⟨hi1,hi2⟩:=List.getElem?_eq_some_iff.mp hr
   rw [drop_eq_getElem_cons hi1,hi2,cwt] at hc
   obtain ⟨m1,m2,m3,m4⟩:=l2 r (mem_of_getElem? hr)
   have lt:(rs.take i).length<=1000:=by rw [length_take];omega
   walk_at "rd"
   refine ⟨C,[],e,g,mo,rfl,tk ?_⟩
   walk_at "rd"
   refine Ob (λe1=>⟨by omega,by decide,h1 ?_⟩) (λe1=>XF (λe2=>⟨by omega,by decide,h2 ?_⟩) (λe2=>⟨by omega,hn _ ⟨.v (r.d A),?_,?_⟩⟩))
   ·rw [<-hc,if_pos e1]
   ·rw [<-hc,if_neg (by rw [e1];decide),if_pos e2]
   ·rw [take_add_one,hr]
    simp
   ·rw [if_neg (by rw [e1];decide),if_neg e2] at hc
    rw [take_add_one,hr,<-hc]
    simp
  ·obtain ⟨s,rfl,hc⟩:=hi
   rw [List.drop_length] at hc
   exact h0 hc.symm
theorem mh (rs:List Ru):rs.map (λr=>D.str r.ti)=(rs.map (·.ti)).map .str:=by rw [map_map];rfl
theorem mi (rs:List Ru):rs.map (λr=>D.str r.hd)=(rs.map (·.hd)).map .str:=by rw [map_map];rfl
theorem hV:RT none = .non:=rfl
theorem hW {us:List Str}:RT (some us) = .tup (us.map .str):=rfl
def rd4:String:=rd3 ++ " hV hW"
local macro_rules | `(tactic| walk_at "rd") => rdM rd4
noncomputable def Ry (tis:List Str) (r:Ru):Bool:=match r.t with
 | none=>true
 | some us=>us.all λu=>decide (u∈tis)
noncomputable def ctu (rs:List Ru):Bool:=rs.all (Ry (rs.map (·.ti)))
noncomputable def QL (A:Adr):DSp:=λxs q x=>∃ rs:List Ru,xs=[.lst (rs.map (Ru.d A))]/\Rus rs/\(ctu rs=true->q .non)/\(ctu rs=false->x A.Yv)
theorem RU {A:Adr}(T:Txt K mg A):Zx P w K mg base (CXE P w) 1 A.YW A.XQ YT (spD K (QL A)):=by
 haveI:TxC K A:=⟨⟨_,T⟩⟩
 refine T.YX.F.okJ XA (by walk_at "ln") (λcdv Ar outer s H E hr=>⟨_,(Za (ZR 1 XA.nd (Ye ["rule"] [] [] (Yb (jv 0)) (λ_=>(ZQ 0 (nDk ["rule"] []))) (λ_=>Yz) (λ_=>(Zw (K:=K) rfl (jv 0)))))
   (Ze (Xc PassesOwn.leaving (Yb (jv 0)) (ZQ 2 XA.nd) (Ze (ZD [] (Tt (Ts (Zn NQ (Zw (K:=K) rfl (jv 2)) UJ (Zr _)) (WX (Yk (ZS (Yl MT (by rfl) T.b_all PyProof.Rows.boot_all (Zc (Ye ["title"] ["titles"] [1] (Yb (Zw (K:=K) rfl (jv 2))) (λ_=>(ZQ 0 (nDk ["title"] ["titles"]))) (λ_=>Yz) (λ_=>(RH Uc (jv 0) (jv 1) (by with_unfolding_all rfl)))) Zb))))))) (Ze (Xu [] T.LR.x T.LR.M (Zc (Ju (SC (Fp (Zw (K:=K) rfl (jv 2)) (SC Fo)))) Zb))) Zk))))),λxs q x h=>?_⟩)
 ·obtain ⟨rs,rfl,⟨l1,l2⟩,h0,h1⟩:=h
  have hsz:aA=16777216:=rfl
  walk_at "rd"
  refine Xv (λr => .str r.ti) (by omega) (λr hr N hN=>?_) ?_
  ·walk_at "rd"
   exact hN
  rw [mh]
  refine ⟨[],?_⟩
  walk_at "rd"
  refine YH (λi ds=>∃ s,ds=[.v (.lst (rs.map (Ru.d A))),.v (.lst ((rs.map (·.ti)).map .str)),s]/\(rs.take i).all (Ry (rs.map (·.ti)))=true) ⟨.un,rfl,rfl⟩ (λi r ds N hr hi hn=>?_) (λds hi=>?_)
  ·obtain ⟨s,rfl,hc⟩:=hi
   obtain ⟨m1,m2,m3,m4⟩:=l2 r (mem_of_getElem? hr)
   have mem:=mem_of_getElem? hr
   have nxt:Ry (rs.map (·.ti)) r=true->N [.v (.lst (rs.map (Ru.d A))),.v (.lst ((rs.map (·.ti)).map .str)),.v (r.d A)]:=λe=>by
    refine hn _ ⟨_,rfl,?_⟩
    rw [take_add_one,hr,all_append,hc]
    simp [e]
   have bad:Ry (rs.map (·.ti)) r=false->x A.Yv:=λe=>h1 (by
    unfold ctu
    rw [List.all_eq_false]
    exact ⟨r,mem,by rw [e];decide⟩)
   walk_at "rd"
   cases ht:r.t with
   | none =>
    walk_at "rd"
    exact nxt (by unfold Ry;rw [ht])
   | some us =>
    obtain ⟨f1,f2⟩:=m4 us ht
    walk_at "rd"
    refine Xv (λu => .bl (decide (u∈rs.map (·.ti)))) (by omega) (λu hu N hN=>?_) ?_
    ·walk_at "rd"
     exact hN
    walk_at "rd"
    exact Ob (λe=>⟨by omega,by decide,bad (by unfold Ry;rw [ht];exact e)⟩) (λe=>nxt (by unfold Ry;rw [ht];exact e))
  ·obtain ⟨s,rfl,hc⟩:=hi
   rw [take_length] at hc
   exact h0 hc
noncomputable def Kb (hds:List Str) (r:Ru):Bool:=(r.ps.filter Wy).all λp=>decide (p∈hds)
noncomputable def ck (st:Str) (rs:List Ru):Bool:=decide (st∈rs.map (·.hd)) && rs.all (Kb (rs.map (·.hd)))
noncomputable def Hw (A:Adr):DSp:=λxs q x=>∃ (st:Str) (rs:List Ru),xs=[.str st,.lst (rs.map (Ru.d A))]/\Rus rs/\(ck st rs=true->q .non)/\(ck st rs=false->x A.Xj)
theorem IV {A:Adr}(T:Txt K mg A):Zx P w K mg base (CXE P w) 4 A.Vd A.TJ WY (spD K (Hw A)):=by
 haveI:TxC K A:=⟨⟨_,T⟩⟩
 refine T.Vi.F.okJ Ui (by walk_at "ln") (λcdv Ar outer s H E hr=>⟨_,(Za (ZR 2 Ui.nd (Ye ["rule"] [] [] (Yb (jv 1)) (λ_=>(ZQ 0 (nDk ["rule"] []))) (λ_=>Yz) (λ_=>(Zw (K:=K) rfl (jv 0)))))
   (Za (ZD [] (Zn Qd (jv 0) (jv 2) (by with_unfolding_all rfl)) (Ze (Xu [] T.QG.x T.QG.M (Zc Yt Zb))) Zk)
   (Ze (Xc PassesOwn.leaving (Yb (jv 1)) (ZQ 3 Ui.nd) (Ze (ZD [] (Yk (ZS (Yl MT (by rfl) T.b_all PyProof.Rows.boot_all (Zc (Ye ["part"] ["heads"] [2] (Yb (Zw (K:=K) rfl (jv 3))) (λ_=>(ZQ 0 (nDk ["part"] ["heads"]))) (λ_=>(Vx (ZS (Zq (Nf T) T.VW hr (Zc (jv 0) Zb))))) (λ_=>(RH Uc (jv 0) (jv 1) (by with_unfolding_all rfl)))) Zb)))) (Ze (Xu [] T.QG.x T.QG.M (Zc (Ju (SC (Fp (Zw (K:=K) rfl (jv 3)) (SC Fo)))) Zb))) Zk)))))),λxs q x h=>?_⟩)
 ·obtain ⟨st,rs,rfl,⟨l1,l2⟩,h0,h1⟩:=h
  have hsz:aA=16777216:=rfl
  walk_at "rd"
  refine Xv (λr => .str r.hd) (by omega) (λr hr N hN=>?_) ?_
  ·walk_at "rd"
   exact hN
  rw [mi]
  walk_at "rd"
  refine LZ (λe=>⟨by decide,h1 (by unfold ck;rw [decide_eq_false e];rfl)⟩) (λe=>⟨[],?_⟩)
  walk_at "rd"
  refine YH (λi ds=>∃ s,ds=[.v (.str st),.v (.lst (rs.map (Ru.d A))),.v (.lst ((rs.map (·.hd)).map .str)),s]/\(rs.take i).all (Kb (rs.map (·.hd)))=true) ⟨.un,rfl,rfl⟩ (λi r ds N hr hi hn=>?_) (λds hi=>?_)
  ·obtain ⟨s,rfl,hc⟩:=hi
   obtain ⟨m1,m2,⟨m3,m5⟩,m4⟩:=l2 r (mem_of_getElem? hr)
   have mem:=mem_of_getElem? hr
   walk_at "rd"
   refine SA Wy (λp => .bl (decide (p∈rs.map (·.hd)))) (by omega) (λp hp N hN=>?_) (λp hp _ N hN=>?_) ?_
   ·walk_at "rd"
    exact ⟨by have:=m5 p hp;omega,hN⟩
   ·walk_at "rd"
    exact hN
   walk_at "rd"
   refine Ob (λz=>⟨by omega,by decide,h1 ?_⟩) (λz=>hn _ ⟨_,rfl,?_⟩)
   ·unfold ck
    rw [show rs.all (Kb (rs.map (·.hd)))=false from by rw [List.all_eq_false];exact ⟨r,mem,by unfold Kb;rw [z];decide⟩]
    simp
   ·rw [take_add_one,hr,all_append,hc]
    simp only [Option.toList_some,all_cons,List.all_nil,Bool.and_true,Bool.true_and]
    exact z
  ·obtain ⟨s,rfl,hc⟩:=hi
   rw [take_length] at hc
   exact h0 (by unfold ck;rw [decide_eq_true e,hc];rfl)
noncomputable def heldBy (steps:List (Str × Str)) (w:List Str):List Str:=(steps.filter λs=>decide (s.2∈w)).map (·.1)
inductive Hio (steps:List (Str × Str)):List Str->List Str->List Str->List Str->Prop
 | stop {w o:List Str}:Hio steps w [] o o
 | step {w r o res:List Str}:r≠[]->Hio steps (w.filter λh=>decide (h∈heldBy steps w)) (w.filter λh => !decide (h∈heldBy steps w)) (o++w.filter λh => !decide (h∈heldBy steps w)) res->Hio steps w r o res
noncomputable def Dr (a:List Str) (k:Str):List Str:=if k∈a then a else a++[k]
noncomputable def ql (zs:List Str):List Str:=zs.foldl Dr []
theorem Nh (zs:List Str):dedup (zs.map Sum.inr)=(ql zs).map Sum.inr:=by
 have go:∀ (zs a:List Str),(zs.map Sum.inr).foldl Vy (a.map Sum.inr)=(zs.foldl Dr a).map (Sum.inr:Str->Key):=by
  intro zs
  induction zs with
  | nil=>intro a;rfl
  | cons z zs ih =>
   intro a
   rw [map_cons,foldl_cons,foldl_cons,<-ih]
   congr 1
   unfold Vy Dr
   have:(Sum.inr z:Key)∈a.map Sum.inr↔z∈a:=by
    rw [mem_map]
    exact ⟨λ⟨y,h,e⟩=>Sum.inr.inj e ▸ h,λh=>⟨z,h,rfl⟩⟩
   by_cases e:z∈a
   ·rw [if_pos e,if_pos (this.mpr e)]
   ·rw [if_neg e,if_neg (λh=>e (this.mp h)),map_append]
    rfl
 exact go zs []
theorem merge_keys (more:List (Key × D)):∀ kvs:List (Key × D),(Qi kvs more).map (·.1)=(more.map (·.1)).foldl Vy (kvs.map (·.1)):=by
 induction more with
 | nil=>intro kvs;rfl
 | cons m more ih =>
  intro kvs
  rw [show Qi kvs (m::more)=Qi (Sg kvs m.1 m.2) more from rfl,ih,map_cons,foldl_cons]
  congr 1
  unfold Sg Vy
  have ea:(kvs.any λkv=>decide (kv.1=m.1))=decide (m.1∈kvs.map (·.1)):=by
   rw [Bool.eq_iff_iff]
   simp only [List.any_eq_true,decide_eq_true_eq,mem_map]
  rw [ea]
  by_cases e:m.1∈kvs.map (·.1)
  ·rw [if_pos (decide_eq_true e),if_pos e,map_map]
   refine List.map_congr_left λkv _=>?_
   show (if kv.1=m.1 then (kv.1,m.2) else kv).1=kv.1
   split <;> rfl
  ·rw [if_neg (by simpa using e),if_neg e,map_append]
   rfl
noncomputable def Xr (rs:List Ru):List (Str × Str):=(rs.filter λr=>decide (r.ps.length=1)).map λr=>(r.hd,r.ps.getD 0 "")
noncomputable def waitOf (rs:List Ru):List Str:=ql (rs.map (·.hd))
theorem mj (zs:List Str):(ql zs).length<=zs.length:=by
 have:=Iw (zs.map Sum.inr)
 rw [Nh] at this
 simpa using this
theorem Ds {α:Type}(w:List α) (p:α->Bool):(w.filter p).length + (w.filter λh => !p h).length=w.length:=by
 induction w with
 | nil=>rfl
 | cons a w ih =>
  rw [filter_cons,filter_cons]
  cases p a <;> simp <;> omega
noncomputable def Kc (A:Adr):DSp:=λxs q _=>∃ (rs:List Ru) (res:List Str),xs=[.lst (rs.map (Ru.d A))]/\Rus rs/\Hio (Xr rs) (waitOf rs) (waitOf rs) [] res/\q (.lst (res.map .str))
theorem Mr {A:Adr}(T:Txt K mg A):Zx P w K mg base (CXE P w) 1 A.Wc A.WV Wa (spD K (Kc A)):=by
 haveI:TxC K A:=⟨⟨_,T⟩⟩
 refine T.We.F.okJ ZX (by walk_at "ln") (λcdv Ar outer s H E hr=>⟨_,(Za (QT (i:=1) ["rule"] [] [] ZX.nd rfl (Or.inl rfl) (Yb (jv 0)) (λ_=>(ZQ 0 (nDk ["rule"] []))) (λ_=>(Vx (Zn (XH hr.XW) (Yl Yd (by rfl) T.b_len PySem.boot_len (Zc (Zw (K:=K) rfl (jv 0)) Zb)) Zd (Zr _)))) (λ_=>(ZW (Zc (Zw (K:=K) rfl (jv 0)) (Zc (Zg (Zw (K:=K) rfl (jv 0)) Zd) Zb)))))
   (Za (ZR 2 ZX.nd (UK rF (by rfl) T.b_list PyProof.Rows.boot_list (Zc (UK nH (by rfl) T.b_dict PyProof.Rows.boot_dict (Zc (Ye ["rule"] [] [] (Yb (jv 0)) (λ_=>(ZQ 0 (nDk ["rule"] []))) (λ_=>Yz) (λ_=>(ZW (Zc (Zw (K:=K) rfl (jv 0)) (Zc TZ Zb))))) Zb)) Zb)))
   (Za (Xb (i:=3) ZX.nd rfl (Or.inl rfl) (Xz Zb))
   (Za (ZR 4 ZX.nd (jv 2))
   (Za (Qg [] PassesOwn.leaving (ZS (jv 4)) (Za (ZR 5 ZX.nd (Ye ["head", "part"] ["waiting"] [2] (Yb (jv 1)) (λ_=>(Xy (n:=2) (Zu (ZQ 0 (nDk ["head", "part"] ["waiting"])) (Zu (ZQ 1 (nDk ["head", "part"] ["waiting"])) YN)))) (λ_=>(Vx (Zn Uc (jv 1) (jv 2) (by with_unfolding_all rfl)))) (λ_=>(jv 0))))
   (Za (QT (i:=4) ["head"] ["held"] [5] ZX.nd rfl (Or.inl rfl) (Yb (jv 2)) (λ_=>(ZQ 0 (nDk ["head"] ["held"]))) (λ_=>(Vx (Zn Qd (jv 0) (jv 1) (by with_unfolding_all rfl)))) (λ_=>(jv 0)))
   (Za (ZR 2 ZX.nd (Ye ["head"] ["held"] [5] (Yb (jv 2)) (λ_=>(ZQ 0 (nDk ["head"] ["held"]))) (λ_=>(Vx (Zn Uc (jv 0) (jv 1) (by with_unfolding_all rfl)))) (λ_=>(jv 0))))
   (Ze (Bw [] 3 (jv 4)))))))
   (Ze (Zm [3] (jv 3)))))))),λxs q x h=>?_⟩)
 ·obtain ⟨rs,res,rfl,⟨l1,l2⟩,hh,hq⟩:=h
  have hsz:aA=16777216:=rfl
  walk_at "rd"
  refine SA (λr=>decide (r.ps.length=1)) (λr => .tup [.str r.hd,.str (r.ps.getD 0 "")]) (by omega) (λr hr N hN=>?_) (λr hr hp N hN=>?_) ?_
  ·walk_at "rd"
   have:(decide ((r.ps.length:Int)=1))=decide (r.ps.length=1):=by rw [Bool.eq_iff_iff];simp only [decide_eq_true_eq];omega
   rw [this]
   exact hN
  ·have hp:r.ps.length=1:=of_decide_eq_true hp
   walk_at "rd"
   exact ⟨_,Jy D.str r.ps "" (i:=0) (by decide) (by omega),by decide,hN⟩
  refine Xv (λr => .tup [.str r.hd,.bl true]) (by omega) (λr hr N hN=>?_) ?_
  ·walk_at "rd"
   exact ⟨by decide,hN⟩
  refine ⟨rs.map λr=>(Sum.inr r.hd,.bl true),by rw [map_map];rfl,_,rfl,?_⟩
  have ew:(Qi [] (rs.map λr=>((Sum.inr r.hd:Key),D.bl true))).map (λkv=>kD kv.1)=(waitOf rs).map .str:=by
   have e:=merge_keys (rs.map λr=>((Sum.inr r.hd:Key),D.bl true)) []
   have e2:(rs.map λr=>((Sum.inr r.hd:Key),D.bl true)).map (·.1)=(rs.map (·.hd)).map Sum.inr:=by rw [map_map,map_map];rfl
   rw [e2] at e
   have e3:(Qi [] (rs.map λr=>((Sum.inr r.hd:Key),D.bl true))).map (·.1)=(waitOf rs).map Sum.inr:=e.trans (Nh _)
   rw [show (λkv:Key × D=>kD kv.1)=kD ∘ (·.1) from rfl,<-map_map,e3,map_map]
   rfl
  have es:(rs.filter λr=>decide (r.ps.length=1)).map (λr=>D.tup [.str r.hd,.str (r.ps.getD 0 "")])=(Xr rs).map λs => .tup [.str s.1,.str s.2]:=by unfold Xr;rw [map_map];rfl
  rw [ew,es]
  have ls:(Xr rs).length<=1000:=by
   unfold Xr
   rw [length_map]
   have:=length_filter_le (λr:Ru=>decide (r.ps.length=1)) rs
   omega
  have lw:(waitOf rs).length<=1000:=by
   unfold waitOf
   have:=mj (rs.map (·.hd))
   rw [length_map] at this
   omega
  generalize Xr rs=steps at *
  generalize waitOf rs=w0 at *
  refine ⟨by decide,λm ds=>∃ (w r o:List Str) (s:L2.Slot),ds=[.v (.lst (rs.map (Ru.d A))),.v (.lst (steps.map λs => .tup [.str s.1,.str s.2])),.v (.lst (w.map .str)),.own (o.map .str),.v (.lst (r.map .str)),s]/\Hio steps w r o res/\w.length + o.length<=1000/\m=2 * w.length + (if r=[] then 0 else 1),⟨_,w0,w0,[],.un,rfl,hh,by simpa using lw,rfl⟩,?_⟩
  rintro m _ ⟨w,r,o,s,rfl,hio,hl,rfl⟩
  walk_at "rd"
  have em:(r.map D.str).isEmpty=r.isEmpty:=by cases r <;> rfl
  rw [em]
  refine Ob (λe1=>?_) (λe1=>?_)
  ·have hr:r≠[]:=λz=>by rw [z] at e1;cases e1
   cases hio with
   | stop=>exact absurd rfl hr
   | step _ hio =>
   have ll:=Ds w (λh=>decide (h∈heldBy steps w))
   have eh:(steps.filter λs=>decide (s.2∈w)).map (λs=>D.str s.1)=(heldBy steps w).map .str:=by unfold heldBy;rw [map_map];rfl
   refine Sf (λs=>decide (s.2∈w)) (λs => .str s.1) (by omega) (λs hs N hN=>?_) (λs hs _ N hN=>?_) ?_
   ·walk_at "rd"
    exact hN
   ·walk_at "rd"
    exact hN
   rw [eh]
   refine SA (λh => !decide (h∈heldBy steps w)) .str (by omega) (λs hs N hN=>?_) (λs hs _ N hN=>?_) ?_
   ·walk_at "rd"
    exact hN
   ·walk_at "rd"
    exact hN
   refine SA (λh=>decide (h∈heldBy steps w)) .str (by omega) (λs hs N hN=>?_) (λs hs _ N hN=>?_) ?_
   ·walk_at "rd"
    exact hN
   ·walk_at "rd"
    exact hN
   refine ⟨by simp only [length_map];omega,_,?_,_,rfl,_,o++w.filter (λh => !decide (h∈heldBy steps w)),by rw [map_append],rfl,hio,by rw [length_append];omega,rfl⟩
   rw [if_neg hr]
   split
   ·omega
   ·rename_i z
    have:=List.length_pos_iff.mpr z
    omega
  ·have hr:r=[]:=List.isEmpty_iff.mp e1
   subst hr
   cases hio with
   | stop=>exact hq
   | step z _=>exact absurd rfl z
noncomputable def Hx (A:Adr):DSp:=λxs q x=>∃ (rs:List Ru) (res:List Str),xs=[.lst (rs.map (Ru.d A))]/\Rus rs/\Hio (Xr rs) (waitOf rs) (waitOf rs) [] res/\((waitOf rs).length<=res.length->q .non)/\(res.length < (waitOf rs).length->x A.C_Ring)
theorem IW {A:Adr}(T:Txt K mg A):Zx P w K mg base (CXE P w) 2 A.Ve A.TN WZ (spD K (Hx A)):=by
 haveI:TxC K A:=⟨⟨_,T⟩⟩
 refine T.Vj.F.okJ Qm (by walk_at "ln") (λcdv Ar outer s H E hr=>⟨_,(Za (QT (i:=1) ["rule"] [] [] Qm.nd rfl (Or.inl rfl) (Yb (jv 0)) (λ_=>(ZQ 0 (nDk ["rule"] []))) (λ_=>Yz) (λ_=>(Zw (K:=K) rfl (jv 0))))
   (Ze (ZD [] (Zn Ii (Yl Yd (by rfl) T.b_len PySem.boot_len (Zc (Zq (Mr T) T.We hr (Zc (jv 0) Zb)) Zb)) (xI (by rfl) T.b_len (by rfl) T.b_set (jv 1)) (Zr _)) (Ze (Xu [] T.E_Ring.x T.E_Ring.M (Zc Yt Zb))) Zk))),λxs q x h=>?_⟩)
 ·obtain ⟨rs,res,rfl,⟨l1,l2⟩,hh,h0,h1⟩:=h
  have hsz:aA=16777216:=rfl
  walk_at "rd"
  refine Xv (λr => .str r.hd) (by omega) (λr hr N hN=>?_) ?_
  ·walk_at "rd"
   exact hN
  refine ⟨rs,res,rfl,⟨l1,l2⟩,hh,?_⟩
  walk_at "rd"
  refine ⟨(rs.map (·.hd)).map Sum.inr,by rw [map_map,map_map];rfl,by rw [length_map,length_map];omega,?_⟩
  rw [Nh,length_map]
  exact XF (λe=>⟨by decide,h1 (by unfold waitOf;omega)⟩) (λe=>h0 (by unfold waitOf;omega))
noncomputable def qm (A:Adr) (z st:Str) (rs:List Ru):List (Str × D):=[("scale",.str z),("start",.str st),("rules",.tup (rs.map (Ru.d A)))]
noncomputable def madeG (A:Adr) (z st:Str) (rs:List Ru) (q:List (Str × D)->Prop) (x:Addr->Prop):Prop :=
 (z ≠ "cost" /\ z ≠ "chance" /\ x A.YD)\/((z = "cost" \/ z = "chance")/\((cwt z [] rs=1/\x A.Yo)\/(cwt z [] rs=2/\x A.C_Twice)\/(cwt z [] rs=0/\((ctu rs=false/\x A.Yv)\/(ctu rs=true/\((ck st rs=false/\x A.Xj)\/(ck st rs=true /\
  ∃ res,Hio (Xr rs) (waitOf rs) (waitOf rs) [] res/\((res.length < (waitOf rs).length/\x A.C_Ring)\/((waitOf rs).length<=res.length/\q (qm A z st rs))))))))))
noncomputable def Uy (A:Adr):Bx:=λxs q x=>∃ (z st:Str) (rs:List Ru),xs=[.str z,.str st,.lst (rs.map (Ru.d A))]/\Rus rs/\madeG A z st rs q x
theorem VE {A:Adr}(T:Txt K mg A):Zx P w K mg base (CXE P w) 5 A.ZO A.Wr ["self", "scale", "start", "rules"] (spI K A.Zt (Uy A)):=by
 haveI:TxC K A:=⟨⟨_,T⟩⟩
 refine T.Xq.okI Oa (λxs q x h=>?_) (λcdv Ar outer s H E hr=>⟨_,(Za (UL (Zq (VS T) T.Yi hr (Zc (Zq (Dq T) T.Rn hr (Zc (jv 1) Zb)) (Zc (jv 3) Zb))))
   (Za (UL (Zq (RU T) T.YX hr (Zc (jv 3) Zb)))
   (Za (UL (Zq (IV T) T.Vi hr (Zc (jv 2) (Zc (jv 3) Zb))))
   (Za (UL (Zq (IW T) T.Vj hr (Zc (jv 3) Zb)))
   (Za (Sz (K:=K) [] 0 rfl (jv 1))
   (Za (Sz (K:=K) [] 0 rfl (jv 2))
   (Ze (Sz (K:=K) [] 0 rfl (UK Ou (by rfl) T.b_tuple PyProof.Rows.boot_tuple (Zc (jv 3) Zb)))))))))),λoa dx xs q x h=>?_⟩)
 ·obtain ⟨z,st,rs,rfl,_⟩:=h
  rfl
 ·obtain ⟨z,st,rs,rfl,hr,hm⟩:=h
  walk_at "rd"
  rcases hm with ⟨n1,n2,hx⟩ | ⟨hz,hm⟩
  ·exact ⟨z,rfl,λh=>(h.elim n1 n2).elim,λ_ _=>hx⟩
  refine ⟨z,rfl,λ_=>?_,λa b=>(hz.elim a b).elim⟩
  rcases hm with ⟨e,hx⟩ | ⟨e,hx⟩ | ⟨e,hm⟩
  ·exact ⟨z,rs,rfl,hr,λh=>by omega,λ_=>hx,λh=>by omega⟩
  ·exact ⟨z,rs,rfl,hr,λh=>by omega,λh=>by omega,λ_=>hx⟩
  refine ⟨z,rs,rfl,hr,λ_=>?_,λh=>by omega,λh=>by omega⟩
  rcases hm with ⟨e,hx⟩ | ⟨e,hm⟩
  ·exact ⟨rs,rfl,hr,λh=>(by rw [e] at h;cases h),λ_=>hx⟩
  refine ⟨rs,rfl,hr,λ_=>?_,λh=>by rw [e] at h;cases h⟩
  rcases hm with ⟨e,hx⟩ | ⟨e,res,hh,hm⟩
  ·exact ⟨st,rs,rfl,hr,λh=>(by rw [e] at h;cases h),λ_=>hx⟩
  refine ⟨st,rs,rfl,hr,λ_=>?_,λh=>by rw [e] at h;cases h⟩
  rcases hm with ⟨e,hx⟩ | ⟨e,hq⟩
  ·exact ⟨rs,res,rfl,hr,hh,λh=>by omega,λ_=>hx⟩
  exact ⟨rs,res,rfl,hr,hh,λ_=>⟨T.Ws,T.RK,by decide,T.Ws,T.RL,by show 1 < 1000;decide,T.Ws,T.RM,by show 2 < 1000;decide,hq⟩,λh=>by omega⟩
noncomputable def Gr (A:Adr) (z st:Str) (rs:List Ru):D := .obj A.Zt (qm A z st rs)
section
variable {A:Adr} [TxC K A] {q:D->Prop}{z st:Str}{rs:List Ru}
theorem qo:D.fld K "scale" (Gr A z st rs) q=q (.str z):=by obtain ⟨mg,T⟩:=(inferInstance:TxC K A).ex;exact D.SD T.Ws T.RK rfl
theorem qp:D.fld K "start" (Gr A z st rs) q=q (.str st):=by obtain ⟨mg,T⟩:=(inferInstance:TxC K A).ex;exact D.SD T.Ws T.RL rfl
theorem qq:D.fld K "rules" (Gr A z st rs) q=q (.tup (rs.map (Ru.d A))):=by obtain ⟨mg,T⟩:=(inferInstance:TxC K A).ex;exact D.SD T.Ws T.RM rfl
end
def rd5:String:=rd4 ++ " qo qp qq"
local macro_rules | `(tactic| walk_at "rd") => rdM rd5
noncomputable def mayS (rs:List Ru) (r:Ru) (ab:Int) (q:Bool->Prop):Prop:=match r.t with
 | none=>q true
 | some us=>if ab = -1 then q false else ∃ r',rs[ab.toNat]?=some r'/\0<=ab/\q (decide (r'.ti∈us))
noncomputable def Dt (A:Adr):DSp:=λxs q _=>∃ (z st:Str) (rs:List Ru) (i:Nat) (ab:Int) (r:Ru),xs=[Gr A z st rs,.int i,.int ab]/\rs[i]?=some r/\mayS rs r ab λb=>q (.bl b)
theorem FH {A:Adr}(T:Txt K mg A):Zx P w K mg base (CXE P w) 1 A.UZ A.Qx UO (spD K (Dt A)):=by
 haveI:TxC K A:=⟨⟨_,T⟩⟩
 refine T.Th.F.okJ NV (by walk_at "ln") (λcdv Ar outer s H E hr=>⟨_,(Za (ZR 3 NV.nd (Zw (K:=K) rfl (Zg (Zw (K:=K) rfl (jv 0)) (jv 1))))
   (Za (ZD [] (Zn Fg (jv 3) UJ (Zr _)) (Ze (Zm [] TZ)) Zk)
   (Ze (Zm [] (Bq (RH (Qe hr.XW) (jv 2) (Sx Zd) (Zr _)) (Fd (RH Uc (Zw (K:=K) rfl (Zg (Zw (K:=K) rfl (jv 0)) (jv 2))) (jv 3) (by with_unfolding_all rfl)))))))),λxs q x h=>?_⟩)
 ·obtain ⟨z,st,rs,i,ab,r,rfl,hr,hm⟩:=h
  walk_at "rd"
  have hr':atI (rs.map (Ru.d A)) (i:Int)=some (r.d A):=Xn (by rw [getElem?_map,hr];rfl)
  refine ⟨_,hr',?_⟩
  walk_at "rd"
  unfold mayS at hm
  cases ht:r.t with
  | none =>
   rw [ht] at hm
   walk_at "rd"
   exact hm
  | some us =>
   rw [ht] at hm
   simp only at hm
   walk_at "rd"
   refine LZ (λe=>?_) (λe=>?_)
   ·rw [if_neg e] at hm
    obtain ⟨r',h1,h2,h3⟩:=hm
    refine ⟨r'.d A,?_,?_⟩
    ·have:=Xn (xs:=rs.map (Ru.d A)) (j:=ab.toNat) (v:=r'.d A) (by rw [getElem?_map,h1];rfl)
     rw [Int.toNat_of_nonneg h2] at this
     exact this
    ·walk_at "rd"
     exact h3
   ·rw [if_pos e] at hm
    exact hm
abbrev s62:Str := "abcdefghijklmnopqrstuvwxyz0123456789ABCDEFGHIJKLMNOPQRSTUVWXYZ"
theorem yw (x:Str) (lo hi:Option Int) {n:Nat}(h:x.length<=n):(Txt.slice x lo hi).length<=n:=Nat.le_trans (Txt.slice_le x lo hi) h
theorem FI (x y:Str):(x++y).length=x.length + y.length:=by
 show (x.cps++y.cps).size=_
 rw [Array.size_append]
 rfl
noncomputable def Aa (F z:Str):Prop:=∃ c r,z.cps.toList=c::r/\c∈F.cps.toList/\(∀ d∈r,d∈s62.cps.toList)/\r.length<=11
theorem Aa.len {F z:Str}(h:Aa F z):1<=z.length/\z.length<=12:=by
 obtain ⟨c,r,e,_,_,hl⟩:=h
 rw [Ic,e,length_cons]
 omega
theorem IX {f:Nat->Str}{n:Nat}(h:∀ i j,i < j->j < n->f i≠f j):((List.range n).map f).Nodup:=by
 refine List.pairwise_map.mpr (List.Pairwise.imp_of_mem (λ{a b} _ hb lt=>h a b lt (mem_range.mp hb)) List.pairwise_lt_range)
theorem xS {α:Type}{xs:List α}(h:xs.Nodup) {i j:Nat}(lt:i < j) (hj:j < xs.length):xs[i]?≠xs[j]?:=by
 rw [aC (by omega),aC hj]
 intro e
 have:=(List.getElem_inj h).mp (Option.some.inj e)
 omega
noncomputable def sgR (F:Str) (i:Int):Nat:=F.cps.toList.getD (i % (F.length:Int)).toNat 0
theorem Rz {F:Str}(h:0 < F.length) (i:Int):atI F.cps.toList (i % (F.length:Int))=some (sgR F i)/\sgR F i∈F.cps.toList:=by
 have h1:=Int.emod_nonneg i (show (F.length:Int)≠0 by omega)
 have h2:=Int.emod_lt_of_pos i (show (0:Int) < F.length by omega)
 have hl:(i % (F.length:Int)).toNat < F.cps.toList.length:=by rw [<-Ic];omega
 have e:sgR F i=F.cps.toList[(i % (F.length:Int)).toNat]:=by
  unfold sgR
  rw [getD_eq_getElem?_getD,aC hl]
  rfl
 rw [e]
 exact ⟨OY (by omega) hl,getElem_mem hl⟩
theorem qt {F:Str}(hn:F.cps.toList.Nodup) {n:Nat}(hF:n<=F.length) (a:Int) {i j:Nat}(lt:i < j) (hj:j < n):sgR F (a + i)≠sgR F (a + j):=by
 intro e
 have h1:=(Rz (F:=F) (by omega) (a + i)).1
 have h2:=(Rz (F:=F) (by omega) (a + j)).1
 rw [e] at h1
 have b1:=Int.emod_nonneg (a + i) (show (F.length:Int)≠0 by omega)
 have b2:=Int.emod_lt_of_pos (a + i) (show (0:Int) < F.length by omega)
 have c1:=Int.emod_nonneg (a + j) (show (F.length:Int)≠0 by omega)
 have c2:=Int.emod_lt_of_pos (a + j) (show (0:Int) < F.length by omega)
 have l1:((a + i) % (F.length:Int)).toNat < F.cps.toList.length:=by rw [<-Ic];omega
 have l2:((a + j) % (F.length:Int)).toNat < F.cps.toList.length:=by rw [<-Ic];omega
 rw [OY (j:=((a + i) % (F.length:Int)).toNat) (by omega) l1] at h1
 rw [OY (j:=((a + j) % (F.length:Int)).toNat) (by omega) l2] at h2
 have:=(List.getElem_inj hn).mp (Option.some.inj (h1.trans h2.symm))
 have eq:(a + i) % (F.length:Int)=(a + j) % (F.length:Int):=by omega
 have:=Int.emod_emod_of_dvd (a + j - (a + i)) (Int.dvd_refl (F.length:Int))
 have d:((a + j) - (a + i)) % (F.length:Int)=0:=Int.emod_eq_emod_iff_emod_sub_eq_zero.mp eq.symm
 have d2:(a + j) - (a + i)=((j:Int) - i):=by omega
 rw [d2,Int.emod_eq_of_lt (by omega) (by omega)] at d
 omega
noncomputable def Og (m:Int):List Nat:=(List.range 11).map λ(j:Nat)=>sgR s62 (ER m ((j:Int) + 1) + (j:Int) * (j:Int))
theorem qu (m:Int):∀ d∈Og m,d∈s62.cps.toList:=by
 intro d hd
 unfold Og at hd
 obtain ⟨j,_,rfl⟩:=mem_map.mp hd
 exact (Rz (by decide +kernel) _).2
theorem xT (m:Int):(Og m).length=11:=by unfold Og;simp
theorem join_one (cs:List Nat):(Txt.join "" (cs.map λc=>(⟨#[c]⟩:Str))).cps.toList=cs:=by
 rw [pW]
 induction cs with
 | nil=>rfl
 | cons a r ih=>rw [map_cons,map_cons,flatten_cons,ih];rfl
theorem YQ {i:Int}(a : -(2 ^ 64) < i) (b:i < 2 ^ 64):Small i := .inr ((Bd.of a b).mono (by decide))
theorem hZ:s62.cps.toList.Nodup:=by decide +kernel
theorem ml:s62.length=62:=by decide +kernel
noncomputable def Hy (F:Str) (n:Nat) (zs:List Str):Prop:=zs.length=n/\(∀ z∈zs,Aa F z)/\zs.Nodup
noncomputable def xU:DSp:=λxs q _=>∃ (cell:Int) (n:Nat) (F:Str),xs=[.int cell,.int n,.str F]/\n<=12/\12<=F.length/\F.length<=100/\F.cps.toList.Nodup/\∀ zs,Hy F n zs->q (.lst (zs.map .str))
theorem Ni {A:Adr}(T:Txt K mg A):Zx P w K mg base (CXE P w) 2 A.Px A.Lx Pg (spD K xU):=by
 haveI:TxC K A:=⟨⟨_,T⟩⟩
 refine T.VY.F.okJ Xp (by walk_at "ln") (λcdv Ar outer s H E hr=>⟨_,(Za (ZR 3 Xp.nd Yt)
   (Za (ZR 4 Xp.nd (Zq (XR T) T.L_l_mix hr (Zc (jv 0) (Zc Zd Zb))))
   (Za (ZR 5 Xp.nd (Zi Zv (Zi ZK (jv 4) Zd) (Yl Yd (by rfl) T.b_len PySem.boot_len (Zc (jv 2) Zb))))
   (Za (ZR 6 Xp.nd (je_bm PySem.F.plainAttrs_str PySem.F.slot_str_join PySem.F.type_str_join og Yt (Zc (Ye ["_law_j"] ["_law_rest", "_law_number"] [3,4] (XX (by rfl) T.b_range (Zc Zd Zb)) (λ_=>(ZQ 0 (nDk ["_law_j"] ["_law_rest", "_law_number"]))) (λ_=>Yz) (λ_=>(Zg (jv 1) (Zi Zv (Zi ZJ (Zi ZK (jv 2) (Zi ZJ (jv 0) Zd)) (Zi Qc (jv 0) (jv 0))) Zd)))) Zb)))
   (Za (ZD [] (Zn (XH hr.XW) (Zi Zv (jv 4) Zd) Zd (Zr _)) (Ze (Zm [] (Ye ["_law_k"] ["_law_firsts", "_law_start_here", "_law_tail"] [2,5,6] (XX (by rfl) T.b_range (Zc (jv 1) Zb)) (λ_=>(ZQ 0 (nDk ["_law_k"] ["_law_firsts", "_law_start_here", "_law_tail"]))) (λ_=>Yz) (λ_=>(Zi ZJ (Zg (jv 1) (jv 2)) (Vo (jv 3) YM (Yu (jv 0)))))))) Zk)
   (Za (ZD [] (Zn (XH hr.XW) (Zi Zv (jv 4) Zd) Zd (Zr _)) (Za (ZR 7 Xp.nd (Zi Zv (Zi ZK (jv 4) Zd) Zd))
   (Ze (Zm [] (Ye ["_law_k"] ["_law_firsts", "_law_tail", "_law_size", "_law_start_here"] [2,6,7,5] (XX (by rfl) T.b_range (Zc (jv 1) Zb)) (λ_=>(ZQ 0 (nDk ["_law_k"] ["_law_firsts", "_law_tail", "_law_size", "_law_start_here"]))) (λ_=>Yz) (λ_=>(Zi ZJ (Zg (jv 1) (Zi Zv (Zi ZJ (jv 4) (jv 0)) (Yl Yd (by rfl) T.b_len PySem.boot_len (Zc (jv 1) Zb)))) (Vo (jv 2) YM (Yu (jv 3))))))))) Zk)
   (Za (ZR 7 Xp.nd (Zi Zv (Zi ZK (jv 4) Zd) Zd))
   (Za (ZR 8 Xp.nd (Zi Zv (Zi ZK (jv 4) Zd) (Zi ZJ (jv 7) Zd)))
   (Za (ZR 3 Xp.nd (Ye ["_law_k"] ["_law_rest", "_law_number"] [3,4] (XX (by rfl) T.b_range (Zc (jv 1) Zb)) (λ_=>(ZQ 0 (nDk ["_law_k"] ["_law_rest", "_law_number"]))) (λ_=>Yz) (λ_=>(Zg (jv 1) (Zi Zv (Zi ZJ (Zi ZK (jv 2) Zd) (jv 0)) Zd)))))
   (Ze (Zm [] (Ye ["_law_sign"] ["_law_tail", "_law_at_here", "_law_size", "_law_firsts", "_law_start_here"] [6,8,7,2,5] (Yb (jv 3)) (λ_=>(ZQ 0 (nDk ["_law_sign"] ["_law_tail", "_law_at_here", "_law_size", "_law_firsts", "_law_start_here"]))) (λ_=>Yz) (λ_=>(Zi ZJ (Zi ZJ (Zi ZJ (Zg (jv 4) (jv 5)) (Vo (jv 1) YM (Yu (jv 2)))) (jv 0)) (Vo (jv 1) (Yu (jv 2)) (Yu (jv 3))))))))))))))))),λxs q x h=>?_⟩)
 ·obtain ⟨cell,n,F,rfl,n12,F0,F1,Fn,hq⟩:=h
  have hsz:aA=16777216:=rfl
  walk_at "rd"
  refine ⟨_,_,rfl,by decide,by decide,?_⟩
  have m1:=Rv cell 0
  have m2:=OZ cell 0
  generalize mix cell 0=m at m1 m2 ⊢
  walk_at "rd"
  have one:∀ c:Nat,(⟨#[c]⟩:Str).length=1:=λ_=>rfl
  refine ⟨by decide,YQ (by decide) (by decide),by omega,by omega,by decide,by decide,Mp (λj => .str ⟨#[sgR s62 (ER m ((j:Int) + 1) + (j:Int) * (j:Int))]⟩) (by decide) (λj hj N hN=>?_) ?_⟩
  ·have hj:j < 11:=hj
   walk_at "rd"
   exact ⟨by omega,YQ (by omega) (by omega),.l (by omega) (by omega),by decide,by decide +kernel,_,(Rz (F:=s62) (by decide +kernel) _).1,hN⟩
  have et:(List.range (Int.toNat 11)).map (λj:Nat=>D.str ⟨#[sgR s62 (ER m ((j:Int) + 1) + (j:Int) * (j:Int))]⟩)=((Og m).map λc=>(⟨#[c]⟩:Str)).map .str:=by unfold Og;rw [map_map,map_map];rfl
  rw [et]
  have tl0:=join_one (Og m)
  have tl1:=xT m
  have tl2:=qu m
  walk_at "rd"
  refine ⟨?_,by decide,?_⟩
  ·have:=uW (zs:=(Og m).map λc=>(⟨#[c]⟩:Str)) (m:=1) (λz hz=>by obtain ⟨c,_,rfl⟩:=mem_map.mp hz;exact Nat.le_refl 1)
   rw [length_map] at this
   rw [show (Str.ofString "").length=0 from rfl]
   omega
  generalize Txt.join "" ((Og m).map λc=>(⟨#[c]⟩:Str))=tl at tl0 ⊢
  generalize Og m=cs at tl0 tl1 tl2 ⊢
  have tlen:tl.length=11:=by rw [Ic,tl0,tl1]
  obtain ⟨k0,k1⟩:=Rz (F:=F) (by omega) (m / 5)
  rw [Xd (show (0:Int) < F.length by omega)]
  have nd0:∀ {A B:Prop},(A->B)->A->B:=λf a=>f a
  refine XF (λe0=>⟨by omega,by omega,Mp (λk => .str (⟨#[sgR F (m / 5)]⟩++Txt.slice tl none (some (k:Int)))) (by omega) (λk hk N hN=>?_) ?_⟩) (λe0=>⟨by decide,XF (λe1=>?_) (λe1=>?_)⟩)
  ·have hk:k < n:=by simpa using hk
   have g2:=yw tl none (some (k:Int)) (Nat.le_of_eq tlen)
   walk_at "rd"
   exact ⟨by omega,_,k0,by omega,by rw [one];omega,hN⟩
  ·rw [show ((n:Int).toNat)=n from by omega]
   have:=hq ((List.range n).map λ(k:Nat)=>⟨#[sgR F (m / 5)]⟩++Txt.slice tl none (some (k:Int))) ⟨by simp,λz hz=>?_,IX λi j lt hj e=>?_⟩
   ·rw [map_map] at this
    exact this
   ·obtain ⟨k,hk,rfl⟩:=mem_map.mp hz
    have hk:=mem_range.mp hk
    have g1:=EE (x:=tl) (j:=(k:Int)) (by omega) (by rw [tl0,tl1];omega)
    exact ⟨_,(Txt.slice tl none (some (k:Int))).cps.toList,by rw [Sv];rfl,k1,λd hd=>tl2 d (mem_of_mem_take (by rw [g1,tl0] at hd;exact hd)),by rw [g1,tl0,length_take,tl1];omega⟩
   ·have g1:=EE (x:=tl) (j:=(i:Int)) (by omega) (by rw [tl0,tl1];omega)
    have g2:=EE (x:=tl) (j:=(j:Int)) (by omega) (by rw [tl0,tl1];omega)
    have e:=congrArg (λz:Str=>z.cps.toList.length) e
    simp only [Sv,g1,g2,tl0,length_append,length_take,tl1,GW,length_cons,length_nil,Int.toNat_natCast] at e
    omega
  ·refine ⟨by decide,YQ (by decide) (by decide),by decide,by omega,by omega,?_⟩
   have b1:=Int.emod_nonneg (m / 3) (show (12:Int)≠0 by decide)
   have b2:=Int.emod_lt_of_pos (m / 3) (show (0:Int) < 12 by decide)
   generalize m / 3 % 12=sz at b1 b2 ⊢
   have g1:=EE (x:=tl) (j:=sz) (by omega) (by rw [tl0,tl1];omega)
   have g2:=yw tl none (some sz) (Nat.le_of_eq tlen)
   generalize m / 5 % (F.length:Int)=st at k0 ⊢
   refine Mp (λk => .str (⟨#[sgR F (st + k)]⟩++Txt.slice tl none (some sz))) (by omega) (λk hk N hN=>?_) ?_
   ·walk_at "rd"
    rw [Xd (show (0:Int) < F.length by omega)]
    exact ⟨by omega,by omega,by omega,_,(Rz (F:=F) (by omega) (st + k)).1,by omega,by rw [one];omega,hN⟩
   ·rw [show ((n:Int).toNat)=n from by omega]
    have:=hq ((List.range n).map λ(k:Nat)=>⟨#[sgR F (st + k)]⟩++Txt.slice tl none (some sz)) ⟨by simp,λz hz=>?_,IX λi j lt hj e=>?_⟩
    ·rw [map_map] at this
     exact this
    ·obtain ⟨k,hk,rfl⟩:=mem_map.mp hz
     exact ⟨_,(Txt.slice tl none (some sz)).cps.toList,by rw [Sv];rfl,(Rz (F:=F) (by omega) (st + k)).2,λd hd=>tl2 d (mem_of_mem_take (by rw [g1,tl0] at hd;exact hd)),by rw [g1,tl0,length_take,tl1];omega⟩
    ·have e:=congrArg (λz:Str=>z.cps.toList.head?) e
     simp only [Sv,GW,cons_append,List.head?_cons,Option.some.injEq] at e
     exact qt Fn (by omega) st lt hj e
  ·refine ⟨by decide,YQ (by decide) (by decide),by decide,by decide,YQ (by decide) (by decide),?_⟩
   have b1:=Int.emod_nonneg (m / 3) (show (11:Int)≠0 by decide)
   have b2:=Int.emod_lt_of_pos (m / 3) (show (0:Int) < 11 by decide)
   generalize m / 3 % 11=sz at b1 b2 ⊢
   rw [Xd (show (0:Int) < sz + 1 by omega)]
   have d1:=Int.emod_nonneg (m / 33) (show sz + 1≠0 by omega)
   have d2:=Int.emod_lt_of_pos (m / 33) (show (0:Int) < sz + 1 by omega)
   generalize m / 33 % (sz + 1)=ah at d1 d2 ⊢
   refine ⟨by omega,by omega,by omega,Mp (λk => .str ⟨#[sgR s62 (m / 7 + k)]⟩) (by omega) (λk hk N hN=>?_) ?_⟩
   ·walk_at "rd"
    exact ⟨by decide,YQ (by decide) (by decide),by decide,by decide +kernel,_,(Rz (F:=s62) (by decide +kernel) _).1,hN⟩
   rw [show ((n:Int).toNat)=n from by omega]
   have g1:=EE (x:=tl) (j:=ah) (by omega) (by rw [tl0,tl1];omega)
   have g2:=yw tl none (some ah) (Nat.le_of_eq tlen)
   have g3:=sl_ft (x:=tl) (i:=ah) (j:=sz) (by omega) (by omega) (by rw [tl0,tl1];omega)
   have g4:=yw tl (some ah) (some sz) (Nat.le_of_eq tlen)
   let nm:Nat->Str:=λk=>⟨#[sgR F (m / 5)]⟩++Txt.slice tl none (some ah)++⟨#[sgR s62 (m / 7 + k)]⟩++Txt.slice tl (some ah) (some sz)
   refine Xv (c:=λk:Nat => .str ⟨#[sgR s62 (m / 7 + k)]⟩) (xs:=List.range n) (λk => .str (nm k)) (by simp;omega) (λk hk N hN=>?_) ?_
   ·walk_at "rd"
    exact ⟨by omega,_,k0,by omega,by rw [one];omega,by rw [FI,one,one];omega,by omega,by rw [FI,FI,one,one];omega,hN⟩
   have es:∀ k,(nm k).cps.toList=sgR F (m / 5)::(cs.take ah.toNat++[sgR s62 (m / 7 + k)]++(cs.drop ah.toNat).take (sz - ah).toNat):=λk=>by
    show (((⟨#[sgR F (m / 5)]⟩:Str)++Txt.slice tl none (some ah)++(⟨#[sgR s62 (m / 7 + k)]⟩:Str))++Txt.slice tl (some ah) (some sz)).cps.toList=_
    rw [Sv,Sv,Sv,g1,g3,tl0,GW,GW]
    simp
   have:=hq ((List.range n).map nm) ⟨by simp,λz hz=>?_,IX λi j lt hj e=>?_⟩
   ·rw [map_map] at this
    exact this
   ·obtain ⟨k,hk,rfl⟩:=mem_map.mp hz
    refine ⟨_,_,es k,k1,λd hd=>?_,?_⟩
    ·rcases mem_append.mp hd with hd | hd
     ·rcases mem_append.mp hd with hd | hd
      ·exact tl2 d (mem_of_mem_take hd)
      ·rw [mem_singleton.mp hd];exact (Rz (F:=s62) (by decide +kernel) _).2
     ·exact tl2 d (List.mem_of_mem_drop (mem_of_mem_take hd))
    ·rw [length_append,length_append,length_take,length_take,length_drop,tl1]
     simp only [length_cons,length_nil]
     omega
   ·have e:=congrArg (λz:Str=>z.cps.toList) e
    simp only [es,List.cons.injEq,true_and,append_assoc,List.append_cancel_left_eq,cons_append,nil_append] at e
    exact qt (F:=s62) hZ (n:=12) (by rw [ml];decide) (m / 7) lt (by omega) e.1
noncomputable def lowP (a b:Int):Int:=a.fdiv (Int.gcd a b:Int)
noncomputable def Je (a b:Int):Int:=b.fdiv (Int.gcd a b:Int)
noncomputable def Ab:DSp:=λxs q _=>∃ a b:Int,xs=[.int a,.int b]/\0 < b/\Bd 9000 b/\q (wD (lowP a b) (Je a b))
theorem KJ {A:Adr}(T:Txt K mg A):Zx P w K mg base (CXE P w) 1 A.Rf A.OQ SM (spD K Ab):=by
 haveI:TxC K A:=⟨⟨_,T⟩⟩
 refine T.Ut.F.okJ Wu (by walk_at "ln") (λcdv Ar outer s H E hr=>⟨_,(Za (ZR 2 Wu.nd (Yl tK (by rfl) T.b_abs PyProof.Rows.boot_abs (Zc (jv 0) Zb)))
   (Za (ZR 3 Wu.nd (jv 1))
   (Za (Qg [] PassesOwn.leaving (Zn Kz (jv 3) Zd (Zr _)) (Za (ZR 4 Wu.nd (Zi Zv (jv 2) (jv 3)))
   (Za (ZR 2 Wu.nd (jv 3))
   (Ze (ZR 3 Wu.nd (jv 4))))))
   (Ze (Zm [] (ZW (Zc (Zi ZK (jv 0) (jv 2)) (Zc (Zi ZK (jv 1) (jv 2)) Zb)))))))),λxs q x h=>?_⟩)
 ·obtain ⟨a,b,rfl,hb,hB,hq⟩:=h
  have gp:=NK (a:=a) (b:=b) (by omega)
  have gB:Bd 9000 (Int.gcd a b:Int):=hB.le (by
   have:=Int.le_of_dvd hb (Int.gcd_dvd_right a b)
   omega)
  walk_at "rd"
  refine ⟨λm ds=>∃ (x y:Int) (s:L2.Slot),ds=[.v (.int a),.v (.int b),.v (.int x),.v (.int y),s]/\0<=x/\0<=y/\Int.gcd x y=Int.gcd a b/\m=y.natAbs,⟨_,_,b,.un,rfl,by split <;> omega,by omega,by split <;> simp [Int.neg_gcd],rfl⟩,?_⟩
  rintro m _ ⟨x,y,s,rfl,hx,hy,e,rfl⟩
  walk_at "rd"
  refine XF (λhp=>?_) (λhp=>?_)
  ·rw [Ff]
   exact ⟨by omega,_,zP x y (by omega),by omega,Int.fmod_nonneg hx hy,(EH x y).trans e,rfl⟩
  ·have ey:y=0:=by omega
   subst ey
   have ex:x=(Int.gcd a b:Int):=by
    rw [<-e,Int.gcd_zero_right]
    omega
   subst ex
   rw [NP,NP]
   exact ⟨by omega,.inr gB,by omega,.inr gB,by decide,hq⟩
theorem Du {α:Type}(xs:List α) (d:α) (i:Int) {n:Nat}(h:n=xs.length) (h0:0 < n):xs.getD (i % (n:Int)).toNat d∈xs:=by
 have h1:=Int.emod_nonneg i (show (n:Int)≠0 by omega)
 have h2:=Int.emod_lt_of_pos i (show (0:Int) < n by omega)
 have hl:(i % (n:Int)).toNat < xs.length:=by omega
 rw [getD_eq_getElem?_getD,aC hl]
 exact getElem_mem hl
noncomputable def wT (c m:Int):Int:=([1,2,1,3,c % 10 ^ 12,m]:List Int).getD (m % 6).toNat 0
noncomputable def wB (m:Int):Int:=([1,1,2,4,1 + m / 7 % 10 ^ 9,3]:List Int).getD (m / 6 % 6).toNat 0
noncomputable def Dv (c m:Int) (z:Str):Int:=if z = "chance" then wT c m + (if wT c m=0 then 1 else 0) else if m / 36 % 4=0 then -wT c m else wT c m
noncomputable def wP (c k:Int) (z:Str):Int:=lowP (Dv c (mix c k) z) (wB (mix c k))
noncomputable def wQ (c k:Int) (z:Str):Int:=Je (Dv c (mix c k) z) (wB (mix c k))
theorem lT (c m:Int) (h0:0<=m) (h1:m < 2 ^ 40):0<=wT c m/\wT c m < 2 ^ 50:=by
 have hm:=Du ([1,2,1,3,c % 10 ^ 12,m]:List Int) 0 m (n:=6) rfl (by decide)
 unfold wT
 have c1:=Int.emod_nonneg c (show (10:Int) ^ 12≠0 by decide)
 have c2:=Int.emod_lt_of_pos c (show (0:Int) < 10 ^ 12 by decide)
 generalize ([1,2,1,3,c % 10 ^ 12,m]:List Int).getD (m % ((6:Nat):Int)).toNat 0=v at hm ⊢
 simp only [mem_cons,not_mem_nil,or_false] at hm
 rcases hm with rfl | rfl | rfl | rfl | rfl | rfl <;> constructor <;> omega
theorem lU (m:Int) (h0:0<=m):0 < wB m/\wB m < 2 ^ 50:=by
 have hm:=Du ([1,1,2,4,1 + m / 7 % 10 ^ 9,3]:List Int) 0 (m / 6) (n:=6) rfl (by decide)
 unfold wB
 have c1:=Int.emod_nonneg (m / 7) (show (10:Int) ^ 9≠0 by decide)
 have c2:=Int.emod_lt_of_pos (m / 7) (show (0:Int) < 10 ^ 9 by decide)
 generalize ([1,1,2,4,1 + m / 7 % 10 ^ 9,3]:List Int).getD (m / 6 % ((6:Nat):Int)).toNat 0=v at hm ⊢
 simp only [mem_cons,not_mem_nil,or_false] at hm
 rcases hm with rfl | rfl | rfl | rfl | rfl | rfl <;> constructor <;> omega
noncomputable def Nj:DSp:=λxs q _=>∃ (c k:Int) (z:Str),xs=[.int c,.int k,.str z] /\ -(2 ^ 20) < k/\k < 2 ^ 20/\q (wD (wP c k z) (wQ c k z))
theorem KL {A:Adr}(T:Txt K mg A):Zx P w K mg base (CXE P w) 2 A.Rg A.OS SN (spD K Nj):=by
 haveI:TxC K A:=⟨⟨_,T⟩⟩
 refine T.Uu.F.okJ Wv (by walk_at "ln") (λcdv Ar outer s H E hr=>⟨_,(Za (ZR 3 Wv.nd (Zq (XR T) T.L_l_mix hr (Zc (jv 0) (Zc (jv 1) Zb))))
   (Za (ZR 4 Wv.nd (Zg (Vw (Zc Zd (Zc Zd (Zc Zd (Zc Zd (Zc (Zi Zv (jv 0) (Zi MS Zd Zd)) (Zc (jv 3) Zb))))))) (Zi Zv (jv 3) Zd)))
   (Za (ZR 5 Wv.nd (Zg (Vw (Zc Zd (Zc Zd (Zc Zd (Zc Zd (Zc (Zi ZJ Zd (Zi Zv (Zi ZK (jv 3) Zd) (Zi MS Zd Zd))) (Zc Zd Zb))))))) (Zi Zv (Zi ZK (jv 3) Zd) Zd)))
   (Za (ZD [] (Zn (XH hr.XW) (jv 2) Yt (Zr _)) (Ze (ZR 4 Wv.nd (Zi ZJ (jv 4) (UK jQ (by rfl) T.b_int PyProof.Rows.boot_int (Zc (RH (XH hr.XW) (jv 4) Zd (Zr _)) Zb))))) (Ze (ZD [] (Zn (XH hr.XW) (Zi Zv (Zi ZK (jv 3) Zd) Zd) Zd (Zr _)) (Ze (ZR 4 Wv.nd (Sx (jv 4)))) Zk)))
   (Ze (Zm [] (Zq (KJ T) T.Ut hr (Zc (jv 4) (Zc (jv 5) Zb))))))))),λxs q x h=>?_⟩)
 ·obtain ⟨c,k,z,rfl,k1,k2,hq⟩:=h
  walk_at "rd"
  refine ⟨_,_,rfl,k1,k2,?_⟩
  unfold wP wQ at hq
  have m1:=Rv c k
  have m2:=OZ c k
  generalize mix c k=m at m1 m2 hq ⊢
  have w1:=lT c m m1 (by omega)
  have w2:=lU m m1
  walk_at "rd"
  rw [show Fe c (10 ^ Int.toNat 12)=c % 10 ^ 12 from Xd (by decide),show Fe (m / 7) (10 ^ Int.toNat 9)=m / 7 % 10 ^ 9 from Xd (by decide)]
  refine ⟨⟨by decide,by decide,by decide⟩,by decide,by decide,by decide,.int (wT c m),Jy D.int [1,2,1,3,c % 10 ^ 12,m] 0 (by omega) (by show m % 6 < 6;omega),by decide,YQ (by decide) (by decide),⟨by decide,by decide,by decide⟩,by decide,by decide,by decide,YQ (by decide) (by decide),by decide,
   .int (wB m),Jy D.int [1,1,2,4,1 + m / 7 % 10 ^ 9,3] 0 (by omega) (by show m / 6 % 6 < 6;omega),?_⟩
  unfold Dv at hq
  generalize wT c m=t at w1 hq ⊢
  generalize wB m=b at w2 hq ⊢
  have bB:Bd 9000 b:=(Bd.of (n:=64) (by omega) (by omega)).mono (by decide)
  refine XF (λe=>?_) (λe=>⟨by decide,YQ (by decide) (by decide),by decide,XF (λe1=>?_) (λe1=>?_)⟩)
  ·walk_at "rd"
   rw [if_pos e] at hq
   exact ⟨_,_,rfl,w2.1,bB,by simpa using hq⟩
  ·rw [if_neg e,if_pos e1] at hq
   exact ⟨_,_,rfl,w2.1,bB,hq⟩
  ·rw [if_neg e,if_neg e1] at hq
   exact ⟨_,_,rfl,w2.1,bB,hq⟩
inductive Tr where
 | lf (d:D)
 | nd (k:Int) (ts:List Tr)
mutual
noncomputable def Tr.d:Tr->D
 | .lf d=>d
 | .nd k ts => .tup [.int k,.tup (Tr.ds ts)]
noncomputable def Tr.ds:List Tr->List D
 | []=>[]
 | t::ts=>t.d::Tr.ds ts
end
theorem Tr.gd (ts:List Tr):Tr.ds ts=ts.map Tr.d:=by
 induction ts with
 | nil=>rfl
 | cons t ts ih=>unfold Tr.ds;rw [ih];rfl
theorem FJ {k:Int}{ts:List Tr}:(Tr.nd k ts).d = .tup [.int k,.tup (ts.map Tr.d)]:=by unfold Tr.d;rw [Tr.gd]
theorem xV {d:D}:(Tr.lf d).d=d:=by unfold Tr.d;rfl
mutual
noncomputable def Tr.sz:Tr->Nat
 | .lf _=>1
 | .nd _ ts=>1 + Tr.szs ts
noncomputable def Tr.szs:List Tr->Nat
 | []=>0
 | t::ts=>t.sz + Tr.szs ts
end
theorem Tr.YC (a b:List Tr):Tr.szs (a++b)=Tr.szs a + Tr.szs b:=by
 induction a with
 | nil=>simp [Tr.szs]
 | cons t a ih=>rw [cons_append,Tr.szs,Tr.szs,ih];omega
theorem Tr.mn (a:List Tr):Tr.szs a.reverse=Tr.szs a:=by
 induction a with
 | nil=>rfl
 | cons t a ih=>rw [reverse_cons,Tr.YC,ih,Tr.szs,Tr.szs,Tr.szs];omega
theorem Tr.Ad (t:Tr):1<=t.sz:=by cases t <;> unfold Tr.sz <;> omega
theorem Tr.RA (ts:List Tr):ts.length<=Tr.szs ts:=by
 induction ts with
 | nil=>simp
 | cons t ts ih=>have:=t.Ad;rw [Tr.szs,length_cons];omega
theorem Tr.Ae (p:Tr->Bool) (ts:List Tr):Tr.szs (ts.filter p)<=Tr.szs ts:=by
 induction ts with
 | nil=>simp
 | cons t ts ih =>
  rw [filter_cons]
  split
  ·rw [Tr.szs,Tr.szs];omega
  ·rw [Tr.szs];omega
-- each leaf is a number
mutual
noncomputable def Tr.pl:Tr->Bool
 | .lf (.int _)=>true
 | .lf _=>false
 | .nd _ ts=>Tr.pls ts
noncomputable def Tr.pls:List Tr->Bool
 | []=>true
 | t::ts=>t.pl && Tr.pls ts
end
theorem Tr.Ms (ts:List Tr):Tr.pls ts=ts.all Tr.pl:=by
 induction ts with
 | nil=>rfl
 | cons t ts ih=>rw [Tr.pls,all_cons,ih]
theorem Tr.KM {d:D}(h:(Tr.lf d).pl=true):∃ i,d = .int i:=by
 cases d with
 | int i=>exact ⟨i,rfl⟩
 | _=>unfold Tr.pl at h;cases h
theorem Tr.Dw {k:Int}{ts:List Tr}(h:(Tr.nd k ts).pl=true):∀ t∈ts,t.pl=true:=by
 unfold Tr.pl at h
 rw [Tr.Ms,all_eq_true] at h
 exact h
noncomputable def Tr.Uz:Tr->Bool
 | .nd _ _=>true
 | .lf _=>false
-- the numbers of the rules,in the order of the row
mutual
noncomputable def Tr.rl:Tr->List Int
 | .lf _=>[]
 | .nd k ts=>k::Tr.rls ts
noncomputable def Tr.rls:List Tr->List Int
 | []=>[]
 | t::ts=>t.rl++Tr.rls ts
end
theorem Tr.RB (a b:List Tr):Tr.rls (a++b)=Tr.rls a++Tr.rls b:=by
 induction a with
 | nil=>simp [Tr.rls]
 | cons t a ih=>rw [cons_append,Tr.rls,Tr.rls,ih,append_assoc]
theorem Tr.gf (ts:List Tr):Tr.rls (ts.filter Tr.Uz)=Tr.rls ts:=by
 induction ts with
 | nil=>rfl
 | cons t ts ih =>
  cases t with
  | lf d=>rw [List.filter_cons_of_neg (by simp [Tr.Uz]),ih,Tr.rls];simp [Tr.rl]
  | nd k us=>rw [List.filter_cons_of_pos (by rfl),Tr.rls,Tr.rls,ih]
mutual
theorem Tr.gg:∀ t:Tr,t.rl.length<=t.sz
 | .lf _=>by unfold Tr.rl Tr.sz;simp
 | .nd k ts=>by unfold Tr.rl Tr.sz;have:=Tr.Jz ts;rw [length_cons];omega
theorem Tr.Jz:∀ ts:List Tr,(Tr.rls ts).length<=Tr.szs ts
 | []=>by unfold Tr.rls Tr.szs;simp
 | t::ts=>by unfold Tr.rls Tr.szs;have:=Tr.gg t;have:=Tr.Jz ts;rw [length_append];omega
end
def rd6:String:=rd5 ++ " dZip lP yu FJ xV lQ lN lO lM lK dIxS dRef lL"
local macro_rules | `(tactic| walk_at "rd") => rdM rd6
noncomputable def Af:DSp:=λxs q _=>∃ t:Tr,xs=[t.d]/\t.Uz=true/\t.pl=true/\t.sz<=1000000/\q (.lst (t.rl.map .int))
theorem Dx {t:Tr}(h:t.Uz=true):∃ k ts,t = .nd k ts:=by
 cases t with
 | lf _=>cases h
 | nd k ts=>exact ⟨k,ts,rfl⟩
theorem Dy {A:Adr}(T:Txt K mg A):Zx P w K mg base (CXE P w) 1 A.Rb A.OM SJ (spD K Af):=by
 haveI:TxC K A:=⟨⟨_,T⟩⟩
 refine T.Ro.F.okJ Vq (by walk_at "ln") (λcdv Ar outer s H E hr=>⟨_,(Za (Xb (i:=1) Vq.nd rfl (Or.inl rfl) (Xz Zb))
   (Za (Xb (i:=2) Vq.nd rfl (Or.inl rfl) (Xz (Zc (jv 0) Zb)))
   (Za (Qg [2] PassesOwn.leaving (ZS (jv 2)) (Za (tY 2 (Xy (n:=2) (Zu (ZQ 3 Vq.nd) (Zu (ZQ 4 Vq.nd) YN))))
   (Za (WC [] 1 (jv 3))
   (Ze (Bw [] 2 (Ye ["kid"] [] [] (Yb (iT (jv 4) (Sx Zd))) (λ_=>(ZQ 0 (nDk ["kid"] []))) (λ_=>(Vx (ZS (Yl (XI (K:=K) rfl) (by rfl) T.ZF PyProof.Rows.boot_isinstance (Zc (jv 0) (Zc (Wp (n := "tuple") (by rfl) T.b_tuple PyProof.Rows.boot_tuple) Zb)))))) (λ_=>(jv 0))))))))
   (Ze (Zm [1] (jv 1)))))),λxs q x h=>?_⟩)
 ·obtain ⟨t,rfl,hn,hp,hs,hq⟩:=h
  have hsz:aA=16777216:=rfl
  walk_at "rd"
  refine ⟨by decide,by decide,λm ds'=>∃ (ns:List Int) (ws:List Tr) (s3 s4:L2.Slot),ds'=[.v t.d,.own (ns.map .int),.own (ws.map Tr.d),s3,s4]/\m=Tr.szs ws/\(∀ u∈ws,u.Uz=true/\u.pl=true)/\t.rl=ns++Tr.rls ws.reverse/\ns.length + Tr.szs ws<=1000000,⟨_,[],[t],_,_,rfl,rfl,λu hu=>?_,?_,?_⟩,?_⟩
  ·rw [mem_singleton.mp hu];exact ⟨hn,hp⟩
  ·simp [Tr.rls]
  ·simp [Tr.szs];exact hs
  rintro m _ ⟨ns,ws,s3,s4,rfl,rfl,hw,hr,hb⟩
  walk_at "rd"
  cases hl:ws.reverse with
  | nil =>
   have:ws=[]:=by rw [<-reverse_reverse ws,hl];rfl
   subst this
   walk_at "rd"
   rw [List.reverse_nil,Tr.rls,append_nil] at hr
   rw [hr] at hq
   exact hq
  | cons u rest =>
   have ew:ws=rest.reverse++[u]:=by rw [<-reverse_reverse ws,hl,reverse_cons]
   have hu:u∈ws:=by rw [ew];simp
   obtain ⟨k,ts,rfl⟩:=Dx (hw u hu).1
   have hpk:=Tr.Dw (hw _ hu).2
   have ne:(ws.map Tr.d).isEmpty=false:=by rw [ew];simp
   rw [ne]
   walk_at "rd"
   refine ⟨rest.reverse.map Tr.d,(Tr.nd k ts).d,by rw [ew];simp,?_⟩
   walk_at "rd"
   rw [ew,Tr.YC] at hb
   have szn:Tr.szs [Tr.nd k ts]=1 + Tr.szs ts:=by simp [Tr.szs,Tr.sz]
   have tl:=Tr.RA ts
   rw [<-List.map_reverse]
   refine ⟨by omega,SA Tr.Uz Tr.d (by rw [List.length_reverse];omega) (λu hu N hN=>?_) (λu hu _ N hN=>?_) ?_⟩
   ·have pu:=hpk u (List.mem_reverse.mp hu)
    cases u with
    | lf d =>
     obtain ⟨i,rfl⟩:=Tr.KM pu
     walk_at "rd"
     exact hN
    | nd k' ts' =>
     walk_at "rd"
     exact hN
   ·walk_at "rd"
    exact hN
   ·have fs:=Tr.Ae Tr.Uz ts.reverse
    rw [Tr.mn] at fs
    have fl:=Tr.RA (ts.reverse.filter Tr.Uz)
    have rl:=Tr.RA rest.reverse
    unfold wExt
    simp only [length_map]
    refine ⟨by omega,_,?_,ns++[k],by simp,rest.reverse++ts.reverse.filter Tr.Uz,by simp,rfl,λu hu=>?_,?_,?_⟩
    ·rw [ew,Tr.YC,Tr.YC];omega
    ·rcases mem_append.mp hu with h | h
     ·exact hw u (by rw [ew];exact mem_append_left _ h)
     ·obtain ⟨h1,h2⟩:=mem_filter.mp h
      exact ⟨h2,hpk u (List.mem_reverse.mp h1)⟩
    ·rw [hr,ew,List.reverse_append,List.reverse_append,<-List.filter_reverse,reverse_reverse,reverse_reverse,Tr.RB,Tr.RB,Tr.gf,append_assoc]
     congr 1
     rw [reverse_cons,List.reverse_nil,nil_append,Tr.rls,Tr.rls,append_nil,Tr.rl]
     rfl
    ·rw [Tr.YC,length_append,List.length_singleton];omega
noncomputable def stands (rs:List Ru) (r:Ru) (ab:Int):Bool:=match r.t with
 | none=>true
 | some us=>if ab = -1 then false else match rs[ab.toNat]? with
  | some r'=>decide (r'.ti∈us)
  | none=>false
noncomputable def Dz (rs:List Ru) (ab:Int):Prop:=ab = -1\/(0<=ab/\ab < rs.length)
theorem mq {rs:List Ru}{r:Ru}{ab:Int}{q:Bool->Prop}(h:Dz rs ab) (hq:q (stands rs r ab)):mayS rs r ab q:=by
 unfold mayS
 unfold stands at hq
 cases ht:r.t with
 | none=>rw [ht] at hq;exact hq
 | some us =>
  rw [ht] at hq
  simp only at hq ⊢
  by_cases e:ab = -1
  ·rw [if_pos e] at hq ⊢;exact hq
  ·rw [if_neg e] at hq ⊢
   rcases h with h | h
   ·exact absurd h e
   ·obtain ⟨r',hr'⟩:∃ r',rs[ab.toNat]?=some r':=⟨_,aC (by omega)⟩
    rw [hr'] at hq
    exact ⟨r',hr',h.1,hq⟩
noncomputable def Wt (rs:List Ru) (kd:Str) (ab:Int):Tr->Str
 | .lf _ => "rule"
 | .nd k ts=>if 0<=k/\k < rs.length then (match rs[k.toNat]? with
  | some r=>if r.hd≠kd then "head" else if stands rs r ab=false then "tied" else if ts.length≠r.ps.length then "kids" else ""
  | none => "rule") else "rule"
noncomputable def FK (A:Adr):DSp:=λxs q _=>∃ (z st:Str) (rs:List Ru) (kd:Str) (ab:Int) (t:Tr),xs=[Gr A z st rs,.str kd,.int ab,t.d]/\Dz rs ab/\t.pl=true/\q (.str (Wt rs kd ab t))
theorem Hz {A:Adr}(T:Txt K mg A):Zx P w K mg base (CXE P w) 2 A.VO A.Rc VI (spD K (FK A)):=by
 haveI:TxC K A:=⟨⟨_,T⟩⟩
 refine T.VR.F.okJ Tz (by walk_at "ln") (λcdv Ar outer s H E hr=>⟨_,(Za (ZD [] (Tt (Sa (Yk (ZS (Yl (XI (K:=K) rfl) (by rfl) T.ZF PyProof.Rows.boot_isinstance (Zc (jv 3) (Zc (Wp (n := "tuple") (by rfl) T.b_tuple PyProof.Rows.boot_tuple) Zb))))) (Ub (Yk (NM Gb Ii Zd (Zg (jv 3) Zd) (Yl Yd (by rfl) T.b_len PySem.boot_len (Zc (Zw (K:=K) rfl (jv 0)) Zb))))))) (Ze (Zm [] Yt)) Zk)
   (Za (Bt (jv 3) (Xy (n:=2) (Zu (ZQ 4 Tz.nd) (Zu (ZQ 5 Tz.nd) YN))))
   (Za (ZD [] (Zn (Qe hr.XW) (Zw (K:=K) rfl (Zg (Zw (K:=K) rfl (jv 0)) (jv 4))) (jv 1) (Zr _)) (Ze (Zm [] Yt)) Zk)
   (Za (ZD [] (Yk (ZS (Zq (FH T) T.Th hr (Zc (jv 0) (Zc (jv 4) (Zc (jv 2) Zb)))))) (Ze (Zm [] Yt)) Zk)
   (Za (ZD [] (Zn (Qe hr.XW) (Yl Yd (by rfl) T.b_len PySem.boot_len (Zc (jv 5) Zb)) (Yl Yd (by rfl) T.b_len PySem.boot_len (Zc (Zw (K:=K) rfl (Zg (Zw (K:=K) rfl (jv 0)) (jv 4))) Zb)) (Zr _)) (Ze (Zm [] Yt)) Zk)
   (Ze (Zm [] Yt))))))),λxs q x h=>?_⟩)
 ·obtain ⟨z,st,rs,kd,ab,t,rfl,ha,hp,hq⟩:=h
  have hsz:aA=16777216:=rfl
  cases t with
  | lf d =>
   obtain ⟨i,rfl⟩:=Tr.KM hp
   walk_at "rd"
   exact hq
  | nd k ts =>
   walk_at "rd"
   unfold Wt at hq
   dsimp only at hq
   refine ⟨_,rfl,?_⟩
   walk_at "rd"
   by_cases hk:0<=k/\k < rs.length
   ·rw [if_pos hk] at hq
    obtain ⟨r,hr⟩:∃ r,rs[k.toNat]?=some r:=⟨_,aC (by omega)⟩
    rw [hr] at hq
    simp only at hq
    have er:atI (rs.map (Ru.d A)) k=some (r.d A):=by
     have:=Xn (xs:=rs.map (Ru.d A)) (j:=k.toNat) (v:=r.d A) (by rw [getElem?_map,hr];rfl)
     rw [Int.toNat_of_nonneg hk.1] at this
     exact this
    rw [decide_eq_true hk.1]
    walk_at "rd"
    rw [decide_eq_true hk.2]
    walk_at "rd"
    refine ⟨_,er,?_⟩
    walk_at "rd"
    refine LZ (λe=>?_) (λe=>?_)
    ·rw [if_pos e] at hq;exact hq
    rw [if_neg (λz=>z e)] at hq
    have ek:(k.toNat:Int)=k:=Int.toNat_of_nonneg hk.1
    refine ⟨z,st,rs,k.toNat,ab,r,by rw [ek],hr,mq ha ?_⟩
    walk_at "rd"
    refine Ob (λe1=>?_) (λe1=>⟨_,er,?_⟩)
    ·rw [if_pos e1] at hq;exact hq
    rw [if_neg (by rw [e1];decide)] at hq
    walk_at "rd"
    refine LZ (λe2=>?_) (λe2=>?_)
    ·rw [if_pos (λz=>e2 (by omega))] at hq;exact hq
    ·rw [if_neg (λz=>z (by omega))] at hq;exact hq
   ·rw [if_neg hk] at hq
    refine XF (λe1=>?_) (λe1=>hq)
    refine Ob (λe2=>hq) (λe2=>absurd ⟨e1,of_decide_eq_true e2⟩ hk)
noncomputable def Gn (s:Str × Int × Tr):D := .tup [.str s.1,.int s.2.1,s.2.2.d]
theorem gh {p:Str}{ab:Int}{t:Tr}:Gn (p,ab,t) = .tup [.str p,.int ab,t.d]:=rfl
noncomputable def RN (ps:List Str) (k:Int) (ts:List Tr):List (Str × Int × Tr):=(ps.zip ts).map λp=>(p.1,k,p.2)
noncomputable def HA (A:Adr):DSp:=λxs q _=>∃ (z st:Str) (rs:List Ru) (k:Int) (ts:List Tr) (r:Ru),xs=[Gr A z st rs,(Tr.nd k ts).d]/\0<=k/\rs[k.toNat]?=some r/\ts.length<=1000000/\q (.lst ((RN r.ps k ts).map Gn))
theorem IY {A:Adr}(T:Txt K mg A):Zx P w K mg base (CXE P w) 1 A.Vf A.TQ Va (spD K (HA A)):=by
 haveI:TxC K A:=⟨⟨_,T⟩⟩
 refine T.Vk.F.okJ Uj (by walk_at "ln") (λcdv Ar outer s H E hr=>⟨_,(Za (Bt (jv 1) (Xy (n:=2) (Zu (ZQ 2 Uj.nd) (Zu (ZQ 3 Uj.nd) YN))))
   (Ze (Zm [] (Ye ["part", "kid"] ["number"] [2] (UM (by rfl) T.b_zip (Zc (Zw (K:=K) rfl (Zg (Zw (K:=K) rfl (jv 0)) (jv 2))) (Zc (jv 3) Zb))) (λ_=>(Xy (n:=2) (Zu (ZQ 0 (nDk ["part", "kid"] ["number"])) (Zu (ZQ 1 (nDk ["part", "kid"] ["number"])) YN)))) (λ_=>Yz) (λ_=>(ZW (Zc (jv 0) (Zc (jv 2) (Zc (jv 1) Zb))))))))),λxs q x h=>?_⟩)
 ·obtain ⟨z,st,rs,k,ts,r,rfl,hk,hr,hl,hq⟩:=h
  have hsz:aA=16777216:=rfl
  have er:atI (rs.map (Ru.d A)) k=some (r.d A):=by
   have:=Xn (xs:=rs.map (Ru.d A)) (j:=k.toNat) (v:=r.d A) (by rw [getElem?_map,hr];rfl)
   rw [Int.toNat_of_nonneg hk] at this
   exact this
  walk_at "rd"
  refine ⟨_,er,?_⟩
  walk_at "rd"
  refine ⟨_,rfl,_,rfl,?_⟩
  have ez:NT (r.ps.map D.str) (ts.map Tr.d)=(r.ps.zip ts).map λp => .tup [.str p.1,p.2.d]:=by
   unfold NT
   rw [zip_map,map_map]
   rfl
  rw [ez]
  refine QU (c:=λp:Str × Tr => .str p.1) (c':=λp:Str × Tr=>p.2.d) (λp => .tup [.str p.1,.int k,p.2.d]) (by rw [length_zip];omega) (λp hp N hN=>?_) ?_
  ·walk_at "rd"
   exact ⟨by decide,hN⟩
  ·unfold RN at hq
   rw [map_map] at hq
   exact hq
-- whether a thing can stand for a part beneath a rule,and all beneath it
mutual
noncomputable def YG (rs:List Ru) (p:Str) (ab:Int):Tr->Bool
 | .lf d => !Wy p
 | .nd k ts=>Wy p && decide (Wt rs p ab (.nd k ts) = "") && Xl rs ((rs[k.toNat]?.map (·.ps)).getD []) k ts
noncomputable def Xl (rs:List Ru):List Str->Int->List Tr->Bool
 | p::ps,k,t::ts=>YG rs p k t && Xl rs ps k ts
 | _,_,_=>true
end
theorem VU {rs:List Ru}{p:Str}{ab:Int}{d:D}:YG rs p ab (.lf d) = !Wy p:=by unfold YG;rfl
theorem Wo {rs:List Ru}{p:Str}{ab k:Int}{ts:List Tr}:YG rs p ab (.nd k ts)=(Wy p && decide (Wt rs p ab (.nd k ts) = "") && Xl rs ((rs[k.toNat]?.map (·.ps)).getD []) k ts):=by rw [YG]
theorem Gp (rs:List Ru) (ps:List Str) (k:Int) (ts:List Tr):Xl rs ps k ts=(RN ps k ts).all λs=>YG rs s.1 s.2.1 s.2.2:=by
 induction ps generalizing ts with
 | nil=>cases ts <;> rfl
 | cons p ps ih =>
  cases ts with
  | nil=>rfl
  | cons t ts=>rw [Xl,ih];rfl
theorem xW (ps:List Str) (k:Int) (ts:List Tr):Tr.szs ((RN ps k ts).map (·.2.2))<=Tr.szs ts:=by
 induction ps generalizing ts with
 | nil=>simp [RN,Tr.szs]
 | cons p ps ih =>
  cases ts with
  | nil=>simp [RN,Tr.szs]
  | cons t ts =>
   have:=ih ts
   unfold RN at this ⊢
   simp only [List.zip_cons_cons,map_cons,Tr.szs]
   omega
theorem Sl {rs:List Ru}{p:Str}{ab k:Int}{ts:List Tr}(h:Wt rs p ab (.nd k ts) = ""):0<=k/\k < rs.length/\∃ r,rs[k.toNat]?=some r/\r.hd=p/\stands rs r ab=true/\ts.length=r.ps.length:=by
 unfold Wt at h
 dsimp only at h
 by_cases hk:0<=k/\k < rs.length
 ·rw [if_pos hk] at h
  obtain ⟨r,hr⟩:∃ r,rs[k.toNat]?=some r:=⟨_,aC (by omega)⟩
  rw [hr] at h
  dsimp only at h
  refine ⟨hk.1,hk.2,r,hr,?_⟩
  by_cases e1:r.hd=p
  ·rw [if_neg (λz=>z e1)] at h
   cases e2:stands rs r ab with
   | false=>rw [if_pos e2] at h;exact absurd h (by decide +kernel)
   | true =>
    rw [if_neg (by rw [e2];decide)] at h
    by_cases e3:ts.length=r.ps.length
    ·exact ⟨e1,rfl,e3⟩
    ·rw [if_pos e3] at h;exact absurd h (by decide +kernel)
  ·rw [if_pos e1] at h;exact absurd h (by decide +kernel)
 ·rw [if_neg hk] at h;exact absurd h (by decide +kernel)
theorem xX {ps:List Str}{k:Int}{ts:List Tr}{s:Str × Int × Tr}(h:s∈RN ps k ts):s.1∈ps/\s.2.1=k/\s.2.2∈ts:=by
 obtain ⟨p,hp,rfl⟩:=mem_map.mp h
 have:=of_mem_zip hp
 exact ⟨this.1,rfl,this.2⟩
noncomputable def xY (A:Adr):DSp:=λxs q _=>∃ (z st:Str) (rs:List Ru) (t:Tr),xs=[Gr A z st rs,t.d]/\st.length<=1000/\Rus rs/\t.pl=true/\t.sz<=1000000/\q (.bl (YG rs st (-1) t))
theorem Ag {A:Adr}(T:Txt K mg A):Zx P w K mg base (CXE P w) 4 A.Pw A.Lw Pa (spD K (xY A)):=by
 haveI:TxC K A:=⟨⟨_,T⟩⟩
 refine T.PJ.F.okJ Uk (by walk_at "ln") (λcdv Ar outer s H E hr=>⟨_,(Za (Xb (i:=2) Uk.nd rfl (Or.inl rfl) (Xz (Zc (ZW (Zc (Zw (K:=K) rfl (jv 0)) (Zc (Sx Zd) (Zc (jv 1) Zb)))) Zb)))
   (Za (Qg [2] PassesOwn.leaving (ZS (jv 2)) (Za (tY 2 (Xy (n:=3) (Zu (ZQ 3 Uk.nd) (Zu (ZQ 4 Uk.nd) (Zu (ZQ 5 Uk.nd) YN)))))
   (Ze (ZD [] (ZS (Zq (Nf T) T.VW hr (Zc (jv 3) Zb))) (Za (ZD [] (Zn (Qe hr.XW) (Zq (Hz T) T.VR hr (Zc (jv 0) (Zc (jv 3) (Zc (jv 4) (Zc (jv 5) Zb))))) Yt (Zr _)) (Ze (Zm [] TZ)) Zk)
   (Ze (Bw [] 2 (Zq (IY T) T.Vk hr (Zc (jv 0) (Zc (jv 5) Zb)))))) (Ze (ZD [] (ZS (Yl (XI (K:=K) rfl) (by rfl) T.ZF PyProof.Rows.boot_isinstance (Zc (jv 5) (Zc (Wp (n := "tuple") (by rfl) T.b_tuple PyProof.Rows.boot_tuple) Zb)))) (Ze (Zm [] TZ)) Zk))))))
   (Ze (Zm [] TZ)))),λxs q x h=>?_⟩)
 ·obtain ⟨z,st,rs,t,rfl,hst,⟨l1,l2⟩,hp,hs,hq⟩:=h
  have hsz:aA=16777216:=rfl
  walk_at "rd"
  refine ⟨by decide,by decide,λm ds'=>∃ (ws:List (Str × Int × Tr)) (s3 s4 s5:L2.Slot),ds'=[.v (Gr A z st rs),.v t.d,.own (ws.map Gn),s3,s4,s5]/\m=Tr.szs (ws.map (·.2.2))/\(∀ u∈ws,u.1.length<=1000/\Dz rs u.2.1/\u.2.2.pl=true)/\(ws.all λs=>YG rs s.1 s.2.1 s.2.2)=YG rs st (-1) t/\Tr.szs (ws.map (·.2.2))<=1000000,⟨_,[(st,-1,t)],_,_,_,rfl,rfl,λu hu=>?_,?_,?_⟩,?_⟩
  ·rw [mem_singleton.mp hu];exact ⟨hst,.inl rfl,hp⟩
  ·simp
  ·simp [Tr.szs];exact hs
  rintro m _ ⟨ws,s3,s4,s5,rfl,rfl,hw,hr,hb⟩
  walk_at "rd"
  cases hl:ws.reverse with
  | nil =>
   have:ws=[]:=by rw [<-reverse_reverse ws,hl];rfl
   subst this
   walk_at "rd"
   rw [List.all_nil] at hr
   rw [<-hr] at hq
   exact hq
  | cons u rest =>
   have ew:ws=rest.reverse++[u]:=by rw [<-reverse_reverse ws,hl,reverse_cons]
   have hu:u∈ws:=by rw [ew];simp
   obtain ⟨hu1,hu2,hu3⟩:=hw u hu
   obtain ⟨p,ab,t'⟩:=u
   have ne:(ws.map Gn).isEmpty=false:=by rw [ew];simp
   rw [ne]
   walk_at "rd"
   refine ⟨rest.reverse.map Gn,Gn (p,ab,t'),by rw [ew];simp,?_⟩
   rw [gh]
   walk_at "rd"
   have hu1:p.length<=1000:=hu1
   have hu2:Dz rs ab:=hu2
   have hu3:t'.pl=true:=hu3
   rw [ew,all_append,all_cons,List.all_nil,Bool.and_true] at hr
   dsimp only at hr
   rw [ew,map_append,Tr.YC] at hb
   have sz1:Tr.szs (([(p,ab,t')]:List (Str × Int × Tr)).map (·.2.2))=t'.sz:=by simp [Tr.szs]
   rw [sz1] at hb
   have ez:Tr.szs (ws.map (·.2.2))=Tr.szs (rest.reverse.map (·.2.2)) + t'.sz:=by rw [ew,map_append,Tr.YC,sz1]
   have bad:YG rs p ab t'=false->q (.bl false):=λe=>by
    rw [e,Bool.and_false] at hr
    rw [<-hr] at hq
    exact hq
   have okw:∀ u∈rest.reverse,u.1.length<=1000/\Dz rs u.2.1/\u.2.2.pl=true:=λu h=>hw u (by rw [ew];exact mem_append_left _ h)
   refine ⟨by omega,?_⟩
   cases t' with
   | lf d =>
    obtain ⟨i,rfl⟩:=Tr.KM hu3
    refine ifB (λe=>?_) (λe=>?_)
    ·refine ⟨z,st,rs,p,ab,.lf (.int i),rfl,hu2,rfl,?_⟩
     walk_at "rd"
     refine LZ (λ_=>bad (by rw [VU,e];rfl)) (λz=>absurd z ?_)
     rw [show Wt rs p ab (.lf (.int i)) = "rule" from rfl]
     decide +kernel
    ·walk_at "rd"
     refine ⟨_,?_,rest.reverse,rfl,rfl,okw,?_,by omega⟩
     ·rw [ez];have:=(Tr.lf (.int i)).Ad;omega
     ·rw [VU,e,Bool.not_false,Bool.and_true] at hr
      exact hr
   | nd k ts =>
    refine ifB (λe=>?_) (λe=>?_)
    ·refine ⟨z,st,rs,p,ab,.nd k ts,rfl,hu2,hu3,?_⟩
     walk_at "rd"
     refine LZ (λe1=>bad (by rw [Wo,decide_eq_false e1,Bool.and_false,Bool.false_and])) (λe1=>?_)
     obtain ⟨k0,k1,r,hk,hd,hst',hlen⟩:=Sl e1
     have szt:(Tr.nd k ts).sz=1 + Tr.szs ts:=by unfold Tr.sz;rfl
     have tl:=Tr.RA ts
     obtain ⟨m1,m2,m3,m4⟩:=l2 r (mem_of_getElem? hk)
     refine ⟨z,st,rs,k,ts,r,by rw [FJ],k0,hk,by omega,?_⟩
     unfold wExt
     simp only [length_map]
     have sl:(RN r.ps k ts).length<=ts.length:=by unfold RN;rw [length_map,length_zip];omega
     have rl:=Tr.RA (rest.reverse.map (·.2.2))
     rw [length_map] at rl
     have ss:=xW r.ps k ts
     refine ⟨by omega,_,?_,rest.reverse++RN r.ps k ts,by simp,rfl,λu hu=>?_,?_,?_⟩
     ·rw [ez,map_append,Tr.YC];omega
     ·rcases mem_append.mp hu with h | h
      ·exact okw u h
      ·obtain ⟨h1,h2,h3⟩:=xX h
       exact ⟨m3.2 _ h1,.inr (by rw [h2];exact ⟨k0,k1⟩),Tr.Dw hu3 _ h3⟩
     ·rw [Wo,e,decide_eq_true e1,Bool.true_and,Bool.true_and,hk,Option.map_some,Option.getD_some,Gp] at hr
      rw [all_append]
      exact hr
     ·rw [map_append,Tr.YC];omega
    ·walk_at "rd"
     exact bad (by rw [Wo,e];rfl)
noncomputable def HB (A:Adr):DSp:=λxs q x=>∃ (z st:Str) (rs:List Ru) (ts:List Tr),xs=[Gr A z st rs,.lst (ts.map Tr.d)]/\st.length<=1000/\Rus rs/\(∀ t∈ts,t.pl=true/\t.sz<=1000000)/\ts.length<=1000000/\((ts≠[]/\∀ t∈ts,YG rs st (-1) t=true)->q .non)/\(¬ (ts≠[]/\∀ t∈ts,YG rs st (-1) t=true)->x A.Zo)
theorem IZ {A:Adr}(T:Txt K mg A):Zx P w K mg base (CXE P w) 5 A.Vg A.TR Vb (spD K (HB A)):=by
 haveI:TxC K A:=⟨⟨_,T⟩⟩
 refine T.Vl.F.okJ IB (by walk_at "ln") (λcdv Ar outer s H E hr=>⟨_,(Za (ZD [] (Yk (ZS (jv 1))) (Ze (Xu [] T.WK.x T.WK.M (Zc Yt Zb))) Zk)
   (Ze (ZD [] (Yk (ZS (Yl MT (by rfl) T.b_all PyProof.Rows.boot_all (Zc (Ye ["tree"] ["grammar"] [0] (Yb (jv 1)) (λ_=>(ZQ 0 (nDk ["tree"] ["grammar"]))) (λ_=>Yz) (λ_=>(Zq (Ag T) T.PJ hr (Zc (jv 1) (Zc (jv 0) Zb))))) Zb)))) (Ze (Xu [] T.WK.x T.WK.M (Zc Yt Zb))) Zk))),λxs q x h=>?_⟩)
 ·obtain ⟨z,st,rs,ts,rfl,hst,hrs,ht,hl,hq,hx⟩:=h
  have hsz:aA=16777216:=rfl
  walk_at "rd"
  have ee:(ts.map Tr.d).isEmpty=ts.isEmpty:=by cases ts <;> rfl
  rw [ee]
  rw [Bool.not_not]
  refine ifB (λe=>⟨by decide,hx λz=>z.1 (List.isEmpty_iff.mp e)⟩) (λe=>?_)
  have ne:ts≠[]:=λz=>by rw [z] at e;cases e
  refine Xv (λt => .bl (YG rs st (-1) t)) (by omega) (λt hm N hN=>?_) ?_
  ·walk_at "rd"
   exact ⟨z,st,rs,t,rfl,hst,hrs,(ht t hm).1,(ht t hm).2,hN⟩
  have em:(ts.map λt=>D.bl (YG rs st (-1) t))=(ts.map λt=>YG rs st (-1) t).map .bl:=by rw [map_map];rfl
  rw [em]
  walk_at "rd"
  refine Ob (λe1=>⟨by decide,hx λz=>?_⟩) (λe1=>hq ⟨ne,λt hm=>?_⟩)
  ·rw [List.all_eq_false] at e1
   obtain ⟨b,hb,nb⟩:=e1
   obtain ⟨t,hm,rfl⟩:=mem_map.mp hb
   exact nb (z.2 t hm)
  ·rw [all_eq_true] at e1
   exact e1 _ (mem_map.mpr ⟨t,hm,rfl⟩)
noncomputable def bump (cs:List Int) (k:Int):List Int:=cs.set k.toNat (cs.getD k.toNat 0 + 1)
noncomputable def Yp (cs:List Int) (ks:List Int):List Int:=ks.foldl bump cs
theorem Mt (cs:List Int) (k:Int):(bump cs k).length=cs.length:=by unfold bump;rw [length_set]
theorem VZ (ks cs:List Int):(Yp cs ks).length=cs.length:=by
 unfold Yp
 induction ks generalizing cs with
 | nil=>rfl
 | cons k ks ih=>rw [foldl_cons,ih,Mt]
theorem Nk {n:Nat}{k:Int}(h0:0<=k) (h:k < n):ixN n k=some k.toNat:=by
 unfold ixN
 rw [if_pos h0,if_pos h]
mutual
theorem PX {rs:List Ru}:∀ {p:Str}{ab:Int}{t:Tr},YG rs p ab t=true->∀ k∈t.rl,0<=k/\k < rs.length
 | _,_,.lf _,_=>λk hk=>by unfold Tr.rl at hk;cases hk
 | p,ab,.nd k ts,h=>λk' hk=>by
  rw [Wo,aF,aF] at h
  obtain ⟨k0,k1,r,hr,hd,hs,hl⟩:=Sl (of_decide_eq_true h.1.2)
  unfold Tr.rl at hk
  rcases mem_cons.mp hk with e | e
  ·rw [e];exact ⟨k0,k1⟩
  ·have h2:=h.2
   rw [hr,Option.map_some,Option.getD_some] at h2
   exact DB h2 hl k' e
theorem DB {rs:List Ru}:∀ {ps:List Str}{k:Int}{ts:List Tr},Xl rs ps k ts=true->ts.length=ps.length->∀ j∈Tr.rls ts,0<=j/\j < rs.length
 | _,_,[],_,_=>λj hj=>by unfold Tr.rls at hj;cases hj
 | [],_,t::ts,_,hl=>by cases hl
 | p::ps,k,t::ts,h,hl=>λj hj=>by
  unfold Xl at h
  rw [aF] at h
  unfold Tr.rls at hj
  rcases mem_append.mp hj with e | e
  ·exact PX h.1 j e
  ·exact DB h.2 (by simpa using hl) j e
end
noncomputable def DC (A:Adr):xK:=λxs q x=>∃ (z st:Str) (rs:List Ru) (ts:List Tr),xs=[Gr A z st rs,.lst (ts.map Tr.d)]/\st.length<=1000/\Rus rs/\(∀ t∈ts,t.pl=true/\t.sz<=1000000)/\ts.length<=1000000/\Wy st=true/\((ts≠[]/\∀ t∈ts,YG rs st (-1) t=true)->q ((Yp (replicate rs.length 0) (Tr.rls ts)).map .int))/\(¬ (ts≠[]/\∀ t∈ts,YG rs st (-1) t=true)->x A.Zo)
theorem Mv {A:Adr}(T:Txt K mg A):Zx P w K mg base (CXE P w) 6 A.Ta A.Qy UQ (spF K (DC A)):=by
 haveI:TxC K A:=⟨⟨_,T⟩⟩
 refine T.Vr.F.okF VJ (by walk_at "ln") (λcdv Ar outer s H E hr=>⟨_,(Za (UL (Zq (IZ T) T.Vl hr (Zc (jv 0) (Zc (jv 1) Zb))))
   (Za (tX (i:=2) [] ["rule"] [] [] VJ.nd rfl (Or.inl rfl) (Yb (Zw (K:=K) rfl (jv 0))) (λ_=>(ZQ 0 (nDk ["rule"] []))) (λ_=>Yz) (λ_=>Zd))
   (Za (Xc PassesOwn.leaving (Yb (jv 1)) (ZQ 3 VJ.nd) (Ze (Xc PassesOwn.leaving (Yb (Zq (Dy T) T.Ro hr (Zc (jv 3) Zb))) (ZQ 4 VJ.nd) (Ze (nU 2 (jv 4) Zd)))))
   (Ze (nP 2))))),λxs q x h=>?_⟩)
 ·obtain ⟨z,st,rs,ts,rfl,hst,hrs,ht,hl,hk,hq,hx⟩:=h
  have hsz:aA=16777216:=rfl
  walk_at "rd"
  refine ⟨z,st,rs,ts,rfl,hst,hrs,ht,hl,λhg=>?_,hx⟩
  walk_at "rd"
  obtain ⟨l1,l2⟩:=hrs
  refine Xv (λ_ => .int 0) (by omega) (λr hr N hN=>?_) ?_
  ·walk_at "rd"
   exact hN
  have e0:(rs.map λ_=>D.int 0)=(replicate rs.length (0:Int)).map .int:=by rw [List.map_replicate,<-List.map_const];rfl
  rw [e0]
  refine ⟨[],?_⟩
  walk_at "rd"
  refine YH (λi ds'=>∃ s3 s4:L2.Slot,ds'=[.v (Gr A z st rs),.v (.lst (ts.map Tr.d)),.own ((Yp (replicate rs.length 0) (Tr.rls (ts.take i))).map .int),s3,s4]) ⟨_,_,by rw [take_zero];rfl⟩ (λi t ds N hi hd hn=>?_) (λds ⟨s3,s4,e⟩=>?_)
  ·obtain ⟨s3,s4,rfl⟩:=hd
   have hm:=mem_of_getElem? hi
   refine ⟨[],?_⟩
   walk_at "rd"
   have it:=hg.2 t hm
   have nd:t.Uz=true:=by
    cases t with
    | lf d=>rw [VU,hk] at it;cases it
    | nd k us=>rfl
   have inb:=PX (rs:=rs) it
   refine ⟨t,rfl,nd,(ht t hm).1,(ht t hm).2,?_⟩
   walk_at "rd"
   refine YH (λj ds'=>∃ s4:L2.Slot,ds'=[.v (Gr A z st rs),.v (.lst (ts.map Tr.d)),.own ((Yp (replicate rs.length 0) (Tr.rls (ts.take i)++t.rl.take j)).map .int),.v t.d,s4]) ⟨_,by rw [take_zero,append_nil]⟩ (λj k ds N' hj hd' hn'=>?_) (λds ⟨s4,e⟩=>hn ds ⟨.v t.d,s4,?_⟩)
   ·obtain ⟨s4,rfl⟩:=hd'
    have kb:=inb k (mem_of_getElem? hj)
    walk_at "rd"
    have lb:=VZ (Tr.rls (ts.take i)++t.rl.take j) (replicate rs.length 0)
    rw [length_replicate] at lb
    generalize hc:Yp (replicate rs.length 0) (Tr.rls (ts.take i)++t.rl.take j)=cs at lb
    refine ⟨k.toNat,?_,cs.getD k.toNat 0,?_,hn' _ ⟨.v (.int k),?_⟩⟩
    ·rw [lb]
     exact Nk kb.1 kb.2
    ·rw [getElem?_map,getD_eq_getElem?_getD,aC (by rw [lb];omega)]
     rfl
    ·have:Yp (replicate rs.length 0) (Tr.rls (ts.take i)++t.rl.take (j + 1))=bump cs k:=by
      rw [take_add_one,hj,<-append_assoc,<-hc]
      unfold Yp
      rw [foldl_append]
      rfl
     rw [this]
     unfold bump
     rw [List.map_set]
   ·rw [e,take_length,take_add_one,hi]
    simp [Tr.RB,Tr.rls]
  ·subst e
   walk_at "rd"
   rw [take_length]
   exact hq hg
theorem Wj {α:Type}(f:α->D) (xs:List α) {i:Int}(h0:0<=i) (h:i < xs.length):∃ x,x∈xs/\atI (xs.map f) i=some (f x):=by
 have hj:i.toNat < xs.length:=by omega
 refine ⟨xs[i.toNat],getElem_mem hj,?_⟩
 rw [OY (j:=i.toNat) (by omega) (by rw [length_map];exact hj),List.getElem_map]
theorem mod_lt {n:Nat}(i:Int) (h:0 < n):0<=i % (n:Int)/\i % (n:Int) < n:=⟨Int.emod_nonneg i (by omega),Int.emod_lt_of_pos i (by omega)⟩
abbrev s26:Str := "ABCDEFGHIJKLMNOPQRSTUVWXYZ"
abbrev s36:Str := "abcdefghijklmnopqrstuvwxyz0123456789"
theorem mw (xs:List D) {i j:Int}(h0:0<=i) (h1:i<=j):cutD xs (some i) (some j)=(xs.drop i.toNat).take (j - i).toNat:=by
 obtain ⟨f,rfl⟩:=Int.eq_ofNat_of_zero_le h0
 obtain ⟨g,rfl⟩:∃ g:Nat,j=(f:Int) + g:=⟨(j - f).toNat,by omega⟩
 unfold cutD
 rw [show ((f:Int) + (g:Int))=((f + g:Nat):Int) by omega,HT.Jq,HT.Jq,show (((f + g:Nat):Int) - (f:Int)).toNat=g by omega,show (f:Int).toNat=f from rfl]
 refine List.ext_getElem? λi=>?_
 simp only [List.getElem?_take,List.getElem?_drop]
 by_cases h:f<=xs.length
 ·rw [Nat.min_eq_left h]
  by_cases h1:i < g
  ·rw [if_pos h1]
   by_cases h2:f + i < xs.length
   ·rw [if_pos (by omega)]
   ·rw [List.getElem?_eq_none (by omega)]
    split <;> rfl
  ·rw [if_neg h1,if_neg (by omega)]
 ·rw [Nat.min_eq_right (by omega),if_neg (by omega)]
  rw [List.getElem?_eq_none (show xs.length<=f + i by omega)]
  split <;> rfl
theorem Mw (xs:List D) {j:Int}(h0:0<=j):cutD xs none (some j)=xs.take j.toNat:=by
 have:=mw xs (i:=0) (j:=j) (by decide) h0
 unfold cutD at this ⊢
 rw [HT.Eo]
 rw [show (0:Int)=((0:Nat):Int) from rfl,HT.Jq,Nat.zero_min] at this
 simpa using this
theorem gj:s62.cps.toList=Yw.cps.toList++WT.cps.toList++ZL.cps.toList:=by decide +kernel
theorem nmS62 (c:Nat):decide (c∈s62.cps.toList)=nmS c:=by
 unfold nmS
 rw [gj]
 simp only [mem_append,Bool.decide_or,Bool.or_assoc]
 rw [Bool.or_comm (decide (c∈WT.cps.toList))]
theorem qv:∀ c∈s26.cps.toList,c∈s62.cps.toList/\grS c=true:=by decide +kernel
theorem qw:∀ c∈s36.cps.toList,c∈s62.cps.toList/\grS c=false:=by decide +kernel
theorem yx {z:Str}(h1:1<=z.length) (h2:z.length<=12) (h:∀ c∈z.cps.toList,c∈s62.cps.toList):isNm z=true:=by
 unfold isNm
 rw [decide_eq_true h1,decide_eq_true h2,show z.cps.toList.all nmS=true from all_eq_true.mpr λc hc=>by rw [<-nmS62];exact decide_eq_true (h c hc)]
 rfl
theorem qx {z:Str}{c:Nat}{r:List Nat}(e:z.cps.toList=c::r):fst z=c:=by unfold fst;rw [e];rfl
theorem Aa.kd {z:Str}(h:Aa s26 z):Wy z=true:=by
 have hl:=h.len
 obtain ⟨c,r,e,hc,hr,_⟩:=h
 unfold Wy
 rw [qx e,(qv c hc).2,yx hl.1 hl.2 (by rw [e];intro d hd;rcases mem_cons.mp hd with rfl | hd;exact (qv _ hc).1;exact hr d hd)]
 rfl
theorem Aa.wd {z:Str}(h:Aa s36 z):Si z=true:=by
 have hl:=h.len
 obtain ⟨c,r,e,hc,hr,_⟩:=h
 unfold Si
 rw [qx e,(qw c hc).2,yx hl.1 hl.2 (by rw [e];intro d hd;rcases mem_cons.mp hd with rfl | hd;exact (qw _ hc).1;exact hr d hd)]
 rfl
theorem Kd {z:Str}(h:Si z=true):Wy z=false:=by
 unfold Si at h
 unfold Wy
 rw [aF] at h
 rw [h.1]
 simpa using h.2
theorem Ha {z:Str}(h:Wy z=true):isNm z=true:=by unfold Wy at h;rw [aF] at h;exact h.1
theorem Gq {z:Str}(h:Si z=true):isNm z=true:=by unfold Si at h;rw [aF] at h;exact h.1
theorem qy {z:Str}:∀ (rs:List Ru) (seen:List Str),(∀ r∈rs,okW z r.wa=true)->(rs.map (·.ti)).Nodup->(∀ r∈rs,r.ti∉seen)->cwt z seen rs=0:=by
 intro rs
 induction rs with
 | nil=>intro seen _ _ _;rfl
 | cons r rs ih =>
  intro seen h1 h2 h3
  unfold cwt
  rw [if_neg (by rw [h1 r (mem_cons_self ..)];decide),if_neg (h3 r (mem_cons_self ..))]
  rw [map_cons,nodup_cons] at h2
  refine ih _ (λr' h=>h1 r' (mem_cons_of_mem _ h)) h2.2 (λr' h z=>?_)
  rcases mem_append.mp z with z | z
  ·exact h3 r' (mem_cons_of_mem _ h) z
  ·exact h2.1 (by rw [<-mem_singleton.mp z];exact mem_map.mpr ⟨r',h,rfl⟩)
theorem RC {z:Str}(h:isNm z=true):z.length<=1000:=by have:=QJ h;omega
theorem fits_of {zs:List Str}(hl:zs.length<=1000) (h:∀ z∈zs,isNm z=true):Fits zs:=⟨hl,λz hz=>RC (h z hz)⟩
theorem Hio.all {steps:List (Str × Str)}(rank:Str->Nat):∀ (k:Nat) (w r o:List Str),w.length<=k->(∀ s∈steps,s.2∈w->rank s.1 < rank s.2)->r≠[]->∃ res,Hio steps w r o res/\res.length=o.length + w.length:=by
 intro k
 induction k with
 | zero =>
  intro w r o hk hs hr
  have:w=[]:=eq_nil_of_length_eq_zero (by omega)
  subst this
  exact ⟨o++[],.step hr .stop,by simp⟩
 | succ k ih =>
  intro w r o hk hs hr
  by_cases hw:w=[]
  ·subst hw
   exact ⟨o++[],.step hr .stop,by simp⟩
  have ll:=Ds w (λh=>decide (h∈heldBy steps w))
  obtain ⟨m,hm,hmax⟩:∃ m∈w,∀ x∈w,rank x<=rank m:=by
   clear ll hs ih hk
   induction w with
   | nil=>exact absurd rfl hw
   | cons a w ihw =>
    by_cases e:w=[]
    ·subst e
     exact ⟨a,mem_cons_self ..,λx hx=>by rw [mem_singleton.mp hx];exact Nat.le_refl _⟩
    ·obtain ⟨m,h1,h2⟩:=ihw e
     by_cases c:rank a<=rank m
     ·exact ⟨m,mem_cons_of_mem _ h1,λx hx=>by rcases mem_cons.mp hx with rfl | hx;exact c;exact h2 x hx⟩
     ·exact ⟨a,mem_cons_self ..,λx hx=>by rcases mem_cons.mp hx with rfl | hx;exact Nat.le_refl _;have:=h2 x hx;omega⟩
  have free:m∉heldBy steps w:=λz=>by
   unfold heldBy at z
   obtain ⟨s,h1,h2⟩:=mem_map.mp z
   obtain ⟨h3,h4⟩:=mem_filter.mp h1
   have h4:=of_decide_eq_true h4
   have:=hs s h3 h4
   have:=hmax _ h4
   rw [h2] at *
   omega
  have mr:m∈w.filter λh => !decide (h∈heldBy steps w):=mem_filter.mpr ⟨hm,by simp [free]⟩
  have hr':(w.filter λh => !decide (h∈heldBy steps w))≠[]:=λz=>by rw [z] at mr;cases mr
  have pos:=List.length_pos_iff.mpr hr'
  obtain ⟨res,h1,h2⟩:=ih (w.filter λh=>decide (h∈heldBy steps w)) _ (o++w.filter λh => !decide (h∈heldBy steps w)) (by omega) (λs h3 h4=>hs s h3 (mem_filter.mp h4).1) hr'
  exact ⟨res,.step hr h1,by rw [h2,length_append];omega⟩
structure Good (z st:Str) (rs:List Ru):Prop where
 fit:Rus rs
 ok:∀ r∈rs,Xk r.ti r.hd r.ps r.tg r.t=true
 wt:cwt z [] rs=0
 un:ctu rs=true
 kd:ck st rs=true
 ring:∃ res,Hio (Xr rs) (waitOf rs) (waitOf rs) [] res/\(waitOf rs).length<=res.length
theorem Mx (zs:List Str):∀ z,z∈ql zs↔z∈zs:=by
 have go:∀ (zs a:List Str) z,z∈zs.foldl Dr a↔z∈a\/z∈zs:=by
  intro zs
  induction zs with
  | nil=>intro a z;simp
  | cons y zs ih =>
   intro a z
   rw [foldl_cons,ih]
   unfold Dr
   split
   ·rename_i h
    constructor
    ·rintro (h1 | h1)
     ·exact .inl h1
     ·exact .inr (mem_cons_of_mem _ h1)
    ·rintro (h1 | h1)
     ·exact .inl h1
     ·rcases mem_cons.mp h1 with rfl | h1
      ·exact .inl h
      ·exact .inr h1
   ·simp [or_assoc]
 intro z
 have:=go zs [] z
 simpa [ql] using this
theorem wLow (c k:Int) (z:Str):Low (wP c k z) (wQ c k z)/\Bd 64 (wP c k z)/\Bd 64 (wQ c k z)/\(z = "chance" -> 0 < wP c k z):=by
 have w1:=lT c (mix c k) (Rv c k) (by have:=OZ c k;omega)
 have w2:=lU (mix c k) (Rv c k)
 unfold wP wQ lowP Je
 have hT : -(2 ^ 51) < Dv c (mix c k) z/\Dv c (mix c k) z < 2 ^ 51/\(z = "chance" -> 0 < Dv c (mix c k) z):=by
  unfold Dv
  generalize wT c (mix c k)=t at w1 ⊢
  by_cases e:z = "chance"
  ·rw [if_pos e]
   refine ⟨?_,?_,λ_=>?_⟩ <;> split <;> omega
  ·rw [if_neg e]
   refine ⟨?_,?_,λh=>absurd h e⟩ <;> split <;> omega
 generalize Dv c (mix c k) z=t at hT ⊢
 generalize wB (mix c k)=b at w2 ⊢
 have gp:=NK (a:=t) (b:=b) (by omega)
 obtain ⟨l,e,l1,l2⟩:=jN (a:=t) (b:=b) (d:=(Int.gcd t b:Int)) (by omega) (.inl rfl) (Int.mul_pos w2.1 gp)
 refine ⟨l,(Bd.of (n:=64) (i:=t) (by omega) (by omega)).le l1,(Bd.of (n:=64) (i:=b) (by omega) (by omega)).le l2,λz=>?_⟩
 have:0 < t.fdiv (Int.gcd t b:Int) * b:=by rw [e];exact Int.mul_pos (hT.2.2 z) l.pos
 exact Int.pos_of_mul_pos_left this w2.1
noncomputable def ZP (r:Ru):D := .tup [.str r.ti,.str r.hd,.tup (r.ps.map .str),wD r.wa r.wb,.str r.tg,RT r.t]
structure RowR (scale:Str) (kinds words tis:List Str) (r:Ru):Prop where
 hd:r.hd∈kinds
 p1:1<=r.ps.length
 p4:r.ps.length<=4
 ps:∀ p∈r.ps,p∈kinds\/p∈words
 one:∀ p,r.ps=[p]->p∈kinds->kinds.idxOf r.hd < kinds.idxOf p
 low:Low r.wa r.wb
 ba:Bd 64 r.wa
 bb:Bd 64 r.wb
 pos:scale = "chance" -> 0 < r.wa
 tg:r.tg = "" \/ r.tg∈words
 un:∀ us,r.t=some us->1<=us.length/\us.length<=2/\∀ u∈us,u∈tis
structure Vt (scale:Str) (kinds words:List Str) (rs:List Ru):Prop where
 k:Hy s26 kinds.length kinds
 k1:1<=kinds.length
 k3:kinds.length<=3
 w:Hy s36 3 words
 nk:kinds.length<=rs.length
 len:rs.length<=9
 ti:∃ titles,Hy s36 9 titles/\rs.map (·.ti)=titles.take rs.length
 row:∀ r∈rs,RowR scale kinds words (rs.map (·.ti)) r
 base:∀ k,k < kinds.length->∃ r,rs[k]?=some r/\kinds[k]?=some r.hd/\r.t=none/\∃ w∈words,r.ps=[w]
noncomputable def xZ:DSp:=λxs q _=>∃ ns:List Int,xs=[.scr (ns.map .int)]/\∀ zs,Hy s26 zs.length zs->1<=zs.length->zs.length<=3->q (.lst (zs.map .str))
theorem gk:s26.cps.toList.Nodup:=by decide +kernel
theorem mx:s26.length=26:=by decide +kernel
theorem qz:s36.cps.toList.Nodup:=by decide +kernel
theorem yy:s36.length=36:=by decide +kernel
theorem Ah {A:Adr}(T:Txt K mg A):Zx P w K mg base (CXE P w) 3 A.Py A.Ly Ph (spD K xZ):=by
 haveI:TxC K A:=⟨⟨_,T⟩⟩
 refine T.PK.F.okJ II (by walk_at "ln") (λcdv Ar outer s H E hr=>⟨_,(Za (ZR 1 II.nd (Zi ZJ Zd (Zi Zv (Zq (XR T) T.L_l_mix hr (Zc (Zq (Wh T) T.L_l_at hr (Zc (jv 0) (Zc Zd Zb))) (Zc Zd Zb))) Zd)))
   (Ze (Zm [] (Zq (Ni T) T.VY hr (Zc (Zq (Wh T) T.L_l_at hr (Zc (jv 0) (Zc Zd Zb))) (Zc (jv 1) (Zc Yt Zb))))))),λxs q x h=>?_⟩)
 ·obtain ⟨ns,rfl,hq⟩:=h
  have h1:=mx
  have h2:=gk
  walk_at "rd"
  refine ⟨_,_,rfl,by decide,_,_,rfl,by decide,by decide,?_⟩
  walk_at "rd"
  have nb:=mod_lt (n:=3) (mix (atZ ns 1) 1) (by decide)
  refine ⟨by decide,_,_,rfl,by decide,?_⟩
  refine ⟨_,(1 + mix (atZ ns 1) 1 % 3).toNat,s26,by rw [Int.toNat_of_nonneg (by omega)],by omega,by omega,by omega,h2,λzs hz=>?_⟩
  exact hq zs ⟨rfl,hz.2⟩ (by have:=hz.1;omega) (by have:=hz.1;omega)
noncomputable def wc:DSp:=λxs q _=>∃ ns:List Int,xs=[.scr (ns.map .int)]/\∀ zs,Hy s36 3 zs->q (.lst (zs.map .str))
theorem Ai {A:Adr}(T:Txt K mg A):Zx P w K mg base (CXE P w) 3 A.Pz A.Lz Pj (spD K wc):=by
 haveI:TxC K A:=⟨⟨_,T⟩⟩
 refine T.PL.F.okJ BP (by walk_at "ln") (λcdv Ar outer s H E hr=>⟨_,(Ze (Zm [] (Zq (Ni T) T.VY hr (Zc (Zq (Wh T) T.L_l_at hr (Zc (jv 0) (Zc Zd Zb))) (Zc Zd (Zc Yt Zb)))))),λxs q x h=>?_⟩)
 ·obtain ⟨ns,rfl,hq⟩:=h
  have h1:=yy
  have h2:=qz
  walk_at "rd"
  exact ⟨_,_,rfl,by decide,_,3,s36,rfl,by omega,by omega,by omega,h2,hq⟩
noncomputable def Aj:DSp:=λxs q _=>∃ ns:List Int,xs=[.scr (ns.map .int)]/\∀ zs,Hy s36 9 zs->q (.lst (zs.map .str))
theorem DF {A:Adr}(T:Txt K mg A):Zx P w K mg base (CXE P w) 3 A.Re A.OO SL (spD K Aj):=by
 haveI:TxC K A:=⟨⟨_,T⟩⟩
 refine T.Rq.F.okJ Dm (by walk_at "ln") (λcdv Ar outer s H E hr=>⟨_,(Ze (Zm [] (Zq (Ni T) T.VY hr (Zc (Zq (Wh T) T.L_l_at hr (Zc (jv 0) (Zc Zd Zb))) (Zc Zd (Zc Yt Zb)))))),λxs q x h=>?_⟩)
 ·obtain ⟨ns,rfl,hq⟩:=h
  have h1:=yy
  have h2:=qz
  walk_at "rd"
  exact ⟨_,_,rfl,by decide,_,9,s36,rfl,by omega,by omega,by omega,h2,hq⟩
noncomputable def gq (kinds words:List Str) (h:Nat) (ps:List Str):Prop:=1<=ps.length/\ps.length<=4/\(∀ p∈ps,p∈kinds\/p∈words)/\∀ p,ps=[p]->p∈kinds->h < kinds.idxOf p
noncomputable def we:DSp:=λxs q _=>∃ (kinds words:List Str) (h:Nat) (m:Int),xs=[.lst (kinds.map .str),.lst (words.map .str),.int h,.int m]/\1<=kinds.length/\kinds.length<=3/\words.length=3/\(∀ w∈words,w∉kinds)/\h < kinds.length/\0<=m/\m < 2 ^ 40/\∀ ps,gq kinds words h ps->q (.tup (ps.map .str))
theorem Ak {A:Adr}(T:Txt K mg A):Zx P w K mg base (CXE P w) 1 A.PB A.LA Pk (spD K we):=by
 haveI:TxC K A:=⟨⟨_,T⟩⟩
 refine T.PN.F.okJ Wq (by walk_at "ln") (λcdv Ar outer s H E hr=>⟨_,(Za (ZR 4 Wq.nd (Zg (Vw (Zc Zd (Zc Zd (Zc Zd (Zc Zd (Zc Zd (Zc Zd (Zc Zd Zb)))))))) (Zi Zv (jv 3) Zd)))
   (Za (ZR 3 Wq.nd (Zi ZK (jv 3) Zd))
   (Za (Xb (i:=5) Wq.nd rfl (Or.inl rfl) (Xz Zb))
   (Za (Xc PassesOwn.leaving (XX (by rfl) T.b_range (Zc (jv 4) Zb)) (ZQ 6 Wq.nd) (Za (ZD [] (Zn Ii (Zi Zv (jv 3) Zd) Zd (Zr _)) (Ze (WC [] 5 (Zg (jv 0) (Zi Zv (Zi Zv (jv 3) Zd) (Yl Yd (by rfl) T.b_len PySem.boot_len (Zc (jv 0) Zb)))))) (Ze (WC [] 5 (Zg (jv 1) (Zi Zv (Zi ZK (jv 3) Zd) Zd)))))
   (Ze (ZR 3 Wq.nd (Zi ZJ (Zi ZJ (Zi ZK (jv 3) Zd) (Zi Qc Zd (jv 6))) Zd)))))
   (Za (ZD [5] (Tt (Ts (Zn (XH hr.XW) (jv 4) Zd (Zr _)) (WX (Zn Uc (Zg (jv 5) Zd) (Vo (jv 0) YM (Yu (Zi ZJ (jv 2) Zd))) (by with_unfolding_all rfl))))) (Ze (Xb (i:=5) Wq.nd rfl (Or.inl rfl) (Xz (Zc (Zg (jv 1) (Zi Zv (jv 3) Zd)) Zb)))) Zk)
   (Ze (Zm [5] (UK Ou (by rfl) T.b_tuple PyProof.Rows.boot_tuple (Zc (jv 5) Zb))))))))),λxs q x h=>?_⟩)
 ·obtain ⟨kinds,words,h,m,rfl,k1,k3,w3,wk,hh,m0,m1,hq⟩:=h
  have hsz:aA=16777216:=rfl
  walk_at "rd"
  have nb:=mod_lt (n:=7) m (by decide)
  obtain ⟨sz,hj,ej⟩:=Wj D.int [2,2,1,3,2,4,2] (i:=m % 7) nb.1 nb.2
  have j1:1<=sz/\sz<=4:=by
   simp only [mem_cons,not_mem_nil,or_false] at hj
   omega
  refine ⟨by decide,by decide,_,ej,by decide,YQ (by decide) (by decide),by decide,[],?_⟩
  walk_at "rd"
  refine ⟨by omega,by omega,Ue (λi ds'=>∃ (m:Int) (ps:List Str) (s:L2.Slot),ds'=[.v (.lst (kinds.map .str)),.v (.lst (words.map .str)),.v (.int h),.v (.int m),.v (.int sz),.own (ps.map .str),s]/\0<=m/\m < 2 ^ 41/\ps.length=i/\∀ p∈ps,p∈kinds\/p∈words) ⟨_,[],_,rfl,by omega,by omega,rfl,λp hp=>by cases hp⟩ (λi ds N hi hd hn=>?_) (λds hd=>?_)⟩
  ·obtain ⟨m,ps,s,rfl,m0,m1,hl,hp⟩:=hd
   walk_at "rd"
   have nxt:∀ p,p∈kinds\/p∈words->Od 4099 (0 + (i:Int))/\N [.v (.lst (kinds.map .str)),.v (.lst (words.map .str)),.v (.int h),.v (.int (m / 15 + 4099 * (0 + (i:Int)) + 1)),.v (.int sz),.own (ps.map D.str++[.str p]),.v (.int (0 + (i:Int)))]:=λp hpp=>by
    refine ⟨.l (by decide) (by decide),hn _ ⟨_,ps++[p],_,by rw [map_append];rfl,by omega,by omega,by rw [length_append,hl];rfl,λz hz=>?_⟩⟩
    rcases mem_append.mp hz with hz | hz
    ·exact hp z hz
    ·rw [mem_singleton.mp hz];exact hpp
   rw [Xd (show (0:Int) < kinds.length by omega)]
   obtain ⟨g1,g2⟩:=mod_lt (n:=kinds.length) (m % 5) (by omega)
   obtain ⟨p,hp1,hp2⟩:=Wj D.str kinds g1 g2
   have g3:=mod_lt (n:=3) (m / 5) (by decide)
   obtain ⟨p',hp3,hp4⟩:=Wj D.str words (i:=m / 5 % 3) g3.1 (by rw [w3];exact g3.2)
   exact ⟨by decide,XF (λ_=>⟨by decide,by omega,_,hp2,by omega,by decide,YQ (by decide) (by decide),nxt p (.inl hp1)⟩) (λ_=>⟨by decide,YQ (by decide) (by decide),by decide,_,hp4,by omega,by decide,YQ (by decide) (by decide),nxt p' (.inr hp3)⟩)⟩
  ·obtain ⟨m,ps,s,rfl,m0,m1,hl,hp⟩:=hd
   walk_at "rd"
   have good:(∀ p,ps=[p]->p∈kinds->h < kinds.idxOf p)->q (.tup (ps.map .str)):=λz=>hq ps ⟨by omega,by omega,hp,z⟩
   refine XF (λe=>?_) (λe=>good λp z=>by rw [z] at hl;simp at hl;omega)
   obtain ⟨p,rfl⟩:∃ p,ps=[p]:=List.length_eq_one_iff.mp (by omega)
   refine ⟨.str p,rfl,?_⟩
   rw [Mw _ (by omega),<-map_take]
   walk_at "rd"
   have et:((h:Int) + 1).toNat=h + 1:=by omega
   rw [et]
   refine XF (λe1=>?_) (λe1=>good λp' z hk=>?_)
   ·have g3:=mod_lt (n:=3) m (by decide)
    obtain ⟨p',hp3,hp4⟩:=Wj D.str words (i:=m % 3) g3.1 (by rw [w3];exact g3.2)
    refine ⟨by decide,_,hp4,by decide,hq [p'] ⟨by simp,by simp,λz hz=>by rw [mem_singleton.mp hz];exact .inr hp3,λz hz hk=>?_⟩⟩
    cases hz
    exact absurd hk (wk _ hp3)
   ·cases z
    have hi:=idxOf_lt_length_of_mem hk
    refine Nat.lt_of_not_le λle=>e1 ?_
    have:=List.getElem_idxOf hi
    rw [<-this]
    exact List.mem_take_iff_getElem.mpr ⟨_,by omega,rfl⟩
theorem my {ns:List Int}{k:Int}{q:D->Prop}{x:Addr->Prop}:BR [.scr (ns.map .int),.int k] q x=(0<=k/\q (.int (atZ ns k))):=by
 unfold BR
 refine propext ⟨λ⟨ns',k',e,h0,h⟩=>?_,λ⟨h0,h⟩=>⟨ns,k,rfl,h0,h⟩⟩
 simp only [List.cons.injEq,D.scr.injEq,D.int.injEq,and_true] at e
 obtain ⟨e1,e2⟩:=e
 have inj:∀ a b:List Int,a.map D.int=b.map D.int->a=b:=by
  intro a
  induction a with
  | nil=>intro b e;cases b with
   | nil=>rfl
   | cons _ _=>cases e
  | cons u a ih=>intro b e;cases b with
   | nil=>cases e
   | cons v b =>
    simp only [map_cons,List.cons.injEq,D.int.injEq] at e
    rw [e.1,ih b e.2]
 have:ns=ns':=inj _ _ e1
 subst this
 subst e2
 exact ⟨h0,h⟩
theorem qA {c k:Int}{q:D->Prop}{x:Addr->Prop}:FC [.int c,.int k] q x=(-(2 ^ 20) < k/\k < 2 ^ 20/\q (.int (mix c k))):=by
 unfold FC
 refine propext ⟨λ⟨c',k',e,h⟩=>?_,λh=>⟨c,k,rfl,h⟩⟩
 cases e
 exact h
theorem DH {c k:Int}{z:Str}{q:D->Prop}{x:Addr->Prop}:Nj [.int c,.int k,.str z] q x=(-(2 ^ 20) < k/\k < 2 ^ 20/\q (wD (wP c k z) (wQ c k z))):=by
 unfold Nj
 refine propext ⟨λ⟨c',k',z',e,h⟩=>?_,λh=>⟨c,k,z,rfl,h⟩⟩
 cases e
 exact h
def rd7:String:=rd6 ++ " my qA DH"
local macro_rules | `(tactic| walk_at "rd") => rdM rd7
theorem Hy.notin {kinds words:List Str}{n m:Nat}(hk:Hy s26 n kinds) (hw:Hy s36 m words):∀ w∈words,w∉kinds:=λw h z=>by
 have a:=(hw.2.1 w h).wd
 have b:=(hk.2.1 w z).kd
 rw [Kd a] at b
 cases b
noncomputable def wg:DSp:=λxs q _=>∃ (ns:List Int) (scale:Str),xs=[.scr (ns.map .int),.str scale]/\∀ kinds words rs,Vt scale kinds words rs->q (.lst (rs.map ZP))
theorem Al {A:Adr}(T:Txt K mg A):Zx P w K mg base (CXE P w) 4 A.PC A.LD Pl (spD K wg):=by
 haveI:TxC K A:=⟨⟨_,T⟩⟩
 refine T.PQ.F.okJ ZM (by walk_at "ln") (λcdv Ar outer s H E hr=>⟨_,(Za (ZR 2 ZM.nd (Zq (Ah T) T.PK hr (Zc (jv 0) Zb)))
   (Za (ZR 3 ZM.nd (Zq (Ai T) T.PL hr (Zc (jv 0) Zb)))
   (Za (ZR 4 ZM.nd (Zq (DF T) T.Rq hr (Zc (jv 0) Zb)))
   (Za (Xb (i:=5) ZM.nd rfl (Or.inl rfl) (Xz Zb))
   (Za (Xc PassesOwn.leaving (XX (by rfl) T.b_range (Zc (Yl Yd (by rfl) T.b_len PySem.boot_len (Zc (jv 2) Zb)) Zb)) (ZQ 6 ZM.nd) (Za (ZR 7 ZM.nd (Zq (Wh T) T.L_l_at hr (Zc (jv 0) (Zc (Zi ZJ Zd (jv 6)) Zb))))
   (Za (ZR 8 ZM.nd (Zq (XR T) T.L_l_mix hr (Zc (jv 7) (Zc Zd Zb))))
   (Za (ZR 9 ZM.nd (Zg (Vw (Zc Yt (Zc Yt (Zc (Zg (jv 3) (Zi Zv (Zi ZK (jv 8) Zd) Zd)) Zb)))) (Zi Zv (Zi ZK (jv 8) Zd) Zd)))
   (Ze (WC [] 5 (ZW (Zc (Zg (jv 4) (jv 6)) (Zc (Zg (jv 2) (jv 6)) (Zc (ZW (Zc (Zg (jv 3) (Zi Zv (jv 8) Zd)) Zb)) (Zc (Zq (KL T) T.Uu hr (Zc (jv 7) (Zc Zd (Zc (jv 1) Zb)))) (Zc (jv 9) (Zc UJ Zb)))))))))))))
   (Za (ZR 10 ZM.nd (Zi Zv (Zq (XR T) T.L_l_mix hr (Zc (Zq (Wh T) T.L_l_at hr (Zc (jv 0) (Zc Zd Zb))) (Zc Zd Zb))) Zd))
   (Za (ZR 4 ZM.nd (Vo (jv 4) YM (Yu (Zi ZJ (Yl Yd (by rfl) T.b_len PySem.boot_len (Zc (jv 2) Zb)) (jv 10)))))
   (Za (Xc PassesOwn.leaving (XX (by rfl) T.b_range (Zc (jv 10) Zb)) (ZQ 6 ZM.nd) (Za (ZR 7 ZM.nd (Zq (Wh T) T.L_l_at hr (Zc (jv 0) (Zc (Zi ZJ Zd (jv 6)) Zb))))
   (Za (ZR 8 ZM.nd (Zq (XR T) T.L_l_mix hr (Zc (jv 7) (Zc Zd Zb))))
   (Za (ZR 11 ZM.nd (Zi Zv (jv 8) (Yl Yd (by rfl) T.b_len PySem.boot_len (Zc (jv 2) Zb))))
   (Za (ZR 12 ZM.nd (Zq (Ak T) T.PN hr (Zc (jv 2) (Zc (jv 3) (Zc (jv 11) (Zc (Zi ZK (jv 8) Zd) Zb))))))
   (Za (ZR 13 ZM.nd (Zq (XR T) T.L_l_mix hr (Zc (jv 7) (Zc Zd Zb))))
   (Za (ZR 14 ZM.nd UJ)
   (Za (WN (ZD [] (Zn (XH hr.XW) (Zi Zv (jv 13) Zd) Zd (Zr _)) (Ze (ZR 14 ZM.nd (Xe (ZW (Zc (Zg (jv 4) (Zi Zv (Zi ZK (jv 13) Zd) (Yl Yd (by rfl) T.b_len PySem.boot_len (Zc (jv 4) Zb)))) (Zc (Zg (jv 4) (Zi Zv (Zi ZK (jv 13) Zd) (Yl Yd (by rfl) T.b_len PySem.boot_len (Zc (jv 4) Zb)))) Zb))) YM (Yu (Zi ZJ Zd (Zi Zv (Zi ZK (jv 13) Zd) Zd)))))) Zk))
   (Za (ZR 9 ZM.nd (Zg (Vw (Zc Yt (Zc Yt (Zc (Zg (jv 3) (Zi Zv (Zi ZK (jv 13) Zd) Zd)) Zb)))) (Zi Zv (Zi ZK (jv 13) Zd) Zd)))
   (Ze (WC [] 5 (ZW (Zc (Zg (jv 4) (Zi ZJ (Yl Yd (by rfl) T.b_len PySem.boot_len (Zc (jv 2) Zb)) (jv 6))) (Zc (Zg (jv 2) (jv 11)) (Zc (jv 12) (Zc (Zq (KL T) T.Uu hr (Zc (jv 7) (Zc Zd (Zc (jv 1) Zb)))) (Zc (jv 9) (Zc (jv 14) Zb))))))))))))))))))
   (Ze (Zm [5] (jv 5))))))))))),λxs q x h=>?_⟩)
 ·obtain ⟨ns,scale,rfl,hq⟩:=h
  have hsz:aA=16777216:=rfl
  walk_at "rd"
  refine ⟨ns,rfl,λkinds hk k1 k3=>?_⟩
  walk_at "rd"
  refine ⟨ns,rfl,λwords hw=>?_⟩
  walk_at "rd"
  refine ⟨ns,rfl,λtitles ht=>?_⟩
  have w3:=hw.1
  have t9:=ht.1
  have wk:=hk.notin hw
  walk_at "rd"
  refine ⟨by decide,[],?_⟩
  walk_at "rd"
  refine ⟨by omega,by omega,Ue (λi ds'=>∃ (rs:List Ru) (s6 s7 s8 s9 s10 s11 s12 s13 s14:L2.Slot),ds'=[.v (.scr (ns.map .int)),.v (.str scale),.v (.lst (kinds.map .str)),.v (.lst (words.map .str)),.v (.lst (titles.map .str)),.own (rs.map ZP),s6,s7,s8,s9,s10,s11,s12,s13,s14]/\rs.length=i/\rs.map (·.ti)=titles.take i/\(∀ r∈rs,RowR scale kinds words [] r)/\∀ k,k < i->∃ r,rs[k]?=some r/\kinds[k]?=some r.hd/\r.t=none/\∃ w∈words,r.ps=[w]) ⟨[],_,_,_,_,_,_,_,_,_,rfl,rfl,rfl,λr h=>(by cases h),λk h=>by omega⟩ (λi ds N hi hd hn=>?_) (λds hd=>?_)⟩
  ·obtain ⟨rs,s6,s7,s8,s9,s10,s11,s12,s13,s14,rfl,hl,hti,hr,hb⟩:=hd
   walk_at "rd"
   have wl:=wLow (atZ ns (4 + (0 + (i:Int)))) 3 scale
   have m0:=Rv (atZ ns (4 + (0 + (i:Int)))) 2
   have m1:=OZ (atZ ns (4 + (0 + (i:Int)))) 2
   generalize mix (atZ ns (4 + (0 + (i:Int)))) 2=m at m0 m1 ⊢
   generalize atZ ns (4 + (0 + (i:Int)))=cell at wl ⊢
   have g1:=mod_lt (n:=3) (m / 3) (by decide)
   obtain ⟨w1,hw1,ew1⟩:=Wj D.str words (i:=m / 3 % 3) g1.1 (by rw [w3];exact g1.2)
   have g2:=mod_lt (n:=3) (m / 9) (by decide)
   obtain ⟨tg,htg,etg⟩:=Wj D.str ["", "",w1] (i:=m / 9 % 3) g2.1 g2.2
   have g3:=mod_lt (n:=3) m (by decide)
   obtain ⟨w2,hw2,ew2⟩:=Wj D.str words (i:=m % 3) g3.1 (by rw [w3];exact g3.2)
   have hit:i < titles.length:=by omega
   have hik:i < kinds.length:=by omega
   have et:atI (titles.map D.str) (0 + (i:Int))=some (.str titles[i]):=by rw [Int.zero_add];exact Xn (by rw [getElem?_map,aC hit];rfl)
   have ek:atI (kinds.map D.str) (0 + (i:Int))=some (.str kinds[i]):=by rw [Int.zero_add];exact Xn (by rw [getElem?_map,aC hik];rfl)
   refine ⟨by omega,by decide,by decide,by decide,YQ (by decide) (by decide),by decide,_,ew1,by decide,by decide,YQ (by decide) (by decide),by decide,_,etg,_,et,_,ek,by decide,_,ew2,by decide,by decide,by decide,by decide,by omega,hn _ ⟨rs++[⟨titles[i],kinds[i],[w2],wP cell 3 scale,wQ cell 3 scale,tg,none⟩],_,_,_,_,_,_,_,_,_,by rw [map_append];rfl,by rw [length_append,hl];rfl,?_,λr h=>?_,λk h=>?_⟩⟩
   ·rw [map_append,hti,take_add_one,aC hit]
    rfl
   ·rcases mem_append.mp h with h | h
    ·exact hr r h
    ·rw [mem_singleton.mp h]
     refine ⟨getElem_mem hik,Nat.le_refl _,by simp,λp hp=>?_,λp hp hk'=>?_,wl.1,wl.2.1,wl.2.2.1,wl.2.2.2,?_,λus hu=>by cases hu⟩
     ·rw [mem_singleton.mp hp];exact .inr hw2
     ·cases hp
      exact absurd hk' (wk _ hw2)
     ·simp only [mem_cons,not_mem_nil,or_false] at htg
      rcases htg with e | e | e
      ·exact .inl e
      ·exact .inl e
      ·exact .inr (e ▸ hw1)
   ·by_cases e:k < i
    ·obtain ⟨r,h1,h2⟩:=hb k e
     exact ⟨r,by rw [getElem?_append_left (by omega)];exact h1,h2⟩
    ·have e:k=i:=by omega
     subst e
     refine ⟨_,by rw [getElem?_append_right (by omega),hl,Nat.sub_self];rfl,aC hik,rfl,w2,hw2,rfl⟩
  ·obtain ⟨rs,s6,s7,s8,s9,s10,s11,s12,s13,s14,rfl,hl,hti,hr,hb⟩:=hd
   walk_at "rd"
   have nb:=mod_lt (n:=7) (mix (atZ ns 0) 4) (by decide)
   generalize hmany:mix (atZ ns 0) 4 % 7=many at nb
   obtain ⟨n6,rfl⟩:∃ n:Nat,many=n:=⟨many.toNat,by omega⟩
   rw [Mw _ (by omega),<-map_take]
   have et2:((kinds.length:Int) + (n6:Int)).toNat=kinds.length + n6:=by omega
   rw [et2]
   have tl:(titles.take (kinds.length + n6)).length=kinds.length + n6:=by rw [length_take];omega
   generalize htt:titles.take (kinds.length + n6)=tis at tl
   refine ⟨by decide,by decide,by decide,by decide,[],?_⟩
   walk_at "rd"
   have hti2:rs.map (·.ti)=tis.take kinds.length:=by rw [hti,<-htt,List.take_take];congr 1;omega
   refine ⟨by omega,by omega,Ue (λi ds'=>∃ (rs:List Ru) (s6 s7 s8 s9 s11 s12 s13 s14:L2.Slot),ds'=[.v (.scr (ns.map .int)),.v (.str scale),.v (.lst (kinds.map .str)),.v (.lst (words.map .str)),.v (.lst (tis.map .str)),.own (rs.map ZP),s6,s7,s8,s9,.v (.int n6),s11,s12,s13,s14]/\rs.length=kinds.length + i/\rs.map (·.ti)=tis.take (kinds.length + i)/\(∀ r∈rs,RowR scale kinds words tis r)/\∀ k,k < kinds.length->∃ r,rs[k]?=some r/\kinds[k]?=some r.hd/\r.t=none/\∃ w∈words,r.ps=[w]) ⟨rs,_,_,_,_,_,_,_,_,rfl,hl,hti2,λr h=>?_,hb⟩ (λi ds N hi hd hn=>?_) (λds hd=>?_)⟩
   ·obtain ⟨a1,a2,a3,a4,a5,a6,a7,a8,a9,a10,a11⟩:=hr r h
    exact ⟨a1,a2,a3,a4,a5,a6,a7,a8,a9,a10,λus hu=>by
     obtain ⟨b1,b2,b3⟩:=a11 us hu
     cases us with
     | nil=>simp at b1
     | cons u us=>exact absurd (b3 u (mem_cons_self ..)) (by simp)⟩
   ·clear hr hb hl hti hti2 rs
    obtain ⟨rs,s6,s7,s8,s9,s11,s12,s13,s14,rfl,hl,hti,hr,hb⟩:=hd
    walk_at "rd"
    have wl:=wLow (atZ ns (7 + (0 + (i:Int)))) 3 scale
    have m0:=Rv (atZ ns (7 + (0 + (i:Int)))) 5
    have m1:=OZ (atZ ns (7 + (0 + (i:Int)))) 5
    have n0:=Rv (atZ ns (7 + (0 + (i:Int)))) 6
    have n1:=OZ (atZ ns (7 + (0 + (i:Int)))) 6
    generalize mix (atZ ns (7 + (0 + (i:Int)))) 5=m at m0 m1 ⊢
    generalize mix (atZ ns (7 + (0 + (i:Int)))) 6=n at n0 n1 ⊢
    generalize atZ ns (7 + (0 + (i:Int)))=cell at wl ⊢
    rw [Xd (show (0:Int) < kinds.length by omega)]
    obtain ⟨h1,h2⟩:=mod_lt (n:=kinds.length) m (by omega)
    obtain ⟨h,eh⟩:∃ h:Nat,m % (kinds.length:Int)=h:=⟨(m % (kinds.length:Int)).toNat,by omega⟩
    rw [eh] at h1 h2 ⊢
    have hh:h < kinds.length:=by omega
    refine ⟨by omega,by decide,by decide,by omega,by decide,YQ (by decide) (by decide),kinds,words,h,m / 3,rfl,k1,k3,w3,wk,hh,by omega,by omega,λps hps=>?_⟩
    walk_at "rd"
    refine ⟨by decide,by decide,λds'=>∃ t:Option (List Str),ds'=[.v (.scr (ns.map .int)),.v (.str scale),.v (.lst (kinds.map .str)),.v (.lst (words.map .str)),.v (.lst (tis.map .str)),.own (rs.map ZP),.v (.int (0 + (i:Int))),.v (.int cell),.v (.int m),s9,.v (.int n6),.v (.int h),.v (.tup (ps.map .str)),.v (.int n),.v (RT t)]/\∀ us,t=some us->1<=us.length/\us.length<=2/\∀ u∈us,u∈tis,?_,?_⟩
    ·walk_at "rd"
     refine ⟨by decide,XF (λe=>?_) (λe=>⟨none,rfl,λus z=>by cases z⟩)⟩
     rw [Xd (show (0:Int) < tis.length by omega),Xd (show (0:Int) < tis.length by omega)]
     obtain ⟨a1,a2⟩:=mod_lt (n:=tis.length) (n / 4) (by omega)
     obtain ⟨u1,hu1,eu1⟩:=Wj D.str tis a1 a2
     obtain ⟨b1,b2⟩:=mod_lt (n:=tis.length) (n / 36) (by omega)
     obtain ⟨u2,hu2,eu2⟩:=Wj D.str tis b1 b2
     have nb2:=mod_lt (n:=2) (n / 324) (by decide)
     refine ⟨by decide,YQ (by decide) (by decide),by omega,_,eu1,by decide,YQ (by decide) (by decide),by omega,_,eu2,by decide,by decide,YQ (by decide) (by decide),by decide,some (([u1,u2]:List Str).take (1 + n / 324 % 2).toNat),?_,λus z=>?_⟩
     ·rw [Mw _ (by omega)]
      show _=D.tup _
      rw [map_take]
      rfl
     ·cases z
      rw [length_take]
      simp only [length_cons,length_nil]
      refine ⟨by omega,by omega,λu hu=>?_⟩
      have:=mem_of_mem_take hu
      simp only [mem_cons,not_mem_nil,or_false] at this
      rcases this with e | e <;> rw [e] <;> assumption
    rintro _ ⟨t,rfl,htt'⟩
    walk_at "rd"
    have g1:=mod_lt (n:=3) (n / 648) (by decide)
    obtain ⟨w1,hw1,ew1⟩:=Wj D.str words (i:=n / 648 % 3) g1.1 (by rw [w3];exact g1.2)
    have g2:=mod_lt (n:=3) (n / 1944) (by decide)
    obtain ⟨tg,htg,etg⟩:=Wj D.str ["", "",w1] (i:=n / 1944 % 3) g2.1 g2.2
    have hit:kinds.length + i < tis.length:=by omega
    have et:atI (tis.map D.str) ((kinds.length:Int) + (0 + (i:Int)))=some (.str tis[kinds.length + i]):=by
     rw [Int.zero_add,show (kinds.length:Int) + (i:Int)=((kinds.length + i:Nat):Int) by omega]
     exact Xn (by rw [getElem?_map,aC hit];rfl)
    have ek:atI (kinds.map D.str) (h:Int)=some (.str kinds[h]):=Xn (by rw [getElem?_map,aC hh];rfl)
    refine ⟨by decide,YQ (by decide) (by decide),by decide,_,ew1,by decide,by decide,YQ (by decide) (by decide),by decide,_,etg,_,et,_,ek,by decide,by decide,by decide,by omega,hn _ ⟨rs++[⟨tis[kinds.length + i],kinds[h],ps,wP cell 3 scale,wQ cell 3 scale,tg,t⟩],_,_,_,_,_,_,_,_,by rw [map_append];rfl,by rw [length_append,hl];rfl,?_,λr hm=>?_,λk hk'=>?_⟩⟩
    ·rw [map_append,hti,<-Nat.add_assoc,take_add_one,aC hit]
     rfl
    ·rcases mem_append.mp hm with hm | hm
     ·exact hr r hm
     ·rw [mem_singleton.mp hm]
      obtain ⟨q1,q2,q3,q4⟩:=hps
      refine ⟨getElem_mem hh,q1,q2,q3,λp hp hk'=>?_,wl.1,wl.2.1,wl.2.2.1,wl.2.2.2,?_,htt'⟩
      ·have:=q4 p hp hk'
       have ei:kinds.idxOf kinds[h]=h:=List.Nodup.idxOf_getElem hk.2.2 h hh
       show kinds.idxOf kinds[h] < _
       rw [ei]
       exact this
      ·simp only [mem_cons,not_mem_nil,or_false] at htg
       rcases htg with e | e | e
       ·exact .inl e
       ·exact .inl e
       ·exact .inr (e ▸ hw1)
    ·obtain ⟨r,z1,z2⟩:=hb k hk'
     exact ⟨r,by rw [getElem?_append_left (by omega)];exact z1,z2⟩
   ·obtain ⟨rs,s6,s7,s8,s9,s11,s12,s13,s14,rfl,hl,hti,hr,hb⟩:=hd
    walk_at "rd"
    have en:(((n6:Int)).toNat)=n6:=by omega
    refine hq kinds words rs ⟨hk,k1,k3,hw,by omega,?_,⟨titles,ht,?_⟩,?_,hb⟩
    ·omega
    ·rw [hti,<-htt,List.take_take,hl];congr 1;omega
    ·have:rs.map (·.ti)=tis:=by rw [hti,List.take_of_length_le (by omega)]
     rw [this]
     exact hr
theorem Vt.kd {sc:Str}{kinds words:List Str}{rs:List Ru}(h:Vt sc kinds words rs):∀ z∈kinds,Wy z=true:=λz hz=>(h.k.2.1 z hz).kd
theorem Vt.wd {sc:Str}{kinds words:List Str}{rs:List Ru}(h:Vt sc kinds words rs):∀ z∈words,Si z=true:=λz hz=>(h.w.2.1 z hz).wd
theorem Vt.heads {sc:Str}{kinds words:List Str}{rs:List Ru}(h:Vt sc kinds words rs):∀ z∈kinds,z∈rs.map (·.hd):=λz hz=>by
 obtain ⟨r,h1,h2,_⟩:=h.base _ (idxOf_lt_length_of_mem hz)
 have hi:=idxOf_lt_length_of_mem hz
 rw [aC hi,List.getElem_idxOf hi] at h2
 exact mem_map.mpr ⟨r,mem_of_getElem? h1,(Option.some.inj h2).symm⟩
theorem Vt.good {sc:Str}{kinds words:List Str}{rs:List Ru}{st:Str}(h:Vt sc kinds words rs) (hs:st∈kinds) (hsc:sc = "cost" \/ sc = "chance"):Good sc st rs:=by
 obtain ⟨titles,ht,hti⟩:=h.ti
 have kk:=h.kd
 have ww:=h.wd
 have tt:∀ z∈titles,Si z=true:=λz hz=>(ht.2.1 z hz).wd
 have tr:∀ z∈rs.map (·.ti),Si z=true:=λz hz=>tt z (by rw [hti] at hz;exact mem_of_mem_take hz)
 have ti:∀ r∈rs,Si r.ti=true:=λr hr=>tr _ (mem_map.mpr ⟨r,hr,rfl⟩)
 have hk:∀ z∈rs.map (·.hd),z∈kinds:=λz hz=>by obtain ⟨r,hr,rfl⟩:=mem_map.mp hz;exact (h.row r hr).hd
 have pn:∀ r∈rs,∀ p∈r.ps,isNm p=true:=λr hr p hp=>by
  rcases (h.row r hr).ps p hp with z | z
  ·exact Ha (kk p z)
  ·exact Gq (ww p z)
 have lr:=h.len
 have hn:rs≠[]:=λz=>by have a:=h.nk;have b:=h.k1;rw [z] at a;simp only [length_nil] at a;omega
 refine ⟨⟨by omega,λr hr=>?_⟩,λr hr=>?_,?_,?_,?_,?_⟩
 ·have R:=h.row r hr
  refine ⟨RC (Gq (ti r hr)),RC (Ha (kk _ R.hd)),fits_of (by have:=R.p4;omega) (pn r hr),λus e=>?_⟩
  obtain ⟨x1,x2,x3⟩:=R.un us e
  exact fits_of (by omega) λu hu=>Gq (tr u (x3 u hu))
 ·have R:=h.row r hr
  unfold Xk
  have e3:Vn r.ps=true:=by
   unfold Vn
   rw [decide_eq_true R.p1,decide_eq_true R.p4,all_eq_true.mpr (pn r hr)]
   rfl
  have e4:(decide (r.tg = "") || Si r.tg)=true:=by
   rcases R.tg with e | e
   ·rw [decide_eq_true e];rfl
   ·rw [ww _ e];simp
  have e5:KH r.t=true:=by
   cases e:r.t with
   | none=>rfl
   | some us =>
    obtain ⟨x1,x2,x3⟩:=R.un us e
    show XS us=true
    unfold XS
    rw [decide_eq_true x1,all_eq_true.mpr λu hu=>tr u (x3 u hu)]
    rfl
  rw [ti r hr,kk _ R.hd,e3,e4,e5]
  rfl
 ·refine qy rs [] (λr hr=>?_) ?_ (λr _=>by simp)
  ·unfold okW
   rcases hsc with e | e
   ·rw [decide_eq_true e];rfl
   ·rw [decide_eq_true ((h.row r hr).pos e)];simp
  rw [hti]
  exact ht.2.2.sublist (List.take_sublist _ _)
 ·unfold ctu
  rw [all_eq_true]
  intro r hr
  unfold Ry
  cases e:r.t with
  | none=>rfl
  | some us =>
   simp only
   rw [all_eq_true]
   intro u hu
   exact decide_eq_true (((h.row r hr).un us e).2.2 u hu)
 ·unfold ck
  rw [decide_eq_true (h.heads st hs),Bool.true_and,all_eq_true]
  intro r hr
  unfold Kb
  rw [all_eq_true]
  intro p hp
  obtain ⟨h1,h2⟩:=mem_filter.mp hp
  rcases (h.row r hr).ps p h1 with z | z
  ·exact decide_eq_true (h.heads p z)
  ·rw [Kd (ww p z)] at h2;cases h2
 ·have wn:waitOf rs≠[]:=λz=>by
   obtain ⟨r0,e0⟩:∃ r0,r0∈rs:=by
    cases rs with
    | nil=>exact absurd rfl hn
    | cons a b=>exact ⟨a,mem_cons_self ..⟩
   have:r0.hd∈waitOf rs:=(Mx _ _).mpr (mem_map.mpr ⟨r0,e0,rfl⟩)
   rw [z] at this
   cases this
  have up:∀ s∈Xr rs,s.2∈waitOf rs->kinds.idxOf s.1 < kinds.idxOf s.2:=λs hs hw=>by
   unfold Xr at hs
   obtain ⟨r,hr,rfl⟩:=mem_map.mp hs
   obtain ⟨hr,hl⟩:=mem_filter.mp hr
   obtain ⟨p,ep⟩:=List.length_eq_one_iff.mp (of_decide_eq_true hl)
   have R:=h.row r hr
   have e:r.ps.getD 0 "" = p:=by rw [ep];rfl
   simp only [e] at hw ⊢
   exact R.one p ep (hk p ((Mx _ _).mp hw))
  obtain ⟨res,h1,h2⟩:=Hio.all (steps:=Xr rs) (λz=>kinds.idxOf z) _ (waitOf rs) (waitOf rs) [] (Nat.le_refl _) up wn
  exact ⟨res,h1,by rw [h2];simp⟩
section
variable {r:Ru}{q:D->Prop}
theorem zt_0:dIx (ZP r) (.int (no_index 0)) q=q (.str r.ti):=by show (∃ d,some (D.str r.ti)=some d/\q d)=_;simp
theorem zt_1:dIx (ZP r) (.int (no_index 1)) q=q (.str r.hd):=by show (∃ d,some (D.str r.hd)=some d/\q d)=_;simp
theorem zt_2:dIx (ZP r) (.int (no_index 2)) q=q (.tup (r.ps.map .str)):=by show (∃ d,some (D.tup (r.ps.map .str))=some d/\q d)=_;simp
theorem zt_3:dIx (ZP r) (.int (no_index 3)) q=q (wD r.wa r.wb):=by show (∃ d,some (wD r.wa r.wb)=some d/\q d)=_;simp
theorem zt_4:dIx (ZP r) (.int (no_index 4)) q=q (.str r.tg):=by show (∃ d,some (D.str r.tg)=some d/\q d)=_;simp
theorem zt_5:dIx (ZP r) (.int (no_index 5)) q=q (RT r.t):=by show (∃ d,some (RT r.t)=some d/\q d)=_;simp
theorem wj:(RT r.t).VD=r.t.isNone:=by cases r.t <;> rfl
end
def rd8:String:=rd7 ++ " zt_0 zt_1 zt_2 zt_3 zt_4 zt_5 wj"
local macro_rules | `(tactic| walk_at "rd") => rdM rd8
theorem Good.made {A:Adr}{z st:Str}{rs:List Ru}(h:Good z st rs) (hz:z = "cost" \/ z = "chance") {q:List (Str × D)->Prop}{x:Addr->Prop}(hq:q (qm A z st rs)):Uy A [.str z,.str st,.lst (rs.map (Ru.d A))] q x:=by
 obtain ⟨res,h1,h2⟩:=h.ring
 exact ⟨z,st,rs,rfl,h.fit,.inr ⟨hz,.inr (.inr ⟨h.wt,.inr ⟨h.un,.inr ⟨h.kd,res,h1,.inr ⟨h2,hq⟩⟩⟩⟩)⟩⟩
theorem Nm {A:Adr}{r:Ru}(hf:r.Fit) (ho:Xk r.ti r.hd r.ps r.tg r.t=true) (lt:r.tg.length<=1000) {q:List (Str × D)->Prop}{x:Addr->Prop}(hq:q (qj r.ti r.hd r.ps (wD r.wa r.wb) r.tg r.t)) :
  VC A [.str r.ti,.str r.hd,.lst (r.ps.map .str),wD r.wa r.wb,.str r.tg,RT r.t] q x:=by
 obtain ⟨m1,m2,m3,m4⟩:=hf
 refine ⟨_,_,_,r.ps,_,_,_,r.t,rfl,.inl rfl,m3,?_,m1,m2,lt,λ_=>hq,λz=>by rw [ho] at z;cases z⟩
 cases e:r.t with
 | none=>rfl
 | some us=>exact ⟨.inr rfl,m4 us e⟩
theorem JA {r:Ru}(ho:Xk r.ti r.hd r.ps r.tg r.t=true):r.tg.length<=1000:=by
 unfold Xk at ho
 simp only [aF,Bool.or_eq_true,decide_eq_true_eq] at ho
 rcases ho.1.2 with e | e
 ·rw [e];decide +kernel
 ·exact RC (Gq e)
noncomputable def DJ (A:Adr):DSp:=λxs q _=>∃ (sc:Str) (rs:List Ru) (r0:Ru),xs=[.lst (rs.map ZP),.str sc]/\(sc = "cost" \/ sc = "chance")/\rs[0]?=some r0/\Good sc r0.hd rs/\q (Gr A sc r0.hd rs)
theorem FL {A:Adr}(T:Txt K mg A):Zx P w K mg base (CXE P w) 7 A.Tb A.Qz UR (spD K (DJ A)):=by
 haveI:TxC K A:=⟨⟨_,T⟩⟩
 refine T.Ti.F.okJ SQ (by walk_at "ln") (λcdv Ar outer s H E hr=>⟨_,(Za (Xb (i:=2) SQ.nd rfl (Or.inl rfl) (Xz Zb))
   (Za (Xc PassesOwn.leaving (Yb (jv 0)) (ZQ 3 SQ.nd) (Ze (ZD [] (Tt (Ts (Zn (XH hr.XW) (Zg (jv 3) Zd) Yt (Zr _)) (WX (Zn Fg (Zg (jv 3) Zd) UJ (Zr _))))) (Ze (WC [] 2 (NS (dvs:=[.str "",.non]) (dds:=[.str "",.non]) T.mk_Rule (WW T) (hr.mono (by decide)) (by rfl) T.M_Rule T.LY (.cons ⟨_,rfl⟩ (.cons rfl .nil)) (λ_=>⟨_,_,rfl,rfl,⟨_,_,rfl,rfl,rfl⟩⟩) Yr (Zc (Zg (jv 3) Zd) (Zc (Zg (jv 3) Zd) (Zc (UK Jt (by rfl) T.b_list PyProof.Rows.boot_list (Zc (Zg (jv 3) Zd) Zb)) (Zc (Zg (jv 3) Zd) Zb))))))) (Ze (WC [] 2 (NS (dvs:=[]) (dds:=[]) T.mk_Rule (WW T) (hr.mono (by decide)) (by rfl) T.M_Rule T.Xx .nil (λ_=>rfl) Yr (Zc (Zg (jv 3) Zd) (Zc (Zg (jv 3) Zd) (Zc (UK Jt (by rfl) T.b_list PyProof.Rows.boot_list (Zc (Zg (jv 3) Zd) Zb)) (Zc (Zg (jv 3) Zd) (Zc (Zg (jv 3) Zd) (Zc (Zg (jv 3) Zd) Zb))))))))))))
   (Ze (Zm [2] (NS (dvs:=[]) (dds:=[]) T.Rk (VE T) (hr.mono (by decide)) (by rfl) T.LN T.YL .nil (λ_=>rfl) Yr (Zc (jv 1) (Zc (Zg (Zg (jv 0) Zd) Zd) (Zc (jv 2) Zb)))))))),λxs q x h=>?_⟩)
 ·obtain ⟨sc,rs,r0,rfl,hsc,h0,hg,hq⟩:=h
  have hsz:aA=16777216:=rfl
  obtain ⟨l1,l2⟩:=hg.fit
  walk_at "rd"
  refine ⟨by decide,[],?_⟩
  walk_at "rd"
  refine YH (λi ds'=>∃ s3:L2.Slot,ds'=[.v (.lst (rs.map ZP)),.v (.str sc),.own ((rs.take i).map (Ru.d A)),s3]) ⟨_,by rw [take_zero];rfl⟩ (λi r ds N hr hd hn=>?_) (λds ⟨s3,e⟩=>?_)
  ·obtain ⟨s3,rfl⟩:=hd
   have hm:=mem_of_getElem? hr
   have ok:=hg.ok r hm
   have lt:(rs.take i).length<=1000:=by rw [length_take];omega
   have nx:(rs.take i).length < aA/\N [.v (.lst (rs.map ZP)),.v (.str sc),.own ((rs.take i).map (Ru.d A)++[r.d A]),.v (ZP r)]:=⟨by omega,hn _ ⟨.v (ZP r),by rw [take_add_one,hr];simp⟩⟩
   walk_at "rd"
   refine XF (λe=>?_) (λe=>Nm (l2 r hm) ok (JA ok) nx)
   refine ifB (λe1=>?_) (λe1=>Nm (l2 r hm) ok (JA ok) nx)
   have:=Nm (A:=A) (x:=x) (l2 r hm) ok (JA ok) (q:=λgs=>(rs.take i).length < aA/\N [.v (.lst (rs.map ZP)),.v (.str sc),.own ((rs.take i).map (Ru.d A)++[.obj A.C_Rule gs]),.v (ZP r)]) nx
   rw [e,Option.isNone_iff_eq_none.mp e1] at this
   exact this
  ·subst e
   walk_at "rd"
   rw [take_length]
   have:atI (rs.map ZP) 0=some (ZP r0):=Xn (j:=0) (by rw [getElem?_map,h0];rfl)
   refine ⟨_,this,?_⟩
   walk_at "rd"
   exact hg.made hsc hq
noncomputable def wm (A:Adr):DSp:=λxs q _=>∃ ns:List Int,xs=[.scr (ns.map .int)]/\∀ (sc:Str) kinds words rs r0,(sc = "cost" \/ sc = "chance")->Vt sc kinds words rs->rs[0]?=some r0->Good sc r0.hd rs->q (.tup [.lst (rs.map ZP),Gr A sc r0.hd rs])
theorem Am {A:Adr}(T:Txt K mg A):Zx P w K mg base (CXE P w) 8 A.PH A.LK Pp (spD K (wm A)):=by
 haveI:TxC K A:=⟨⟨_,T⟩⟩
 refine T.PR.F.okJ OD (by walk_at "ln") (λcdv Ar outer s H E hr=>⟨_,(Za (ZR 1 OD.nd (Zg (Vw (Zc Yt (Zc Yt Zb))) (Zi Zv (Zq (Wh T) T.L_l_at hr (Zc (jv 0) (Zc Zd Zb))) Zd)))
   (Za (ZR 2 OD.nd (Zq (Al T) T.PQ hr (Zc (jv 0) (Zc (jv 1) Zb))))
   (Ze (Zm [] (ZW (Zc (jv 2) (Zc (Zq (FL T) T.Ti hr (Zc (jv 2) (Zc (jv 1) Zb))) Zb))))))),λxs q x h=>?_⟩)
 ·obtain ⟨ns,rfl,hq⟩:=h
  have hsz:aA=16777216:=rfl
  walk_at "rd"
  have nb:=mod_lt (n:=2) (atZ ns 0) (by decide)
  obtain ⟨sc,hsc,esc⟩:=Wj D.str ["cost", "chance"] (i:=atZ ns 0 % 2) nb.1 nb.2
  have hsc:sc = "cost" \/ sc = "chance" := by simpa using hsc
  refine ⟨by decide,by decide,by decide,_,esc,ns,sc,rfl,λkinds words rs hR=>?_⟩
  walk_at "rd"
  obtain ⟨r0,h0,hk0,_⟩:=hR.base 0 hR.k1
  have hG:=hR.good (mem_of_getElem? hk0) hsc
  exact ⟨sc,rs,r0,rfl,hsc,h0,hG,by decide,hq sc kinds words rs r0 hsc hR h0 hG⟩
-- depth,and the same shape
mutual
noncomputable def Tr.dp:Tr->Nat
 | .lf _=>0
 | .nd _ ts=>1 + Tr.dps ts
noncomputable def Tr.dps:List Tr->Nat
 | []=>0
 | t::ts=>max t.dp (Tr.dps ts)
end
mutual
noncomputable def Tr.sl:Tr->Bool
 | .lf (.str _)=>true
 | .lf _=>false
 | .nd _ ts=>Tr.sls ts
noncomputable def Tr.sls:List Tr->Bool
 | []=>true
 | t::ts=>t.sl && Tr.sls ts
end
theorem Tr.mz (a b:List Tr):Tr.sls (a++b)=(Tr.sls a && Tr.sls b):=by
 induction a with
 | nil=>simp [Tr.sls]
 | cons t a ih=>rw [cons_append,Tr.sls,Tr.sls,ih,Bool.and_assoc]
theorem Tr.mB (a b:List Tr):Tr.dps (a++b)=max (Tr.dps a) (Tr.dps b):=by
 induction a with
 | nil=>simp [Tr.dps]
 | cons t a ih=>rw [cons_append,Tr.dps,Tr.dps,ih];omega
theorem Hb {rs:List Ru}{k:Int}{p:Str}{t:Tr}:∀ {ps:List Str}{ts:List Tr},ps.length=ts.length->Xl rs (ps++[p]) k (ts++[t])=(Xl rs ps k ts && YG rs p k t)
 | [],[],_=>by simp [Xl]
 | [],_::_,h=>by cases h
 | _::_,[],h=>by cases h
 | a::ps,b::ts,h=>by
  rw [cons_append,cons_append,Xl,Xl,Hb (by simpa using h),Bool.and_assoc]
noncomputable def cw (kinds:List Str) (p:Str):Nat:=if p∈kinds then 5 - kinds.idxOf p else 1
theorem cw_sum (kinds l:List Str):(l.map (cw kinds)).sum<=5 * l.length:=by
 induction l with
 | nil=>simp
 | cons y l ih =>
  have:cw kinds y<=5:=by unfold cw;split <;> omega
  rw [map_cons,sum_cons,length_cons]
  omega
theorem mC {a:Addr}{m:MO}:List.lookup a ([(a,m)]:Mu)=some m:=by simp [List.lookup]
theorem gr {a:Addr}{m m':MO}:Mu.put [(a,m)] a m'=[(a,m')]:=by simp [Mu.put]
theorem lV {x:D}{xs:List D}:atI (x::xs) (no_index 0)=some x:=by unfold atI;rw [length_cons,Nk (by decide) (by omega)];rfl
theorem z_at1 {x y:D}{xs:List D}:atI (x::y::xs) (no_index 1)=some y:=by unfold atI;rw [length_cons,length_cons,Nk (by decide) (by omega)];rfl
theorem z_ix0 {n:Nat}:ixN (n + 1) (no_index 0)=some 0:=Nk (by decide) (by omega)
theorem z_ix1 {n:Nat}:ixN (n + 1 + 1) (no_index 1)=some 1:=Nk (by decide) (by omega)
def rd9:String:=rd8 ++ " beq_self_eq_true lV z_at1 z_ix0 z_ix1 IA mC gr Slot.st.injEq D.rf.injEq MO.lst.injEq"
local macro_rules | `(tactic| walk_at "rd") => rdM rd9
noncomputable def wo:Nat->BF
 | 0=>λ_ _ _=>False
 | n + 1=>λxs μ q=>∃ (sc:Str) (kinds words:List Str) (rs:List Ru) (ns:List Int) (a:Addr) (c sp:Int) (kd:Str) (ab:Int),xs=[.lst (rs.map ZP),.scr (ns.map .int),.rf a,.str kd,.int ab]/\μ=[(a,.lst [.int c,.int sp])] /\
  Vt sc kinds words rs/\kd∈kinds/\Dz rs ab/\0<=c/\c + 40 * sp + 5<=100000 + kinds.idxOf kd/\0<=sp/\sp<=11/\3 * sp + 3<=(n:Int) + 1 + kinds.idxOf kd /\
  ∀ t c' sp',YG rs kd ab t=true->t.Uz=true->t.sl=true->t.dp<=n + 1->c<=c'->c'<=c + t.sz->0<=sp'->sp'<=sp->(t.sz:Int) + kinds.idxOf kd<=40 * (sp - sp') + 5->q t.d [(a,.lst [.int c',.int sp'])]
theorem qB {p:Str}(h:isNm p=true):decide (fst p∈s26.cps.toList)=Wy p:=by
 unfold Wy grS
 rw [h,Bool.true_and]
noncomputable def Ke (rs:List Ru) (kd:Str) (ab:Int) (j:Nat):Bool:=match rs[j]? with
 | some r=>decide (r.hd=kd) && stands rs r ab
 | none=>false
noncomputable def RD (rs:List Ru) (kd:Str) (ab:Int) (n:Nat):List Nat:=(List.range n).filter (Ke rs kd ab)
theorem mD {rs:List Ru}{kd:Str}{ab:Int}{n j:Nat}(h:j∈RD rs kd ab n):∃ r,rs[j]?=some r/\r.hd=kd/\stands rs r ab=true:=by
 have:=(mem_filter.mp h).2
 unfold Ke at this
 cases e:rs[j]? with
 | none=>rw [e] at this;cases this
 | some r =>
  rw [e] at this
  simp only [aF,decide_eq_true_eq] at this
  exact ⟨r,rfl,this⟩
theorem Vt.first {sc:Str}{kinds words:List Str}{rs:List Ru}(h:Vt sc kinds words rs) {kd:Str}(hk:kd∈kinds) (ab:Int):∃ r l,RD rs kd ab rs.length=kinds.idxOf kd::l/\rs[kinds.idxOf kd]?=some r/\r.hd=kd/\r.t=none/\∃ w∈words,r.ps=[w]:=by
 have hi:=idxOf_lt_length_of_mem hk
 obtain ⟨r,h1,h2,h3,h4⟩:=h.base _ hi
 rw [aC hi,List.getElem_idxOf hi] at h2
 have e2:r.hd=kd:=(Option.some.inj h2).symm
 have hb:Ke rs kd ab (kinds.idxOf kd)=true:=by
  unfold Ke
  rw [h1]
  simp only [e2,decide_true,Bool.true_and]
  unfold stands
  rw [h3]
 have no:∀ j,j < kinds.idxOf kd->Ke rs kd ab j=false:=λj hj=>by
  obtain ⟨r',g1,g2,_⟩:=h.base j (by omega)
  unfold Ke
  rw [g1]
  have:r'.hd≠kd:=λe=>by
   have z:=aC hi
   rw [List.getElem_idxOf hi] at z
   exact xS h.k.2.2 hj hi (by rw [z,g2,e])
  simp [this]
 have lt:kinds.idxOf kd < rs.length:=by have:=h.nk;omega
 have er:List.range rs.length=List.range (kinds.idxOf kd)++(List.range (rs.length - kinds.idxOf kd)).map (kinds.idxOf kd + ·):=by rw [<-List.range_add];congr 1;omega
 have e0:(List.range (kinds.idxOf kd)).filter (Ke rs kd ab)=[]:=List.filter_eq_nil_iff.mpr λj hj=>by rw [no j (mem_range.mp hj)];decide
 obtain ⟨m,em⟩:∃ m,rs.length - kinds.idxOf kd=m + 1:=⟨rs.length - kinds.idxOf kd - 1,by omega⟩
 refine ⟨r,((List.range m).map Nat.succ |>.map (kinds.idxOf kd + ·)).filter (Ke rs kd ab),?_,h1,e2,h3,h4⟩
 unfold RD
 rw [er,filter_append,e0,nil_append,em,List.range_succ_eq_map,map_cons,Nat.add_zero,List.filter_cons_of_pos hb]
theorem RE {rs:List Ru}{j:Nat}{r:Ru}(h:rs[j]?=some r):atI (rs.map ZP) (j:Int)=some (ZP r):=Xn (by rw [getElem?_map,h];rfl)
theorem DK {rs:List Ru}{r:Ru}{ab:Int}(h:Dz rs ab) {q:Bool->Prop}(hq:q (stands rs r ab)):if r.t.isNone=true then q true else if decide (0<=ab)=true then ∃ d,atI (rs.map ZP) ab=some d/\dIx d (.int 0) (λa=>dIn false a (RT r.t) λd=>aB d q) else q false:=by
 unfold stands at hq
 cases e:r.t with
 | none=>rw [e] at hq;exact hq
 | some us =>
  rw [e] at hq
  simp only at hq
  rw [if_neg (by simp)]
  rcases h with h | ⟨h0,h1⟩
  ·rw [h] at hq ⊢
   exact hq
  ·rw [if_neg (by omega)] at hq
   rw [decide_eq_true h0,if_pos rfl]
   obtain ⟨r',hr'⟩:∃ r',rs[ab.toNat]?=some r':=⟨_,aC (by omega)⟩
   rw [hr'] at hq
   refine ⟨_,by rw [<-Int.toNat_of_nonneg h0];exact RE hr',?_⟩
   rw [zt_0]
   show dIn false (.str r'.ti) (.tup (us.map .str)) _
   rw [ym]
   exact hq
theorem An {A:Adr}(T:Txt K mg A):∀ n,Zx P w K mg base (CXE P w) (2 + n) A.PD A.LI Pm (spS K 2 (wo n)):=by
 intro n
 induction n with
 | zero=>exact Zx.never λvs H Q E h=>by first | (obtain ⟨_,_,_,_,_,_,_,_,_,h,_⟩:=h;exact h) | (obtain ⟨_,_,_,_,_,_,h,_⟩:=h;exact h)
 | succ n ih=>?_
 have wq:=ih
 rw [show 2 + (n + 1)=(2 + n) + 1 by omega]
 haveI:TxC K A:=⟨⟨_,T⟩⟩
 refine T.Wf.F.okS Xa (λxs μ q h=>?_) (λcdv Ar outer s H E hr=>⟨_,(Za (Jw [] 2 (jvS 2) Zd (Zi ZJ (Ug 2 (jvS 2) Zd) Zd))
   (Za (ZR 5 Xa.nd (Qj (XR T) T.L_l_mix (hr.mono (by omega)) Yr (Zc (Qj (Wh T) T.L_l_at (hr.mono (by omega)) Yr (Zc (jv 1) (Zc (Zi ZJ Zd (Zi Zv (Ug 2 (jvS 2) Zd) Zd)) Zb))) (Zc (Ug 2 (jvS 2) Zd) Zb))))
   (Za (Xb (i:=6) Xa.nd rfl (Or.inl rfl) (Xz Zb))
   (Za (WN (Xc PassesOwn.leaving (qb (by rfl) T.KD (Zc (jv 0) Zb)) (Xy (n:=2) (Zu (ZQ 7 Xa.nd) (Zu (ZQ 8 Xa.nd) YN))) (Ze (ZD [] (Tt (Ts (Zn (XH hr.XW) (Zg (jv 8) Zd) (jv 3) (Zr _)) (WX (Tt (Sa (Zn Fg (Zg (jv 8) Zd) UJ (Zr _)) (Ub (Tt (Ts (Zn jo_ge (jv 4) Zd (Zr _)) (WX (Zn Uc (Zg (Zg (jv 0) (jv 4)) Zd) (Zg (jv 8) Zd) (by with_unfolding_all rfl))))))))))) (Ze (WC [] 6 (jv 7))) Zk))))
   (Za (yh [6] (i:=7) Xa.nd rfl (Or.inl rfl) (Zg (jv 6) (Zi Zv (jv 5) (Yl Yd (by rfl) T.b_len PySem.boot_len (Zc (jv 6) Zb)))))
   (Za (WN (ZD [] (Zn Kz (Zi tE (Yl Yd (by rfl) T.b_len PySem.boot_len (Zc (Zg (Zg (jv 0) (jv 7)) Zd) Zb)) Zd) (Ug 2 (jvS 2) Zd) (Zr _)) (Ze (yh [6] (i:=7) Xa.nd rfl (Or.inl rfl) (Zg (jv 6) Zd))) Zk))
   (Za (Jw [] 2 (jvS 2) Zd (Zi ZJ (Zi tE (Ug 2 (jvS 2) Zd) (Yl Yd (by rfl) T.b_len PySem.boot_len (Zc (Zg (Zg (jv 0) (jv 7)) Zd) Zb))) Zd))
   (Za (Xb (i:=9) Xa.nd rfl (Or.inl rfl) (Xz Zb))
   (Za (WN (Xc PassesOwn.leaving (Yb (Zg (Zg (jv 0) (jv 7)) Zd)) (ZQ 10 Xa.nd) (Za (ZD [] (Zn Uc (Zg (jv 10) Zd) Yt (by with_unfolding_all rfl)) (Ze (Di (i:=10) 2 2 wq (hr.mono (by omega)) (by rfl) T.Wf.m T.Wf.F.kp T.Wf.a Yr (Zc (jv 0) (Zc (jv 1) (Zc (jvS 2) (Zc (jv 10) (Zc (jv 7) Zb))))) Xa.nd rfl (Or.inl rfl))) Zk)
   (Ze (WC [] 9 (jv 10))))))
   (Ze (yt [9] (ZW (Zc (jv 7) (Zc (UK Ou (by rfl) T.b_tuple PyProof.Rows.boot_tuple (Zc (jv 9) Zb)) Zb)))))))))))))),λxs μ a q ha h=>?_⟩)
 ·obtain ⟨sc,kinds,words,rs,ns,a',c,sp,kd,ab,rfl,_⟩:=h
  rfl
 ·obtain ⟨sc,kinds,words,rs,ns,a',c,sp,kd,ab,rfl,rfl,hR,hkd,hab,c0,c1,p0,p1,hm,hq⟩:=h
  have ea:a'=a:=by simpa using ha
  subst ea
  have hsz:aA=16777216:=rfl
  have hG:=hR.len
  have ikd0:kinds.idxOf kd < kinds.length:=idxOf_lt_length_of_mem hkd
  have k30:=hR.k3
  walk_at "rd"
  have m0:=Rv (atZ ns (22 + (c + 1) % 41)) (c + 1)
  generalize mix (atZ ns (22 + (c + 1) % 41)) (c + 1)=m at m0
  refine ⟨by decide,by omega,by omega,by omega,by decide,λds'=>∃ s7 s8:L2.Slot,ds'=[.v (.lst (rs.map ZP)),.v (.scr (ns.map .int)),.st a' [(a',.lst [.int (c + 1),.int sp])],.v (.str kd),.v (.int ab),.v (.int m),.own ((RD rs kd ab rs.length).map λj:Nat => .int j),s7,s8,.un,.un],⟨[],?_⟩,?_⟩
  ·walk_at "rd"
   refine Dg (λi ds'=>∃ s7 s8:L2.Slot,ds'=[.v (.lst (rs.map ZP)),.v (.scr (ns.map .int)),.st a' [(a',.lst [.int (c + 1),.int sp])],.v (.str kd),.v (.int ab),.v (.int m),.own ((RD rs kd ab i).map λj:Nat => .int j),s7,s8,.un,.un]) ⟨_,_,rfl⟩ (λi y ds N hy hd hn=>?_) (λds hd=>?_)
   ·obtain ⟨s7,s8,rfl⟩:=hd
    unfold Qf at hy
    rw [List.getElem?_mapIdx,getElem?_map] at hy
    cases hr:rs[i]? with
    | none=>rw [hr] at hy;cases hy
    | some r =>
     rw [hr] at hy
     cases hy
     walk_at "rd"
     have ef:RD rs kd ab (i + 1)=RD rs kd ab i++(if Ke rs kd ab i=true then [i] else []):=by
      unfold RD
      rw [List.range_succ,filter_append]
      congr 1
      rw [filter_cons]
      split <;> rfl
     have hfb:Ke rs kd ab i=(decide (r.hd=kd) && stands rs r ab):=by unfold Ke;rw [hr]
     have fl:(RD rs kd ab i).length<=i:=Nat.le_trans (length_filter_le _ _) (by rw [List.length_range];exact Nat.le_refl _)
     have hi:i < rs.length:=(List.getElem?_eq_some_iff.mp hr).1
     have no:Ke rs kd ab i=false->N [.v (.lst (rs.map ZP)),.v (.scr (ns.map .int)),.st a' [(a',.lst [.int (c + 1),.int sp])],.v (.str kd),.v (.int ab),.v (.int m),.own ((RD rs kd ab i).map λj:Nat => .int j),.v (.int i),.v (ZP r),.un,.un]:=λe=>hn _ ⟨.v (.int i),.v (ZP r),by rw [ef,e];simp⟩
     have yes:Ke rs kd ab i=true->(RD rs kd ab i).length < aA/\N [.v (.lst (rs.map ZP)),.v (.scr (ns.map .int)),.st a' [(a',.lst [.int (c + 1),.int sp])],.v (.str kd),.v (.int ab),.v (.int m),.own (((RD rs kd ab i).map λj:Nat => .int j)++[.int i]),.v (.int i),.v (ZP r),.un,.un]:=λe=>⟨by omega,hn _ ⟨.v (.int i),.v (ZP r),by rw [ef,if_pos e];simp⟩⟩
     refine XF (λe=>?_) (λe=>no (by rw [hfb,decide_eq_false e];rfl))
     refine DK hab (q:=λb=>if b=true then _ else _) ?_
     rw [decide_eq_true e,Bool.true_and] at hfb
     rw [hfb] at no yes
     exact ifB yes no
   ·rw [Qf,List.length_mapIdx,length_map] at hd
    exact hd
  rintro _ ⟨s7,s8,rfl⟩
  walk_at "rd"
  obtain ⟨rb,l,efl,hrb,hdb,htb,wb,hwb,epb⟩:=hR.first hkd ab
  have fl:0 < (RD rs kd ab rs.length).length:=by rw [efl];simp
  rw [Xd (show (0:Int) < (RD rs kd ab rs.length).length by omega)]
  obtain ⟨g1,g2⟩:=mod_lt m fl
  obtain ⟨k1,hk1,ek1⟩:=Wj (λj:Nat=>D.int j) (RD rs kd ab rs.length) g1 g2
  obtain ⟨r1,hr1,hd1,hs1⟩:=mD hk1
  refine ⟨by omega,_,ek1,?_⟩
  walk_at "rd"
  refine ⟨λds'=>∃ (k:Nat) (r:Ru),ds'=[.v (.lst (rs.map ZP)),.v (.scr (ns.map .int)),.st a' [(a',.lst [.int (c + 1),.int sp])],.v (.str kd),.v (.int ab),.v (.int m),.own ((RD rs kd ab rs.length).map λj:Nat => .int j),.v (.int k),s8,.un,.un]/\rs[k]?=some r/\r.hd=kd/\stands rs r ab=true/\(r.ps.length:Int) - 1<=sp,?_,?_⟩
  ·walk_at "rd"
   refine ⟨_,RE hr1,?_⟩
   walk_at "rd"
   refine XF (λe=>⟨.int (kinds.idxOf kd:Nat),by rw [efl,map_cons];exact lV,?_⟩) (λe=>⟨k1,rfl,r1,hr1,hd1,hs1,by omega⟩)
   walk_at "rd"
   refine ⟨kinds.idxOf kd,rfl,rb,hrb,hdb,?_,?_⟩
   ·unfold stands;rw [htb]
   ·rw [epb];simp;exact p0
  rintro _ ⟨k,r,rfl,hr,hd,hst,hle⟩
  have hmem:=mem_of_getElem? hr
  have R:=hR.row r hmem
  have kl:k < rs.length:=(List.getElem?_eq_some_iff.mp hr).1
  have ikd:kinds.idxOf kd < kinds.length:=idxOf_lt_length_of_mem hkd
  have k3:=hR.k3
  have L1:=R.p1
  have L4:=R.p4
  walk_at "rd"
  refine ⟨_,RE hr,?_⟩
  walk_at "rd"
  generalize hsp0:sp - (r.ps.length:Int) + 1=sp0
  have tot:1 + 40 * sp0 + ((r.ps.map (cw kinds)).sum:Nat) + kinds.idxOf kd<=40 * sp + 5:=by
   by_cases hL:r.ps.length=1
   ·obtain ⟨p',ep⟩:=List.length_eq_one_iff.mp hL
    have e2:(([p']:List Str).map (cw kinds)).sum=cw kinds p':=by simp
    rw [ep,e2]
    unfold cw
    split
    ·rename_i hpk
     have:=R.one p' ep hpk
     rw [hd] at this
     have ip:kinds.idxOf p' < kinds.length:=idxOf_lt_length_of_mem hpk
     omega
    ·omega
   ·have:=cw_sum kinds r.ps
    omega
  refine ⟨by decide,λds'=>∃ (kids:List Tr) (c2 sp2:Int) (s10:L2.Slot),ds'=[.v (.lst (rs.map ZP)),.v (.scr (ns.map .int)),.st a' [(a',.lst [.int c2,.int sp2])],.v (.str kd),.v (.int ab),.v (.int m),.own ((RD rs kd ab rs.length).map λj:Nat => .int j),.v (.int k),s8,.own (kids.map Tr.d),s10]/\kids.length=r.ps.length/\Xl rs r.ps k kids=true/\Tr.sls kids=true/\Tr.dps kids<=n/\c + 1<=c2/\c2<=c + 1 + Tr.szs kids/\0<=sp2/\sp2<=sp0/\(Tr.szs kids:Int)<=40 * (sp0 - sp2) + ((r.ps.map (cw kinds)).sum:Nat),⟨[],?_⟩,?_⟩
  ·walk_at "rd"
   refine ⟨_,RE hr,?_⟩
   walk_at "rd"
   refine YH (λi ds'=>∃ (kids:List Tr) (c2 sp2:Int) (s10:L2.Slot),ds'=[.v (.lst (rs.map ZP)),.v (.scr (ns.map .int)),.st a' [(a',.lst [.int c2,.int sp2])],.v (.str kd),.v (.int ab),.v (.int m),.own ((RD rs kd ab rs.length).map λj:Nat => .int j),.v (.int k),s8,.own (kids.map Tr.d),s10]/\kids.length=i/\Xl rs (r.ps.take i) k kids=true/\Tr.sls kids=true/\Tr.dps kids<=n/\c + 1<=c2/\c2<=c + 1 + Tr.szs kids/\0<=sp2/\sp2<=sp0/\(Tr.szs kids:Int)<=40 * (sp0 - sp2) + (((r.ps.take i).map (cw kinds)).sum:Nat)) ⟨[],c + 1,sp0,_,rfl,rfl,by simp [Xl],rfl,by simp [Tr.dps],by omega,by simp [Tr.szs],by omega,by omega,by simp [Tr.szs]⟩ (λi p ds N hp hd' hn=>?_) (λds hd'=>?_)
   ·obtain ⟨kids,c2,sp2,s10,rfl,kl',ht,hsl,hdp,b1,b2,b3,b4,b5⟩:=hd'
    have hpm:=mem_of_getElem? hp
    have il:i < r.ps.length:=(List.getElem?_eq_some_iff.mp hp).1
    have nm:isNm p=true:=by
     rcases R.ps p hpm with z | z
     ·exact Ha (hR.kd p z)
     ·exact Gq (hR.wd p z)
    have pl:=QJ nm
    have etk:r.ps.take (i + 1)=r.ps.take i++[p]:=by rw [take_add_one,hp];rfl
    have tlen:(r.ps.take i).length=kids.length:=by rw [length_take,kl'];omega
    have szb:Tr.szs kids<=1000:=by
     have:=cw_sum kinds (r.ps.take i)
     rw [tlen,kl'] at this
     omega
    have nxt:∀ (t:Tr) (c3 sp3:Int),YG rs p k t=true->t.sl=true->t.dp<=n->c2<=c3->c3<=c2 + t.sz->0<=sp3->sp3<=sp2->(t.sz:Int)<=40 * (sp2 - sp3) + (cw kinds p:Nat)->kids.length < aA/\N [.v (.lst (rs.map ZP)),.v (.scr (ns.map .int)),.st a' [(a',.lst [.int c3,.int sp3])],.v (.str kd),.v (.int ab),.v (.int m),.own ((RD rs kd ab rs.length).map λj:Nat => .int j),.v (.int k),s8,.own (kids.map Tr.d++[t.d]),.v t.d]:=λt c3 sp3 a1 a2 a3 a4 a5 a6 a7 a8=>by
     refine ⟨by omega,hn _ ⟨kids++[t],c3,sp3,_,by rw [map_append];rfl,by rw [length_append,kl'];rfl,by rw [etk,Hb tlen,ht,a1];rfl,by rw [Tr.mz,hsl];simp [Tr.sls,a2],by rw [Tr.mB];simp [Tr.dps];omega,by omega,?_,a6,by omega,?_⟩⟩
     ·rw [Tr.YC];simp [Tr.szs];omega
     ·have e1:Tr.szs [t]=t.sz:=by simp [Tr.szs]
      have e2:(([p]:List Str).map (cw kinds)).sum=cw kinds p:=by simp
      rw [Tr.YC,etk,map_append,sum_append,e1,e2]
      omega
    walk_at "rd"
    refine ⟨by omega,fst p,at0 pl.1,?_⟩
    rw [Rx,qB nm]
    refine ifB (λe=>?_) (λe=>?_)
    ·have hpk:p∈kinds:=by
      rcases R.ps p hpm with z | z
      ·exact z
      ·rw [Kd (hR.wd p z)] at e;cases e
     have ip:kinds.idxOf p < kinds.length:=idxOf_lt_length_of_mem hpk
     have meas:3 * sp2 + 3<=(n:Int) + kinds.idxOf p:=by
      by_cases hL:r.ps.length=1
      ·obtain ⟨p',ep⟩:=List.length_eq_one_iff.mp hL
       have:p'=p:=by rw [ep] at hpm;exact (mem_singleton.mp hpm).symm
       subst this
       have:=R.one p' ep hpk
       rw [hd] at this
       omega
      ·omega
     obtain ⟨n',rfl⟩:∃ n',n=n' + 1:=⟨n - 1,by omega⟩
     have pre:((r.ps.take i).map (cw kinds)).sum + cw kinds p<=(r.ps.map (cw kinds)).sum:=by
      have e:=List.take_append_drop (i + 1) r.ps
      have:(r.ps.map (cw kinds)).sum=((r.ps.take (i + 1)).map (cw kinds)).sum + ((r.ps.drop (i + 1)).map (cw kinds)).sum:=by rw [<-sum_append,<-map_append,e]
      rw [this,etk,map_append,sum_append]
      simp
     have ecw:cw kinds p=5 - kinds.idxOf p:=by unfold cw;rw [if_pos hpk]
     refine ⟨⟨_,rfl⟩,sc,kinds,words,rs,ns,a',c2,sp2,p,k,rfl,rfl,hR,hpk,.inr (by omega),by omega,by omega,b3,by omega,by omega,λt c3 sp3 a1 a2 a3 a4 a5 a6 a7 a8 a9=>?_⟩
     exact nxt t c3 sp3 a1 a3 (by omega) a5 a6 a7 a8 (by unfold cw;rw [if_pos hpk];omega)
    ·have hpk:p∉kinds:=λz=>by rw [hR.kd p z] at e;cases e
     have:=nxt (.lf (.str p)) c2 sp2 (by rw [VU,e];rfl) rfl (by simp [Tr.dp]) (by omega) (by simp [Tr.sz];omega) b3 (by omega) (by unfold cw;rw [if_neg hpk];simp [Tr.sz])
     exact this
   ·obtain ⟨kids,c2,sp2,s10,rfl,kl',ht,hsl,hdp,b1,b2,b3,b4,b5⟩:=hd'
    rw [take_length] at ht b5
    exact ⟨kids,c2,sp2,s10,rfl,kl',ht,hsl,hdp,b1,b2,b3,b4,b5⟩
  rintro _ ⟨kids,c2,sp2,s10,rfl,kl',ht,hsl,hdp,b1,b2,b3,b4,b5⟩
  walk_at "rd"
  refine ⟨by decide,?_⟩
  have szt:(Tr.nd k kids).sz=1 + Tr.szs kids:=by simp [Tr.sz]
  have hf:Wt rs kd ab (.nd k kids) = "" := by
   unfold Wt
   dsimp only
   rw [if_pos ⟨by omega,by omega⟩,show ((k:Int)).toNat=k by omega,hr]
   dsimp only
   rw [if_neg (λz=>z hd),if_neg (by rw [hst];decide),if_neg (λz=>z kl')]
  have:=hq (.nd k kids) c2 sp2 ?_ rfl ?_ ?_ (by omega) (by rw [szt];omega) b3 (by omega) ?_
  ·rw [FJ] at this
   exact this
  ·rw [Wo,hR.kd kd hkd,hf,show ((k:Int)).toNat=k by omega,hr]
   simpa using ht
  ·unfold Tr.sl;exact hsl
  ·unfold Tr.dp;omega
  ·rw [szt];omega
-- the same shape
mutual
noncomputable def Sim:Tr->Tr->Prop
 | .lf _,.lf _=>True
 | .nd k ts,.nd j us=>k=j/\UA ts us
 | _,_=>False
noncomputable def UA:List Tr->List Tr->Prop
 | [],[]=>True
 | t::ts,u::us=>Sim t u/\UA ts us
 | _,_=>False
end
theorem UA.snoc {t u:Tr}:∀ {ts us:List Tr},UA ts us->Sim t u->UA (ts++[t]) (us++[u])
 | [],[],_,h=>⟨h,trivial⟩
 | [],_::_,h,_=>h.elim
 | _::_,[],h,_=>h.elim
 | a::ts,b::us,h,k=>by
  obtain ⟨h1,h2⟩:=h
  exact ⟨h1,UA.snoc h2 k⟩
theorem UA.length:∀ {ts us:List Tr},UA ts us->us.length=ts.length
 | [],[],_=>rfl
 | [],_::_,h=>h.elim
 | _::_,[],h=>h.elim
 | a::ts,b::us,h=>by
  obtain ⟨h1,h2⟩:=h
  rw [length_cons,length_cons,UA.length h2]
theorem Ao {rs:List Ru}{p:Str}{ab k:Int}{ts us:List Tr}(h:us.length=ts.length):Wt rs p ab (.nd k us)=Wt rs p ab (.nd k ts):=by
 unfold Wt
 dsimp only
 rw [h]
mutual
theorem Sim.YG {rs:List Ru}:∀ {p:Str}{ab:Int}{t u:Tr},Sim t u->YG rs p ab u=YG rs p ab t
 | _,_,.lf _,.lf _,_=>by rw [VU,VU]
 | _,_,.lf _,.nd _ _,h=>h.elim
 | _,_,.nd _ _,.lf _,h=>h.elim
 | p,ab,.nd k ts,.nd j us,h=>by
  obtain ⟨rfl,h2⟩:=h
  rw [Wo,Wo,Ao h2.length,UA.Xl h2]
theorem UA.Xl {rs:List Ru}:∀ {ps:List Str}{k:Int}{ts us:List Tr},UA ts us->Xl rs ps k us=Xl rs ps k ts
 | [],_,ts,us,_=>by unfold My.Xl;rfl
 | p::ps,_,[],[],_=>rfl
 | p::ps,_,[],_::_,h=>h.elim
 | p::ps,_,_::_,[],h=>h.elim
 | p::ps,k,t::ts,u::us,h=>by
  obtain ⟨h1,h2⟩:=h
  rw [My.Xl,My.Xl,Sim.YG h1,UA.Xl h2]
end
mutual
theorem Sim.sz:∀ {t u:Tr},Sim t u->u.sz=t.sz
 | .lf _,.lf _,_=>by rw [Tr.sz,Tr.sz]
 | .lf _,.nd _ _,h=>h.elim
 | .nd _ _,.lf _,h=>h.elim
 | .nd k ts,.nd j us,h=>by rw [Tr.sz,Tr.sz,UA.szs h.2]
theorem UA.szs:∀ {ts us:List Tr},UA ts us->Tr.szs us=Tr.szs ts
 | [],[],_=>rfl
 | [],_::_,h=>h.elim
 | _::_,[],h=>h.elim
 | a::ts,b::us,h=>by rw [Tr.szs,Tr.szs,Sim.sz h.1,UA.szs h.2]
end
mutual
theorem Sim.dp:∀ {t u:Tr},Sim t u->u.dp=t.dp
 | .lf _,.lf _,_=>by rw [Tr.dp,Tr.dp]
 | .lf _,.nd _ _,h=>h.elim
 | .nd _ _,.lf _,h=>h.elim
 | .nd k ts,.nd j us,h=>by rw [Tr.dp,Tr.dp,UA.dps h.2]
theorem UA.dps:∀ {ts us:List Tr},UA ts us->Tr.dps us=Tr.dps ts
 | [],[],_=>rfl
 | [],_::_,h=>h.elim
 | _::_,[],h=>h.elim
 | a::ts,b::us,h=>by rw [Tr.dps,Tr.dps,Sim.dp h.1,UA.dps h.2]
end
theorem Sim.nd {t u:Tr}(h:Sim t u):u.Uz=t.Uz:=by
 cases t with
 | lf _=>cases u with
  | lf _=>rfl
  | nd _ _=>exact h.elim
 | nd _ _=>cases u with
  | lf _=>exact h.elim
  | nd _ _=>rfl
theorem Tr.Mz {ts:List Tr}{t:Tr}(h:t∈ts):t.dp<=Tr.dps ts:=by
 induction ts with
 | nil=>cases h
 | cons a ts ih =>
  rw [Tr.dps]
  rcases mem_cons.mp h with e | e
  ·rw [e];omega
  ·have:=ih e;omega
theorem Tr.yz {ts:List Tr}{t:Tr}(h:t∈ts):t.sz<=Tr.szs ts:=by
 induction ts with
 | nil=>cases h
 | cons a ts ih =>
  rw [Tr.szs]
  rcases mem_cons.mp h with e | e
  ·rw [e];omega
  ·have:=ih e;omega
theorem Tr.mE {ts:List Tr}{t:Tr}(hs:Tr.sls ts=true) (h:t∈ts):t.sl=true:=by
 induction ts with
 | nil=>cases h
 | cons a ts ih =>
  rw [Tr.sls,aF] at hs
  rcases mem_cons.mp h with e | e
  ·rw [e];exact hs.1
  ·exact ih hs.2 e
theorem Tr.mF (a b:List Tr):Tr.pls (a++b)=(Tr.pls a && Tr.pls b):=by rw [Tr.Ms,Tr.Ms,Tr.Ms,all_append]
def rd10:String:=rd9 ++ " lR dLenS lq dRevL"
local macro_rules | `(tactic| walk_at "rd") => rdM rd10
noncomputable def wu:Nat->BF
 | 0=>λ_ _ _=>False
 | n + 1=>λxs μ q=>∃ (t:Tr) (cell:Int) (a:Addr) (c:Int),xs=[t.d,.int cell,.rf a]/\μ=[(a,.lst [.int c])]/\t.Uz=true/\t.sl=true/\t.dp<=n + 1/\0<=c/\c + t.sz<=100000 /\
  ∀ u c',Sim t u->u.pl=true->c<=c'->c'<=c + t.sz->q u.d [(a,.lst [.int c'])]
theorem Ap {A:Adr}(T:Txt K mg A):∀ n,Zx P w K mg base (CXE P w) (1 + n) A.PF A.LJ Pn (spS K 2 (wu n)):=by
 intro n
 induction n with
 | zero=>exact Zx.never λvs H Q E h=>by first | (obtain ⟨_,_,_,_,_,_,_,_,_,h,_⟩:=h;exact h) | (obtain ⟨_,_,_,_,_,_,h,_⟩:=h;exact h)
 | succ n ih=>?_
 have wx:=ih
 rw [show 1 + (n + 1)=(1 + n) + 1 by omega]
 haveI:TxC K A:=⟨⟨_,T⟩⟩
 refine T.Wg.F.okS OC (λxs μ q h=>?_) (λcdv Ar outer s H E hr=>⟨_,(Za (Xb (i:=3) OC.nd rfl (Or.inl rfl) (Xz Zb))
   (Za (WN (Xc PassesOwn.leaving (Yb (Zg (jv 0) Zd)) (ZQ 4 OC.nd) (Ze (ZD [] (ZS (Yl (XI (K:=K) rfl) (by rfl) T.ZF PyProof.Rows.boot_isinstance (Zc (jv 4) (Zc (Wp (n := "str") (by rfl) T.b_str PyProof.Rows.boot_str) Zb)))) (Za (Jw [] 2 (jvS 2) Zd (Zi ZJ (Ug 2 (jvS 2) Zd) Zd))
   (Ze (WC [] 3 (Zi Zv (Zi ZJ (Zi Zv (jv 1) (Zi MS Zd Zd)) (Zi Qc (Zi Qc (Ug 2 (jvS 2) Zd) (Ug 2 (jvS 2) Zd)) Zd)) (Zg (Vw (Zc Zd (Zc (Zi MS Zd Zd) Zb))) (Zi Zv (Ug 2 (jvS 2) Zd) Zd)))))) (Ze (nS 3 2 2 (by decide) wx (hr.mono (by omega)) (by rfl) T.Wg.m T.Wg.F.kp T.Wg.a Yr (Zc (jv 4) (Zc (jv 1) (Zc (jvS 2) Zb)))))))))
   (Ze (yt [3] (ZW (Zc (Zg (jv 0) Zd) (Zc (UK Ou (by rfl) T.b_tuple PyProof.Rows.boot_tuple (Zc (jv 3) Zb)) Zb))))))),λxs μ a q ha h=>?_⟩)
 ·obtain ⟨t,cell,a',c,rfl,_⟩:=h
  rfl
 ·obtain ⟨t,cell,a',c,rfl,rfl,hnd,hsl,hdp,c0,c1,hq⟩:=h
  have ea:a'=a:=by simpa using ha
  subst ea
  have hsz:aA=16777216:=rfl
  obtain ⟨k,ts,rfl⟩:=Dx hnd
  have szt:(Tr.nd k ts).sz=1 + Tr.szs ts:=by simp [Tr.sz]
  have dpt:(Tr.nd k ts).dp=1 + Tr.dps ts:=by simp [Tr.dp]
  have slt:Tr.sls ts=true:=by unfold Tr.sl at hsl;exact hsl
  walk_at "rd"
  refine ⟨by decide,λds'=>∃ (us:List Tr) (c2:Int) (s4:L2.Slot),ds'=[.v (Tr.nd k ts).d,.v (.int cell),.st a' [(a',.lst [.int c2])],.own (us.map Tr.d),s4]/\UA ts us/\Tr.pls us=true/\c<=c2/\c2<=c + Tr.szs ts,⟨[],?_⟩,?_⟩
  ·walk_at "rd"
   refine YH (λi ds'=>∃ (us:List Tr) (c2:Int) (s4:L2.Slot),ds'=[.v (.tup [.int k,.tup (ts.map Tr.d)]),.v (.int cell),.st a' [(a',.lst [.int c2])],.own (us.map Tr.d),s4]/\UA (ts.take i) us/\Tr.pls us=true/\c<=c2/\c2<=c + Tr.szs (ts.take i)) ⟨[],c,_,rfl,trivial,rfl,by omega,by simp [Tr.szs]⟩ (λi t ds N ht hd hn=>?_) (λds hd=>?_)
   ·obtain ⟨us,c2,s4,rfl,h1,h2,h3,h4⟩:=hd
    have hm:=mem_of_getElem? ht
    have il:i < ts.length:=(List.getElem?_eq_some_iff.mp ht).1
    have etk:ts.take (i + 1)=ts.take i++[t]:=by rw [take_add_one,ht];rfl
    have ul:us.length=i:=by rw [h1.length,length_take];omega
    have tl:=Tr.RA ts
    have ssum:Tr.szs (ts.take (i + 1))<=Tr.szs ts:=by
     have e:Tr.szs ts=Tr.szs (ts.take (i + 1)) + Tr.szs (ts.drop (i + 1)):=by rw [<-Tr.YC,List.take_append_drop]
     omega
    have e1:Tr.szs (ts.take (i + 1))=Tr.szs (ts.take i) + t.sz:=by rw [etk,Tr.YC];simp [Tr.szs]
    have nxt:∀ (u:Tr) (c3:Int),Sim t u->u.pl=true->c2<=c3->c3<=c2 + t.sz->N [.v (.tup [.int k,.tup (ts.map Tr.d)]),.v (.int cell),.st a' [(a',.lst [.int c3])],.own (us.map Tr.d++[u.d]),.v t.d]:=λu c3 a1 a2 a3 a4=>by
     refine hn _ ⟨us++[u],c3,_,by rw [map_append];rfl,by rw [etk];exact h1.snoc a1,by rw [Tr.mF,h2];simp [Tr.pls,a2],by omega,by rw [e1];omega⟩
    have tsl:=Tr.mE slt hm
    cases t with
    | lf d =>
     cases d with
     | str w' =>
      walk_at "rd"
      have e1:(Tr.lf (.str w')).sz=1:=by simp [Tr.sz]
      have e30:¬ (10:Int) ^ Int.toNat 30=0:=by decide
      have cp:CPow 10 30:=⟨by decide,by decide,by decide⟩
      have nb:=mod_lt (n:=2) (c2 + 1) (by decide)
      obtain ⟨v,hv,ev⟩:=Wj D.int [10,(10:Int) ^ Int.toNat 30] (i:=(c2 + 1) % 2) nb.1 nb.2
      have hv0:¬ v=0:=by
       simp only [mem_cons,not_mem_nil,or_false] at hv
       rcases hv with e | e <;> rw [e]
       ·decide
       ·exact e30
      refine ⟨cp,e30,.l (by omega) (by omega),.r (by decide) (by decide),cp,by decide,by decide,_,ev,?_⟩
      walk_at "rd"
      refine ⟨hv0,by omega,?_⟩
      exact nxt (.lf (.int _)) (c2 + 1) trivial rfl (by omega) (by omega)
     | _=>unfold Tr.sl at tsl;cases tsl
    | nd k' ts' =>
     walk_at "rd"
     have:=Tr.Mz hm
     have:=Tr.yz hm
     have szn:(Tr.nd k' ts').sz=1 + Tr.szs ts':=by simp [Tr.sz]
     have dpn:(Tr.nd k' ts').dp=1 + Tr.dps ts':=by simp [Tr.dp]
     obtain ⟨n',rfl⟩:∃ n',n=n' + 1:=⟨n - 1,by omega⟩
     refine ⟨by omega,⟨_,rfl⟩,.nd k' ts',cell,a',c2,by rw [FJ],rfl,rfl,tsl,by omega,by omega,by omega,λu c3 a1 a2 a3 a4=>?_⟩
     have:=nxt u c3 a1 a2 a3 a4
     rw [FJ] at this
     exact this
   ·obtain ⟨us,c2,s4,rfl,h1,h2,h3,h4⟩:=hd
    rw [take_length] at h1 h4
    exact ⟨us,c2,s4,rfl,h1,h2,h3,h4⟩
  rintro _ ⟨us,c2,s4,rfl,h1,h2,h3,h4⟩
  walk_at "rd"
  refine ⟨by decide,?_⟩
  have:=hq (.nd k us) c2 ⟨rfl,h1⟩ (by unfold Tr.pl;exact h2) h3 (by rw [szt];omega)
  rw [FJ] at this
  exact this
noncomputable def DL:Nat->BF
 | 0=>λ_ _ _=>False
 | n + 1=>λxs μ q=>∃ (t:Tr) (a:Addr) (cs:List Int),xs=[t.d,.rf a]/\μ=[(a,.lst (cs.map .int))]/\t.Uz=true/\t.pl=true/\t.dp<=n + 1/\(∀ k∈t.rl,0<=k/\k < cs.length)/\q .non [(a,.lst ((Yp cs t.rl).map .int))]
theorem FM {A:Adr}(T:Txt K mg A):∀ n,Zx P w K mg base (CXE P w) (1 + n) A.Tc A.QB UT (spS K 1 (DL n)):=by
 intro n
 induction n with
 | zero=>exact Zx.never λvs H Q E h=>by first | (obtain ⟨_,_,_,_,_,_,_,_,_,h,_⟩:=h;exact h) | (obtain ⟨_,_,_,_,_,_,h,_⟩:=h;exact h)
 | succ n ih=>?_
 have DM:=ih
 rw [show 1 + (n + 1)=(1 + n) + 1 by omega]
 haveI:TxC K A:=⟨⟨_,T⟩⟩
 refine T.YY.F.okS NZ (λxs μ q h=>?_) (λcdv Ar outer s H E hr=>⟨_,(Za (Jw [] 1 (jvS 1) (Zg (jv 0) Zd) (Zi ZJ (Ug 1 (jvS 1) (Zg (jv 0) Zd)) Zd))
   (Ze (Xc PassesOwn.leaving (Yb (Zg (jv 0) Zd)) (ZQ 2 NZ.nd) (Ze (ZD [] (Yk (ZS (Yl (XI (K:=K) rfl) (by rfl) T.ZF PyProof.Rows.boot_isinstance (Zc (jv 2) (Zc (Wp (n := "int") (by rfl) T.b_int PyProof.Rows.boot_int) Zb))))) (Ze (Dj 1 1 DM (hr.mono (by omega)) (by rfl) T.YY.m T.YY.F.kp T.YY.a Yr (Zc (jv 2) (Zc (jvS 1) Zb)))) Zk))))),λxs μ a q ha h=>?_⟩)
 ·obtain ⟨t,a',cs,rfl,_⟩:=h
  rfl
 ·obtain ⟨t,a',cs,rfl,rfl,hnd,hpl,hdp,hb,hq⟩:=h
  have ea:a'=a:=by simpa using ha
  subst ea
  have hsz:aA=16777216:=rfl
  obtain ⟨k,ts,rfl⟩:=Dx hnd
  have dpt:(Tr.nd k ts).dp=1 + Tr.dps ts:=by simp [Tr.dp]
  have hpk:=Tr.Dw hpl
  have hrl:(Tr.nd k ts).rl=k::Tr.rls ts:=by simp [Tr.rl]
  rw [hrl] at hb hq
  obtain ⟨k0,k1⟩:=hb k (mem_cons_self ..)
  have hk:k.toNat < cs.length:=by omega
  have eat:atI (cs.map D.int) k=some (.int (cs.getD k.toNat 0)):=by
   unfold atI
   rw [length_map,Nk k0 k1]
   show (cs.map D.int)[k.toNat]?=_
   rw [getElem?_map,getD_eq_getElem?_getD,aC hk]
   rfl
  walk_at "rd"
  refine ⟨_,eat,?_⟩
  walk_at "rd"
  refine ⟨_,Nk k0 k1,[],?_⟩
  walk_at "rd"
  refine YH (λi ds'=>∃ s2:L2.Slot,ds'=[.v (.tup [.int k,.tup (ts.map Tr.d)]),.st a' [(a',.lst ((Yp (bump cs k) (Tr.rls (ts.take i))).map .int))],s2]) ⟨.un,?_⟩ (λi t ds N ht hd hn=>?_) (λds hd=>?_)
  ·rw [take_zero]
   show _=[_,Slot.st a' [(a',.lst ((bump cs k).map .int))],_]
   unfold bump
   rw [List.map_set]
  ·obtain ⟨s2,rfl⟩:=hd
   have hm:=mem_of_getElem? ht
   have il:i < ts.length:=(List.getElem?_eq_some_iff.mp ht).1
   have etk:ts.take (i + 1)=ts.take i++[t]:=by rw [take_add_one,ht];rfl
   have e1:Yp (bump cs k) (Tr.rls (ts.take (i + 1)))=Yp (Yp (bump cs k) (Tr.rls (ts.take i))) t.rl:=by
    rw [etk,Tr.RB]
    unfold Yp
    rw [foldl_append]
    simp [Tr.rls]
   cases t with
   | lf d =>
    obtain ⟨j,rfl⟩:=Tr.KM (hpk _ hm)
    walk_at "rd"
    refine hn _ ⟨.v (.int j),?_⟩
    rw [e1];simp [Tr.rl,Yp]
   | nd k' ts' =>
    walk_at "rd"
    have:=Tr.Mz hm
    have dpn:(Tr.nd k' ts').dp=1 + Tr.dps ts':=by simp [Tr.dp]
    obtain ⟨n',rfl⟩:∃ n',n=n' + 1:=⟨n - 1,by omega⟩
    refine ⟨⟨_,rfl⟩,.nd k' ts',a',_,by rw [FJ],rfl,rfl,hpk _ hm,by omega,λj hj=>?_,hn _ ⟨.v (.tup [.int k',.tup (ts'.map Tr.d)]),?_⟩⟩
    ·rw [VZ,Mt]
     refine hb j (mem_cons_of_mem _ ?_)
     have:Tr.rls ts=Tr.rls (ts.take (i + 1))++Tr.rls (ts.drop (i + 1)):=by rw [<-Tr.RB,List.take_append_drop]
     rw [this,etk,Tr.RB]
     refine mem_append_left _ (mem_append_right _ ?_)
     simpa [Tr.rls] using hj
    ·rw [e1]
  ·obtain ⟨s2,rfl⟩:=hd
   rw [take_length]
   exact ⟨_,_,rfl,hq⟩
noncomputable def Aq:xK:=λxs q _=>∃ (rs:List Ru) (ts:List Tr),xs=[.lst (rs.map ZP),.lst (ts.map Tr.d)]/\rs.length<=1000/\(∀ t∈ts,t.Uz=true/\t.pl=true/\t.dp<=40/\∀ k∈t.rl,0<=k/\k < rs.length)/\q ((Yp (replicate rs.length 0) (Tr.rls ts)).map .int)
theorem DN {A:Adr}(T:Txt K mg A):Zx P w K mg base (CXE P w) 42 A.Rh A.OT SR (spF K Aq):=by
 haveI:TxC K A:=⟨⟨_,T⟩⟩
 refine T.Rr.F.okF Qr (by walk_at "ln") (λcdv Ar outer s H E hr=>⟨_,(Za (yr [] (i:=2) Qr.nd rfl (Or.inl rfl) (jZ (Vw (Zc Zd Zb)) (Yl Yd (by rfl) T.b_len PySem.boot_len (Zc (jv 0) Zb))))
   (Za (Xc PassesOwn.leaving (Yb (jv 1)) (ZQ 3 Qr.nd) (Ze (Dj 1 2 (FM T 40) (hr.mono (by decide)) (by rfl) T.YY.m T.YY.F.kp T.YY.a Yr (Zc (jv 3) (Zc (jvS 2) Zb)))))
   (Ze (nV 2)))),λxs q x h=>?_⟩)
 ·obtain ⟨rs,ts,rfl,hl,ht,hq⟩:=h
  have hsz:aA=16777216:=rfl
  walk_at "rd"
  have er:(replicate ((rs.length:Int)).toNat [D.int 0]).flatten=(replicate rs.length (0:Int)).map .int:=by
   rw [show ((rs.length:Int)).toNat=rs.length by omega]
   generalize rs.length=m
   induction m with
   | zero=>rfl
   | succ m ih=>rw [replicate_succ,replicate_succ,flatten_cons,ih];rfl
  rw [er]
  refine ⟨by decide,by omega,by omega,by omega,?_,λa=>⟨[],?_⟩⟩
  ·generalize replicate rs.length (0:Int)=l
   induction l with
   | nil=>rfl
   | cons y l ih=>rw [map_cons,D.GX,ih];rfl
  walk_at "rd"
  refine YH (λi ds'=>∃ s3:L2.Slot,ds'=[.v (.lst (rs.map ZP)),.v (.lst (ts.map Tr.d)),.st a [(a,.lst ((Yp (replicate rs.length 0) (Tr.rls (ts.take i))).map .int))],s3]) ⟨.un,by rw [take_zero];rfl⟩ (λi t ds N hi hd hn=>?_) (λds hd=>?_)
  ·obtain ⟨s3,rfl⟩:=hd
   have hm:=mem_of_getElem? hi
   obtain ⟨t1,t2,t3,t4⟩:=ht t hm
   have etk:ts.take (i + 1)=ts.take i++[t]:=by rw [take_add_one,hi];rfl
   walk_at "rd"
   refine ⟨⟨_,rfl⟩,t,a,_,rfl,rfl,t1,t2,by omega,λk hk=>?_,hn _ ⟨.v t.d,?_⟩⟩
   ·rw [VZ,length_replicate]
    exact t4 k hk
   ·rw [etk,Tr.RB]
    unfold Yp
    rw [foldl_append]
    simp [Tr.rls]
  ·obtain ⟨s3,rfl⟩:=hd
   rw [take_length]
   walk_at "rd"
   exact hq
noncomputable def mG (sc:Str) (kinds words:List Str) (rs:List Ru) (st:Str) (ts:List Tr):Prop:=ts≠[]/\ts.length<=6/\∀ t∈ts,YG rs st (-1) t=true/\t.Uz=true/\t.pl=true/\t.dp<=40/\t.sz<=445
noncomputable def Jf:DSp:=λxs q _=>∃ (ns:List Int) (sc:Str) (kinds words:List Str) (rs:List Ru) (r0:Ru),xs=[.scr (ns.map .int),.lst (rs.map ZP)]/\Vt sc kinds words rs/\rs[0]?=some r0/\∀ ts,mG sc kinds words rs r0.hd ts->q (.lst (ts.map Tr.d))
theorem Kf {A:Adr}(T:Txt K mg A):Zx P w K mg base (CXE P w) 43 A.Wm A.VA Wl (spD K Jf):=by
 haveI:TxC K A:=⟨⟨_,T⟩⟩
 refine T.Wn.F.okJ Yn (by walk_at "ln") (λcdv Ar outer s H E hr=>⟨_,(Za (Xb (i:=2) Yn.nd rfl (Or.inl rfl) (Xz Zb))
   (Za (Xb (i:=3) Yn.nd rfl (Or.inl rfl) (Xz (Zc Zd Zb)))
   (Za (Xc PassesOwn.leaving (XX (by rfl) T.b_range (Zc (Zi ZJ Zd (Zi Zv (Zq (XR T) T.L_l_mix hr (Zc (Zq (Wh T) T.L_l_at hr (Zc (jv 0) (Zc Zd Zb))) (Zc Zd Zb))) Zd)) Zb)) (ZQ 4 Yn.nd) (Za (ZR 5 Yn.nd (Zi Zv (Zq (XR T) T.L_l_mix hr (Zc (Zq (Wh T) T.L_l_at hr (Zc (jv 0) (Zc (Zi ZJ Zd (jv 4)) Zb))) (Zc Zd Zb))) Zd))
   (Za (yr [3] (i:=6) Yn.nd rfl (Or.inl rfl) (Xz (Zc (Zg (jv 3) Zd) (Zc (jv 5) Zb))))
   (Za (Di (i:=7) 2 6 (An T 40) (hr.mono (by decide)) (by rfl) T.Wf.m T.Wf.F.kp T.Wf.a Yr (Zc (jv 1) (Zc (jv 0) (Zc (jvS 6) (Zc (Zg (Zg (jv 1) Zd) Zd) (Zc (Sx Zd) Zb))))) Yn.nd rfl (Or.inl rfl))
   (Za (om [] 3 Zd (Ug 6 (jvS 6) Zd))
   (Ze (WC [] 2 (rR 2 (Ap T 40) (hr.mono (by decide)) (by rfl) T.Wg.m T.Wg.F.kp T.Wg.a Yr (jn_c (jv 7) (jn_c (Zq (Wh T) T.L_l_at hr (Zc (jv 0) (Zc (Zi ZJ Zd (jv 4)) Zb))) (nT (Xz (Zc Zd Zb)))))))))))))
   (Ze (Zm [2] (jv 2)))))),λxs q x h=>?_⟩)
 ·obtain ⟨ns,sc,kinds,words,rs,r0,rfl,hR,h0,hq⟩:=h
  have hsz:aA=16777216:=rfl
  walk_at "rd"
  refine ⟨by decide,by decide,[],?_⟩
  walk_at "rd"
  have nb:=mod_lt (n:=6) (mix (atZ ns 21) 2) (by decide)
  obtain ⟨_,hb0,hk0,_⟩:=hR.base 0 hR.k1
  rw [h0] at hb0
  cases hb0
  have hkd:r0.hd∈kinds:=mem_of_getElem? hk0
  have k3:=hR.k3
  have k1:=hR.k1
  have ikd:kinds.idxOf r0.hd < kinds.length:=idxOf_lt_length_of_mem hkd
  have nk:=hR.nk
  refine ⟨by decide,by decide,by decide,by decide,by omega,by omega,Ue (λi ds'=>∃ (ts:List Tr) (c:Int) (s4 s5 s6 s7:L2.Slot),ds'=[.v (.scr (ns.map .int)),.v (.lst (rs.map ZP)),.own (ts.map Tr.d),.own [.int c],s4,s5,s6,s7]/\ts.length=i/\0<=c/\c<=1000 * i/\∀ t∈ts,YG rs r0.hd (-1) t=true/\t.Uz=true/\t.pl=true/\t.dp<=40/\t.sz<=445) ⟨[],0,_,_,_,_,rfl,rfl,by omega,by omega,λt h=>by cases h⟩ (λi ds N hi hd hn=>?_) (λds hd=>?_)⟩
  ·obtain ⟨ts,c,s4,s5,s6,s7,rfl,tl,c0,c1,hts⟩:=hd
   walk_at "rd"
   have sb:=mod_lt (n:=12) (mix (atZ ns (14 + (0 + (i:Int)))) 3) (by decide)
   generalize mix (atZ ns (14 + (0 + (i:Int)))) 3 % 12=sp at sb
   generalize atZ ns (14 + (0 + (i:Int)))=cell
   refine ⟨by omega,by decide,by decide,by decide,by decide,λa=>⟨_,RE h0,?_⟩⟩
   walk_at "rd"
   refine ⟨⟨_,rfl⟩,sc,kinds,words,rs,ns,a,c,sp,r0.hd,-1,rfl,rfl,hR,hkd,.inl rfl,c0,by omega,sb.1,by omega,by show 3 * sp + 3<=(39:Int) + 1 + _;omega,λt c' sp' a1 a2 a3 a4 a5 a6 a7 a8 a9=>?_⟩
   walk_at "rd"
   refine ⟨by omega,by decide,λa'=>⟨t,cell,a',0,rfl,rfl,a2,a3,by omega,by omega,by omega,λu c2 b1 b2 b3 b4=>?_⟩⟩
   refine ⟨by omega,hn _ ⟨ts++[u],c',_,_,_,_,by rw [map_append];rfl,by rw [length_append,tl];rfl,by omega,by omega,λv hv=>?_⟩⟩
   rcases mem_append.mp hv with h | h
   ·exact hts v h
   ·rw [mem_singleton.mp h,Sim.YG b1,Sim.nd b1,Sim.dp b1,Sim.sz b1]
    exact ⟨a1,a2,b2,by omega,by omega⟩
  ·obtain ⟨ts,c,s4,s5,s6,s7,rfl,tl,c0,c1,hts⟩:=hd
   walk_at "rd"
   exact hq ts ⟨λe=>by rw [e] at tl;simp at tl;omega,by omega,hts⟩
-- SPLIT
noncomputable def Kg:DSp:=λxs q _=>∃ a b:Int,xs=[.int a,.int b]/\q (.int (Int.gcd a b:Int))
theorem MB {A:Adr}(T:Txt K mg A):Zx P w K mg base (CXE P w) 1 A.Wb A.WU XZ (spD K Kg):=by
 haveI:TxC K A:=⟨⟨_,T⟩⟩
 refine T.Wd.F.okJ WD (by walk_at "ln") (λcdv Ar outer s H E hr=>⟨_,(Za (Qg [] PassesOwn.leaving (Zn (Qe hr.XW) (jv 1) Zd (Zr _)) (Ze (jW (i:=0) (j:=1) WD.nd rfl rfl (by decide) rfl rfl (Zc (jv 1) (Zc (Zi Zv (jv 0) (jv 1)) Zb)) (λ_ p=>kO rfl WD.nd rfl rfl (by decide) rfl rfl p rfl))))
   (Ze (Zm [] (Yl tK (by rfl) T.b_abs PyProof.Rows.boot_abs (Zc (jv 0) Zb))))),λxs q x h=>?_⟩)
 ·obtain ⟨a,b,rfl,hq⟩:=h
  walk_at "rd"
  refine ⟨λm ds=>∃ x y:Int,ds=[.v (.int x),.v (.int y)]/\Int.gcd x y=Int.gcd a b/\m=y.natAbs,⟨_,a,b,rfl,rfl,rfl⟩,?_⟩
  rintro m _ ⟨x,y,rfl,e,rfl⟩
  walk_at "rd"
  refine LZ (λhp=>?_) (λhp=>?_)
  ·rw [Ff]
   exact ⟨hp,_,zP x y hp,(EH x y).trans e,rfl⟩
  ·subst hp
   rw [Int.gcd_zero_right] at e
   have:(if x < 0 then -x else x)=(Int.gcd a b:Int):=by rw [<-e];split <;> omega
   rw [this]
   exact hq
noncomputable def Av:DSp:=λxs q _=>∃ a b:Int,xs=[.int a,.int b]/\0 < b/\Bd 9000 b/\q (wD (lowP a b) (Je a b))
theorem DQ {A:Adr}(T:Txt K mg A):Zx P w K mg base (CXE P w) 2 A.SX A.OJ SE (spD K Av):=by
 haveI:TxC K A:=⟨⟨_,T⟩⟩
 refine T.Rm.F.okJ Qk (by walk_at "ln") (λcdv Ar outer s H E hr=>⟨_,(Za (ZR 2 Qk.nd (Zq (MB T) T.Wd hr (Zc (jv 0) (Zc (jv 1) Zb))))
   (Za (ZD [] (Zn Ii (jv 1) Zd (Zr _)) (Ze (ZR 2 Qk.nd (Sx (jv 2)))) Zk)
   (Ze (Zm [] (ZW (Zc (Zi ZK (jv 0) (jv 2)) (Zc (Zi ZK (jv 1) (jv 2)) Zb))))))),λxs q x h=>?_⟩)
 ·obtain ⟨a,b,rfl,hb,hB,hq⟩:=h
  have gp:=NK (a:=a) (b:=b) (by omega)
  have gB:Bd 9000 (Int.gcd a b:Int):=hB.le (by
   have:=Int.le_of_dvd hb (Int.gcd_dvd_right a b)
   omega)
  walk_at "rd"
  refine ⟨_,_,rfl,?_⟩
  walk_at "rd"
  refine XF (λe=>by omega) (λe=>?_)
  rw [NP,NP]
  exact ⟨by omega,.inr gB,by omega,.inr gB,by decide,hq⟩
def rd11:String:=rd10 ++ " lH lI lJ rX rV zY Slot.od.injEq D.dic.injEq"
local macro_rules | `(tactic| walk_at "rd") => rdM rd11
theorem qC {cs:List Int}{k:Int}(h:∀ c∈cs,0<=c):∀ c∈bump cs k,0<=c:=λc hc=>by
 unfold bump at hc
 rcases List.mem_or_eq_of_mem_set hc with e | e
 ·exact h c e
 ·rw [e,getD_eq_getElem?_getD]
  cases q:cs[k.toNat]? with
  | none=>simp
  | some v=>have:=h v (mem_of_getElem? q);simp;omega
theorem Kh (ks:List Int) {cs:List Int}(h:∀ c∈cs,0<=c):∀ c∈Yp cs ks,0<=c:=by
 unfold Yp
 induction ks generalizing cs with
 | nil=>exact h
 | cons k ks ih=>rw [foldl_cons];exact ih (qC h)
theorem sum_set {l:List Int}{i:Nat}(h:i < l.length) (v:Int):(l.set i v).sum=l.sum - l[i] + v:=by
 induction l generalizing i with
 | nil=>simp at h
 | cons a l ih =>
  cases i with
  | zero=>simp;omega
  | succ i=>simp only [List.set_cons_succ,sum_cons,List.getElem_cons_succ];rw [ih (by simpa using h)];omega
theorem Gs (ks:List Int) {cs:List Int}(h:∀ k∈ks,0<=k/\k < cs.length):(Yp cs ks).sum=cs.sum + ks.length:=by
 unfold Yp
 induction ks generalizing cs with
 | nil=>simp
 | cons k ks ih =>
  obtain ⟨k0,k1⟩:=h k (mem_cons_self ..)
  have hk:k.toNat < cs.length:=by omega
  rw [foldl_cons,ih λj hj=>by rw [Mt];exact h j (mem_cons_of_mem _ hj)]
  unfold bump
  rw [sum_set hk,getD_eq_getElem?_getD,aC hk]
  simp
  omega
noncomputable def hsum (ps:List (Ru × Int)) (h:Str):Int:=((ps.filter λp=>decide (p.1.hd=h)).map (·.2)).sum
theorem wy (ps:List (Ru × Int)) (p:Ru × Int) (h:Str):hsum (ps++[p]) h=hsum ps h + if p.1.hd=h then p.2 else 0:=by
 unfold hsum
 rw [filter_append,map_append,sum_append]
 congr 1
 rw [filter_cons]
 by_cases e:p.1.hd=h <;> simp [e]
theorem FN {ps:List (Ru × Int)}(h:∀ p∈ps,0<=p.2) (hd:Str):0<=hsum ps hd/\hsum ps hd<=(ps.map (·.2)).sum:=by
 unfold hsum
 induction ps with
 | nil=>simp
 | cons p ps ih =>
  obtain ⟨h1,h2⟩:=ih λq hq=>h q (mem_cons_of_mem _ hq)
  have:=h p (mem_cons_self ..)
  rw [filter_cons]
  split <;> simp only [map_cons,sum_cons] <;> omega
noncomputable def hmx (ps:List (Ru × Int)) (h:Str):Int:=if 1 > hsum ps h then 1 else hsum ps h
noncomputable def RG (ps:List (Ru × Int)) (p:Ru × Int):D:=wD (lowP p.2 (hmx ps p.1.hd)) (Je p.2 (hmx ps p.1.hd))
theorem qD (kvs:List (Key × D)) (k k':Key) (d:D):UH (Sg kvs k d) k'=if k'=k then some d else UH kvs k':=by
 unfold Sg
 by_cases h:kvs.any (λkv=>decide (kv.1=k))=true
 ·rw [if_pos h]
  induction kvs with
  | nil=>simp at h
  | cons kv kvs ih =>
   obtain ⟨j,g⟩:=kv
   rw [map_cons]
   unfold UH at ih ⊢
   by_cases hj:j=k
   ·subst hj
    rw [if_pos rfl]
    by_cases e:k'=j
    ·subst e;simp
    ·rw [if_neg e,find?_cons_of_neg (by simpa using Ne.symm e),find?_cons_of_neg (by simpa using Ne.symm e)]
     by_cases h2:kvs.any (λkv=>decide (kv.1=j))=true
     ·have:=ih h2
      rw [if_neg e] at this
      exact this
     ·have:kvs.map (λkv=>if kv.1=j then (kv.1,d) else kv)=kvs:=by
       conv=>rhs;rw [<-List.map_id kvs]
       refine List.map_congr_left λx hx=>?_
       rw [if_neg (λz=>h2 (List.any_eq_true.mpr ⟨x,hx,by simpa using z⟩))]
       rfl
      rw [this]
   ·rw [if_neg hj]
    have h2:kvs.any (λkv=>decide (kv.1=k))=true:=by simpa [hj] using h
    by_cases e:k'=j
    ·subst e
     rw [if_neg hj]
     simp
    ·rw [find?_cons_of_neg (by simpa using Ne.symm e),ih h2,find?_cons_of_neg (by simpa using Ne.symm e)]
 ·rw [if_neg h]
  unfold UH
  rw [List.find?_append]
  by_cases e:k'=k
  ·subst e
   rw [if_pos rfl]
   have:kvs.find? (λkv=>decide (kv.1=k'))=none:=List.find?_eq_none.mpr λx hx z=>h (List.any_eq_true.mpr ⟨x,hx,z⟩)
   rw [this]
   simp
  ·rw [if_neg e]
   cases kvs.find? (λkv=>decide (kv.1=k')) with
   | none=>simp [Ne.symm e]
   | some v=>simp
theorem wz (kvs:List (Key × D)) (k:Key) (d:D):(Sg kvs k d).length<=kvs.length + 1:=by
 unfold Sg
 split <;> simp
noncomputable def qE (A:Adr):xK:=λxs q x=>∃ (z st:Str) (rs:List Ru) (ts:List Tr),xs=[Gr A z st rs,.lst (ts.map Tr.d)]/\st.length<=1000/\Rus rs/\(∀ t∈ts,t.pl=true/\t.sz<=1000000)/\ts.length<=1000/\Wy st=true /\
 ((ts≠[]/\∀ t∈ts,YG rs st (-1) t=true)->q ((rs.zip (Yp (replicate rs.length 0) (Tr.rls ts))).map (RG (rs.zip (Yp (replicate rs.length 0) (Tr.rls ts))))))/\(¬ (ts≠[]/\∀ t∈ts,YG rs st (-1) t=true)->x A.Zo)
theorem Gu {A:Adr}(T:Txt K mg A):Zx P w K mg base (CXE P w) 7 A.Md A.IK NW (spF K (qE A)):=by
 haveI:TxC K A:=⟨⟨_,T⟩⟩
 refine T.QH.F.okF Sh (by walk_at "ln") (λcdv Ar outer s H E hr=>⟨_,(Za (ZR 2 Sh.nd (Zq (Mv T).fz T.Vr hr (Zc (jv 0) (Zc (jv 1) Zb))))
   (Za (nL (i:=3) Sh.nd rfl (Or.inr rfl))
   (Za (Xc PassesOwn.leaving (UM (by rfl) T.b_zip (Zc (Zw (K:=K) rfl (jv 0)) (Zc (jv 2) Zb))) (Xy (n:=2) (Zu (ZQ 4 Sh.nd) (Zu (ZQ 5 Sh.nd) YN))) (Ze (nM [3] 3 (uE hr) (Zw (K:=K) rfl (jv 4)) (Zi ZJ (rY (uE hr) (jv 3) (Zw (K:=K) rfl (jv 4)) Zd) (jv 5)))))
   (Ze (nQ [3] (yg ["rule", "count"] ["heads"] [3] (UM (by rfl) T.b_zip (Zc (Zw (K:=K) rfl (jv 0)) (Zc (jv 2) Zb))) (λ_=>(Xy (n:=2) (Zu (ZQ 0 (nDk ["rule", "count"] ["heads"])) (Zu (ZQ 1 (nDk ["rule", "count"] ["heads"])) YN)))) (λ_=>Yz) (λ_=>(Zq (DQ T) T.Rm hr (Zc (jv 1) (Zc (Yl jP (by rfl) T.b_max PyProof.Rows.boot_max (Zc (nN (uE hr) (jv 2) (Zw (K:=K) rfl (jv 0))) (Zc Zd Zb))) Zb)))))))))),λxs q x h=>?_⟩)
 ·obtain ⟨z,st,rs,ts,rfl,hst,hrs,ht,hl,hk,hq,hx⟩:=h
  have hsz:aA=16777216:=rfl
  walk_at "rd"
  refine ⟨z,st,rs,ts,rfl,hst,hrs,ht,by omega,hk,λhg=>?_,hx⟩
  have hq:=hq hg
  have inb:∀ k∈Tr.rls ts,0<=k/\k < (replicate rs.length (0:Int)).length:=by
   rw [length_replicate]
   intro k hk
   have:∀ us:List Tr,(∀ t∈us,YG rs st (-1) t=true)->∀ k∈Tr.rls us,0<=k/\k < rs.length:=by
    intro us
    induction us with
    | nil=>intro _ k hk;unfold Tr.rls at hk;cases hk
    | cons t us ih =>
     intro h k hk
     unfold Tr.rls at hk
     rcases mem_append.mp hk with e | e
     ·exact PX (h t (mem_cons_self ..)) k e
     ·exact ih (λu hu=>h u (mem_cons_of_mem _ hu)) k e
   exact this ts hg.2 k hk
  have bs:=Gs (Tr.rls ts) inb
  have bp:=Kh (Tr.rls ts) (cs:=replicate rs.length 0) (λc hc=>by rw [List.eq_of_mem_replicate hc];omega)
  have bl:=VZ (Tr.rls ts) (replicate rs.length 0)
  rw [length_replicate] at bl
  have rl:(Tr.rls ts).length<=1000 * 1000000:=by
   have:∀ us:List Tr,(∀ t∈us,t.sz<=1000000)->Tr.szs us<=us.length * 1000000:=by
    intro us
    induction us with
    | nil=>intro _;simp [Tr.szs]
    | cons t us ih =>
     intro h
     have:=ih λu hu=>h u (mem_cons_of_mem _ hu)
     have:=h t (mem_cons_self ..)
     rw [Tr.szs,length_cons]
     omega
   have a:=this ts λt h=>(ht t h).2
   have b:=Tr.Jz ts
   omega
  generalize Yp (replicate rs.length 0) (Tr.rls ts)=cs at hq bs bp bl
  have s0:(replicate rs.length (0:Int)).sum=0:=by simp
  rw [s0] at bs
  have zs:(rs.zip cs).map (·.2)=cs:=by rw [List.map_snd_zip (by omega)]
  have zp:∀ p∈rs.zip cs,0<=p.2:=λp hp=>bp _ (of_mem_zip hp).2
  have zl:(rs.zip cs).length=rs.length:=by rw [length_zip];omega
  have hm:∀ h,0<=hsum (rs.zip cs) h/\hsum (rs.zip cs) h<=1000000000:=λh=>by
   obtain ⟨a,b⟩:=FN zp h
   rw [zs] at b
   exact ⟨a,by omega⟩
  have ez:NT (rs.map (Ru.d A)) (cs.map D.int)=(rs.zip cs).map λp => .tup [p.1.d A,.int p.2]:=by
   unfold NT
   rw [zip_map,map_map]
   rfl
  obtain ⟨l1,l2⟩:=hrs
  walk_at "rd"
  refine ⟨[],?_⟩
  walk_at "rd"
  refine ⟨_,rfl,_,rfl,?_⟩
  rw [ez]
  refine YH (λi ds'=>∃ (kvs:List (Key × D)) (s4 s5:L2.Slot),ds'=[.v (Gr A z st rs),.v (.lst (ts.map Tr.d)),.v (.lst (cs.map .int)),.od kvs,s4,s5]/\kvs.length<=i/\∀ h,UH kvs (.inr h)=if h∈((rs.zip cs).take i).map (·.1.hd) then some (.int (hsum ((rs.zip cs).take i) h)) else none) ⟨[],_,_,rfl,by simp,λh=>by simp [UH]⟩ (λi p ds N hp hd hn=>?_) (λds hd=>?_)
  ·obtain ⟨kvs,s4,s5,rfl,kl,hv⟩:=hd
   have il:i < rs.length:=by rw [<-zl];exact (List.getElem?_eq_some_iff.mp hp).1
   walk_at "rd"
   have ev:(UH kvs (.inr p.1.hd)).getD (.int 0) = .int (hsum ((rs.zip cs).take i) p.1.hd):=by
    rw [hv]
    split
    ·rfl
    ·rename_i e
     have:hsum ((rs.zip cs).take i) p.1.hd=0:=by
      unfold hsum
      rw [List.filter_eq_nil_iff.mpr λy hy z=>e (mem_map.mpr ⟨y,hy,of_decide_eq_true z⟩)]
      rfl
     rw [this]
     rfl
   refine ⟨.inr p.1.hd,rfl,?_⟩
   rw [ev]
   walk_at "rd"
   refine ⟨.inr p.1.hd,rfl,by omega,hn _ ⟨_,_,_,rfl,by have:=wz kvs (.inr p.1.hd) (.int (hsum ((rs.zip cs).take i) p.1.hd + p.2));omega,λh=>?_⟩⟩
   have etk:(rs.zip cs).take (i + 1)=(rs.zip cs).take i++[p]:=by rw [take_add_one,hp];rfl
   have mem:h∈((rs.zip cs).take (i + 1)).map (·.1.hd)↔h∈((rs.zip cs).take i).map (·.1.hd)\/h=p.1.hd:=by rw [etk];simp
   rw [qD,etk,wy,<-etk]
   by_cases e:h=p.1.hd
   ·rw [if_pos (by rw [e]),if_pos (mem.mpr (.inr e)),e,if_pos rfl]
   ·have e0:(if p.1.hd=h then p.2 else 0)=0:=if_neg (λz=>e z.symm)
    rw [if_neg (λz=>e (by cases z;rfl)),hv,e0,Int.add_zero]
    by_cases e2:h∈((rs.zip cs).take i).map (·.1.hd)
    ·rw [if_pos e2,if_pos (mem.mpr (.inl e2))]
    ·rw [if_neg e2,if_neg (λz=>(mem.mp z).elim e2 e)]
  ·obtain ⟨kvs,s4,s5,rfl,kl,hv⟩:=hd
   rw [take_length] at hv
   walk_at "rd"
   refine ⟨_,rfl,_,rfl,?_⟩
   rw [ez]
   refine QU (c:=λp:Ru × Int=>p.1.d A) (c':=λp:Ru × Int => .int p.2) (RG (rs.zip cs)) (by omega) (λp hp N hN=>?_) hq
   walk_at "rd"
   obtain ⟨a1,a2⟩:=hm p.1.hd
   refine ⟨.inr p.1.hd,rfl,.int (hsum (rs.zip cs) p.1.hd),by rw [hv,if_pos (mem_map.mpr ⟨p,hp,rfl⟩)],?_⟩
   walk_at "rd"
   have e:(if 1 > hsum (rs.zip cs) p.1.hd then (1:Int) else hsum (rs.zip cs) p.1.hd)=hmx (rs.zip cs) p.1.hd:=rfl
   refine ⟨p.2,hmx (rs.zip cs) p.1.hd,rfl,?_,?_,hN⟩
   ·unfold hmx;split <;> omega
   ·have hb:0 < hmx (rs.zip cs) p.1.hd/\hmx (rs.zip cs) p.1.hd < 2 ^ 64:=by unfold hmx;split <;> omega
    exact (Bd.of (by omega) hb.2).mono (by decide)
theorem Gv {R:D->D->Bool}{xs:List D}(h:∀ d∈xs,R d d=true):RJ R xs xs=true:=by
 induction xs with
 | nil=>rfl
 | cons x xs ih=>rw [RJ,h x (mem_cons_self ..),ih λd hd=>h d (mem_cons_of_mem _ hd)];rfl
theorem DR {xs:List D}(h:∀ d∈xs,D.eqb d d=true):D.Tv xs xs=true:=by
 induction xs with
 | nil=>unfold D.Tv;rfl
 | cons x xs ih=>rw [D.Tv,h x (mem_cons_self ..),ih λd hd=>h d (mem_cons_of_mem _ hd)];rfl
theorem mH (i:Int):D.eqb (.int i) (.int i)=true:=by unfold D.eqb;simp [D.toV,eqV]
theorem qF (n:Nat) (i:Int):D.PY n (.int i) (.int i)=true:=by cases n <;> rfl
theorem MC (x:Str):D.eqb (.str x) (.str x)=true:=by unfold D.eqb;simp [D.toV,eqV]
theorem QM (n:Nat) (x:Str):D.PY n (.str x) (.str x)=true:=by cases n <;> rfl
theorem Gw {c N:Int}(hN:0 < N):0 < (Int.gcd c N:Int)/\c=(Int.gcd c N:Int) * lowP c N/\N=(Int.gcd c N:Int) * Je c N:=by
 have gp:=NK (a:=c) (b:=N) (by omega)
 unfold lowP Je
 have d1:(Int.gcd c N:Int) ∣ c:=Int.gcd_dvd_left c N
 have d2:(Int.gcd c N:Int) ∣ N:=Int.gcd_dvd_right c N
 rw [Int.fdiv_eq_ediv_of_dvd d1,Int.fdiv_eq_ediv_of_dvd d2]
 exact ⟨gp,(Int.mul_ediv_cancel' d1).symm,(Int.mul_ediv_cancel' d2).symm⟩
noncomputable def DU (tis:List Str) (wa wb:Int) (r:Ru):Ru:=⟨r.ti,r.hd,r.ps,wa,wb,r.tg,r.t.map (·.filter λu=>decide (u∈tis))⟩
noncomputable def HC (A:Adr):DSp:=λxs q _=>∃ (r:Ru) (wa wb:Int) (tis:List Str),xs=[r.d A,wD wa wb,.lst (tis.map .str)]/\r.Fit/\Xk r.ti r.hd r.ps r.tg r.t=true/\KH (DU tis wa wb r).t=true/\q ((DU tis wa wb r).d A)
theorem Hc {A:Adr}(T:Txt K mg A):Zx P w K mg base (CXE P w) 7 A.Vh A.TU Vc (spD K (HC A)):=by
 haveI:TxC K A:=⟨⟨_,T⟩⟩
 refine T.Vm.F.okJ Ul (by walk_at "ln") (λcdv Ar outer s H E hr=>⟨_,(Za (ZR 3 Ul.nd UJ)
   (Za (ZD [] (Zn NQ (Zw (K:=K) rfl (jv 0)) UJ (Zr _)) (Ze (QT (i:=3) ["title"] ["titles"] [2] Ul.nd rfl (Or.inl rfl) (Yb (Zw (K:=K) rfl (jv 0))) (λ_=>(ZQ 0 (nDk ["title"] ["titles"]))) (λ_=>(Vx (Zn Uc (jv 0) (jv 1) (by with_unfolding_all rfl)))) (λ_=>(jv 0)))) Zk)
   (Ze (Zm [] (NS (dvs:=[]) (dds:=[]) T.mk_Rule (WW T) (hr.mono (by decide)) (by rfl) T.M_Rule T.Xx .nil (λ_=>rfl) Yr (Zc (Zw (K:=K) rfl (jv 0)) (Zc (Zw (K:=K) rfl (jv 0)) (Zc (Zw (K:=K) rfl (jv 0)) (Zc (jv 1) (Zc (Zw (K:=K) rfl (jv 0)) (Zc (jv 3) Zb))))))))))),λxs q x h=>?_⟩)
 ·obtain ⟨r,wa,wb,tis,rfl,hf,hok,htie,hq⟩:=h
  have hsz:aA=16777216:=rfl
  obtain ⟨m1,m2,m3,m4⟩:=hf
  have lt:=JA hok
  have ok':Xk r.ti r.hd r.ps r.tg (DU tis wa wb r).t=true:=by
   unfold Xk at hok ⊢
   rw [htie]
   simp only [aF] at hok ⊢
   exact ⟨hok.1,trivial⟩
  have mk:∀ un,lS un (DU tis wa wb r).t->VC A [.str r.ti,.str r.hd,.tup (r.ps.map .str),wD wa wb,.str r.tg,un] (λfs=>q (.obj A.C_Rule fs)) x:=λun hu=>⟨_,_,_,r.ps,_,_,_,(DU tis wa wb r).t,rfl,.inr rfl,m3,hu,m1,m2,lt,λ_=>hq,λz=>by rw [ok'] at z;cases z⟩
  walk_at "rd"
  cases ht:r.t with
  | none =>
   walk_at "rd"
   exact mk .non (by unfold DU;rw [ht];rfl)
  | some us =>
   obtain ⟨f1,f2⟩:=m4 us ht
   walk_at "rd"
   refine SA (λu=>decide (u∈tis)) .str (by omega) (λu hu N hN=>?_) (λu hu _ N hN=>?_) ?_
   ·walk_at "rd"
    exact hN
   ·walk_at "rd"
    exact hN
   refine mk _ ?_
   unfold DU
   rw [ht]
   exact ⟨.inl rfl,Nat.le_trans (length_filter_le _ _) f1,λz hz=>f2 z (mem_filter.mp hz).1⟩
theorem Gx (ks:List Int) {cs:List Int}(h:∀ k∈ks,0<=k/\k < cs.length) (i:Nat):(Yp cs ks).getD i 0=cs.getD i 0 + (ks.count (i:Int):Nat):=by
 unfold Yp
 induction ks generalizing cs with
 | nil=>simp
 | cons k ks ih =>
  obtain ⟨k0,k1⟩:=h k (mem_cons_self ..)
  rw [foldl_cons,ih λj hj=>by rw [Mt];exact h j (mem_cons_of_mem _ hj),List.count_cons]
  unfold bump
  simp only [getD_eq_getElem?_getD]
  by_cases e:k=i
  ·subst e
   rw [show ((i:Int)).toNat=i from rfl,getElem?_set_self (by omega)]
   simp
   omega
  ·rw [getElem?_set_ne (by omega)]
   have:¬ ((k == (i:Int))=true):=by simpa using e
   simp [this]
noncomputable def Tp (rs:List Ru) (cs:List Int):List (Ru × Int):=(rs.zip cs).filter λp=>decide (0 < p.2)
noncomputable def UB (rs:List Ru) (cs:List Int):List Str:=(Tp rs cs).map (·.1.ti)
noncomputable def UC (rs:List Ru) (cs:List Int) (p:Ru × Int):Ru:=DU (UB rs cs) (lowP p.2 (hmx (rs.zip cs) p.1.hd)) (Je p.2 (hmx (rs.zip cs) p.1.hd)) p.1
noncomputable def XD (rs:List Ru) (cs:List Int):List Ru:=(Tp rs cs).map (UC rs cs)
noncomputable def Cl (rs:List Ru) (ab:Int) (J:List Int):Prop:=∀ j∈J,∃ r,rs[j.toNat]?=some r/\(∀ us,r.t=some us->∃ i r',(i=ab\/i∈J)/\i ≠ -1/\rs[i.toNat]?=some r'/\r'.ti∈us)/\∀ p∈r.ps,Wy p=true->∃ i r',i∈J/\rs[i.toNat]?=some r'/\r'.hd=p
theorem Cl.app {rs:List Ru}{ab:Int}{a b:List Int}(ha:Cl rs ab a) (hb:Cl rs ab b):Cl rs ab (a++b):=λj hj=>by
 rcases mem_append.mp hj with e | e
 ·obtain ⟨r,h1,h2,h3⟩:=ha j e
  refine ⟨r,h1,λus hu=>?_,λp hp hk=>?_⟩
  ·obtain ⟨i,r',x1,x2⟩:=h2 us hu
   exact ⟨i,r',x1.imp id λz=>mem_append_left _ z,x2⟩
  ·obtain ⟨i,r',x1,x2⟩:=h3 p hp hk
   exact ⟨i,r',mem_append_left _ x1,x2⟩
 ·obtain ⟨r,h1,h2,h3⟩:=hb j e
  refine ⟨r,h1,λus hu=>?_,λp hp hk=>?_⟩
  ·obtain ⟨i,r',x1,x2⟩:=h2 us hu
   exact ⟨i,r',x1.imp id λz=>mem_append_right _ z,x2⟩
  ·obtain ⟨i,r',x1,x2⟩:=h3 p hp hk
   exact ⟨i,r',mem_append_right _ x1,x2⟩
theorem DV {rs:List Ru}{r:Ru}{ab:Int}{us:List Str}(h:stands rs r ab=true) (e:r.t=some us):ab ≠ -1/\∃ r',rs[ab.toNat]?=some r'/\r'.ti∈us:=by
 unfold stands at h
 rw [e] at h
 simp only at h
 split at h
 ·cases h
 ·rename_i z
  split at h
  ·rename_i r' hr'
   exact ⟨z,r',hr',of_decide_eq_true h⟩
  ·cases h
mutual
theorem JB {rs:List Ru}:∀ {p:Str}{ab:Int}{t:Tr},YG rs p ab t=true->Cl rs ab t.rl/\(Wy p=true->∃ i r',i∈t.rl/\rs[i.toNat]?=some r'/\r'.hd=p)
 | p,_,.lf _,h=>⟨λj hj=>(by unfold Tr.rl at hj;cases hj),λz=>by rw [VU,z] at h;cases h⟩
 | p,ab,.nd k ts,h=>by
  rw [Wo,aF,aF] at h
  obtain ⟨k0,k1,r,hr,hd,hs,hl⟩:=Sl (of_decide_eq_true h.1.2)
  have h2:=h.2
  rw [hr,Option.map_some,Option.getD_some] at h2
  obtain ⟨c1,c2⟩:=DW h2 hl
  unfold Tr.rl
  refine ⟨λj hj=>?_,λ_=>⟨k,r,mem_cons_self ..,hr,hd⟩⟩
  rcases mem_cons.mp hj with e | e
  ·subst e
   refine ⟨r,hr,λus hu=>?_,λp' hp' hk=>?_⟩
   ·obtain ⟨n1,r',x1,x2⟩:=DV hs hu
    exact ⟨ab,r',.inl rfl,n1,x1,x2⟩
   ·obtain ⟨i,r',x1,x2⟩:=c2 p' hp' hk
    exact ⟨i,r',mem_cons_of_mem _ x1,x2⟩
  ·obtain ⟨r1,h1,h3,h4⟩:=c1 j e
   refine ⟨r1,h1,λus hu=>?_,λp' hp' hk=>?_⟩
   ·obtain ⟨i,r',x1,x2⟩:=h3 us hu
    refine ⟨i,r',.inr ?_,x2⟩
    rcases x1 with z | z
    ·rw [z];exact mem_cons_self ..
    ·exact mem_cons_of_mem _ z
   ·obtain ⟨i,r',x1,x2⟩:=h4 p' hp' hk
    exact ⟨i,r',mem_cons_of_mem _ x1,x2⟩
theorem DW {rs:List Ru}:∀ {ps:List Str}{k:Int}{ts:List Tr},Xl rs ps k ts=true->ts.length=ps.length->Cl rs k (Tr.rls ts)/\∀ p∈ps,Wy p=true->∃ i r',i∈Tr.rls ts/\rs[i.toNat]?=some r'/\r'.hd=p
 | ps,_,[],_,hl=>by
  have:ps=[]:=eq_nil_of_length_eq_zero hl.symm
  subst this
  exact ⟨λj hj=>(by unfold Tr.rls at hj;cases hj),λp hp=>by cases hp⟩
 | [],_,t::ts,_,hl=>by cases hl
 | p::ps,k,t::ts,h,hl=>by
  unfold Xl at h
  rw [aF] at h
  obtain ⟨a1,a2⟩:=JB h.1
  obtain ⟨b1,b2⟩:=DW h.2 (by simpa using hl)
  unfold Tr.rls
  refine ⟨a1.app b1,λp' hp' hk=>?_⟩
  rcases mem_cons.mp hp' with e | e
  ·subst e
   obtain ⟨i,r',x1,x2⟩:=a2 hk
   exact ⟨i,r',mem_append_left _ x1,x2⟩
  ·obtain ⟨i,r',x1,x2⟩:=b2 p' e hk
   exact ⟨i,r',mem_append_right _ x1,x2⟩
end
theorem DX {rs:List Ru}{st:Str}:∀ ts:List Tr,(∀ t∈ts,YG rs st (-1) t=true)->Cl rs (-1) (Tr.rls ts)
 | [],_=>λj hj=>by unfold Tr.rls at hj;cases hj
 | t::ts,h=>by
  unfold Tr.rls
  exact (JB (h t (mem_cons_self ..))).1.app (DX ts λu hu=>h u (mem_cons_of_mem _ hu))
theorem qG {rs:List Ru}{ks:List Int}(hk:∀ k∈ks,0<=k/\k < rs.length) (p:Ru × Int):p∈Tp rs (Yp (replicate rs.length 0) ks)->∃ k∈ks,rs[k.toNat]?=some p.1:=λh=>by
 obtain ⟨h1,h2⟩:=mem_filter.mp h
 obtain ⟨i,hi⟩:=List.mem_iff_getElem?.mp h1
 obtain ⟨a1,a2⟩:=List.getElem?_zip_eq_some.mp hi
 have g:=Gx ks (cs:=replicate rs.length 0) (by rw [length_replicate];exact hk) i
 rw [getD_eq_getElem?_getD,a2,Option.getD_some] at g
 have z:(replicate rs.length (0:Int)).getD i 0=0:=by
  rw [getD_eq_getElem?_getD,getElem?_replicate]
  split <;> rfl
 rw [z] at g
 have h2:=of_decide_eq_true h2
 have cp:0 < ks.count (i:Int):=by omega
 exact ⟨i,List.count_pos_iff.mp cp,a1⟩
theorem mI {rs:List Ru}{ks:List Int}(hk:∀ k∈ks,0<=k/\k < rs.length) {k:Int}{r:Ru}(h:k∈ks) (hr:rs[k.toNat]?=some r):∃ c,(r,c)∈Tp rs (Yp (replicate rs.length 0) ks):=by
 obtain ⟨k0,k1⟩:=hk k h
 have bl:=VZ ks (replicate rs.length 0)
 rw [length_replicate] at bl
 have g:=Gx ks (cs:=replicate rs.length 0) (by rw [length_replicate];exact hk) k.toNat
 obtain ⟨c,hc⟩:∃ c,(Yp (replicate rs.length 0) ks)[k.toNat]?=some c:=⟨_,aC (by omega)⟩
 have z:(replicate rs.length (0:Int)).getD k.toNat 0=0:=by
  rw [getD_eq_getElem?_getD,getElem?_replicate]
  split <;> rfl
 rw [z,getD_eq_getElem?_getD,hc,Option.getD_some] at g
 have cp:0 < ks.count ((k.toNat:Nat):Int):=List.count_pos_iff.mpr (by rw [Int.toNat_of_nonneg k0];exact h)
 exact ⟨c,mem_filter.mpr ⟨List.mem_iff_getElem?.mpr ⟨k.toNat,List.getElem?_zip_eq_some.mpr ⟨hr,hc⟩⟩,decide_eq_true (by show 0 < c;omega)⟩⟩
theorem FO (ps:List (Ru × Int)) (h:Str):0 < hmx ps h:=by unfold hmx;split <;> omega
theorem yA {α β:Type}:∀ (xs:List α) (ys:List β),((xs.zip ys).map (·.1)).Sublist xs
 | [],_=>by simp
 | x::xs,[]=>by simp
 | x::xs,y::ys=>(yA xs ys).cons₂ x
theorem UD (rs:List Ru) (cs:List Int):((Tp rs cs).map (·.1)).Sublist rs:=by
 unfold Tp
 exact (List.filter_sublist.map _).trans (yA rs cs)
theorem DY (rs:List Ru) (cs:List Int):(XD rs cs).map (·.ti)=UB rs cs:=by
 unfold XD UB
 rw [map_map]
 rfl
theorem Vu {rs:List Ru}{cs:List Int}{r:Ru}(h:r∈XD rs cs):∃ p∈Tp rs cs,r=UC rs cs p/\p.1∈rs:=by
 obtain ⟨p,hp,rfl⟩:=mem_map.mp h
 exact ⟨p,hp,rfl,(UD rs cs).subset (mem_map.mpr ⟨p,hp,rfl⟩)⟩
theorem wA {sc:Str}{kinds words:List Str}{rs:List Ru}{st:Str}{ts:List Tr}(h:Vt sc kinds words rs) (hg:Good sc st rs) (hn:ts≠[]) (hk:Wy st=true) (ht:∀ t∈ts,YG rs st (-1) t=true) (inb:∀ k∈Tr.rls ts,0<=k/\k < rs.length) :
  (∀ r∈XD rs (Yp (replicate rs.length 0) (Tr.rls ts)),KH r.t=true)/\Good "chance" st (XD rs (Yp (replicate rs.length 0) (Tr.rls ts))):=by
 have cl:=DX ts ht
 have km:=qG inb
 have ki:=λ{k r}=>mI inb (k:=k) (r:=r)
 generalize hcs:Yp (replicate rs.length 0) (Tr.rls ts)=cs at km ki ⊢
 obtain ⟨⟨l1,l2⟩,g2,g3,g4,g5,g6⟩:=hg
 have tie:∀ p∈Tp rs cs,KH (UC rs cs p).t=true:=λp hp=>by
  have pm:=(UD rs cs).subset (mem_map.mpr ⟨p,hp,rfl⟩)
  obtain ⟨k,hk1,hk2⟩:=km p hp
  obtain ⟨r,e1,e2,_⟩:=cl k hk1
  rw [hk2] at e1
  cases e1
  show KH (p.1.t.map _)=true
  cases e:p.1.t with
  | none=>rfl
  | some us =>
   obtain ⟨i,r',x1,x2,x3,x4⟩:=e2 us e
   have x1:i∈Tr.rls ts:=x1.resolve_left x2
   obtain ⟨c,hc⟩:=ki x1 x3
   have ok:=g2 _ pm
   unfold Xk at ok
   rw [e] at ok
   simp only [aF] at ok
   have ok:XS us=true:=ok.2
   show XS (us.filter λu=>decide (u∈UB rs cs))=true
   unfold XS at ok ⊢
   rw [aF] at ok ⊢
   have mm:r'.ti∈us.filter λu=>decide (u∈UB rs cs):=mem_filter.mpr ⟨x4,decide_eq_true (mem_map.mpr ⟨_,hc,rfl⟩)⟩
   refine ⟨decide_eq_true (List.length_pos_of_mem mm),all_eq_true.mpr λu hu=>all_eq_true.mp ok.2 u (mem_filter.mp hu).1⟩
 have nd:=h.ti
 obtain ⟨titles,ht1,ht2⟩:=nd
 have nd:(rs.map (·.ti)).Nodup:=by rw [ht2];exact ht1.2.2.sublist (List.take_sublist ..)
 have len:=(UD rs cs).length_le
 rw [length_map] at len
 have h9:=h.len
 refine ⟨λr hr=>by obtain ⟨p,hp,rfl,_⟩:=Vu hr;exact tie p hp,⟨by unfold XD;rw [length_map];omega,λr hr=>?_⟩,λr hr=>?_,?_,?_,?_,?_⟩
 ·obtain ⟨p,hp,rfl,pm⟩:=Vu hr
  obtain ⟨m1,m2,m3,m4⟩:=l2 _ pm
  refine ⟨m1,m2,m3,λus e=>?_⟩
  have e:p.1.t.map _=some us:=e
  obtain ⟨us',e1,e2⟩:=Option.map_eq_some_iff.mp e
  obtain ⟨f1,f2⟩:=m4 us' e1
  subst e2
  exact ⟨Nat.le_trans (length_filter_le _ _) f1,λz hz=>f2 z (mem_filter.mp hz).1⟩
 ·obtain ⟨p,hp,rfl,pm⟩:=Vu hr
  have ok:=g2 _ pm
  unfold Xk at ok ⊢
  rw [tie p hp]
  simp only [aF] at ok ⊢
  exact ⟨ok.1,trivial⟩
 ·refine qy _ [] (λr hr=>?_) ?_ (λr _=>by simp)
  ·obtain ⟨p,hp,rfl,pm⟩:=Vu hr
   have c0:=of_decide_eq_true (mem_filter.mp hp).2
   obtain ⟨a1,a2,a3⟩:=Gw (c:=p.2) (FO (rs.zip cs) p.1.hd)
   have:0 < (UC rs cs p).wa:=Int.pos_of_mul_pos_right (by show 0 < _ * lowP p.2 (hmx (rs.zip cs) p.1.hd);rw [<-a2];exact c0) a1
   unfold okW
   rw [decide_eq_true this]
   simp
  ·rw [DY]
   unfold UB
   refine nd.sublist ?_
   have:=(UD rs cs).map (·.ti)
   rw [map_map] at this
   exact this
 ·unfold ctu
  rw [all_eq_true]
  intro r hr
  obtain ⟨p,hp,rfl,pm⟩:=Vu hr
  rw [DY]
  unfold Ry
  cases e:(UC rs cs p).t with
  | none=>rfl
  | some us =>
   have e:p.1.t.map _=some us:=e
   obtain ⟨us',e1,e2⟩:=Option.map_eq_some_iff.mp e
   subst e2
   simp only [all_eq_true]
   exact λu hu=>(mem_filter.mp hu).2
 ·have hd:∀ {i:Int}{r':Ru},i∈Tr.rls ts->rs[i.toNat]?=some r'->r'.hd∈(XD rs cs).map (·.hd):=λ{i r'} x1 x2=>by
   obtain ⟨c,hc⟩:=ki x1 x2
   exact mem_map.mpr ⟨_,mem_map.mpr ⟨_,hc,rfl⟩,rfl⟩
  unfold ck
  rw [aF,all_eq_true]
  constructor
  ·cases ts with
   | nil=>exact absurd rfl hn
   | cons t ts =>
    obtain ⟨i,r',x1,x2,x3⟩:=(JB (ht t (mem_cons_self ..))).2 hk
    rw [<-x3]
    exact decide_eq_true (hd (by unfold Tr.rls;exact mem_append_left _ x1) x2)
  ·intro r hr
   obtain ⟨p,hp,rfl,pm⟩:=Vu hr
   obtain ⟨k,hk1,hk2⟩:=km p hp
   obtain ⟨r,e1,_,e3⟩:=cl k hk1
   rw [hk2] at e1
   cases e1
   unfold Kb
   rw [all_eq_true]
   intro z hz
   obtain ⟨z1,z2⟩:=mem_filter.mp hz
   obtain ⟨i,r',x1,x2,x3⟩:=e3 z z1 z2
   rw [<-x3]
   exact decide_eq_true (hd x1 x2)
 ·have wn:waitOf (XD rs cs)≠[]:=λz=>by
   cases ts with
   | nil=>exact absurd rfl hn
   | cons t ts =>
    obtain ⟨i,r',x1,x2,x3⟩:=(JB (ht t (mem_cons_self ..))).2 hk
    obtain ⟨c,hc⟩:=ki (show i∈Tr.rls (t::ts) by unfold Tr.rls;exact mem_append_left _ x1) x2
    have:r'.hd∈waitOf (XD rs cs):=(Mx _ _).mpr (mem_map.mpr ⟨_,mem_map.mpr ⟨_,hc,rfl⟩,rfl⟩)
    rw [z] at this
    cases this
  have up:∀ s∈Xr (XD rs cs),s.2∈waitOf (XD rs cs)->kinds.idxOf s.1 < kinds.idxOf s.2:=λs hs hw=>by
   unfold Xr at hs
   obtain ⟨r,hr,rfl⟩:=mem_map.mp hs
   obtain ⟨hr,hl⟩:=mem_filter.mp hr
   obtain ⟨q,ep⟩:=List.length_eq_one_iff.mp (of_decide_eq_true hl)
   obtain ⟨p,hp,rfl,pm⟩:=Vu hr
   have R:=h.row p.1 pm
   have e:(UC rs cs p).ps.getD 0 "" = q:=by rw [ep];rfl
   simp only [e] at hw ⊢
   refine R.one q ep ?_
   obtain ⟨r2,hr2,e2⟩:=mem_map.mp ((Mx _ _).mp hw)
   obtain ⟨p2,hp2,rfl,pm2⟩:=Vu hr2
   rw [<-e2]
   exact (h.row p2.1 pm2).hd
  obtain ⟨res,h1,h2⟩:=Hio.all (steps:=Xr (XD rs cs)) (λz=>kinds.idxOf z) _ (waitOf (XD rs cs)) (waitOf (XD rs cs)) [] (Nat.le_refl _) up wn
  exact ⟨res,h1,by rw [h2];simp⟩
theorem eq_01 (a b:Int):RJ (D.PY 80) [.int a,.int b] [.int 0,.int 1]=true/\D.Tv [.int a,.int b] [.int 0,.int 1]=(decide (a=0) && decide (b=1)):=by
 refine ⟨rfl,?_⟩
 have e1:D.Tv [D.int a,D.int b] [D.int 0,D.int 1]=((a == 0) && ((b == 1) && true)):=by with_unfolding_all rfl
 rw [e1,Bool.and_true]
 rfl
noncomputable def qH (A:Adr):DSp:=λxs q x=>∃ (z st:Str) (kinds words:List Str) (rs:List Ru) (ts:List Tr),xs=[Gr A z st rs,.lst (ts.map Tr.d)]/\Vt z kinds words rs/\Good z st rs/\Wy st=true/\(∀ t∈ts,t.pl=true/\t.sz<=1000000)/\ts.length<=1000 /\
 ((ts≠[]/\∀ t∈ts,YG rs st (-1) t=true)->q (Gr A "chance" st (XD rs (Yp (replicate rs.length 0) (Tr.rls ts)))))/\(¬ (ts≠[]/\∀ t∈ts,YG rs st (-1) t=true)->x A.Zo)
theorem Gy {A:Adr}(T:Txt K mg A):Zx P w K mg base (CXE P w) 8 A.Mf A.IL NY (spD K (qH A)):=by
 haveI:TxC K A:=⟨⟨_,T⟩⟩
 refine T.QI.F.okJ Pb (by walk_at "ln") (λcdv Ar outer s H E hr=>⟨_,(Za (ZR 2 Pb.nd (Zq (Gu T).fz T.QH hr (Zc (jv 0) (Zc (jv 1) Zb))))
   (Za (QT (i:=3) ["rule", "weight"] [] [] Pb.nd rfl (Or.inl rfl) (UM (by rfl) T.b_zip (Zc (Zw (K:=K) rfl (jv 0)) (Zc (jv 2) Zb))) (λ_=>(Xy (n:=2) (Zu (ZQ 0 (nDk ["rule", "weight"] [])) (Zu (ZQ 1 (nDk ["rule", "weight"] [])) YN)))) (λ_=>(Vx (Zn (Qe hr.XW) (jv 1) (ZW (Zc Zd (Zc Zd Zb))) (Zr _)))) (λ_=>(ZW (Zc (jv 0) (Zc (jv 1) Zb)))))
   (Za (ZR 4 Pb.nd (Ye ["rule", "weight"] [] [] (Yb (jv 3)) (λ_=>(Xy (n:=2) (Zu (ZQ 0 (nDk ["rule", "weight"] [])) (Zu (ZQ 1 (nDk ["rule", "weight"] [])) YN)))) (λ_=>Yz) (λ_=>(Zw (K:=K) rfl (jv 0)))))
   (Ze (Zm [] (NS (dvs:=[]) (dds:=[]) T.Rk (VE T) (hr.mono (by decide)) (by rfl) T.LN T.YL .nil (λ_=>rfl) Yr (Zc Yt (Zc (Zw (K:=K) rfl (jv 0)) (Zc (Ye ["rule", "weight"] ["titles"] [4] (Yb (jv 3)) (λ_=>(Xy (n:=2) (Zu (ZQ 0 (nDk ["rule", "weight"] ["titles"])) (Zu (ZQ 1 (nDk ["rule", "weight"] ["titles"])) YN)))) (λ_=>Yz) (λ_=>(Zq (Hc T) T.Vm hr (Zc (jv 0) (Zc (jv 1) (Zc (jv 2) Zb)))))) Zb))))))))),λxs q x h=>?_⟩)
 ·obtain ⟨z,st,kinds,words,rs,ts,rfl,hR,hG,hk,ht,hl,hq,hx⟩:=h
  have hsz:aA=16777216:=rfl
  have r9:=hR.len
  walk_at "rd"
  refine ⟨z,st,rs,ts,rfl,RC (Ha hk),hG.fit,ht,hl,hk,λhg=>?_,hx⟩
  have inb:∀ us:List Tr,(∀ t∈us,YG rs st (-1) t=true)->∀ k∈Tr.rls us,0<=k/\k < rs.length:=by
   intro us
   induction us with
   | nil=>intro _ k hk;unfold Tr.rls at hk;cases hk
   | cons t us ih =>
    intro h k hk
    unfold Tr.rls at hk
    rcases mem_append.mp hk with e | e
    ·exact PX (h t (mem_cons_self ..)) k e
    ·exact ih (λu hu=>h u (mem_cons_of_mem _ hu)) k e
  have hq:=hq hg
  obtain ⟨kt,kg⟩:=wA hR hG hg.1 hk hg.2 (inb ts hg.2)
  have bp:=Kh (Tr.rls ts) (cs:=replicate rs.length 0) (λc hc=>by rw [List.eq_of_mem_replicate hc];omega)
  generalize Yp (replicate rs.length 0) (Tr.rls ts)=cs at hq kt kg bp
  walk_at "rd"
  refine ⟨_,rfl,_,rfl,?_⟩
  have ez:∀ (xs:List Ru) (ys:List Int),NT (xs.map (Ru.d A)) ((xs.zip ys).map (RG (rs.zip cs)))=(xs.zip ys).map λp => .tup [p.1.d A,RG (rs.zip cs) p]:=by
   intro xs
   induction xs with
   | nil=>intro ys;rfl
   | cons x xs ih =>
    intro ys
    cases ys with
    | nil=>rfl
    | cons y ys=>exact congrArg (_ :: ·) (ih ys)
  rw [ez]
  have zl:(rs.zip cs).length<=rs.length:=by rw [length_zip];omega
  refine Sf (c:=λp:Ru × Int=>p.1.d A) (c':=λp:Ru × Int=>RG (rs.zip cs) p) (λp=>decide (0 < p.2)) (λp => .tup [p.1.d A,RG (rs.zip cs) p]) (by omega) (λp hp N hN=>?_) (λp hp _ N hN=>?_) ?_
  ·unfold RG wD
   walk_at "rd"
   obtain ⟨x1,x2⟩:=eq_01 (lowP p.2 (hmx (rs.zip cs) p.1.hd)) (Je p.2 (hmx (rs.zip cs) p.1.hd))
   refine ⟨by decide,x1,?_⟩
   rw [x2]
   have c0:=bp p.2 (of_mem_zip hp).2
   obtain ⟨a1,a2,a3⟩:=Gw (c:=p.2) (FO (rs.zip cs) p.1.hd)
   have:(!(decide (lowP p.2 (hmx (rs.zip cs) p.1.hd)=0) && decide (Je p.2 (hmx (rs.zip cs) p.1.hd)=1)))=decide (0 < p.2):=by
    by_cases e:p.2=0
    ·have hp:=FO (rs.zip cs) p.1.hd
     rw [e,Int.gcd_zero_left] at a2 a3 a1
     rw [e]
     generalize hmx (rs.zip cs) p.1.hd=M at a1 a2 a3 hp
     have eM:(M.natAbs:Int)=M:=by omega
     rw [eM] at a2 a3
     have q1:lowP 0 M=0:=by
      rcases Int.mul_eq_zero.mp a2.symm with z | z
      ·omega
      ·exact z
     have q2:Je 0 M=1:=Int.eq_of_mul_eq_mul_left (a:=M) (by omega) (by rw [<-a3];omega)
     rw [q1,q2]
     rfl
    ·rw [decide_eq_true (show 0 < p.2 by omega),decide_eq_false (λz=>e (by rw [a2,z,Int.mul_zero]))]
     rfl
   rw [this]
   exact hN
  ·walk_at "rd"
   exact ⟨by decide,hN⟩
  have km:∀ p∈Tp rs cs,p.1∈rs:=λp hp=>(UD rs cs).subset (mem_map.mpr ⟨p,hp,rfl⟩)
  have kl:(Tp rs cs).length<=rs.length:=by have:=(UD rs cs).length_le;rw [length_map] at this;exact this
  rw [show (rs.zip cs).filter (λp=>decide (0 < p.2))=Tp rs cs from rfl]
  refine QU (c:=λp:Ru × Int=>p.1.d A) (c':=λp:Ru × Int=>RG (rs.zip cs) p) (λp => .str p.1.ti) (by omega) (λp hp N hN=>?_) ?_
  ·walk_at "rd"
   exact hN
  have et:(Tp rs cs).map (λp=>D.str p.1.ti)=(UB rs cs).map .str:=by unfold UB;rw [map_map];rfl
  rw [et]
  refine QU (c:=λp:Ru × Int=>p.1.d A) (c':=λp:Ru × Int=>RG (rs.zip cs) p) (λp=>(UC rs cs p).d A) (by omega) (λp hp N hN=>?_) ?_
  ·walk_at "rd"
   exact ⟨p.1,_,_,UB rs cs,rfl,hG.fit.2 _ (km p hp),hG.ok _ (km p hp),kt _ (mem_map.mpr ⟨p,hp,rfl⟩),hN⟩
  have er:(Tp rs cs).map (λp=>(UC rs cs p).d A)=(XD rs cs).map (Ru.d A):=by unfold XD;rw [map_map];rfl
  rw [er]
  exact kg.made (.inr rfl) hq
noncomputable def qI:DSp:=λxs q _=>∃ (rs:List Ru) (cs:List Int),xs=[.lst (rs.map ZP),.lst (cs.map .int)]/\rs.length<=9/\(∀ c∈cs,0<=c)/\(∀ h,hsum (rs.zip cs) h<=1000000)/\(∀ r∈rs,∀ us,r.t=some us->us.length<=1000)/\q (.lst ((XD rs cs).map ZP))
theorem qJ {ps:List (Ru × Int)}(h:∀ p∈ps,0<=p.2) {p:Ru × Int}(hp:p∈ps):p.2<=hsum ps p.1.hd:=by
 induction ps with
 | nil=>cases hp
 | cons a ps ih =>
  obtain ⟨h1,_⟩:=FN (λq hq=>h q (mem_cons_of_mem _ hq)) p.1.hd
  have e:hsum (a::ps) p.1.hd=hsum ps p.1.hd + if a.1.hd=p.1.hd then a.2 else 0:=by
   unfold hsum
   rw [filter_cons]
   by_cases e:a.1.hd=p.1.hd
   ·rw [if_pos (decide_eq_true e),if_pos e,map_cons,sum_cons];omega
   ·rw [if_neg (by simpa using e),if_neg e];omega
  rw [e]
  rcases mem_cons.mp hp with z | z
  ·subst z
   rw [if_pos rfl]
   omega
  ·have:=ih (λq hq=>h q (mem_cons_of_mem _ hq)) z
   have:=h a (mem_cons_self ..)
   split <;> omega
theorem wC {A:Adr}(T:Txt K mg A):Zx P w K mg base (CXE P w) 2 A.Mg A.IM Ma (spD K qI):=by
 haveI:TxC K A:=⟨⟨_,T⟩⟩
 refine T.Mo.F.okJ Ww (by walk_at "ln") (λcdv Ar outer s H E hr=>⟨_,(Za (ZR 2 Ww.nd (Ye ["_law_row", "_law_count"] [] [] (UM (by rfl) T.b_zip (Zc (jv 0) (Zc (jv 1) Zb))) (λ_=>(Xy (n:=2) (Zu (ZQ 0 (nDk ["_law_row", "_law_count"] [])) (Zu (ZQ 1 (nDk ["_law_row", "_law_count"] [])) YN)))) (λ_=>(Vx (Zn Kz (jv 1) Zd (Zr _)))) (λ_=>(Zg (jv 0) Zd))))
   (Za (Xb (i:=3) Ww.nd rfl (Or.inl rfl) (Xz Zb))
   (Za (Xc PassesOwn.leaving (UM (by rfl) T.b_zip (Zc (jv 0) (Zc (jv 1) Zb))) (Xy (n:=2) (Zu (ZQ 4 Ww.nd) (Zu (ZQ 5 Ww.nd) YN))) (Ze (ZD [] (Zn Kz (jv 5) Zd (Zr _)) (Za (ZR 6 Ww.nd (Yl iU (by rfl) T.b_sum PyProof.Rows.boot_sum (Zc (Ye ["_law_one", "_law_other"] ["_law_row"] [4] (UM (by rfl) T.b_zip (Zc (jv 0) (Zc (jv 1) Zb))) (λ_=>(Xy (n:=2) (Zu (ZQ 0 (nDk ["_law_one", "_law_other"] ["_law_row"])) (Zu (ZQ 1 (nDk ["_law_one", "_law_other"] ["_law_row"])) YN)))) (λ_=>(Vx (Zn (XH hr.XW) (Zg (jv 0) Zd) (Zg (jv 2) Zd) (Zr _)))) (λ_=>(jv 1))) Zb)))
   (Za (ZR 7 Ww.nd (Zg (jv 4) Zd))
   (Za (WN (ZD [] (Zn NQ (jv 7) UJ (Zr _)) (Ze (ZR 7 Ww.nd (UK Ou (by rfl) T.b_tuple PyProof.Rows.boot_tuple (Zc (Ye ["_law_title"] ["_law_titles_here"] [2] (Yb (jv 7)) (λ_=>(ZQ 0 (nDk ["_law_title"] ["_law_titles_here"]))) (λ_=>(Vx (Zn Uc (jv 0) (jv 1) (by with_unfolding_all rfl)))) (λ_=>(jv 0))) Zb)))) Zk))
   (Ze (WC [] 3 (ZW (Zc (Zg (jv 4) Zd) (Zc (Zg (jv 4) Zd) (Zc (Zg (jv 4) Zd) (Zc (Zq (KJ T) T.Ut hr (Zc (jv 5) (Zc (jv 6) Zb))) (Zc (Zg (jv 4) Zd) (Zc (jv 7) Zb)))))))))))) Zk)))
   (Ze (Zm [3] (jv 3)))))),λxs q x h=>?_⟩)
 ·obtain ⟨rs,cs,rfl,r9,hc,hm,hf,hq⟩:=h
  have hsz:aA=16777216:=rfl
  have ez:NT (rs.map ZP) (cs.map D.int)=(rs.zip cs).map λp => .tup [ZP p.1,.int p.2]:=by
   unfold NT
   rw [zip_map,map_map]
   rfl
  have zl:(rs.zip cs).length<=rs.length:=by rw [length_zip];omega
  have zp:∀ p∈rs.zip cs,0<=p.2:=λp hp=>hc _ (of_mem_zip hp).2
  walk_at "rd"
  refine ⟨_,rfl,_,rfl,?_⟩
  rw [ez]
  refine Sf (c:=λp:Ru × Int=>ZP p.1) (c':=λp:Ru × Int => .int p.2) (λp=>decide (0 < p.2)) (λp => .str p.1.ti) (by omega) (λp hp N hN=>?_) (λp hp _ N hN=>?_) ?_
  ·walk_at "rd"
   exact hN
  ·walk_at "rd"
   exact hN
  have et:((rs.zip cs).filter λp=>decide (0 < p.2)).map (λp=>D.str p.1.ti)=(UB rs cs).map .str:=by unfold UB Tp;rw [map_map];rfl
  rw [et]
  refine ⟨by decide,[],?_⟩
  walk_at "rd"
  refine ⟨_,rfl,_,rfl,?_⟩
  rw [ez]
  refine YH (λi ds'=>∃ s4 s5 s6 s7:L2.Slot,ds'=[.v (.lst (rs.map ZP)),.v (.lst (cs.map D.int)),.v (.lst ((UB rs cs).map .str)),.own ((((rs.zip cs).take i).filter λp=>decide (0 < p.2)).map λp=>ZP (UC rs cs p)),s4,s5,s6,s7]) ⟨_,_,_,_,rfl⟩ (λi p ds N hi hd hn=>?_) (λds hd=>?_)
  ·obtain ⟨s4,s5,s6,s7,rfl⟩:=hd
   have hp:=mem_of_getElem? hi
   have etk:(rs.zip cs).take (i + 1)=(rs.zip cs).take i++[p]:=by rw [take_add_one,hi];rfl
   walk_at "rd"
   refine XF (λe=>?_) (λe=>hn _ ⟨.v (ZP p.1),.v (.int p.2),s6,s7,by rw [etk,filter_append,List.filter_cons_of_neg (by simpa using e)];simp⟩)
   refine ⟨_,rfl,_,rfl,?_⟩
   rw [ez]
   refine Sf (c:=λp:Ru × Int=>ZP p.1) (c':=λp:Ru × Int => .int p.2) (λo=>decide (o.1.hd=p.1.hd)) (λo => .int o.2) (by omega) (λo ho N hN=>?_) (λo ho _ N hN=>?_) ?_
   ·walk_at "rd"
    exact hN
   ·walk_at "rd"
    exact hN
   have es:((rs.zip cs).filter λo=>decide (o.1.hd=p.1.hd)).map (λo=>D.int o.2)=(((rs.zip cs).filter λo=>decide (o.1.hd=p.1.hd)).map (·.2)).map .int:=by rw [map_map];rfl
   rw [es]
   walk_at "rd"
   rw [show ((((rs.zip cs).filter λo=>decide (o.1.hd=p.1.hd)).map (·.2)).sum)=hsum (rs.zip cs) p.1.hd from rfl]
   have g1:=qJ zp hp
   have g2:=hm p.1.hd
   have gm:hmx (rs.zip cs) p.1.hd=hsum (rs.zip cs) p.1.hd:=by unfold hmx;rw [if_neg (by omega)]
   have fl:(((rs.zip cs).take i).filter λp=>decide (0 < p.2)).length<=9:=by
    have a:=length_filter_le (λp:Ru × Int=>decide (0 < p.2)) ((rs.zip cs).take i)
    rw [length_take] at a
    omega
   refine ⟨λds'=>ds'=[.v (.lst (rs.map ZP)),.v (.lst (cs.map D.int)),.v (.lst ((UB rs cs).map .str)),.own ((((rs.zip cs).take i).filter λp=>decide (0 < p.2)).map λp=>ZP (UC rs cs p)),.v (ZP p.1),.v (.int p.2),.v (.int (hsum (rs.zip cs) p.1.hd)),.v (RT (UC rs cs p).t)],?_,?_⟩
   ·walk_at "rd"
    rw [show (UC rs cs p).t=p.1.t.map (·.filter λu=>decide (u∈UB rs cs)) from rfl]
    cases e1:p.1.t with
    | none =>
     walk_at "rd"
     rfl
    | some us =>
     walk_at "rd"
     refine SA (λu=>decide (u∈UB rs cs)) .str (by have:=hf p.1 (of_mem_zip hp).1 us e1;omega) (λu hu N hN=>?_) (λu hu _ N hN=>?_) ?_
     ·walk_at "rd"
      exact hN
     ·walk_at "rd"
      exact hN
     rfl
   rintro _ rfl
   walk_at "rd"
   refine ⟨_,_,rfl,by omega,(Bd.of (n:=64) (by omega) (by omega)).mono (by decide),?_⟩
   walk_at "rd"
   refine ⟨by decide,by omega,hn _ ⟨.v (ZP p.1),.v (.int p.2),.v (.int (hsum (rs.zip cs) p.1.hd)),.v (RT (UC rs cs p).t),?_⟩⟩
   rw [etk,filter_append,List.filter_cons_of_pos (by simpa using e),map_append]
   have ek:D.tup [.str p.1.ti,.str p.1.hd,.tup (p.1.ps.map .str),wD (lowP p.2 (hsum (rs.zip cs) p.1.hd)) (Je p.2 (hsum (rs.zip cs) p.1.hd)),.str p.1.tg,RT (UC rs cs p).t]=ZP (UC rs cs p):=by
    rw [<-gm]
    rfl
   exact congrArg (λz=>[_,_,_,Slot.own (_++[z]),_,_,_,_]) ek
  ·obtain ⟨s4,s5,s6,s7,rfl⟩:=hd
   walk_at "rd"
   rw [take_length]
   unfold XD at hq
   rw [map_map] at hq
   exact hq
theorem MD (n:Nat) {xs:List D}(h:∀ d∈xs,D.PY n d d=true):D.PY (n + 1) (.tup xs) (.tup xs)=true:=Gv h
theorem JC {xs:List D}(h:∀ d∈xs,D.eqb d d=true):D.eqb (.tup xs) (.tup xs)=true:=by unfold D.eqb;exact DR h
theorem qK (n:Nat) (r:Ru):D.PY (n + 2) (ZP r) (ZP r)=true/\D.eqb (ZP r) (ZP r)=true:=by
 have tie:D.PY (n + 1) (RT r.t) (RT r.t)=true/\D.eqb (RT r.t) (RT r.t)=true:=by
  cases r.t with
  | none=>exact ⟨rfl,by with_unfolding_all rfl⟩
  | some us=>exact ⟨MD n λd hd=>(by obtain ⟨i,_,rfl⟩:=mem_map.mp hd;exact QM _ _),JC λd hd=>by obtain ⟨i,_,rfl⟩:=mem_map.mp hd;exact MC _⟩
 refine ⟨MD (n + 1) λd hd=>?_,JC λd hd=>?_⟩
 ·simp only [mem_cons,not_mem_nil,or_false] at hd
  rcases hd with rfl | rfl | rfl | rfl | rfl | rfl
  ·exact QM _ _
  ·exact QM _ _
  ·exact MD n λd hd=>by obtain ⟨i,_,rfl⟩:=mem_map.mp hd;exact QM _ _
  ·refine MD n λd hd=>?_
   simp only [mem_cons,not_mem_nil,or_false] at hd
   rcases hd with rfl | rfl <;> exact qF _ _
  ·exact QM _ _
  ·exact tie.1
 ·simp only [mem_cons,not_mem_nil,or_false] at hd
  rcases hd with rfl | rfl | rfl | rfl | rfl | rfl
  ·exact MC _
  ·exact MC _
  ·exact JC λd hd=>by obtain ⟨i,_,rfl⟩:=mem_map.mp hd;exact MC _
  ·refine JC λd hd=>?_
   simp only [mem_cons,not_mem_nil,or_false] at hd
   rcases hd with rfl | rfl <;> exact mH _
  ·exact MC _
  ·exact tie.2
noncomputable def Aw (A:Adr):DSp:=λxs q _=>∃ (rs:List Ru) (cs:List Int) (r0:Ru),xs=[Gr A "chance" r0.hd (XD rs cs),.lst (rs.map ZP),.lst (cs.map .int)]/\rs[0]?=some r0/\rs.length<=9/\(∀ c∈cs,0<=c)/\(∀ h,hsum (rs.zip cs) h<=1000000)/\(∀ r∈rs,∀ us,r.t=some us->us.length<=1000)/\q (.bl true)
theorem DZ {A:Adr}(T:Txt K mg A):Zx P w K mg base (CXE P w) 3 A.Ri A.OU SU (spD K (Aw A)):=by
 haveI:TxC K A:=⟨⟨_,T⟩⟩
 refine T.Rt.F.okJ Qs (by walk_at "ln") (λcdv Ar outer s H E hr=>⟨_,(Za (ZD [] (Tt (Sa (Yk (ZS (Yl (XI (K:=K) rfl) (by rfl) T.ZF PyProof.Rows.boot_isinstance (Zc (jv 0) (Zc (Xo (.rf A.Zt) (by rfl) T.LN (show RelV (.ref _) _ from rfl) (λ_ _=>rfl)) Zb))))) (Sa (Zn (Qe hr.XW) (Zw (K:=K) rfl (jv 0)) Yt (Zr _)) (Ub (Zn (Qe hr.XW) (Zw (K:=K) rfl (jv 0)) (Zg (Zg (jv 1) Zd) Zd) (Zr _)))))) (Ze (Zm [] TZ)) Zk)
   (Za (Xb (i:=3) Qs.nd rfl (Or.inl rfl) (Xz Zb))
   (Za (Xc PassesOwn.leaving (Yb (Zw (K:=K) rfl (jv 0))) (ZQ 4 Qs.nd) (Ze (WC [] 3 (ZW (Zc (Zw (K:=K) rfl (jv 4)) (Zc (Zw (K:=K) rfl (jv 4)) (Zc (Zw (K:=K) rfl (jv 4)) (Zc (Zw (K:=K) rfl (jv 4)) (Zc (Zw (K:=K) rfl (jv 4)) (Zc (Zw (K:=K) rfl (jv 4)) Zb))))))))))
   (Ze (Zm [3] (RH (XH hr.XW) (jv 3) (Zq (wC T) T.Mo hr (Zc (jv 1) (Zc (jv 2) Zb))) (Zr _))))))),λxs q x h=>?_⟩)
 ·obtain ⟨rs,cs,r0,rfl,h0,r9,hc,hm,hf,hq⟩:=h
  have hsz:aA=16777216:=rfl
  walk_at "rd"
  refine ⟨_,T.Ws,T.ty_Grammar,T.Mm,?_⟩
  walk_at "rd"
  have e0:atI (rs.map ZP) 0=some (ZP r0):=RE (j:=0) h0
  refine ⟨_,e0,?_⟩
  walk_at "rd"
  refine ⟨by decide,[],?_⟩
  walk_at "rd"
  have kl:(XD rs cs).length<=9:=by have:=(UD rs cs).length_le;rw [length_map] at this;unfold XD;rw [length_map];omega
  refine YH (λi ds'=>∃ s4:L2.Slot,ds'=[.v (Gr A "chance" r0.hd (XD rs cs)),.v (.lst (rs.map ZP)),.v (.lst (cs.map D.int)),.own (((XD rs cs).take i).map ZP),s4]) ⟨_,rfl⟩ (λi r ds N hi hd hn=>?_) (λds hd=>?_)
  ·obtain ⟨s4,rfl⟩:=hd
   walk_at "rd"
   refine ⟨by decide,by rw [length_take];omega,hn _ ⟨.v (r.d A),?_⟩⟩
   rw [take_add_one,hi,map_append]
   rfl
  ·obtain ⟨s4,rfl⟩:=hd
   walk_at "rd"
   refine ⟨rs,cs,rfl,r9,hc,hm,hf,?_⟩
   rw [take_length]
   walk_at "rd"
   refine ⟨Gv λd hd=>?_,?_⟩
   ·obtain ⟨r,_,rfl⟩:=mem_map.mp hd
    exact (qK 78 r).1
   ·rw [DR λd hd=>by obtain ⟨r,_,rfl⟩:=mem_map.mp hd;exact (qK 78 r).2]
    exact hq
noncomputable def Ca:Nat->DSp
 | 0=>λ_ _ _=>False
 | n + 1=>λxs q _=>∃ (rs:List Ru) (t:Tr) (kd:Str) (ab:Int),xs=[.lst (rs.map ZP),t.d,.str kd,.int ab]/\(∀ r∈rs,∀ p∈r.ps,isNm p=true)/\Wy kd=true/\t.pl=true/\t.dp<=n/\t.sz<=1000000/\Dz rs ab/\q (.bl (YG rs kd ab t))
theorem FP {A:Adr}(T:Txt K mg A):∀ n,Zx P w K mg base (CXE P w) (1 + n) A.Td A.QC UU (spD K (Ca n)):=by
 intro n
 induction n with
 | zero=>exact Zx.never λvs H Q E h=>by first | (obtain ⟨_,_,_,_,_,_,_,_,_,h,_⟩:=h;exact h) | (obtain ⟨_,_,_,_,_,_,h,_⟩:=h;exact h)
 | succ n ih=>?_
 have Cb:=ih
 rw [show 1 + (n + 1)=(1 + n) + 1 by omega]
 haveI:TxC K A:=⟨⟨_,T⟩⟩
 refine T.Vs.F.okJ VL (by walk_at "ln") (λcdv Ar outer s H E hr=>⟨_,(Za (ZD [] (Tt (Sa (ZS (Yl (XI (K:=K) rfl) (by rfl) T.ZF PyProof.Rows.boot_isinstance (Zc (jv 1) (Zc (Wp (n := "int") (by rfl) T.b_int PyProof.Rows.boot_int) Zb)))) (Ub (Yk (NM Gb Ii Zd (Zg (jv 1) Zd) (Yl Yd (by rfl) T.b_len PySem.boot_len (Zc (jv 0) Zb))))))) (Ze (Zm [] TZ)) Zk)
   (Za (ZR 4 VL.nd (Zg (jv 0) (Zg (jv 1) Zd)))
   (Za (ZD [] (Tt (Sa (Zn (Qe hr.XW) (Zg (jv 4) Zd) (jv 2) (Zr _)) (Ub (Zn (Qe hr.XW) (Yl Yd (by rfl) T.b_len PySem.boot_len (Zc (Zg (jv 1) Zd) Zb)) (Yl Yd (by rfl) T.b_len PySem.boot_len (Zc (Zg (jv 4) Zd) Zb)) (Zr _))))) (Ze (Zm [] TZ)) Zk)
   (Za (WN (ZD [] (Tt (Ts (Zn NQ (Zg (jv 4) Zd) UJ (Zr _)) (WX (Tt (Sa (Zn Ii (jv 3) Zd (Zr _)) (Ub (Zn Qd (Zg (Zg (jv 0) (jv 3)) Zd) (Zg (jv 4) Zd) (by with_unfolding_all rfl)))))))) (Ze (Zm [] TZ)) Zk))
   (Za (Xc PassesOwn.leaving (UM (by rfl) T.b_zip (Zc (Zg (jv 4) Zd) (Zc (Zg (jv 1) Zd) Zb))) (Xy (n:=2) (Zu (ZQ 5 VL.nd) (Zu (ZQ 6 VL.nd) YN))) (Ze (ZD [] (Zn Qd (Zg (jv 5) Zd) Yt (by with_unfolding_all rfl)) (Ze (ZD [] (Yk (ZS (Yl (XI (K:=K) rfl) (by rfl) T.ZF PyProof.Rows.boot_isinstance (Zc (jv 6) (Zc (Wp (n := "int") (by rfl) T.b_int PyProof.Rows.boot_int) Zb))))) (Ze (Zm [] TZ)) Zk)) (Ze (ZD [] (Yk (ZS (Qj Cb T.Vs (hr.mono (by omega)) Yr (Zc (jv 0) (Zc (jv 6) (Zc (jv 5) (Zc (Zg (jv 1) Zd) Zb))))))) (Ze (Zm [] TZ)) Zk)))))
   (Ze (Zm [] TZ))))))),λxs q x h=>?_⟩)
 ·obtain ⟨rs,t,kd,ab,rfl,hnm,hkd,hpl,hdp,hs,hab,hq⟩:=h
  have hsz:aA=16777216:=rfl
  cases t with
  | lf d =>
   obtain ⟨i,rfl⟩:=Tr.KM hpl
   rw [VU,hkd] at hq
   walk_at "rd"
   exact hq
  | nd k ts =>
   have hpk:=Tr.Dw hpl
   have dpt:(Tr.nd k ts).dp=1 + Tr.dps ts:=by simp [Tr.dp]
   have bad:Wt rs kd ab (.nd k ts) ≠ "" -> q (.bl false):=λe=>by
    rw [Wo,decide_eq_false e,Bool.and_false,Bool.false_and] at hq
    exact hq
   have noR:¬ (0<=k/\k < rs.length)->q (.bl false):=λe=>bad λz=>by
    obtain ⟨x1,x2,_⟩:=Sl z
    exact e ⟨x1,x2⟩
   walk_at "rd"
   refine XF (λk0=>Ob (λe2=>noR λz=>?_) (λk1=>?_)) (λk0=>noR λz=>k0 z.1)
   ·rw [decide_eq_true z.2] at e2;cases e2
   have k1:=of_decide_eq_true k1
   obtain ⟨r,hr⟩:∃ r,rs[k.toNat]?=some r:=⟨_,aC (by omega)⟩
   have er:atI (rs.map ZP) k=some (ZP r):=by
    have:=RE hr
    rw [Int.toNat_of_nonneg k0] at this
    exact this
   have hn:∀ {P:Prop},(r.hd=kd->stands rs r ab=true->ts.length=r.ps.length->P)->¬ P->q (.bl false):=λ{P} h np=>bad λz=>by
    obtain ⟨_,_,r',x1,x2,x3,x4⟩:=Sl z
    rw [hr] at x1
    cases x1
    exact np (h x2 x3 x4)
   refine ⟨_,er,?_⟩
   walk_at "rd"
   refine LZ (λe=>hn (λz _ _=>z) e) (λe1=>LZ (λe=>hn (λ_ _ z=>z) (λz=>e (by omega))) (λe2=>?_))
   refine ⟨λds'=>ds'=[.v (.lst (rs.map ZP)),.v (.tup [.int k,.tup (ts.map Tr.d)]),.v (.str kd),.v (.int ab),.v (ZP r),.un,.un]/\stands rs r ab=true,?_,?_⟩
   ·walk_at "rd"
    cases et:r.t with
    | none=>exact (show stands rs r ab=true by unfold stands;simp only [et])
    | some us =>
     walk_at "rd"
     have st:ab = -1->¬ stands rs r ab=true:=λe=>by unfold stands;simp [et,e]
     refine XF (λe=>hn (λ_ z _=>z) (st (by rcases hab with z | z <;> omega))) (λe=>?_)
     obtain ⟨h0,h1⟩:=hab.resolve_left (by omega)
     obtain ⟨r',hr'⟩:∃ r',rs[ab.toNat]?=some r':=⟨_,aC (by omega)⟩
     have st:stands rs r ab=decide (r'.ti∈us):=by
      unfold stands
      simp only [et]
      rw [if_neg (by omega),hr']
     refine ⟨ZP r',by rw [<-Int.toNat_of_nonneg h0];exact RE hr',?_⟩
     walk_at "rd"
     refine LZ (λe3=>hn (λ_ z _=>z) (by rw [st,decide_eq_false e3];decide)) (λe3=>?_)
     rw [st]
     exact decide_eq_true e3
   rintro _ ⟨rfl,hst⟩
   have good:YG rs kd ab (.nd k ts)=(r.ps.zip ts).all λp=>YG rs p.1 k p.2:=by
    have f:Wt rs kd ab (.nd k ts) = "" := by
     unfold Wt
     dsimp only
     rw [if_pos ⟨k0,k1⟩,hr]
     dsimp only
     rw [if_neg (λz=>z e1),if_neg (by rw [hst];decide),if_neg (λz=>z (by omega))]
    rw [Wo,hkd,decide_eq_true f,hr,Option.map_some,Option.getD_some,Gp]
    unfold RN
    rw [all_map]
    rfl
   rw [good] at hq
   refine ⟨[],?_⟩
   walk_at "rd"
   refine ⟨_,rfl,_,rfl,?_⟩
   have ez:NT (r.ps.map D.str) (ts.map Tr.d)=(r.ps.zip ts).map λp => .tup [.str p.1,p.2.d]:=by
    unfold NT
    rw [zip_map,map_map]
    rfl
   rw [ez]
   refine YH (λi ds'=>∃ s5 s6:L2.Slot,ds'=[.v (.lst (rs.map ZP)),.v (.tup [.int k,.tup (ts.map Tr.d)]),.v (.str kd),.v (.int ab),.v (ZP r),s5,s6]/\((r.ps.zip ts).take i).all (λp=>YG rs p.1 k p.2)=true) ⟨_,_,rfl,rfl⟩ (λi p ds N hi hd hnx=>?_) (λds hd=>?_)
   ·obtain ⟨s5,s6,rfl,hall⟩:=hd
    have hm:=mem_of_getElem? hi
    obtain ⟨hm1,hm2⟩:=of_mem_zip hm
    have nm:=hnm r (mem_of_getElem? hr) p.1 hm1
    have no:YG rs p.1 k p.2=false->q (.bl false):=λe=>by
     have:(r.ps.zip ts).all (λp=>YG rs p.1 k p.2)=false:=List.all_eq_false.mpr ⟨p,hm,by rw [e];decide⟩
     rw [this] at hq
     exact hq
    have yes:YG rs p.1 k p.2=true->N [.v (.lst (rs.map ZP)),.v (.tup [.int k,.tup (ts.map Tr.d)]),.v (.str kd),.v (.int ab),.v (ZP r),.v (.str p.1),.v p.2.d]:=λe=>hnx _ ⟨_,_,rfl,by rw [take_add_one,hi,all_append,hall];simp [e]⟩
    have ln:=QJ nm
    walk_at "rd"
    refine ⟨by omega,fst p.1,at0 ln.1,?_⟩
    rw [Rx,qB nm]
    have hp2:=hpk _ hm2
    have dp2:=Tr.Mz hm2
    have sz2:=Tr.yz hm2
    have szt:(Tr.nd k ts).sz=1 + Tr.szs ts:=by simp [Tr.sz]
    refine Ob (λe=>?_) (λe=>?_)
    ·cases hu:p.2 with
     | lf d =>
      rw [hu] at yes hp2
      obtain ⟨i,rfl⟩:=Tr.KM hp2
      rw [xV] at yes
      walk_at "rd"
      exact yes (by rw [VU,e];rfl)
     | nd j us =>
      rw [hu] at no
      walk_at "rd"
      exact no (by rw [Wo,e];rfl)
    ·obtain ⟨n',rfl⟩:∃ n',n=n' + 1:=⟨n - 1,by omega⟩
     refine ⟨rs,p.2,p.1,k,rfl,hnm,e,hp2,by omega,by omega,.inr ⟨k0,k1⟩,?_⟩
     walk_at "rd"
     exact Ob (λe=>no e) (λe=>yes e)
   ·obtain ⟨s5,s6,rfl,hall⟩:=hd
    rw [take_length] at hall
    rw [hall] at hq
    exact hq
theorem FQ (xs:List D) {i:Int}(h0:0<=i):cutD xs (some i) none=xs.drop i.toNat:=by
 obtain ⟨f,rfl⟩:=Int.eq_ofNat_of_zero_le h0
 unfold cutD
 rw [HT.Jq,HT.Eo,show (f:Int).toNat=f from rfl]
 by_cases h:f<=xs.length
 ·rw [Nat.min_eq_left h]
  exact List.take_of_length_le (by rw [length_drop];exact Nat.le_refl _)
 ·rw [Nat.min_eq_right (by omega),List.drop_of_length_le (Nat.le_refl _),List.drop_of_length_le (by omega)]
  exact List.take_nil
noncomputable def Tr.ok1:Nat->Tr->Prop
 | _,.lf _=>True
 | 0,.nd _ _=>False
 | n + 1,.nd _ ts=>ts≠[]/\∀ t∈ts,t.ok1 n
mutual
theorem Cd {rs:List Ru}(hp:∀ r∈rs,1<=r.ps.length):∀ {p:Str}{ab:Int}{t:Tr}(n:Nat),YG rs p ab t=true->t.dp<=n->t.ok1 n
 | _,_,.lf _,n,_,_=>by cases n <;> trivial
 | p,ab,.nd k ts,n,h,hd=>by
  rw [Wo,aF,aF] at h
  obtain ⟨k0,k1,r,hr,_,_,hl⟩:=Sl (of_decide_eq_true h.1.2)
  have h2:=h.2
  rw [hr,Option.map_some,Option.getD_some] at h2
  have e:(Tr.nd k ts).dp=1 + Tr.dps ts:=by simp [Tr.dp]
  obtain ⟨m,rfl⟩:∃ m,n=m + 1:=⟨n - 1,by omega⟩
  have:=hp r (mem_of_getElem? hr)
  exact ⟨λz=>by rw [z] at hl;simp at hl;omega,Gz hp m h2 hl (by omega)⟩
theorem Gz {rs:List Ru}(hp:∀ r∈rs,1<=r.ps.length):∀ {ps:List Str}{k:Int}{ts:List Tr}(n:Nat),Xl rs ps k ts=true->ts.length=ps.length->Tr.dps ts<=n->∀ t∈ts,t.ok1 n
 | _,_,[],_,_,_,_=>λt ht=>by cases ht
 | [],_,t::ts,_,_,hl,_=>by cases hl
 | p::ps,k,t::ts,n,h,hl,hd=>λu hu=>by
  unfold Xl at h
  rw [aF] at h
  have e:Tr.dps (t::ts)=max t.dp (Tr.dps ts):=by rw [Tr.dps]
  rcases mem_cons.mp hu with z | z
  ·rw [z];exact Cd hp n h.1 (by omega)
  ·exact Gz hp n h.2 (by simpa using hl) (by omega) u z
end
theorem Tr.gu {ts:List Tr}{n:Nat}(h:∀ t∈ts,t.dp<=n):Tr.dps ts<=n:=by
 induction ts with
 | nil=>simp [Tr.dps]
 | cons t ts ih =>
  have:=h t (mem_cons_self ..)
  have:=ih λu hu=>h u (mem_cons_of_mem _ hu)
  rw [Tr.dps]
  omega
noncomputable def Ax:Nat->DSp
 | 0=>λ_ _ _=>False
 | n + 1=>λxs q _=>∃ (t:Tr) (m:Int),xs=[t.d,.int m]/\t.Uz=true/\t.pl=true/\t.ok1 (n + 1)/\t.sz<=1000/\0<=m/\m < 2 ^ 40/\∀ u:Tr,u.pl=true->u.dp<=t.dp + 1->u.sz<=t.sz + 2->q u.d
theorem Ce {A:Adr}(T:Txt K mg A):∀ n,Zx P w K mg base (CXE P w) (1 + n) A.Rj A.OV SV (spD K (Ax n)):=by
 intro n
 induction n with
 | zero=>exact Zx.never λvs H Q E h=>by first | (obtain ⟨_,_,_,_,_,_,_,_,_,h,_⟩:=h;exact h) | (obtain ⟨_,_,_,_,_,_,h,_⟩:=h;exact h)
 | succ n ih=>?_
 have Ay:=ih
 rw [show 1 + (n + 1)=(1 + n) + 1 by omega]
 haveI:TxC K A:=⟨⟨_,T⟩⟩
 refine T.Uv.F.okJ Wx (by walk_at "ln") (λcdv Ar outer s H E hr=>⟨_,(Za (QT (i:=2) ["_law_k", "_law_kid"] [] [] Wx.nd rfl (Or.inl rfl) (qb (by rfl) T.KD (Zc (Zg (jv 0) Zd) Zb)) (λ_=>(Xy (n:=2) (Zu (ZQ 0 (nDk ["_law_k", "_law_kid"] [])) (Zu (ZQ 1 (nDk ["_law_k", "_law_kid"] [])) YN)))) (λ_=>(Vx (Yk (ZS (Yl (XI (K:=K) rfl) (by rfl) T.ZF PyProof.Rows.boot_isinstance (Zc (jv 1) (Zc (Wp (n := "int") (by rfl) T.b_int PyProof.Rows.boot_int) Zb))))))) (λ_=>(jv 0)))
   (Za (WN (ZD [] (Tt (Ts (Zn Kz (Yl Yd (by rfl) T.b_len PySem.boot_len (Zc (jv 2) Zb)) Zd (Zr _)) (WX (Zn Kz (Zi Zv (jv 1) Zd) Zd (Zr _))))) (Za (ZR 3 Wx.nd (Zg (jv 2) (Zi Zv (Zi ZK (jv 1) Zd) (Yl Yd (by rfl) T.b_len PySem.boot_len (Zc (jv 2) Zb)))))
   (Za (ZR 4 Wx.nd (Qj Ay T.Uv (hr.mono (by omega)) Yr (Zc (Zg (Zg (jv 0) Zd) (jv 3)) (Zc (Zi ZJ (Zi ZK (jv 1) Zd) Zd) Zb))))
   (Ze (Zm [] (ZW (Zc (Zg (jv 0) Zd) (Zc (Zi VG (Zi VG (Xe (Zg (jv 0) Zd) YM (Yu (jv 3))) (ZW (Zc (jv 4) Zb))) (Xe (Zg (jv 0) Zd) (Yu (Zi ZJ (jv 3) Zd)) YM)) Zb))))))) Zk))
   (Za (ZR 3 Wx.nd (Zi Zv (Zi ZK (jv 1) Zd) (Yl Yd (by rfl) T.b_len PySem.boot_len (Zc (Zg (jv 0) Zd) Zb))))
   (Za (ZR 5 Wx.nd (Zi Zv (Zi ZK (jv 1) Zd) Zd))
   (Za (ZD [] (Zn (XH hr.XW) (jv 5) Zd (Zr _)) (Ze (Zm [] (ZW (Zc (Zi Zv (Zi ZK (jv 1) Zd) Zd) (Zc (Zg (jv 0) Zd) Zb))))) Zk)
   (Za (ZD [] (Zn (XH hr.XW) (jv 5) Zd (Zr _)) (Ze (Zm [] (ZW (Zc (Zg (Vw (Zc (Sx Zd) (Zc Zd (Zc (Sx (Zi MS Zd Zd)) (Zc (Zi MS Zd Zd) Zb))))) (Zi Zv (Zi ZK (jv 1) Zd) Zd)) (Zc (Zg (jv 0) Zd) Zb))))) Zk)
   (Za (ZD [] (Zn (XH hr.XW) (jv 5) Zd (Zr _)) (Ze (Zm [] (ZW (Zc (Zg (jv 0) Zd) (Zc (Zi VG (Xe (Zg (jv 0) Zd) YM (Yu (jv 3))) (Xe (Zg (jv 0) Zd) (Yu (Zi ZJ (jv 3) Zd)) YM)) Zb))))) Zk)
   (Za (ZD [] (Zn (XH hr.XW) (jv 5) Zd (Zr _)) (Ze (Zm [] (ZW (Zc (Zg (jv 0) Zd) (Zc (Zi VG (Zi VG (Xe (Zg (jv 0) Zd) YM (Yu (jv 3))) (ZW (Zc Zd Zb))) (Xe (Zg (jv 0) Zd) (Yu (jv 3)) YM)) Zb))))) Zk)
   (Za (ZD [] (Zn (XH hr.XW) (jv 5) Zd (Zr _)) (Ze (Zm [] (Zi Zv (Zi ZK (jv 1) Zd) Zd))) Zk)
   (Za (ZD [] (ZS (Yl (XI (K:=K) rfl) (by rfl) T.ZF PyProof.Rows.boot_isinstance (Zc (Zg (Zg (jv 0) Zd) (jv 3)) (Zc (Wp (n := "int") (by rfl) T.b_int PyProof.Rows.boot_int) Zb)))) (Ze (Zm [] (ZW (Zc (Zg (jv 0) Zd) (Zc (Zi VG (Zi VG (Xe (Zg (jv 0) Zd) YM (Yu (jv 3))) (ZW (Zc (ZW (Zc Zd (Zc (ZW (Zc Zd Zb)) Zb))) Zb))) (Xe (Zg (jv 0) Zd) (Yu (Zi ZJ (jv 3) Zd)) YM)) Zb))))) Zk)
   (Ze (Zm [] (ZW (Zc (Zg (jv 0) Zd) (Zc (Zi VG (Zi VG (Xe (Zg (jv 0) Zd) YM (Yu (jv 3))) (ZW (Zc Zd Zb))) (Xe (Zg (jv 0) Zd) (Yu (Zi ZJ (jv 3) Zd)) YM)) Zb))))))))))))))),λxs q x h=>?_⟩)
 ·obtain ⟨t,m,rfl,hnd,hpl,hok,hs,m0,m1,hq⟩:=h
  have hsz:aA=16777216:=rfl
  obtain ⟨k,ts,rfl⟩:=Dx hnd
  have hpk:=Tr.Dw hpl
  obtain ⟨n0,hnk⟩:=hok
  have szt:(Tr.nd k ts).sz=1 + Tr.szs ts:=by simp [Tr.sz]
  have dpt:(Tr.nd k ts).dp=1 + Tr.dps ts:=by simp [Tr.dp]
  have tl:=Tr.RA ts
  have l1:=List.length_pos_iff.mpr n0
  have mk:∀ (j:Int) (us:List Tr),(∀ u∈us,u.pl=true/\u.dp<=Tr.dps ts + 1)->Tr.szs us<=Tr.szs ts + 2->q (.tup [.int j,.tup (us.map Tr.d)]):=λj us h1 h2=>by
   have:=hq (.nd j us) (by rw [Tr.pl,Tr.Ms,all_eq_true];exact λu hu=>(h1 u hu).1) (by
    have:=Tr.gu (ts:=us) λu hu=>(h1 u hu).2
    rw [dpt,show (Tr.nd j us).dp=1 + Tr.dps us by simp [Tr.dp]]
    omega) (by rw [szt,show (Tr.nd j us).sz=1 + Tr.szs us by simp [Tr.sz]];omega)
   rw [FJ] at this
   exact this
  have mem:∀ u∈ts,u.pl=true/\u.dp<=Tr.dps ts + 1:=λu hu=>⟨hpk u hu,by have:=Tr.Mz hu;omega⟩
  have two:∀ (i:Nat) (u:Tr),ts[i]?=some u->Tr.szs ts=Tr.szs (ts.take i) + u.sz + Tr.szs (ts.drop (i + 1))/\u∈ts:=λi u hu=>by
   obtain ⟨h1,h2⟩:=List.getElem?_eq_some_iff.mp hu
   refine ⟨?_,mem_of_getElem? hu⟩
   conv=>lhs;rw [<-List.take_append_drop i ts,drop_eq_getElem_cons h1,h2]
   rw [Tr.YC,Tr.szs]
   omega
  have cuts:∀ i:Nat,cutD (ts.map Tr.d) none (some (i:Int))=(ts.take i).map Tr.d/\cutD (ts.map Tr.d) (some ((i:Int) + 1)) none=(ts.drop (i + 1)).map Tr.d/\cutD (ts.map Tr.d) (some (i:Int)) none=(ts.drop i).map Tr.d:=λi=>by
   rw [Mw _ (by omega),FQ _ (by omega),FQ _ (by omega),<-map_take,<-List.map_drop,<-List.map_drop,show ((i:Int) + 1).toNat=i + 1 by omega,show ((i:Int)).toNat=i from rfl]
   exact ⟨rfl,rfl,rfl⟩
  have tk:∀ {i:Nat}{u:Tr},u∈ts.take i->u∈ts:=λh=>mem_of_mem_take h
  have dr:∀ {i:Nat}{u:Tr},u∈ts.drop i->u∈ts:=λh=>List.mem_of_mem_drop h
  have lens:∀ i:Nat,(ts.take i).length<=1000/\(ts.drop i).length<=1000:=λi=>by rw [length_take,length_drop];omega
  have put:∀ (i:Nat) (u v:Tr),ts[i]?=some u->v.pl=true->v.dp<=Tr.dps ts + 1->v.sz<=u.sz + 2->q (.tup [.int k,.tup ((ts.take i).map Tr.d++[v.d]++(ts.drop (i + 1)).map Tr.d)]):=λi u v hu h1 h2 h3=>by
   have:=mk k (ts.take i++[v]++ts.drop (i + 1)) (λw hw=>?_) ?_
   ·simpa only [map_append,map_cons,map_nil] using this
   ·rcases mem_append.mp hw with hw | hw
    ·rcases mem_append.mp hw with hw | hw
     ·exact mem _ (tk hw)
     ·rw [mem_singleton.mp hw];exact ⟨h1,h2⟩
    ·exact mem _ (dr hw)
   ·have:=(two i u hu).1
    rw [Tr.YC,Tr.YC,Tr.szs,Tr.szs]
    omega
  walk_at "rd"
  have ee:Qf (ts.map Tr.d)=ts.zipIdx.map λp => .tup [.int (p.2:Nat),p.1.d]:=by
   unfold Qf
   refine List.ext_getElem? λi=>?_
   simp [List.getElem?_mapIdx,List.getElem?_zipIdx]
   cases ts[i]? <;> rfl
  rw [ee]
  refine Sf (c:=λp:Tr × Nat => .int (p.2:Nat)) (c':=λp:Tr × Nat=>p.1.d) (λp=>p.1.Uz) (λp => .int (p.2:Nat)) (by rw [List.length_zipIdx];omega) (λp hp N hN=>?_) (λp hp _ N hN=>?_) ?_
  ·have hm:p.1∈ts:=List.fst_mem_of_mem_zipIdx hp
   have hp1:=hpk _ hm
   obtain ⟨u,j⟩:=p
   cases u with
   | lf d =>
    obtain ⟨i,rfl⟩:=Tr.KM hp1
    walk_at "rd"
    exact hN
   | nd k' ts' =>
    walk_at "rd"
    exact hN
  ·walk_at "rd"
   exact hN
  have hjs:∀ p∈ts.zipIdx.filter (λp=>p.1.Uz),ts[p.2]?=some p.1/\p.1.Uz=true:=λp hp=>by
   obtain ⟨h1,h2⟩:=mem_filter.mp hp
   exact ⟨List.mem_zipIdx_iff_getElem?.mp h1,h2⟩
  generalize ts.zipIdx.filter (λp=>p.1.Uz)=js at hjs
  refine ⟨λds'=>ds'=[.v (.tup [.int k,.tup (ts.map Tr.d)]),.v (.int m),.v (.lst (js.map λp => .int (p.2:Nat))),.un,.un,.un],?_,?_⟩
  ·walk_at "rd"
   refine XF (λe=>⟨by decide,XF (λe1=>?_) (λ_=>trivial)⟩) (λ_=>trivial)
   rw [Xd (show (0:Int) < js.length by omega)]
   obtain ⟨g1,g2⟩:=mod_lt (n:=js.length) (m / 3) (by omega)
   obtain ⟨p,hp,ep⟩:=Wj (λp:Tr × Nat=>D.int (p.2:Nat)) js g1 g2
   obtain ⟨u,j⟩:=p
   obtain ⟨h1,h2⟩:=hjs _ hp
   have h1:ts[j]?=some u:=h1
   have eu:atI (ts.map Tr.d) (j:Int)=some u.d:=Xn (by rw [getElem?_map,h1];rfl)
   refine ⟨by decide,YQ (by decide) (by decide),by omega,_,ep,?_⟩
   walk_at "rd"
   refine ⟨_,eu,by decide,YQ (by decide) (by decide),?_⟩
   obtain ⟨t1,t2⟩:=two j u h1
   have o1:=hnk u t2
   obtain ⟨n',rfl⟩:∃ n',n=n' + 1:=by
    cases n with
    | zero=>obtain ⟨k',ts',rfl⟩:=Dx h2;exact o1.elim
    | succ n'=>exact ⟨n',rfl⟩
   refine ⟨u,m / 7 + 1,rfl,h2,hpk u t2,o1,by omega,by omega,by omega,λv v1 v2 v3=>?_⟩
   obtain ⟨c1,c2,c3⟩:=cuts j
   have dm:=Tr.Mz t2
   have l1:=lens j
   have l2:=lens (j + 1)
   rw [c1]
   walk_at "rd"
   rw [c2]
   simp only [length_append,length_map,length_cons,length_nil]
   exact ⟨by decide,by omega,by omega,by decide,put j u v h1 v1 (by omega) v3⟩
  rintro _ rfl
  walk_at "rd"
  rw [Xd (show (0:Int) < ts.length by omega)]
  obtain ⟨g1,g2⟩:=mod_lt (n:=ts.length) (m / 3) (by omega)
  obtain ⟨i,ei⟩:∃ i:Nat,m / 3 % (ts.length:Int)=i:=⟨(m / 3 % (ts.length:Int)).toNat,by omega⟩
  rw [ei] at g1 g2 ⊢
  obtain ⟨u,hu⟩:∃ u,ts[i]?=some u:=⟨_,aC (by omega)⟩
  obtain ⟨c1,c2,c3⟩:=cuts i
  obtain ⟨t1,t2⟩:=two i u hu
  have sp:=u.Ad
  have l1:=lens i
  have l2:=lens (i + 1)
  rw [c1,c2,c3]
  have eu:atI (ts.map Tr.d) (i:Int)=some u.d:=Xn (by rw [getElem?_map,hu];rfl)
  have sl:Tr.szs (ts.drop i)=u.sz + Tr.szs (ts.drop (i + 1)):=by
   obtain ⟨h1,h2⟩:=List.getElem?_eq_some_iff.mp hu
   rw [drop_eq_getElem_cons h1,h2,Tr.szs]
  simp only [length_append,length_map,length_cons,length_nil]
  refine ⟨by decide,YQ (by decide) (by decide),by omega,by decide,YQ (by decide) (by decide),by decide,XF (λ_=>⟨by decide,YQ (by decide) (by decide),by decide,by decide,mk _ ts mem (by omega)⟩) (λ_=>XF (λ_=>?_) (λ_=>XF (λ_=>⟨by omega,by decide,?_⟩) (λ_=>XF (λ_=>⟨by decide,by omega,by omega,by decide,?_⟩) (λ_=>XF (λ_=>⟨by decide,YQ (by decide) (by decide),by decide,?_⟩) (λ_=>⟨_,eu,?_⟩)))))⟩
  ·have gb:=mod_lt (n:=4) (m / 84) (by decide)
   obtain ⟨z,hz,ez⟩:=Wj D.int [-1,20,-10 ^ Int.toNat 30,10 ^ Int.toNat 30] (i:=m / 84 % 4) gb.1 gb.2
   exact ⟨⟨by decide,by decide,by decide⟩,⟨by decide,by decide,by decide⟩,by decide,by decide,YQ (by decide) (by decide),by decide,_,ez,by decide,mk _ ts mem (by omega)⟩
  ·have:=mk k (ts.take i++ts.drop (i + 1)) (λw hw=>?_) ?_
   ·simpa only [map_append] using this
   ·rcases mem_append.mp hw with hw | hw
    ·exact mem _ (tk hw)
    ·exact mem _ (dr hw)
   ·rw [Tr.YC];omega
  ·have:=mk k (ts.take i++[.lf (.int 5)]++ts.drop i) (λw hw=>?_) ?_
   ·simpa only [map_append,map_cons,map_nil,xV] using this
   ·rcases mem_append.mp hw with hw | hw
    ·rcases mem_append.mp hw with hw | hw
     ·exact mem _ (tk hw)
     ·rw [mem_singleton.mp hw];exact ⟨rfl,by simp [Tr.dp]⟩
    ·exact mem _ (dr hw)
   ·rw [Tr.YC,Tr.YC,Tr.szs,Tr.szs,show (Tr.lf (.int 5)).sz=1 by simp [Tr.sz]];omega
  ·have:=hq (.lf (.int (m / 84 % 40))) rfl (by simp [Tr.dp]) (by rw [show (Tr.lf (.int (m / 84 % 40))).sz=1 by simp [Tr.sz]];omega)
   rw [xV] at this
   exact this
  ·have hp:=hpk u t2
   cases u with
   | lf d =>
    obtain ⟨j,rfl⟩:=Tr.KM hp
    walk_at "rd"
    have:=put i _ (.nd 0 [.lf (.int 1)]) hu rfl (by simp [Tr.dp,Tr.dps]) (by simp [Tr.sz,Tr.szs])
    simp only [FJ,xV,map_cons,map_nil] at this
    exact ⟨by decide,by decide,by decide,by omega,by omega,by decide,this⟩
   | nd k' ts' =>
    walk_at "rd"
    have:=put i _ (.lf (.int 7)) hu rfl (by simp [Tr.dp]) (by rw [show (Tr.lf (.int 7)).sz=1 by simp [Tr.sz]];omega)
    rw [xV] at this
    exact ⟨by decide,by omega,by omega,by decide,this⟩
noncomputable def Cg (A:Adr):DSp:=λxs q _=>xs=[.exc A.Zo]/\q (.bl true)
theorem FR {A:Adr}(T:Txt K mg A):Zx P w K mg base (CXE P w) 1 A.Te A.QD UW (spD K (Cg A)):=by
 haveI:TxC K A:=⟨⟨_,T⟩⟩
 refine T.Tj.F.okJ Fy (by walk_at "ln") (λcdv Ar outer s H E hr=>⟨_,(Za (ZD [] (Tt (Sa (Yk (ZS (Yl (XI (K:=K) rfl) (by rfl) T.ZF PyProof.Rows.boot_isinstance (Zc (jv 0) (Zc (Xo (.rf A.Zo) (by rfl) T.WK.M (show RelV (.ref _) _ from rfl) (λ_ _=>rfl)) Zb))))) (Ub (Yk (ZS (Yl (XI (K:=K) rfl) (by rfl) T.ZF PyProof.Rows.boot_isinstance (Zc (jv 0) (Zc (Wp (n := "ValueError") (by rfl) T.FA (by decide +kernel)) Zb)))))))) (Ze (Zm [] TZ)) Zk)
   (Za (ZD [] (ZS (Yl (XI (K:=K) rfl) (by rfl) T.ZF PyProof.Rows.boot_isinstance (Zc (jv 0) (Zc (ZW (Zc (Xo (.rf A.Xj) (by rfl) T.QG.M (show RelV (.ref _) _ from rfl) (λ_ _=>rfl)) (Zc (Xo (.rf A.XO) (by rfl) T.qg (show RelV (.ref _) _ from rfl) (λ_ _=>rfl)) (Zc (Xo (.rf A.C_NoNet) (by rfl) T.M_NoNet (show RelV (.ref _) _ from rfl) (λ_ _=>rfl)) (Zc (Xo (.rf A.Xi) (by rfl) T.Ur.M (show RelV (.ref _) _ from rfl) (λ_ _=>rfl)) (Zc (Xo (.rf A.YD) (by rfl) T.LQ.M (show RelV (.ref _) _ from rfl) (λ_ _=>rfl)) Zb)))))) Zb)))) (Ze (Zm [] TZ)) Zk)
   (Ze (Zm [] (jO (Yl (XI (K:=K) rfl) (by rfl) T.ZF PyProof.Rows.boot_isinstance (Zc (jv 0) (Zc (ZW (Zc (Xo (.rf A.Yv) (by rfl) T.LR.M (show RelV (.ref _) _ from rfl) (λ_ _=>rfl)) (Zc (Xo (.rf A.Yo) (by rfl) T.OW.M (show RelV (.ref _) _ from rfl) (λ_ _=>rfl)) (Zc (Xo (.rf A.C_Ring) (by rfl) T.E_Ring.M (show RelV (.ref _) _ from rfl) (λ_ _=>rfl)) (Zc (Xo (.rf A.Xh) (by rfl) T.xN (show RelV (.ref _) _ from rfl) (λ_ _=>rfl)) (Zc (Xo (.rf A.C_Twice) (by rfl) T.E_Twice.M (show RelV (.ref _) _ from rfl) (λ_ _=>rfl)) Zb)))))) Zb)))))))),λxs q x h=>?_⟩)
 ·obtain ⟨rfl,hq⟩:=h
  walk_at "rd"
  refine ⟨_,T.WK.t,T.KY,?_⟩
  walk_at "rd"
  refine ⟨_,T.WK.t,T.xO,?_⟩
  walk_at "rd"
  refine ⟨by decide,[A.Xj,A.XO,A.C_NoNet,A.Xi,A.YD],false,rfl,T.WK.t,?_,?_⟩
  ·simp only [List.map,kitAny,T.KW,T.KR,T.IQ,T.KU,T.LV]
  walk_at "rd"
  refine ⟨by decide,[A.Yv,A.Yo,A.C_Ring,A.Xh,A.C_Twice],false,rfl,T.WK.t,?_,hq⟩
  simp only [List.map,kitAny,T.LX,T.Ml,T.Hs,T.LU,T.IT]
noncomputable def Ci (A:Adr):DSp:=λxs q _=>∃ (z st:Str) (kinds words:List Str) (rs:List Ru) (ts:List Tr) (w:Int),xs=[Gr A z st rs,.lst (ts.map Tr.d),.int w]/\Vt z kinds words rs/\Good z st rs/\Wy st=true/\(∀ t∈ts,t.pl=true/\t.sz<=1000000)/\ts.length<=1000/\¬ (ts≠[]/\∀ t∈ts,YG rs st (-1) t=true)/\q (.bl true)
theorem FT {A:Adr}(T:Txt K mg A):Zx P w K mg base (CXE P w) 9 A.Tf A.QF UX (spD K (Ci A)):=by
 haveI:TxC K A:=⟨⟨_,T⟩⟩
 refine T.Tn.F.okJ VM (by walk_at "ln") (λcdv Ar outer s H E hr=>⟨_,(Za (ZR 3 VM.nd UJ)
   (Za (sk (j:=4) rfl T.Dp (by rfl) T.Dn VM.nd rfl (λ_ _=>(Ze (ZD [] (Zn (XH hr.XW) (jv 2) Zd (Zr _)) (Ze (UL (Zq (Mv T).fz T.Vr hr (Zc (jv 0) (Zc (jv 1) Zb))))) (Ze (ZD [] (Zn (XH hr.XW) (jv 2) Zd (Zr _)) (Ze (UL (Zq (Gu T).fz T.QH hr (Zc (jv 0) (Zc (jv 1) Zb))))) (Ze (UL (Zq (Gy T) T.QI hr (Zc (jv 0) (Zc (jv 1) Zb)))))))))) (λ_=>(Ze (ZR 3 VM.nd (jv 4)))))
   (Ze (Zm [] (Zq (FR T) T.Tj hr (Zc (jv 3) Zb)))))),λxs q x h=>?_⟩)
 ·obtain ⟨z,st,kinds,words,rs,ts,w,rfl,hR,hG,hk,ht,hl,hno,hq⟩:=h
  walk_at "rd"
  refine ⟨λds' C=>ds'=[.v (Gr A z st rs),.v (.lst (ts.map Tr.d)),.v (.int w),.v .non,.un]/\C=A.Zo,?_,?_⟩
  ·walk_at "rd"
   refine XF (λ_=>⟨z,st,rs,ts,rfl,RC (Ha hk),hG.fit,ht,by omega,hk,λg=>absurd g hno,λ_=>rfl⟩) (λ_=>XF (λ_=>⟨z,st,rs,ts,rfl,RC (Ha hk),hG.fit,ht,by omega,hk,λg=>absurd g hno,λ_=>rfl⟩) (λ_=>⟨z,st,kinds,words,rs,ts,rfl,hR,hG,hk,ht,hl,λg=>absurd g hno,λ_=>rfl⟩))
  ·rintro _ _ ⟨rfl,rfl⟩
   refine ⟨T.OX,?_⟩
   walk_at "rd"
   exact ⟨rfl,hq⟩
theorem gv {A:Adr}(T:Txt K mg A):Zx P w K mg base (CXE P w) 44 A.f_law A.d_law qe (spD K gLaw):=by
 haveI:TxC K A:=⟨⟨_,T⟩⟩
 refine T.L_law.F.okJ Um (by walk_at "ln") (λcdv Ar outer s H E hr=>⟨_,(Za (Bt (Zq (Am T) T.PR hr (Zc (jv 0) Zb)) (Xy (n:=2) (Zu (ZQ 1 Um.nd) (Zu (ZQ 2 Um.nd) YN))))
   (Za (ZR 3 Um.nd (Zq (Kf T) T.Wn hr (Zc (jv 0) (Zc (jv 1) Zb))))
   (Za (ZR 4 Um.nd (Zq (XR T) T.L_l_mix hr (Zc (Zq (Wh T) T.L_l_at hr (Zc (jv 0) (Zc Zd Zb))) (Zc Zd Zb))))
   (Za (ZR 5 Um.nd (Zi Zv (jv 4) (Yl Yd (by rfl) T.b_len PySem.boot_len (Zc (jv 3) Zb))))
   (Za (ZR 6 Um.nd (Zi ZJ (Zi ZJ (Vo (jv 3) YM (Yu (jv 5))) (Vw (Zc (Zq (Ce T 41) T.Uv hr (Zc (Zg (jv 3) (jv 5)) (Zc (Zi ZK (jv 4) Zd) Zb))) Zb))) (Vo (jv 3) (Yu (Zi ZJ (jv 5) Zd)) YM)))
   (Za (WN (ZD [] (Zn (XH hr.XW) (Zi Zv (Zi ZK (jv 4) Zd) Zd) Zd (Zr _)) (Ze (ZR 6 Um.nd (Vw Zb))) Zk))
   (Za (ZR 7 Um.nd TZ)
   (Za (WN (ZD [] (Zn Kz (Yl Yd (by rfl) T.b_len PySem.boot_len (Zc (jv 6) Zb)) Zd (Zr _)) (Ze (ZR 7 Um.nd (Zq (FP T 42) T.Vs hr (Zc (jv 1) (Zc (Zg (jv 6) (jv 5)) (Zc (Zg (Zg (jv 1) Zd) Zd) (Zc (Sx Zd) Zb))))))) Zk))
   (Za (Xc PassesOwn.leaving (XX (by rfl) T.b_range (Zc Zd Zb)) (ZQ 8 Um.nd) (Ze (ZD [] (Tt (Ts (Yk (ZS (jv 7))) (WX (Yk (ZS (Zq (FT T) T.Tn hr (Zc (jv 2) (Zc (UK Jt (by rfl) T.b_list PyProof.Rows.boot_list (Zc (jv 6) Zb)) (Zc (jv 8) Zb))))))))) (Ze (Zm [] TZ)) Zk)))
   (Ze (Zm [] (Zq (DZ T) T.Rt hr (Zc (Zq (Gy T) T.QI hr (Zc (jv 2) (Zc (UK Jt (by rfl) T.b_list PyProof.Rows.boot_list (Zc (jv 3) Zb)) Zb))) (Zc (jv 1) (Zc (Zq (DN T).fz T.Rr hr (Zc (jv 1) (Zc (jv 3) Zb))) Zb))))))))))))))),λxs q x h=>?_⟩)
 ·obtain ⟨ns,rfl,hl,hq⟩:=h
  have hsz:aA=16777216:=rfl
  walk_at "rd"
  refine ⟨ns,rfl,λsc kinds words rs r0 hsc hR h0 hG=>?_⟩
  walk_at "rd"
  refine ⟨ns,sc,kinds,words,rs,r0,rfl,hR,h0,λts hts=>?_⟩
  walk_at "rd"
  obtain ⟨tn,t6,tt⟩:=hts
  have m0:=Rv (atZ ns 50) 5
  have m1:=OZ (atZ ns 50) 5
  generalize mix (atZ ns 50) 5=m at m0 m1 ⊢
  have l1:=List.length_pos_iff.mpr tn
  have hkd:Wy r0.hd=true:=hR.kd _ (hR.row r0 (mem_of_getElem? h0)).hd
  have nms:∀ r∈rs,∀ p∈r.ps,isNm p=true:=λr hr p hp=>by
   rcases (hR.row r hr).ps p hp with z | z
   ·exact Ha (hR.kd p z)
   ·exact Gq (hR.wd p z)
  rw [Xd (show (0:Int) < ts.length by omega)]
  obtain ⟨g1,g2⟩:=mod_lt (n:=ts.length) m (by omega)
  obtain ⟨i,ei⟩:∃ i:Nat,m % (ts.length:Int)=i:=⟨(m % (ts.length:Int)).toNat,by omega⟩
  rw [ei] at g1 g2 ⊢
  have il:i < ts.length:=by omega
  obtain ⟨t,ht⟩:∃ t,ts[i]?=some t:=⟨_,aC il⟩
  obtain ⟨a1,a2,a3,a4,a5⟩:=tt t (mem_of_getElem? ht)
  have et:atI (ts.map Tr.d) (i:Int)=some t.d:=Xn (by rw [getElem?_map,ht];rfl)
  refine ⟨by decide,by decide,by decide,by omega,_,et,by decide,YQ (by decide) (by decide),t,m / 6,rfl,a2,a3,Cd (λr hr=>(hR.row r hr).p1) 41 a1 (by omega),by omega,by omega,by omega,λu u1 u2 u3=>?_⟩
  rw [Mw _ (by omega),FQ _ (by omega),<-map_take,<-List.map_drop,show ((i:Int) + 1).toNat=i + 1 by omega,show ((i:Int)).toNat=i from rfl]
  obtain ⟨us,hus⟩:∃ us,us=ts.take i++[u]++ts.drop (i + 1):=⟨_,rfl⟩
  have eus:(ts.take i).map Tr.d++[u.d]++(ts.drop (i + 1)).map Tr.d=us.map Tr.d:=by rw [hus];simp
  have lus:us.length=ts.length:=by rw [hus];simp;omega
  have hu:us[i]?=some u:=by
   rw [hus,append_assoc,getElem?_append_right (by rw [length_take];omega),length_take,show i - min i ts.length=0 by omega]
   rfl
  have um:∀ v∈us,v.pl=true/\v.sz<=1000000:=λv hv=>by
   rw [hus] at hv
   rcases mem_append.mp hv with hv | hv
   ·rcases mem_append.mp hv with hv | hv
    ·obtain ⟨_,_,x3,_,x5⟩:=tt v (mem_of_mem_take hv);exact ⟨x3,by omega⟩
    ·rw [mem_singleton.mp hv];exact ⟨u1,by omega⟩
   ·obtain ⟨_,_,x3,_,x5⟩:=tt v (List.mem_of_mem_drop hv);exact ⟨x3,by omega⟩
  rw [eus]
  refine ⟨by decide,by rw [length_map,length_take];omega,by rw [length_append,length_map,length_map,length_take,length_drop];simp;omega,λds'=>∃ us',ds'=[.v (.scr (ns.map .int)),.v (.lst (rs.map ZP)),.v (Gr A sc r0.hd rs),.v (.lst (ts.map Tr.d)),.v (.int m),.v (.int i),.v (.lst (us'.map Tr.d)),.un,.un]/\(us'=[]\/us'=us),?_,?_⟩
  ·walk_at "rd"
   exact ⟨by decide,YQ (by decide) (by decide),by decide,XF (λ_=>⟨by decide,[],rfl,.inl rfl⟩) (λ_=>⟨us,rfl,.inr rfl⟩)⟩
  rintro _ ⟨us',rfl,hus'⟩
  walk_at "rd"
  refine ⟨λds'=>∃ b:Bool,ds'=[.v (.scr (ns.map .int)),.v (.lst (rs.map ZP)),.v (Gr A sc r0.hd rs),.v (.lst (ts.map Tr.d)),.v (.int m),.v (.int i),.v (.lst (us'.map Tr.d)),.v (.bl b),.un]/\(b=false->¬ (us'≠[]/\∀ t∈us',YG rs r0.hd (-1) t=true)),?_,?_⟩
  ·walk_at "rd"
   have e0:atI (rs.map ZP) 0=some (ZP r0):=RE (j:=0) h0
   refine XF (λe=>?_) (λe=>λ_ z=>z.1 (eq_nil_of_length_eq_zero (by omega)))
   have hu':us'=us:=hus'.resolve_left λz=>by rw [z] at e;exact absurd e (by decide)
   subst hu'
   refine ⟨_,Xn (v:=u.d) (by rw [getElem?_map,hu];rfl),_,e0,?_⟩
   walk_at "rd"
   have u4:u.dp<=41:=by omega
   exact ⟨rs,u,r0.hd,-1,rfl,nms,hkd,u1,u4,by omega,.inl rfl,_,rfl,λe z=>by rw [z.2 u (mem_of_getElem? hu)] at e;cases e⟩
  rintro _ ⟨b,rfl,hb⟩
  have ul:us'.length<=6:=by
   rcases hus' with z | z
   ·rw [z];exact Nat.zero_le _
   ·rw [z];omega
  have um':∀ v∈us',v.pl=true/\v.sz<=1000000:=λv hv=>by
   rcases hus' with z | z
   ·rw [z] at hv;cases hv
   ·rw [z] at hv;exact um v hv
  refine ⟨[],?_⟩
  walk_at "rd"
  refine ⟨by decide,by decide,Ue (λ_ ds'=>∃ s8:L2.Slot,ds'=[.v (.scr (ns.map .int)),.v (.lst (rs.map ZP)),.v (Gr A sc r0.hd rs),.v (.lst (ts.map Tr.d)),.v (.int m),.v (.int i),.v (.lst (us'.map Tr.d)),.v (.bl b),s8]) ⟨_,rfl⟩ (λj ds N hj hd hn=>?_) (λds hd=>?_)⟩
  ·obtain ⟨s8,rfl⟩:=hd
   walk_at "rd"
   refine Ob (λe=>?_) (λ_=>hn _ ⟨_,rfl⟩)
   refine ⟨sc,r0.hd,kinds,words,rs,us',_,rfl,hR,hG,hkd,um',by omega,hb e,?_⟩
   walk_at "rd"
   exact hn _ ⟨_,rfl⟩
  obtain ⟨s8,rfl⟩:=hd
  walk_at "rd"
  have rl9:=hR.len
  have inb:∀ us:List Tr,(∀ t∈us,YG rs r0.hd (-1) t=true)->∀ k∈Tr.rls us,0<=k/\k < (replicate rs.length (0:Int)).length:=by
   intro us
   rw [length_replicate]
   induction us with
   | nil=>intro _ k hk;unfold Tr.rls at hk;cases hk
   | cons t us ih =>
    intro h k hk
    unfold Tr.rls at hk
    rcases mem_append.mp hk with e | e
    ·exact PX (h t (mem_cons_self ..)) k e
    ·exact ih (λu hu=>h u (mem_cons_of_mem _ hu)) k e
  have szb:∀ us:List Tr,(∀ t∈us,t.sz<=445)->Tr.szs us<=us.length * 445:=by
   intro us
   induction us with
   | nil=>intro _;simp [Tr.szs]
   | cons t us ih =>
    intro h
    have:=ih λu hu=>h u (mem_cons_of_mem _ hu)
    have:=h t (mem_cons_self ..)
    rw [Tr.szs,length_cons]
    omega
  have bs:=Gs (Tr.rls ts) (inb ts λt h=>(tt t h).1)
  have bp:=Kh (Tr.rls ts) (cs:=replicate rs.length 0) (λc hc=>by rw [List.eq_of_mem_replicate hc];omega)
  have bl:=VZ (Tr.rls ts) (replicate rs.length 0)
  rw [length_replicate] at bl
  have rtot:(Tr.rls ts).length<=2670:=by
   have a:=szb ts λt h=>(tt t h).2.2.2.2
   have b:=Tr.Jz ts
   omega
  refine ⟨sc,r0.hd,kinds,words,rs,ts,rfl,hR,hG,hkd,λt h=>⟨(tt t h).2.2.1,by have:=(tt t h).2.2.2.2;omega⟩,by omega,λ_=>?_,λz=>absurd ⟨tn,λt h=>(tt t h).1⟩ z⟩
  walk_at "rd"
  refine ⟨rs,ts,rfl,by omega,λt h=>?_,?_⟩
  ·obtain ⟨a1,a2,a3,a4,a5⟩:=tt t h
   exact ⟨a2,a3,a4,PX a1⟩
  generalize Yp (replicate rs.length 0) (Tr.rls ts)=cs at bs bp bl
  have s0:(replicate rs.length (0:Int)).sum=0:=by simp
  rw [s0] at bs
  have zp:∀ p∈rs.zip cs,0<=p.2:=λp hp=>bp _ (of_mem_zip hp).2
  have zs:(rs.zip cs).map (·.2)=cs:=by rw [List.map_snd_zip (by omega)]
  refine ⟨rs,cs,r0,rfl,h0,rl9,bp,λh=>?_,λr hr us e=>(((hG.fit.2 r hr).2.2.2) us e).1,hq⟩
  have:=(FN zp h).2
  rw [zs] at this
  omega
end
theorem all_mk {l:PySem.W.OpenLaw}(X:K.In h) (G:h.Ns mainGlobals mg) (hfa:mg "law" = some (.ref fa))
  (aC_Cost:PySem.W.nsIn K mainGlobals "Cost" = some (some (.ref C_Cost))) (pg_Cost:plainGet K C_Cost Str.empty=true) (hd_Cost:hasDictIn K C_Cost=true) (po_Cost:plainOver K C_Cost=true) (sa_Cost:findIn K (.ref C_Cost) "__setattr__" = some (some (.builtin "object.__setattr__"))) (mk_Cost:makesIn K C_Cost=true) (in_Cost:findIn K (.ref C_Cost) "__init__" = some (some (.builtin "object.__init__"))) (kc_Cost:keepIn K (.ref C_Cost)=true)
  (wF:PySem.W.nsIn K mainGlobals "Chance" = some (some (.ref Yx))) (wG:plainGet K Yx Str.empty=true) (wH:hasDictIn K Yx=true) (wI:plainOver K Yx=true) (wJ:findIn K (.ref Yx) "__setattr__" = some (some (.builtin "object.__setattr__"))) (LL:makesIn K Yx=true) (wK:findIn K (.ref Yx) "__init__" = some (some (.builtin "object.__init__"))) (wL:keepIn K (.ref Yx)=true)
  (aC_Rule:PySem.W.nsIn K mainGlobals "Rule" = some (some (.ref C_Rule))) (pg_Rule:plainGet K C_Rule Str.empty=true) (hd_Rule:hasDictIn K C_Rule=true) (po_Rule:plainOver K C_Rule=true) (sa_Rule:findIn K (.ref C_Rule) "__setattr__" = some (some (.builtin "object.__setattr__"))) (mk_Rule:makesIn K C_Rule=true) (kc_Rule:keepIn K (.ref C_Rule)=true) (HD:findIn K (.ref C_Rule) "title" = some none) (FU:findIn K (.ref C_Rule) "head" = some none) (HE:findIn K (.ref C_Rule) "parts" = some none) (Hd:findIn K (.ref C_Rule) "weight" = some none) (Cj:findIn K (.ref C_Rule) "tag" = some none) (HF:findIn K (.ref C_Rule) "under" = some none)
  (Az:PySem.W.nsIn K mainGlobals "Grammar" = some (some (.ref Zt))) (AA:plainGet K Zt Str.empty=true) (He:hasDictIn K Zt=true) (AB:plainOver K Zt=true) (AD:findIn K (.ref Zt) "__setattr__" = some (some (.builtin "object.__setattr__"))) (Rk:makesIn K Zt=true) (AF:keepIn K (.ref Zt)=true) (Ki:findIn K (.ref Zt) "scale" = some none) (Kj:findIn K (.ref Zt) "start" = some none) (Kk:findIn K (.ref Zt) "rules" = some none) (ha_Grammar:findIn K (.ref Zt) "__class__" = some (some (.builtin "object.__class__"))) (hn_Grammar:specialIn K (.builtin "object.__class__") "__get__" = some (some (.builtin "getset_descriptor.__get__"))) (AG:takesIn K (.builtin "object.__class__")=some true) (hm_Grammar:mroIn K Zt (.type "object")=some true)
  (FV:PySem.W.nsIn K mainGlobals "WoodError" = some (some (.ref ZY))) (FW:typeIn K (.ref ZY)=some (.type "type")) (FX:isClsIn K ZY=true) (FY:subIn K (.ref ZY) (.type "BaseException")=some true) (FZ:hasDictIn K ZY=true) (Ea:typeIn K (.ref ZY)=some (.type "type")) (Eb:subIn K (.ref ZY) (.ref ZY)=some true)
  (wM:PySem.W.nsIn K mainGlobals "NoLine" = some (some (.ref XO))) (wN:hasDictIn K XO=true) (wO:typeIn K (.ref XO)=some (.type "type")) (wR:subIn K (.ref XO) (.ref XO)=some true)
  (aC_NoNet:PySem.W.nsIn K mainGlobals "NoNet" = some (some (.ref C_NoNet))) (dd_NoNet:hasDictIn K C_NoNet=true) (dt_NoNet:typeIn K (.ref C_NoNet)=some (.type "type")) (dr_NoNet:subIn K (.ref C_NoNet) (.ref C_NoNet)=some true)
  (AH:PySem.W.nsIn K mainGlobals "TooMany" = some (some (.ref Xh))) (AI:hasDictIn K Xh=true) (AJ:typeIn K (.ref Xh)=some (.type "type")) (AK:subIn K (.ref Xh) (.ref Xh)=some true)
  (AO:ExK K "NoScale" YD) (AQ:hasDictIn K YD=true) (AR:typeIn K (.ref YD)=some (.type "type")) (AU:subIn K (.ref YD) (.ref YD)=some true)
  (wU:ExK K "NoRule" Xi) (wV:hasDictIn K Xi=true) (wW:typeIn K (.ref Xi)=some (.type "type")) (wX:subIn K (.ref Xi) (.ref Xi)=some true)
  (Ck:ExK K "NoWeight" Yo) (Cm:hasDictIn K Yo=true) (Cp:typeIn K (.ref Yo)=some (.type "type")) (Cq:subIn K (.ref Yo) (.ref Yo)=some true)
  (xk_Twice:ExK K "Twice" C_Twice) (dd_Twice:hasDictIn K C_Twice=true) (dt_Twice:typeIn K (.ref C_Twice)=some (.type "type")) (dr_Twice:subIn K (.ref C_Twice) (.ref C_Twice)=some true)
  (AV:ExK K "NoTitle" Yv) (AW:hasDictIn K Yv=true) (AX:typeIn K (.ref Yv)=some (.type "type")) (AY:subIn K (.ref Yv) (.ref Yv)=some true)
  (wY:ExK K "NoKind" Xj) (wZ:hasDictIn K Xj=true) (vb:typeIn K (.ref Xj)=some (.type "type")) (vc:subIn K (.ref Xj) (.ref Xj)=some true)
  (xk_Ring:ExK K "Ring" C_Ring) (dd_Ring:hasDictIn K C_Ring=true) (dt_Ring:typeIn K (.ref C_Ring)=some (.type "type")) (dr_Ring:subIn K (.ref C_Ring) (.ref C_Ring)=some true)
  (vd:ExK K "NoTree" Zo) (ve:mroIn K Zo (.type "ValueError")=some true) (vf:hasDictIn K Zo=true) (vg:typeIn K (.ref Zo)=some (.type "type")) (vh:subIn K (.ref Zo) (.ref Zo)=some true)
  (VF:subIn K (.ref Zo) (.ref ZY)=some true)
  (Kl:subIn K (.ref Zo) (.ref XO)=some false)
  (Jg:subIn K (.ref Zo) (.ref C_NoNet)=some false)
  (ME:subIn K (.ref Zo) (.ref Xh)=some false)
  (MF:subIn K (.ref Zo) (.ref YD)=some false)
  (Km:subIn K (.ref Zo) (.ref Xi)=some false)
  (Nn:subIn K (.ref Zo) (.ref Yo)=some false)
  (Jh:subIn K (.ref Zo) (.ref C_Twice)=some false)
  (MG:subIn K (.ref Zo) (.ref Yv)=some false)
  (Kn:subIn K (.ref Zo) (.ref Xj)=some false)
  (Hf:subIn K (.ref Zo) (.ref C_Ring)=some false)
  (Ko:subIn K (.ref Zo) (.ref Zo)=some true)
  (AZ:typeIn K (.ref Zt)=some (.type "type")) (za:subIn K (.ref Zt) (.ref Zt)=some true)
  (Np:subIn K (.ref Zt) (.ref Zt)=some true)
  (Xx:findIn K (.ref C_Rule) "__init__" = some (some (.ref ZU))) (RO:isFn K (.ref ZU)=true) (Ji:K.lookup ZU=some ⟨vi,vj,.func (PySem.W.fnOf "__init__" "Rule.__init__" (XC YR) (Yc YR) (Zf YR) (.ref Sn) vm vn vo vp Kp vq),vt⟩) (Jj:PySem.W.codeIn K Kp "Rule.__init__" = true) (RP:keepIn K (.ref ZU)=true)
  (Kq:K.lookup Sn=some ⟨.type "tuple",vw,.seq ([.str "" YF,.none]:List Value).toArray dn_Rule___init__,dsl_Rule___init__⟩)
  (YL:findIn K (.ref Zt) "__init__" = some (some (.ref ZO))) (UE:isFn K (.ref ZO)=true) (Nq:K.lookup ZO=some ⟨CD,CF,.func (PySem.W.fnOf "__init__" "Grammar.__init__" (XC Ym) (Yc Ym) (Zf Ym) .none CG CH CI CJ Oc CK),CL⟩) (Nr:PySem.W.codeIn K Oc "Grammar.__init__" = true) (UF:keepIn K (.ref ZO)=true)
  (Rl:findIn K (.ref C_Cost) "takes" = some (some (.ref YV))) (Ec:isFn K (.ref YV)=true) (Ed:K.lookup YV=some ⟨qQ,qR,.func (PySem.W.fnOf "takes" "Cost.takes" (XC XY) (Yc XY) (Zf XY) .none qS qT qU qV HG qW),qX⟩) (Ee:PySem.W.codeIn K HG "Cost.takes" = true) (MH:keepIn K (.ref YV)=true)
  (Us:findIn K (.ref Yx) "takes" = some (some (.ref Ys))) (Hg:isFn K (.ref Ys)=true) (Hh:K.lookup Ys=some ⟨vK,vL,.func (PySem.W.fnOf "takes" "Chance.takes" (XC Xg) (Yc Xg) (Zf Xg) .none vM vN vO vP Jk vQ),vR⟩) (Hi:PySem.W.codeIn K Jk "Chance.takes" = true) (QN:keepIn K (.ref Ys)=true)
  (Kr:LkB K "common_divisor" WQ XZ Wb)
  (zb:LkB K "fraction" Ow SE SX)
  (zc:LkB K "scale_of" Ox SG SY)
  (Hj:LkB K "is_name_sign" Uh WG WH)
  (vx:LkB K "is_name" Lb QX Pq)
  (vy:LkB K "is_kind" Lc QY Pt)
  (vz:LkB K "is_word" Ld QZ Pu)
  (Cr:LkB K "are_parts" Ql UN UY)
  (Ef:LkB K "are_titles" SH VH VN)
  (UG:LkB K "check_weights_and_titles" YJ Yg Yh)
  (QO:LkB K "check_titles_under" XM YT YW)
  (HH:LkB K "check_kinds" Tw WY Vd)
  (HI:LkB K "check_rings" Tx WZ Ve)
  (Ks:LkB K "heads_in_order" WR Wa Wc)
  (Ct:LkB K "may_stand" Qn UO UZ)
  (zf:LkB K "rules_in" Oy SJ Rb)
  (Eg:LkB K "rule_fault" SK VI VO)
  (HJ:LkB K "seated_kids" TC Va Vf)
  (Cu:LkB K "counts_of" Qo UQ Ta)
  (HL:LkB K "check_trees" TF Vb Vg)
  (vA:LkB K "is_tree" Le Pa Pw)
  (qL:LkB K "learnt" IC NW Md)
  (qM:LkB K "taught" IE NY Mf)
  (HM:LkB K "taught_rule" TH Vc Vh)
  (h_l_at:LkB K "_law_at" BO Fw f_l_at)
  (h_l_mix:LkB K "_law_mix" Fx Jx f_l_mix)
  (vB:LkB K "_law_names" Lf Pg Px)
  (vC:LkB K "_law_kinds" Lg Ph Py)
  (vD:LkB K "_law_words" Lh Pj Pz)
  (zg:LkB K "_law_titles" Oz SL Re)
  (zh:LkB K "_law_lowest" OA SM Rf)
  (zi:LkB K "_law_weight" OB SN Rg)
  (vE:LkB K "_law_parts" Li Pk PB)
  (vF:LkB K "_law_rules" Lj Pl PC)
  (vG:LkB K "_law_grown" Lk Pm PD)
  (Cv:LkB K "_law_grammar" Qp UR Tb)
  (vH:LkB K "_law_edged" Ln Pn PF)
  (Jl:LkB K "_law_drawn_trees" Vz Wl Wm)
  (vI:LkB K "_law_start" Lp Pp PH)
  (Cw:LkB K "_law_counted" Qq UT Tc)
  (zj:LkB K "_law_counts" OG SR Rh)
  (qN:LkB K "_law_kept" IJ Ma Mg)
  (zk:LkB K "_law_taught" OH SU Ri)
  (Cy:LkB K "_law_is_tree" Qt UU Td)
  (zm:LkB K "_law_spoilt" OI SV Rj)
  (Cz:LkB K "_law_no_tree" Qu UW Te)
  (CA:LkB K "_law_refused" Qv UX Tf)
  (a_law:PySem.W.nsIn K mainGlobals "law" = some (some (.ref f_law))) (l_law:K.lookup f_law=some ⟨oc_law,od_law,.func (PySem.W.fnOf "law" "law" (XC Mb) (Yc Mb) (Zf Mb) .none kV_law dc_law pm_law an_law cd_law ct_law),sl_law⟩) (c_law:PySem.W.codeIn K cd_law "law" = true) (k_law:keepIn K (.ref f_law)=true) (Jm:PySem.W.nsIn K mainGlobals "SMALL_LETTERS" = some (some (.str Yw vS))) (Jn:PySem.W.nsIn K mainGlobals "GREAT_LETTERS" = some (some (.str ZL vT))) (vJ:PySem.W.nsIn K mainGlobals "FIGURES" = some (some (.str WT gw))) (Hk:PySem.W.nsIn K mainGlobals "LONGEST_NAME" = some (some (.int 12 qO))) (Eh:PySem.W.nsIn K mainGlobals "MOST_PARTS" = some (some (.int 4 mJ)))
  (z_tuple:PySem.W.nsIn K mainGlobals "tuple" = some none) (sr:PySem.W.nsIn K mainGlobals "abs" = some none) (yn:PySem.W.nsIn K mainGlobals "all" = some none) (Ei:PySem.W.nsIn K mainGlobals "isinstance" = some none) (sx:PySem.W.nsIn K mainGlobals "str" = some none) (z_len:PySem.W.nsIn K mainGlobals "len" = some none) (z_list:PySem.W.nsIn K mainGlobals "list" = some none) (z_set:PySem.W.nsIn K mainGlobals "set" = some none) (z_dict:PySem.W.nsIn K mainGlobals "dict" = some none) (z_zip:PySem.W.nsIn K mainGlobals "zip" = some none) (su:PySem.W.nsIn K mainGlobals "max" = some none) (z_range:PySem.W.nsIn K mainGlobals "range" = some none) (sv:PySem.W.nsIn K mainGlobals "int" = some none) (CB:PySem.W.nsIn K mainGlobals "enumerate" = some none) (rV:PySem.W.nsIn K mainGlobals "sum" = some none) (Ej:PySem.W.nsIn K mainGlobals "ValueError" = some none) :
  ∃ fd:FuncData,(∀ (s:Shared) (v:Value),BindsTo s fd ⟨[v],[]⟩ [("_law_script",v)])/\∀ base:Heap,K.In base->base.Ns mainGlobals mg->Zx l.prog w K mg base CX0 44 fa fd ["_law_script"] (yl K):=by
 have e:=hfa.symm.trans (mg_of X G a_law)
 cases e
 have YS:EG K "__init__" "Rule.__init__" YR ZU _ [.str "" YF,.none]:=⟨⟨_,_,_,_,_,_,_,_,_,Sn,_,_,rfl,Ji,Jj,Kq,rfl⟩,RP⟩
 have Jo:=YS.binds (ps:=["self", "title", "head", "parts", "weight", "tag", "under"]) (ds':=[]) λD o n kV doc pm an cdv ct s us hD ho hl=>match us,(show us.length=7 by simpa using hl) with | [_,_,_,_,_,_,_],_=>BindsTo.of_defaults rfl hD ho rfl rfl
 have Kt:=YS.binds (ps:=["self", "title", "head", "parts", "weight", "tag", "under"]) (ds':=[.none]) λD o n kV doc pm an cdv ct s us hD ho hl=>match us,(show us.length=6 by simpa using hl) with | [_,_,_,_,_,_],_=>BindsTo.of_defaults rfl hD ho rfl rfl
 have Ku:=YS.binds (ps:=["self", "title", "head", "parts", "weight", "tag", "under"]) (ds':=[.str "" YF,.none]) λD o n kV doc pm an cdv ct s us hD ho hl=>match us,(show us.length=5 by simpa using hl) with | [_,_,_,_,_],_=>BindsTo.of_defaults rfl hD ho rfl rfl
 have Xq:=MQ (st:=Ym) Nq Nr UF
 have Nt:=Xq.binds (ps:=["self", "scale", "start", "rules"]) λ_ _ _ _ _ _=>us4 λ_ _ _ _=>rfl
 have VP:=MQ (st:=XY) Ed Ee MH
 have Ek:=VP.binds (ps:=["self", "weight"]) λ_ _ _ _ _ _=>us2 λ_ _=>rfl
 have WL:=MQ (st:=Xg) Hh Hi QN
 have Hl:=WL.binds (ps:=["self", "weight"]) λ_ _ _ _ _ _=>us2 λ_ _=>rfl
 obtain ⟨WU,Wd⟩:=Kr.get X G
 obtain ⟨OJ,Rm⟩:=zb.get X G
 obtain ⟨OL,Rn⟩:=zc.get X G
 obtain ⟨Uq,WM⟩:=Hj.get X G
 obtain ⟨Lq,VV⟩:=vx.get X G
 obtain ⟨Lr,VW⟩:=vy.get X G
 obtain ⟨Ls,VX⟩:=vz.get X G
 obtain ⟨Qw,Tg⟩:=Cr.get X G
 obtain ⟨Ra,VQ⟩:=Ef.get X G
 obtain ⟨YK,Yi⟩:=UG.get X G
 obtain ⟨XQ,YX⟩:=QO.get X G
 obtain ⟨TJ,Vi⟩:=HH.get X G
 obtain ⟨TN,Vj⟩:=HI.get X G
 obtain ⟨WV,We⟩:=Ks.get X G
 obtain ⟨Qx,Th⟩:=Ct.get X G
 obtain ⟨OM,Ro⟩:=zf.get X G
 obtain ⟨Rc,VR⟩:=Eg.get X G
 obtain ⟨TQ,Vk⟩:=HJ.get X G
 obtain ⟨Qy,Vr⟩:=Cu.get X G
 obtain ⟨TR,Vl⟩:=HL.get X G
 obtain ⟨Lw,PJ⟩:=vA.get X G
 obtain ⟨IK,QH⟩:=qL.get X G
 obtain ⟨IL,QI⟩:=qM.get X G
 obtain ⟨TU,Vm⟩:=HM.get X G
 obtain ⟨d_l_at,L_l_at⟩:=h_l_at.get X G
 obtain ⟨d_l_mix,L_l_mix⟩:=h_l_mix.get X G
 obtain ⟨Lx,VY⟩:=vB.get X G
 obtain ⟨Ly,PK⟩:=vC.get X G
 obtain ⟨Lz,PL⟩:=vD.get X G
 obtain ⟨OO,Rq⟩:=zg.get X G
 obtain ⟨OQ,Ut⟩:=zh.get X G
 obtain ⟨OS,Uu⟩:=zi.get X G
 obtain ⟨LA,PN⟩:=vE.get X G
 obtain ⟨LD,PQ⟩:=vF.get X G
 obtain ⟨LI,Wf⟩:=vG.get X G
 obtain ⟨Qz,Ti⟩:=Cv.get X G
 obtain ⟨LJ,Wg⟩:=vH.get X G
 obtain ⟨VA,Wn⟩:=Jl.get X G
 obtain ⟨LK,PR⟩:=vI.get X G
 obtain ⟨QB,YY⟩:=Cw.get X G
 obtain ⟨OT,Rr⟩:=zj.get X G
 obtain ⟨IM,Mo⟩:=qN.get X G
 obtain ⟨OU,Rt⟩:=zk.get X G
 obtain ⟨QC,Vs⟩:=Cy.get X G
 obtain ⟨OV,Uv⟩:=zm.get X G
 obtain ⟨QD,Tj⟩:=Cz.get X G
 obtain ⟨QF,Tn⟩:=CA.get X G
 have F_law:=MQ (st:=Mb) l_law c_law k_law
 have b_law:=F_law.binds (ps:=["_law_script"]) λ_ _ _ _ _ _=>us1 λ_=>rfl
 have T:Txt K mg ⟨ZY,XO,C_NoNet,Xh,YD,Xi,Yo,C_Twice,Yv,Xj,C_Ring,Zo,C_Cost,Yx,C_Rule,Zt,ZU,_,ZO,_,YV,_,Ys,_,Wb,_,SX,_,SY,_,WH,_,Pq,_,Pt,_,Pu,_,UY,_,VN,_,Yh,_,YW,_,Vd,_,Ve,_,Wc,_,UZ,_,Rb,_,VO,_,Vf,_,Ta,_,Vg,_,Pw,_,Md,_,Mf,_,Vh,_,f_l_at,_,f_l_mix,_,Px,_,Py,_,Pz,_,Re,_,Rf,_,Rg,_,PB,_,PC,_,PD,_,Tb,_,PF,_,Wm,_,PH,_,Tc,_,Rh,_,Mg,_,Ri,_,Td,_,Rj,_,Te,_,Tf,_,f_law,_,YF⟩:=⟨⟨pg_Cost,hd_Cost,po_Cost,sa_Cost⟩,mg_of X G aC_Cost,⟨mk_Cost,in_Cost,kc_Cost⟩,⟨wG,wH,wI,wJ⟩,mg_of X G wF,⟨LL,wK,wL⟩,⟨pg_Rule,hd_Rule,po_Rule,sa_Rule⟩,mg_of X G aC_Rule,⟨mk_Rule,Xx,RO,kc_Rule⟩,HD,FU,HE,Hd,Cj,HF,⟨AA,He,AB,AD⟩,mg_of X G Az,⟨Rk,YL,UE,AF⟩,Ki,Kj,Kk,⟨ha_Grammar,hn_Grammar,AG,hm_Grammar⟩,mg_of X G FV,mg_of X G wM,mg_of X G aC_NoNet,mg_of X G AH,AO.get X G,wU.get X G,Ck.get X G,xk_Twice.get X G,AV.get X G,wY.get X G,xk_Ring.get X G,vd.get X G,⟨FW,FX,FY⟩,VF,XU FZ Ea VF Eb,XU wN wO Kl wR,XU dd_NoNet dt_NoNet Jg dr_NoNet,XU AI AJ ME AK,XU AQ AR MF AU,XU wV wW Km wX,XU Cm Cp Nn Cq,XU dd_Twice dt_Twice Jh dr_Twice,XU AW AX MG AY,XU wZ vb Kn vc,XU dd_Ring dt_Ring Hf dr_Ring,XU vf vg Ko vh,uS rfl ve,XU He AZ Np za,YS,Kt,Ku,⟨Xx,RO,RP⟩,Jo,Xq,⟨YL,UE,UF⟩,Nt,VP,⟨Rl,Ec,MH⟩,Ek,WL,⟨Us,Hg,QN⟩,Hl,Wd,Rm,Rn,WM,VV,VW,VX,Tg,VQ,Yi,YX,Vi,Vj,We,Th,Ro,VR,Vk,Vr,Vl,PJ,QH,QI,Vm,L_l_at,L_l_mix,VY,PK,PL,Rq,Ut,Uu,PN,PQ,Wf,Ti,Wg,Wn,PR,YY,Rr,Mo,Rt,Vs,Uv,Tj,Tn,⟨F_law,mg_of X G a_law,b_law⟩,⟨_,mg_of X G Jm⟩,⟨_,mg_of X G Jn⟩,⟨_,mg_of X G vJ⟩,⟨_,mg_of X G Hk⟩,⟨_,mg_of X G Eh⟩,mg_none_of X G z_tuple,mg_none_of X G sr,mg_none_of X G yn,mg_none_of X G Ei,mg_none_of X G sx,mg_none_of X G z_len,mg_none_of X G z_list,mg_none_of X G z_set,mg_none_of X G z_dict,mg_none_of X G z_zip,mg_none_of X G su,mg_none_of X G z_range,mg_none_of X G sv,mg_none_of X G CB,mg_none_of X G rV,mg_none_of X G Ej⟩
 exact ⟨PySem.W.fnOf "law" "law" (XC Mb) (Yc Mb) (Zf Mb) .none kV_law dc_law pm_law an_law cd_law ct_law,λs v => .of_eq rfl,λbase _ _=>(gv T).law⟩
theorem walk {l:PySem.W.OpenLaw}{q:Program}{loose:List Str}{XP:(Str->Option Value)->Heap->Prop}{YP:World->Heap->Prop}{d:DefRec}{K:Params->aj}(hn:l.most=some 63) (hdf:d.params.defaults=[])
  (hY:∀ (w:World) (h:Heap),YP w h->(K w.params).In h)
  (F:∀ (w:World) (mg:Str->Option Value) (fa:Addr) (h:Heap),(K w.params).In h->h.Ns mainGlobals mg->mg d.name=some (.ref fa) ->
   ∃ fd:FuncData,(∀ (s:Shared) (u:Value),BindsTo s fd ⟨[u],[]⟩ [("_law_script",u)])/\∀ base:Heap,(K w.params).In base->base.Ns mainGlobals mg->Zx l.prog w (K w.params) mg base CX0 44 fa fd ["_law_script"] (yl (K w.params))) :
  PySem.W.WalkO q loose XP YP l.row.toRowW d [] (λf vs=>PySem.call f vs) :=
 L2.zI (n:=63) (k:=44) (x := "_law_script") (CX:=λ_=>CX0) (sp:=λw=>yl (K w.params)) hn (by decide) hdf ⟨rfl,by decide,by decide⟩ hY F (λ_ _ a ns hl _ hS=>⟨a,ns,rfl,hS,hl,λ_=>rfl⟩) λ_ _ _ _ _ z=>z
end My
local macro_rules | `(tactic| walk_at "lk") => `(tactic| (refine' L2.iV ?a ?l ?c ?k ?b; (case a => k_is); (case l => k_is); (case c => k_is); (case k => k_is); (case b => (intro _ _ _ _ _ _; first | (refine L2.us1 λ_ => ?_; rfl) | (refine L2.us2 λ_ _ => ?_; rfl) | (refine L2.us3 λ_ _ _ => ?_; rfl) | (refine L2.us4 λ_ _ _ _ => ?_; rfl) | (refine L2.us5 λ_ _ _ _ _ => ?_; rfl) | (refine L2.us6 λ_ _ _ _ _ _ => ?_; rfl)))))
local macro_rules | `(tactic| walk_at "xk") => `(tactic| (refine' L2.iW ?a ?b ?c ?d ?e ?f ?g ?h; (case a => k_is); (case b => k_exc); (case c => k_is); (case d => k_is); (case e => k_is); (case f => k_is); (case g => k_is); (case h => k_is)))
namespace PySem.W.Fast
def tw17362385319821538407:=0
def tw4239396176934509787:=0
def tw5297533276994629696:=0
def tw16998648189590701824:=0
def tw15285961016518809671:=0
def tw1111502756715854718:=0
def tw10797968433872811104:=0
def tw15563213205431609657:=0
def tw7303982750146572474:=0
def tw12829510608835759178:=0
def tw3965066594670547786:=0
def tw15617970224725728085:=0
def tw17066389215348985169:=0
def tw14815022090054999773:=0
def tw6301585620282904885:=0
def tw17875457162034766415:=0
def tw11943766125484716199:=0
def tw8318638035584300595:=0
def tw3584959510284533895:=0
def tw9141019337552610619:=0
def tw16793330328673320785:=0
def tw18409876475260581625:=0
def tw8595519234435670326:=0
def tw11507062398058692704:=0
def tw8300018054859021070:=0
def tw4885027707105527552:=0
def tw7779925821250181624:=0
def tw7272525141585250774:=0
def tw2779851862852478651:=0
def tw16563297220768883334:=0
def tw1427590844209881946:=0
def tw976367797232593504:=0
def tw13964984043686100193:=0
def tw3493443311068852992:=0
def tw747905833168712298:=0
def tw171717580928770793:=0
def tw17652752861083341680:=0
def tw16935372959060844539:=0
def tw16547344995673595087:=0
def tw13020873148773753366:=0
def tw14702855262138385594:=0
def tw2439083553180111128:=0
def tw4975564828301381815:=0
def tw13657239783939201501:=0
def tw17004593736221411906:=0
def tw9506606527211720086:=0
def tw12255385802954615340:=0
def tw2514750023499377086:=0
def tw11476800338802125117:=0
def tw3773812118365598347:=0
def tw6533593192963752382:=0
def tw10222928179363446168:=0
def tw6125736205107248130:=0
def tw13080860966295183779:=0
def tw10582303653237622268:=0
def tw16178543209216056824:=0
def tw8735856480089499708:=0
def tw1675343737563103525:=0
def tw9918875993601213604:=0
def tw15766459257094653946:=0
def tw5389515909141153839:=0
def tw17262258993840484961:=0
def tw310750577586104739:=0
def tw2179668477102510469:=0
def tw10114609885717817097:=0
def tw2794215983768124407:=0
def tw1849218407193690576:=0
def tw16706027888501833261:=0
def tw16922579641698019077:=0
def tw14170645153368104492:=0
def tw13458272429518719193:=0
def tw1783560047078357450:=0
def tw16685421682629922331:=0
def tw4303266236733284271:=0
def tw16527885024696157240:=0
def tw2588092620047988570:=0
def tw8966674228483408939:=0
def tw16013333564116828502:=0
def tw8631934102403559740:=0
def tw9248014000073297065:=0
def tw6420384405723149762:=0
def tw4923316625383252206:=0
def tw3368120410524699370:=0
def tw8959384370119781339:=0
def tw6802598692787208430:=0
def tw10261634661618539859:=0
def tw6416700399996409828:=0
def tw9377343668617181094:=0
def tw11747253050604021336:=0
def tw11163966236541735709:=0
def tw11680922448560264758:=0
def tw275918489407688314:=0
def tw730872212937237981:=0
def tw6023361559172558172:=0
def tw16431031475982639396:=0
def tw388609225123265063:=0
def tw8900897796451993334:=0
def tw9525085117463710071:=0
def tw15012930334138614238:=0
def tw3606842114149453332:=0
def tw3416257555562705646:=0
def tw6425053117026170746:=0
def tw15377623292037740035:=0
def tw18127478619312484762:=0
def tw9284458745577555258:=0
def tw12139585052859051315:=0
def tw6259281206004143395:=0
def tw3523785616958646748:=0
def tw14477493191305769564:=0
def tw1257039751089722089:=0
def tw4089591060972732249:=0
def tw10155516581161240359:=0
def tw18214754334737893766:=0
def tw13094501261578778521:=0
def tw1183019647033439176:=0
def tw2933591375472263535:=0
def tw742154580499532815:=0
def tw18427424098734303815:=0
def tw10240916607916794389:=0
def tw14025692358237989102:=0
def tw10485817778275240993:=0
def tw17530861054507167751:=0
def tw7466083332504917545:=0
def tw4991407265836272783:=0
def tw5630616082542609147:=0
def tw15768641862904919651:=0
def tw14803355930534853219:=0
def tw13597577280878324400:=0
def tw9541693102412448452:=0
def tw17403802595991241880:=0
def tw5697093153413045888:=0
def tw3145589199980663009:=0
def tw13497803156485272764:=0
def tw257886613018105610:=0
def tw6731649628209304614:=0
def tw2471016461682235764:=0
def tw11305333687641468836:=0
def tw10501760364494060256:=0
def tw11503129684394259196:=0
def tw2508386161204923448:=0
def tw2492177502791777604:=0
def tw11978522145474741762:=0
def tw12792718064034028178:=0
def tw4449934405038265470:=0
def tw4086255487239698438:=0
def tw8304910053507823186:=0
def tw8602820166620111342:=0
def tw17105850309895925192:=0
def tw8743030624240441642:=0
def tw14830881244846371889:=0
def tw10071441480129945669:=0
def tw3512975006322057913:=0
def tw11175877809915541275:=0
def tw12232758158998962205:=0
def tw537701678351764472:=0
def tw11777574086318789300:=0
def tw10404226373948843411:=0
def tw11682934458188029888:=0
def tw3315999266137254796:=0
def tw16883611826204870736:=0
def tw944716368906339393:=0
def tw12573871047753001199:=0
def tw13743167309165554315:=0
def tw12744228792870388803:=0
def tw12263062390172282530:=0
def tw6183679323737020079:=0
def tw7477428345534109015:=0
def tw15705906253206862904:=0
def tw8643144316334601864:=0
def tw5077513764261814695:=0
def tw1039343945357367240:=0
def tw223945162654681224:=0
def tw14722802172345078722:=0
def tw15614053165729415120:=0
def tw2947598426003950973:=0
def tw9549191384028400387:=0
def tw13761910780891082083:=0
def tw15850398896299888419:=0
def tw3011475371256115305:=0
def tw2675277271761400231:=0
def tw14193746584105168022:=0
def tw12714185591711250349:=0
def tw11916795104783408197:=0
def tw5247233964867962470:=0
def tw16847177039429547938:=0
def tw5970222218506976456:=0
def tw9348491260810730307:=0
def tw15118206868066128003:=0
def tw12419257407769403067:=0
def tw5283074891227453402:=0
def tw7140481111753746321:=0
def tw12135688465505437935:=0
def tw1786931742735632187:=0
def tw9197959452761160105:=0
def tw4299391196578662381:=0
def tw9624972410567806055:=0
def tw7036524911749952213:=0
def tw4452392050961512521:=0
def tw9968352190136903506:=0
def tw16318270983431134566:=0
def tw14510557536451953119:=0
def tw5851410357484098231:=0
def tw14092001436457708649:=0
def tw14591979002161720838:=0
def tw6966121968361479779:=0
def tw624949425811536507:=0
def tw12476118963417081484:=0
def tw15055566607043769428:=0
def tw13709609337245317411:=0
def tw8363000487546594127:=0
def tw2332171072618329768:=0
def tw11984361767222400721:=0
def tw8123274171825839457:=0
def tw8961932153981812984:=0
def tw16553914958632052658:=0
def tw5100094209214918881:=0
def tw6764255252281752238:=0
def tw17727323493589668179:=0
def tw1861735090776154762:=0
def tw819340138268859611:=0
def tw17517842592168113820:=0
def tw16176762852798451210:=0
def tw15476625598567015931:=0
def tw4559462644246524631:=0
def tw5964068146785888262:=0
def tw12903213644753920318:=0
def tw107708237031700490:=0
def tw8294574118073679909:=0
def tw14295967532285320143:=0
def tw7195010172750472148:=0
def tw4408176145671817422:=0
def tw12542404943026298400:=0
def tw9191395588310164604:=0
def tw12020686286511449966:=0
def tw6494814960291771354:=0
def tw4229919855138208340:=0
def tw1050215503584992978:=0
def tw1063527288375139203:=0
def tw4961117682569975521:=0
def tw7789104678657654109:=0
def tw14043020154838289314:=0
def tw16999789570432264863:=0
def tw13855583943636229976:=0
def tw13205274965190471449:=0
def tw16022242164798062346:=0
def tw7277416482065181376:=0
def tw9641950695746481657:=0
def tw9246442813728735240:=0
def tw3255469794757374888:=0
def tw14112390677044395346:=0
def tw7701852718753188590:=0
def tw18238420455734933558:=0
def tw301266804746530629:=0
def tw5994910873498035126:=0
def tw12153968847137009709:=0
def tw16636250878421861728:=0
def tw15391916945409246881:=0
def tw6321485550533577894:=0
def tw7717387925844200657:=0
def tw5793721983838289035:=0
def tw4775693689342647604:=0
def tw7669111463659337707:=0
def tw4722091721150271234:=0
def tw12025201504435209158:=0
def tw2173265080995178855:=0
def tw1218942687740335318:=0
def tw4918420805032519452:=0
def tw12145560301015977353:=0
def tw1283767191399131913:=0
def tw3011000709961951173:=0
def tw12969060766342025803:=0
def tw13100923704029084893:=0
def tw10270462588172912748:=0
def tw12521337117228763546:=0
def tw5790884604503648293:=0
def tw1827834822356004299:=0
def tw3101356414769910391:=0
def tw3001352211943044878:=0
def tw8880330470448144057:=0
def tw2818955615470715884:=0
def tw4910182776760557117:=0
def tw16608072842682130291:=0
def tw14668026547514776495:=0
def tw13642169213636679402:=0
def tw13226036880582205359:=0
def tw11264600375184597260:=0
def tw5203955330761423673:=0
def tw16922626728788666414:=0
def tw14112670162354170532:=0
def tw16392547668055176260:=0
def tw14058827467539659796:=0
def tw12938175161279822276:=0
def tw7146680071808923928:=0
def tw16863861681225093606:=0
def tw14890225073902269938:=0
def tw196238911025295968:=0
def tw7823016320601345343:=0
def tw2754810683852708541:=0
def tw4432384935540736273:=0
def tw10408898472220514384:=0
def tw7114793575332416494:=0
def tw7675356361625980135:=0
def tw3290472984121756681:=0
def tw7980141080678522683:=0
def tw2506671128567497608:=0
def tw5403395992014859142:=0
def tw17789796997764546268:=0
def tw15232104856810011863:=0
def tw17551963055114082617:=0
def tw17576358935797248983:=0
def tw13618234519661153825:=0
def tw9773516462481553746:=0
def tw17275650267285463401:=0
def tw2587179438844151928:=0
def tw17143138939652685046:=0
def tw15438331426149325827:=0
def tw10009991154225933175:=0
def tw6629554548774872148:=0
def tw15050897763831492253:=0
def tw1362402319120245965:=0
def tw17597695910177914283:=0
def tw14715083310805011158:=0
def tw11938704023547720011:=0
def tw374788731172820305:=0
def tw3931997560911646636:=0
def tw17310721591575064652:=0
def tw10919184545306015593:=0
def tw16647101652909213502:=0
def tw15223005390846952136:=0
def tw3990547378897165133:=0
def tw11246340711337544279:=0
def tw10789419867341869402:=0
def tw15683722969810351895:=0
def tw11243840666790721159:=0
def tw13040461047679436655:=0
def tw1816225515044533384:=0
def tw4659488384842295503:=0
def tw2528165860149413032:=0
def tw5253646005085715273:=0
def tw8968350939233706120:=0
def tw11880221271435135965:=0
def tw18195887108192757472:=0
def tw4340096884967678405:=0
def tw790704399252839882:=0
def tw864766424940509327:=0
def tw16437140689277978930:=0
def tw14097824601980501386:=0
def tw18234456302332160506:=0
def tw2270473277861662163:=0
def tw1830067990545818540:=0
def tw16123994097375885111:=0
def tw9802832227928352936:=0
def tw9173827818406860623:=0
def tw12579022267483846033:=0
def tw18168917435807269887:=0
def tw9780698835507834878:=0
def tw12559889653074617237:=0
def tw14735120298705595177:=0
def tw12695015154266528899:=0
def tw14263165228921148327:=0
def tw18218127002349378787:=0
def tw5577166455892414894:=0
def tw13627331984615840910:=0
def tw14418434758540270429:=0
def tw414315324236268122:=0
def tw10843503057361887308:=0
def tw15038780708233587267:=0
def tw459064717309780943:=0
def tw12929898341117448116:=0
def tw14390888437145968130:=0
def tw14744952496799398894:=0
def tw17682740515953708033:=0
def tw1948822065549248204:=0
def tw15392372299947944570:=0
def tw9795456465015238581:=0
def tw13416948103836405936:=0
def tw13521556672632036180:=0
def tw7811606464107819398:=0
def tw2056568932003742932:=0
def tw17411138152812437987:=0
def tw10854892437373664840:=0
def tw5834457606298606822:=0
def tw15386294608580954397:=0
def tw17748559679032709040:=0
def tw13051406209242886018:=0
def tw10617875284479630833:=0
def tw12436693141975453044:=0
def tw2497379773534758702:=0
def tw1515798450268703227:=0
def tw12344225313152280893:=0
def tw596814574712094727:=0
def tw7636999894361178810:=0
def tw16888086843710964853:=0
def tw4894038398389957653:=0
def tw13107581586872702550:=0
def tw5302474602237419127:=0
def tw1714720273604586723:=0
def tw9927541537135734670:=0
def tw5106713795125458260:=0
def tw9243797154805166293:=0
def tw8422240478378757565:=0
def tw17026467128223701881:=0
def tw17857914986189912831:=0
def tw3763956249738789054:=0
def tw11060663121017658007:=0
def tw4481039232636170470:=0
def tw14497244402624877097:=0
def tw16512441367039904246:=0
def tw12556610984751755710:=0
def tw4348732319396841677:=0
def tw18242195987876736577:=0
def tw221463180668025290:=0
def tw14929544671043875268:=0
def tw14209081909229397252:=0
def tw8325409443386847880:=0
def tw8227086080061473684:=0
def tw17339006728462028578:=0
def tw14422622846836223266:=0
def tw16992987681132015371:=0
def tw8205619808688134673:=0
def tw5818912966308006652:=0
def tw14026904186260239926:=0
def tw14552078595617933599:=0
def tw17397725304726941145:=0
def tw9839840005417545753:=0
def tw18013330914926543334:=0
def tw5821939939917990388:=0
def tw14236341653056787579:=0
def tw5584519256862869099:=0
def tw6937850211485210444:=0
def tw1743797342197935285:=0
def tw7541574729223045679:=0
def tw14276247230491543182:=0
def tw10899809936999898114:=0
def tw17695746689183592675:=0
def tw15624364726428355617:=0
def tw10742657828044288633:=0
def tw13342480887484462143:=0
def tw14801987536777260086:=0
def tw7770573669146631243:=0
def tw3250907327958109304:=0
def tw310308784018609005:=0
def tw17093175043693580389:=0
def tw9572184745644291626:=0
def tw15083563602193803935:=0
def tw11744511071222819269:=0
def tw16173086647888210810:=0
def tw142498930989142591:=0
def tw17936996375839020732:=0
def tw4329461472648302556:=0
def tw275549779461883491:=0
def tw17855133214804677835:=0
def tw2895012182639014970:=0
def tw790231647278092150:=0
def tw6724048226998682226:=0
def tw4497808439428344975:=0
def tw17287785340078557566:=0
def tw2184164270039489847:=0
def tw10546489535526345450:=0
def tw17362160056707045880:=0
def tw543834737436291974:=0
def tw318192532652671516:=0
def tw9898970184092690545:=0
def tw8769060435217876444:=0
def tw2422078000266620409:=0
def tw2137686284523675214:=0
def tw4009187991501791952:=0
def tw13656943385660991527:=0
def tw5550434855827333696:=0
def tw3188527948180259696:=0
def tw15239932761574086075:=0
def tw8329446403393489975:=0
def tw3480881851871830418:=0
def tw12411446140603741831:=0
def tw8010210097350913944:=0
def tw17999744765649575521:=0
def tw3013260085844306310:=0
def tw3626195109013637158:=0
def tw10982746054555958901:=0
def tw1234823010627768148:=0
def tw10252989138309173898:=0
def tw2853201008959565428:=0
def tw803140078180483598:=0
def tw1481202899619678638:=0
def tw13604838674070593436:=0
def tw5733705942037115966:=0
def tw5413547245177714253:=0
def tw6075076971450638820:=0
def tw10627514867358489474:=0
def tw105460761561557268:=0
def tw5959874303417743478:=0
def tw15941971413069713130:=0
def tw13127808639546341540:=0
def tw9266102110003721760:=0
def tw1573150910752470373:=0
def tw16085255311239369623:=0
def tw17265370536279755561:=0
def tw1900347625165785502:=0
def tw10076042480667888211:=0
def tw13855133990106550668:=0
def tw2340440995004232441:=0
def tw10602761984265223232:=0
def tw9868404970501843423:=0
def tw7647370611741069180:=0
def tw7936695543457091140:=0
def tw18071228439111887405:=0
def tw13328488067202558324:=0
def tw11688580399817355595:=0
def tw3602641332545264571:=0
def tw3997654393214476921:=0
def tw1790113610688400963:=0
def tw5456451713223371160:=0
def tw5570895568667546292:=0
def tw8109815579466141765:=0
def tw3920232009811089245:=0
def tw11923972593829095763:=0
def tw2932338207521081443:=0
def tw13108740191759188975:=0
def tw5016785847035393303:=0
def tw2894474207009460126:=0
def tw11211238861457939185:=0
def tw9824518640866850354:=0
def tw16591817743042350629:=0
def tw2033898611175637267:=0
def tw4332052918826490537:=0
def tw4367127398381494415:=0
def tw10266235981041885939:=0
def tw9311865516689335584:=0
def tw8456776469815815417:=0
def tw10587678495320242292:=0
def tw13491081970995636479:=0
def tw10227252692129324951:=0
def tw7191798476348126896:=0
def tw17551405550495384674:=0
def tw16416560743592281174:=0
def tw17816082585836874087:=0
def tw11296113815465889938:=0
def tw7294483240521437919:=0
def tw9136957451537526013:=0
def tw16221533941800818202:=0
def tw1165635628325087259:=0
def tw16913135295475412356:=0
def tw14803531804562660250:=0
def tw2401521435852614523:=0
def tw1724995718563750586:=0
def tw11017775384470160127:=0
def tw10622810146703165998:=0
def tw12877076173168385585:=0
def tw3412940003491256764:=0
def tw3687799890824444581:=0
def tw18399629727230551199:=0
def tw2418123789389666154:=0
def tw12086406485629057934:=0
def tw4504955537890509887:=0
def tw8813592598622021575:=0
def tw9049813015882919049:=0
def tw4462706889550688810:=0
def tw9379632785738376578:=0
def tw17600875008577261256:=0
def tw1495459011930125120:=0
def tw4639545062459033247:=0
def tw13219083181938771594:=0
def tw6557710775276394264:=0
def tw471716557568765566:=0
def tw1437738099177270430:=0
def tw13420138316763258117:=0
def tw2641021855586745329:=0
def tw4109521551272747575:=0
def tw7777867179250897158:=0
def tw7011427066108667735:=0
def tw4684159218069465337:=0
def tw2992214596400679631:=0
def tw12078339994661504021:=0
def tw8802157227850023018:=0
def tw13883827562897561857:=0
def tw1520725011574188021:=0
def tw14608637379624745920:=0
def tw18071448524927733890:=0
def tw11061520245228465914:=0
def tw6123921867187131689:=0
def tw14950804410651824045:=0
def tw2447139673519094552:=0
def tw8235734875246929554:=0
def tw13052190553615000672:=0
def tw2724669375447713996:=0
def tw9033845118207244250:=0
def tw4325005853252507621:=0
def tw11768441724741844530:=0
def tw6066405884588466109:=0
def tw11013664157369636127:=0
def tw18216327877983683973:=0
def tw15017544977198677477:=0
def tw6962811887520246430:=0
def tw6020322365713487164:=0
def tw3805364877435146882:=0
def tw1744350549930340052:=0
def tw16769830981037321392:=0
def tw1453803092922908035:=0
def tw10932857256155839613:=0
def tw7741315936732643488:=0
def tw5472839510244591593:=0
def tw4013191581012525969:=0
def tw2888934987277956219:=0
def tw11162719304366022177:=0
def tw5689066484573789153:=0
def tw10673794438882409064:=0
def tw6761337223934508742:=0
def tw16036401155056505518:=0
def tw8160066515405884877:=0
def tw7986178019572857383:=0
def tw12832120482202030351:=0
def tw4666473730037076121:=0
def tw10014808758127695093:=0
def tw18388362957213154583:=0
def tw581311989864859475:=0
def tw16917628676247235486:=0
def tw16526074597628372984:=0
def tw3675280635620071695:=0
def tw16970401126849161468:=0
def tw11359985443402125270:=0
def tw11070443382254290165:=0
def tw15738141614837660412:=0
def tw15962398608000721048:=0
def tw16657181115700991858:=0
def tw5539058090970882393:=0
def tw17698911760328201115:=0
def tw11037229347521861809:=0
def tw4752605407933083884:=0
def tw15822286903848102800:=0
def tw5814971393571745280:=0
def tw10884307749303776990:=0
def tw18224709790589919663:=0
def tw13204155886351457954:=0
def tw5534195779693952617:=0
def tw380633467828017184:=0
def tw15717408376238925342:=0
def tw6551083733613642381:=0
def tw9116191979626685500:=0
def tw4988150866649547556:=0
def tw2080348858079839135:=0
def tw4825273911863863709:=0
def tw10116681699251306880:=0
def tw5241397711378059993:=0
def tw2064137306063228554:=0
def tw5522477462423576015:=0
def tw11422734208438275466:=0
def tw10049340144937743900:=0
def tw8361678155120493340:=0
def tw1452921413365985286:=0
def tw3759597482655875235:=0
def tw8790306972497044571:=0
def tw3754834666579585191:=0
def tw7547292381169500503:=0
def tw1726532618735223111:=0
def tw4560724315326505054:=0
def tw14065916440050264718:=0
def tw5600957431812084212:=0
def tw6840160816234712730:=0
def tw3495951650113690191:=0
def tw16158585179037300876:=0
def tw6648820658058091598:=0
def tw2332921314045080536:=0
def tw11619315091729521918:=0
def tw6657366240302209338:=0
def tw17083067170729200125:=0
def tw7942090273014838545:=0
def tw6925802605441367630:=0
def tw2692145522326677581:=0
def tw868394330577087183:=0
def tw10038415310491562852:=0
def tw11133666334406784254:=0
def tw9935048218735957651:=0
def tw16465254094930948666:=0
def tw13870736922352710091:=0
def tw7788333434911685714:=0
def tw4700701436940044982:=0
def tw2047699385352143813:=0
def tw15116747502679369827:=0
def tw8555954774996658570:=0
def tw894705915546955889:=0
def tw967166515629430609:=0
def tw9862453867485592895:=0
def tw17748602026974886802:=0
def tw15551201953591178473:=0
def tw5677958968295299272:=0
def tw5245839411250015055:=0
def tw7809177968120729590:=0
def tw7668140920798966086:=0
def tw10904855679795137131:=0
def tw17952174178645247919:=0
def tw9554607499012248512:=0
def tw6856000178823851421:=0
end PySem.W.Fast
open PySem PySem.W PyProof.Rows
set_option maxRecDepth 100000 in
set_option maxHeartbeats 0 in
theorem PySem.Challenge.cw_kbestwood_k46_grammars_taught_holds : PySem.Challenge.rw_kbestwood_k46_grammars_taught.Holds := by
  w_on; o_law; k_head; (case hw => w_witness2)
  k_fill
  refine My.walk (l := PySem.Challenge.rw_kbestwood_k46_grammars_taught) rfl rfl (fun w h Y => PySem.W.kIn_of Y) ?F
  case F =>
    intro w mg fa h KX G hmg
    refine' My.all_mk KX G hmg ..
    all_goals try first | k_is | walk_at "xk" | walk_at "lk"
