import PyProof.Rows.All
import Wide.All
import OpenK.AllK
import Wide.FinOn
import Lean
import PyProof.EqAt
import PyProof.EqKinds
import PyProof.TupleCall
import PyProof.NeKinds
import PyProof.EnumFor
import PyProof.EnumMake
import PyProof.NsDelKeeps
import OpenK.KOwn
import KE.KIsBytes
import PyProof.CompFree
import PyProof.StrWalks
import PyProof.ConsumeWalk
import PyProof.StrBlockI
import KE.KRevIter
import KE.KDictList
import PyProof.ZipIter
import KE.KIntText
import PySem.Challenge.RW_kbestwood_k22_the_first_fault
set_option Elab.async false
set_option linter.all false
set_option maxRecDepth 100000
set_option maxHeartbeats 4000000
open PySem.W (instObj methodObj hideAll lookIn plainGet hasDictIn findIn plainGet_of isFn plainOver takerIn Looks makesIn typeIn emptyDict makes_of looks_findIn keepIn takesIn mroIn kitOne kia_one kitx_list mg_of subIn kitCls callWith_K excIn nsOkIn isClsIn clsIn kitAny kia_tup mg_none_of)
open List (mem_filter mem_range filterMap_cons mem_cons_self mem_cons_of_mem mem_cons mem_append mem_append_left getElem?_set_ne mem_append_right size_toArray length_cons map_cons length_map append_nil nodup_cons of_mem_zip replicate length length_take getElem?_append_right getElem?_replicate getElem?_append_left getElem?_map mem_of_getElem? length_append length_replicate length_drop length_set all_cons any_cons replicate_succ flatten_cons foldl append_assoc foldl_cons all_eq_true lookup_cons forIn_cons all_map sum_cons mem_of_mem_take cons_append any_map not_mem_nil drop_eq_getElem_cons map_map length_range filter_cons take_length take_add_one mem_singleton length_nil length_zip idxOf_lt_length_of_mem getElem_idxOf getD_eq_getElem?_getD Nodup mem_map map_append map_congr_left getElem_mem map_take)
open PySem.W renaming Frag→aj
open PySem renaming wpAny_bind→ak
open PySem renaming wpAny_pure→ao
open PySem.Heap renaming get?_push_of_some→aq
open PySem.Heap renaming get?_push_size→au
open PySem.Heap renaming lt_size→az
open PySem renaming sizeLine→aA
open List renaming getElem?_eq_getElem→aC
open Bool renaming false_ne_true→aD
open Bool renaming and_eq_true→aF
def auR:Lean.Syntax:=.node .none `Lean.Parser.Tactic.tacticSeq #[.node .none `Lean.Parser.Tactic.tacticSeq1Indented #[.node .none `null #[.node .none `Lean.Parser.Tactic.tacticRfl #[.atom .none "rfl"]]]]
def auD:Lean.Syntax:=.node .none `Lean.Parser.Tactic.tacticSeq #[.node .none `Lean.Parser.Tactic.tacticSeq1Indented #[.node .none `null #[.node .none `Lean.Parser.Tactic.decide #[.atom .none "decide",.node .none `Lean.Parser.Tactic.optConfig #[.node .none `null #[]]]]]]
noncomputable section
namespace L2
open PySem PySem.Spec PyProof.Rows
abbrev Key:=Sum Int Str
noncomputable def TN:Key->Value->Bool
 | .inl k,v=>Value.isInt k v
 | .inr x,v=>Value.isStrOf x v
noncomputable def keyH (w:World):Key->Int
 | .inl k=>hashInt k
 | .inr x=>hashStr w x
theorem Yr:∀ {k:Key}{v:Value},TN k v=true->(∃ i t,k=Sum.inl i/\v=Value.int i t)\/(∃ x t,k=Sum.inr x/\v=Value.str x t)
 | .inl i,v,h=>by
  obtain ⟨t,e⟩:=Value.isInt_shape (k:=i) (v:=v) h
  exact .inl ⟨i,t,rfl,e⟩
 | .inr x,v,h=>by
  obtain ⟨t,e⟩:=Value.isStrOf_shape (x:=x) (v:=v) h
  exact .inr ⟨x,t,rfl,e⟩
theorem Hv (i:Int) (t:Tok):TN (.inl i) (.int i t)=true:=by simp [TN,Value.isInt]
theorem Hw (x:Str) (t:Tok):TN (.inr x) (.str x t)=true:=by simp [TN,Value.isStrOf]
theorem pA (a b:Int):decide ((Sum.inl a:Key)=Sum.inl b)=(a == b):=by
 by_cases e:a=b
 ·subst e;simp
 ·have h:¬ (Sum.inl a:Key)=Sum.inl b:=fun q=>e (Sum.inl.inj q)
  rw [decide_eq_false h]
  exact (beq_eq_false_iff_ne.mpr e).symm
theorem pB (a b:Str):decide ((Sum.inr a:Key)=Sum.inr b)=decide (a=b):=by
 by_cases e:a=b
 ·subst e;simp
 ·have h:¬ (Sum.inr a:Key)=Sum.inr b:=fun q=>e (Sum.inr.inj q)
  rw [decide_eq_false h,decide_eq_false e]
theorem pC (a:Int) (b:Str):decide ((Sum.inl a:Key)=Sum.inr b)=false:=decide_eq_false (fun q=>nomatch q)
theorem pD (a:Str) (b:Int):decide ((Sum.inr a:Key)=Sum.inl b)=false:=decide_eq_false (fun q=>nomatch q)
noncomputable def Yp (prog:Program) (w:World):PySem.KeyKind prog w Key where
 is:=TN
 hash:=keyH w
 inj:=fun v a b ha hb=>by
  rcases Yr ha with ⟨i,t,rfl,rfl⟩ | ⟨x,t,rfl,rfl⟩
  ·rcases Yr hb with ⟨j,u,rfl,e⟩ | ⟨y,u,rfl,e⟩
   ·injection e with e1 _;rw [e1]
   ·exact nomatch e
  ·rcases Yr hb with ⟨j,u,rfl,e⟩ | ⟨y,u,rfl,e⟩
   ·exact nomatch e
   ·injection e with e1 _;rw [e1]
 byValue:=fun k v h=>by
  rcases Yr h with ⟨i,t,rfl,rfl⟩ | ⟨x,t,rfl,rfl⟩ <;> rfl
 pyHash:=fun hv h=>by
  rcases Yr hv with ⟨i,t,rfl,rfl⟩ | ⟨x,t,rfl,rfl⟩
  ·exact wpAny_pyHash_int h
  ·exact wpAny_pyHash_str h
 eqBool:=fun hu hv h=>by
  rcases Yr hu with ⟨i,t,rfl,rfl⟩ | ⟨x,t,rfl,rfl⟩
  ·rcases Yr hv with ⟨j,u,rfl,rfl⟩ | ⟨y,u,rfl,rfl⟩
   ·rw [pA] at h;exact wpAny_eqBool_int h
   ·rw [pC] at h;exact SeqAt.EqAt.int_str i t y u _ _ _ _ h
  ·rcases Yr hv with ⟨j,u,rfl,rfl⟩ | ⟨y,u,rfl,rfl⟩
   ·rw [pD] at h;exact SeqAt.EqAt.str_int x t j u _ _ _ _ h
   ·rw [pB] at h;exact wpAny_eqBool_str h
 «strs»:=fun k x t v h=>by
  rcases Yr h with ⟨i,u,rfl,e⟩ | ⟨y,u,rfl,e⟩
  ·exact nomatch e
  ·injection e with e1 _
   subst e1
   cases v <;> rfl
inductive V where
 | non | bl (b:Bool) | int (i:Int) | str (x:Str) | byt (b:Array UInt8) | flt (b:UInt64) | ref (a:Addr) | ty (n:String)
 deriving DecidableEq
noncomputable def RelV:V->Value->Prop
 | .non,u=>u=Value.none
 | .bl b,u=>u=Value.bool b
 | .int i,u=>∃ t,u=Value.int i t
 | .str x,u=>∃ t,u=Value.str x t
 | .byt b,u=>∃ t,u=Value.bytes b t
 | .flt b,u=>∃ t,u=Value.float b t
 | .ref a,u=>u=Value.ref a
 | .ty n,u=>u=Value.type n
abbrev Vals:List V->List Value->Prop:=Paired RelV
theorem Vals.length {xs:List V}{us:List Value}(r:Vals xs us):xs.length=us.length:=Paired.length r
theorem Vals.get:∀ {xs:List V}{us:List Value}{i:Nat}{x:V},Vals xs us->xs[i]?=some x->∃ u,us[i]?=some u/\RelV x u
 | _,_,_,_,.nil,e=>by simp at e
 | _,_,0,_,.cons r _,e=>by simp at e;subst e;exact ⟨_,rfl,r⟩
 | _,_,i + 1,x,.cons _ t,e=>by
  obtain ⟨u,h1,h2⟩:=Vals.get (i:=i) (x:=x) t (by simpa using e)
  exact ⟨u,by simpa using h1,h2⟩
theorem Vals.set {x:V}{u:Value}(r:RelV x u):∀ {xs:List V}{us:List Value}(i:Nat),Vals xs us->Vals (xs.set i x) (us.set i u)
 | _,_,_,.nil => .nil
 | _,_,0,.cons _ t => .cons r t
 | _,_,i + 1,.cons q t => .cons q (Vals.set r i t)
theorem Vals.append:∀ {xs ys:List V}{us ws:List Value},Vals xs us->Vals ys ws->Vals (xs++ys) (us++ws)
 | _,_,_,_,.nil,s=>s
 | _,_,_,_,.cons r t,s => .cons r (Vals.append t s)
theorem Vals.take:∀ {xs:List V}{us:List Value}(n:Nat),Vals xs us->Vals (xs.take n) (us.take n)
 | _,_,0,_ => .nil
 | _,_,_ + 1,.nil => .nil
 | _,_,n + 1,.cons r t => .cons r (Vals.take n t)
theorem Vals.drop:∀ {xs:List V}{us:List Value}(n:Nat),Vals xs us->Vals (xs.drop n) (us.drop n)
 | _,_,0,r=>r
 | _,_,_ + 1,.nil => .nil
 | _,_,n + 1,.cons _ t=>Vals.drop n t
noncomputable def Ki:Option V->Option Value->Prop
 | some v,some u=>RelV v u
 | none,none=>True
 | _,_=>False
noncomputable def KV {κ:Type}:List (κ × V)->List (κ × Value)->Prop:=Paired fun (p:κ × V) (q:κ × Value)=>p.1=q.1/\RelV p.2 q.2
noncomputable def kV:Key->V
 | .inl i => .int i
 | .inr x => .str x
inductive HO where
 /-- a list -/
 | lst (xs:List V)
 /-- a tuple (never changes) -/
 | tup (xs:List V)
 /-- a dict whose keys are ints and texts;one whose keys are tuples of ints and texts (the empty one is both) -/
 | dK (kvs:List (Key × V)) | dT (kvs:List (List Key × V))
 /-- a set of ints: its members,its size -/
 | set (S:Int->Bool) (n:Nat)
 /-- an instance of the class at C,its dict at dx,its attributes -/
 | ins (C dx:Addr) (fs:List (Str × V))
 /-- the dict of the instance at x -/
 | own (x:Addr)
 /-- the dict of an exception -/
 | xd (fs:List (Str × V))
 /-- a bound method,f of x -/
 | met (f x:Addr)
 /-- a range object lo,lo + 1,.. below hi -/
 | rng (lo hi:Int)
 /-- a thing that is known to the object (the script;a dict while a loop walks it): read,never written while it is so -/
 | frz (o:Obj) (u:HO)
 /-- a code object's table -/
 | tbl (ps:Array Value)
 /-- any other thing,by what is true of its one object (a def of one's own: SetO a S n:=HO.ext fun h => ..) -/
 | ext (φ:Heap->Prop)
abbrev Hp:=Addr->Option HO
noncomputable def upd (H:Hp) (a:Addr) (o:HO):Hp:=fun b=>if b=a then some o else H b
theorem Zy {H:Hp}{a:Addr}{o:HO}:upd H a o a=some o:=by unfold upd;rw [if_pos rfl]
theorem Zq {H:Hp}{a b:Addr}{o:HO}(h:b≠a):upd H a o b=H b:=by unfold upd;rw [if_neg h]
theorem Yz {H:Hp}{a b:Addr}{o:HO}(h:H a=some o) (h':H b=none):a≠b:=by
 intro e;subst e;rw [h] at h';cases h'
section
variable (P:Program) (w:World)
noncomputable def YH (H:Hp) (h:Heap) (a:Addr):HO->Prop
 | .lst xs=>xs.length<=aA/\∃ (its:List Value) (n:Nat),Vals xs its/\h.get? a=some { cls := .type "list",data := .seq its.toArray n }
 | .tup xs=>xs.length<=aA/\∃ its:List Value,Vals xs its/\IsTup h a its.toArray
 | .dK kvs=>kvs.length<=aA/\(a == sysModules)=false/\∃ vs,KV kvs vs/\h.DictOf (Yp P w) a vs
 | .dT kvs=>kvs.length<=aA/\(a == sysModules)=false/\∃ xs:List (List Key × Addr × Value),
   Paired (fun (p:List Key × V) (q:List Key × Addr × Value)=>p.1=q.1/\H q.2.1=some (.tup (p.1.map kV))/\RelV p.2 q.2.2) kvs xs /\
   ∃ o es ep,h.get? a=some o/\o.ExactDict/\o.data = .dict es ep/\es.toList=xs.map (entryOfKey (tupleKind (Yp P w)))/\(xs.map (·.1)).Nodup
 | .set S n=>h.SetOf (intKind P w) a S n
 | .ins C dx fs=>H dx=some (.own a)/\fs.length<=1000/\dx≠a/\h.get? a=some (instObj C dx) /\
   ∃ mA,h.Ns1 dx mA/\(∀ f,Ki (fs.lookup f) (mA f))/\PySem.Within mA (fs.map (·.1))
 | .own _=>∃ o,h.get? a=some o
 | .xd fs=>∃ mA,h.Ns1 a mA/\∀ f,Ki (fs.lookup f) (mA f)
 | .rng lo hi=>∃ t u v,h.get? a=some { cls := .type "range",data := .fields #[.int lo t,.int hi u,.int 1 v] }
 | .frz o u=>h.get? a=some o/\YH H h a u
 | .tbl ps=>h.get? a=some { cls := .none,data := .fields ps }
 | .met f x=>h.get? a=some (methodObj (.ref f) (.ref x))
 | .ext φ=>φ h/\(∃ o,h.get? a=some o)/\∀ h1 h2:Heap,φ h1->(∀ o,h1.get? a=some o->h2.get? a=some o)->φ h2
noncomputable def HOk (H:Hp) (h:Heap):Prop:=∀ a o,H a=some o->YH P w H h a o
end
section
variable {P:Program}{w:World}{H H':Hp}{h h':Heap}{a:Addr}{o:HO}
theorem YH.lt (x:YH P w H h a o):a < h.objs.size:=by
 cases o with
 | lst xs=>obtain ⟨_,_,_,_,e⟩:=x;exact az e
 | tup xs=>obtain ⟨_,_,_,p⟩:=x;exact p.lt
 | dK kvs=>obtain ⟨_,_,_,_,o,_,_,e,_⟩:=x;exact az e
 | dT kvs=>obtain ⟨_,_,_,_,o,_,_,e,_⟩:=x;exact az e
 | set S n=>obtain ⟨o,_,_,_,e,_⟩:=x;exact az e
 | ins C dx fs=>obtain ⟨_,_,_,e,_⟩:=x;exact az e
 | own y=>obtain ⟨_,e⟩:=x;exact az e
 | xd fs=>obtain ⟨_,⟨_,_,_,e,_⟩,_⟩:=x;exact az e
 | rng lo hi=>obtain ⟨_,_,_,e⟩:=x;exact az e
 | frz ob u=>obtain ⟨e,_⟩:=x;exact az e
 | tbl ps=>exact az (show h.get? a=some _ from x)
 | met f y=>exact az (show h.get? a=some _ from x)
 | ext φ=>obtain ⟨_,⟨_,e⟩,_⟩:=x;exact az e
theorem Paired.mapP {α β:Type}{F G:α->β->Prop}:∀ {l₁:List α}{l₂:List β},Paired F l₁ l₂->(∀ a b,F a b->G a b)->Paired G l₁ l₂
 | _,_,.nil,_ => .nil
 | _,_,.cons r t,f => .cons (f _ _ r) (Paired.mapP t f)
theorem YH.stay (x:YH P w H h a o) (k:∀ b u,(b=a\/H b=some (.own a))->h.get? b=some u->h'.get? b=some u)
  (ho:∀ b,H b=some (.own a)->H' b=some (.own a)) (ht:∀ b xs,H b=some (.tup xs)->H' b=some (.tup xs)):YH P w H' h' a o:=by
 induction o with
 | lst xs=>obtain ⟨z,its,n,r,e⟩:=x;exact ⟨z,its,n,r,k _ _ (.inl rfl) e⟩
 | tup xs=>obtain ⟨z,its,r,ob,e,c⟩:=x;exact ⟨z,its,r,ob,k _ _ (.inl rfl) e,c⟩
 | dK kvs=>obtain ⟨z,y,vs,r,ob,es,ep,e,c⟩:=x;exact ⟨z,y,vs,r,ob,es,ep,k _ _ (.inl rfl) e,c⟩
 | dT kvs =>
  obtain ⟨z,y,xs,r,ob,es,ep,e,c⟩:=x
  exact ⟨z,y,xs,Paired.mapP r fun p q z=>⟨z.1,ht _ _ z.2.1,z.2.2⟩,ob,es,ep,k _ _ (.inl rfl) e,c⟩
 | set S n=>obtain ⟨ob,es,ep,t,e,c⟩:=x;exact ⟨ob,es,ep,t,k _ _ (.inl rfl) e,c⟩
 | ins C dx fs =>
  obtain ⟨d,z,ne,e,mA,⟨od,es,ep,e2,c⟩,r⟩:=x
  exact ⟨ho _ d,z,ne,k _ _ (.inl rfl) e,mA,⟨od,es,ep,k _ _ (.inr d) e2,c⟩,r⟩
 | own y=>obtain ⟨ob,e⟩:=x;exact ⟨ob,k _ _ (.inl rfl) e⟩
 | xd fs=>obtain ⟨mA,⟨od,es,ep,e,c⟩,r⟩:=x;exact ⟨mA,⟨od,es,ep,k _ _ (.inl rfl) e,c⟩,r⟩
 | rng lo hi=>obtain ⟨t,u,v,e⟩:=x;exact ⟨t,u,v,k _ _ (.inl rfl) e⟩
 | frz ob u ih=>obtain ⟨e,q⟩:=x;exact ⟨k _ _ (.inl rfl) e,ih q⟩
 | tbl ps =>
  have e:h.get? a=some { cls := .none,data := .fields ps }:=x
  show h'.get? a=some { cls := .none,data := .fields ps }
  exact k a _ (.inl rfl) e
 | met f y =>
  have e:h.get? a=some (methodObj (.ref f) (.ref y)):=x
  show h'.get? a=some (methodObj (.ref f) (.ref y))
  exact k a _ (.inl rfl) e
 | ext φ=>obtain ⟨p,⟨o,e⟩,st⟩:=x;exact ⟨st _ _ p fun o q=>k _ _ (.inl rfl) q,⟨o,k _ _ (.inl rfl) e⟩,st⟩
theorem HOk.lt (x:HOk P w H h) (e:H a=some o):a < h.objs.size:=(x a o e).lt
theorem HOk.fresh (x:HOk P w H h) (e:h.objs.size<=a):H a=none:=by
 cases q:H a with
 | none=>rfl
 | some u=>exact absurd (Nat.lt_of_lt_of_le (x.lt q) e) (Nat.lt_irrefl _)
theorem HOk.kept (x:HOk P w H h) (k:∀ b u,h.get? b=some u->h'.get? b=some u):HOk P w H h':=fun a o e =>
 (x a o e).stay (fun b u _ q=>k b u q) (fun _ q=>q) fun _ _ q=>q
theorem HOk.laid (x:HOk P w H h) (k:∀ b u,h.get? b=some u->h'.get? b=some u) (hp:h.objs.size<=a) (new:YH P w (upd H a o) h' a o):HOk P w (upd H a o) h':=fun b u e=>by
 have hn:=x.fresh hp
 by_cases hb:b=a
 ·subst hb;rw [Zy] at e;cases e;exact new
 ·rw [Zq hb] at e
  exact (x b u e).stay (fun c v _ q=>k c v q) (fun c q=>by rw [Zq (Yz q hn)];exact q) fun c xs q=>by rw [Zq (Yz q hn)];exact q
end
noncomputable def Rd (H:Hp) (a:Addr) (u:HO):Prop:=H a=some u\/∃ o,H a=some (.frz o u)
theorem Rd.of {H:Hp}{a:Addr}{u:HO}(h:H a=some u):Rd H a u := .inl h
theorem Rd.ok {P:Program}{w:World}{H:Hp}{h:Heap}{a:Addr}{u:HO}(r:Rd H a u) (x:HOk P w H h):YH P w H h a u:=by
 rcases r with r | ⟨o,r⟩
 ·exact x a u r
 ·obtain ⟨_,q⟩:=x a _ r
  exact q
noncomputable def Mut:Option HO->Prop
 | some (.lst _)=>True
 | some (.dK _)=>True
 | some (.dT _)=>True
 | some (.set _ _)=>True
 | some (.ins _ _ _)=>True
 | some (.ext _)=>True
 | _=>False
section
variable {P:Program}{w:World}{H:Hp}{h h':Heap}{x e:Addr}{o':HO}
theorem HOk.write (ok:HOk P w H h) (mu:Mut (H x)) (he:e=x\/H e=some (.own x)) (k:∀ b u,b≠e->h.get? b=some u->h'.get? b=some u) (heo:∃ u,h'.get? e=some u)
  (new:YH P w (upd H x o') h' x o'):HOk P w (upd H x o') h':=fun b u q=>by
 have nown:∀ c y,H c=some (.own y)->c≠x:=fun c y r z=>by subst z;rw [r] at mu;exact mu
 have ntup:∀ c xs,H c=some (.tup xs)->c≠x:=fun c xs r z=>by subst z;rw [r] at mu;exact mu
 by_cases hb:b=x
 ·subst hb;rw [Zy] at q;cases q;exact new
 ·rw [Zq hb] at q
  by_cases hbe:b=e
  ·have q':H b=some (.own x):=by
    rcases he with z | z
    ·exact absurd (hbe.trans z) hb
    ·rw [hbe];exact z
   rw [q] at q';cases q'
   obtain ⟨v,hv⟩:=heo
   exact ⟨v,by rw [hbe];exact hv⟩
  ·refine (ok b u q).stay (fun c v hc r=>k c v ?_ r) (fun c r=>by rw [Zq (nown c b r)];exact r) fun c xs r=>by rw [Zq (ntup c xs r)];exact r
   rcases hc with rfl | hc
   ·exact hbe
   ·rintro rfl
    rcases he with z | z
    ·exact nown c b hc z
    ·rw [hc] at z;cases z;exact hb rfl
end
structure Un (fs ex:List Addr) (H H':Hp) (h h':Heap):Prop where
 keep:∀ b o,h.get? b=some o->H b=none->b∉fs->b∉ex->h'.get? b=some o
 slot:∀ b o,h.get? b=some o->H b=none->b∈fs->b∉ex->∃ sl,h'.get? b=some { o with slots:=sl }
 free:∀ b o,h.get? b=some o->H b=none->b∉ex->H' b=none
 there:∀ b o,h.get? b=some o->b∉ex->∃ o',h'.get? b=some o'
 tups:∀ b xs,H b=some (.tup xs)->H' b=some (.tup xs)
 frzs:∀ b o u,H b=some (.frz o u)->H' b=some (.frz o u)
 tbls:∀ b ps,H b=some (.tbl ps)->∃ more,H' b=some (.tbl (ps++more))
section
variable {fs fs' ex ex':List Addr}{H H1 H2:Hp}{h h1 h2 h':Heap}{a x e:Addr}{o:HO}
theorem Un.any (u:Un fs ex H H1 h h1) {b:Addr}{ob:Obj}(q:h.get? b=some ob) (n:H b=none) (hx:b∉ex):∃ sl,h1.get? b=some { ob with slots:=sl }:=by
 by_cases hb:b∈fs
 ·exact u.slot b ob q n hb hx
 ·exact ⟨ob.slots,u.keep b ob q n hb hx⟩
theorem Un.trans (a:Un fs ex H H1 h h1) (b:Un fs ex H1 H2 h1 h2):Un fs ex H H2 h h2 where
 keep:=fun c ob q n hc hx=>b.keep c ob (a.keep c ob q n hc hx) (a.free c ob q n hx) hc hx
 slot:=fun c ob q n hc hx=>by
  obtain ⟨sl,e1⟩:=a.slot c ob q n hc hx
  obtain ⟨sl',e2⟩:=b.slot c _ e1 (a.free c ob q n hx) hc hx
  exact ⟨sl',e2⟩
 free:=fun c ob q n hx=>by
  obtain ⟨o',e1⟩:=a.there c ob q hx
  exact b.free c o' e1 (a.free c ob q n hx) hx
 there:=fun c ob q hx=>by
  obtain ⟨o',e1⟩:=a.there c ob q hx
  exact b.there c o' e1 hx
 tups:=fun c xs q=>b.tups c xs (a.tups c xs q)
 frzs:=fun c ob xs q=>b.frzs c ob xs (a.frzs c ob xs q)
 tbls:=fun c ps q=>by
  obtain ⟨m1,e1⟩:=a.tbls c ps q
  obtain ⟨m2,e2⟩:=b.tbls c _ e1
  exact ⟨m1++m2,by rw [e2,Array.append_assoc]⟩
theorem Un.kept (k:∀ b u,h.get? b=some u->h'.get? b=some u):Un fs ex H H h h' :=
 ⟨fun b ob q _ _ _=>k b ob q,fun b ob q _ _ _=>⟨ob.slots,k b ob q⟩,fun _ _ _ n _=>n,fun b ob q _=>⟨ob,k b ob q⟩,fun _ _ q=>q,fun _ _ _ q=>q,fun _ ps q=>⟨#[],by rw [q];simp⟩⟩
theorem Un.refl:Un fs ex H H h h:=Un.kept fun _ _ q=>q
theorem Un.laid (k:∀ b u,h.get? b=some u->h'.get? b=some u) (hp:h.objs.size<=a) (hn:H a=none):Un fs ex H (upd H a o) h h' where
 keep:=fun b u q _ _ _=>k b u q
 slot:=fun b u q _ _ _=>⟨u.slots,k b u q⟩
 free:=fun b u q n _=>by rw [Zq (Nat.ne_of_lt (Nat.lt_of_lt_of_le (az q) hp))];exact n
 there:=fun b u q _=>⟨u,k b u q⟩
 tups:=fun b xs q=>by rw [Zq (Yz q hn)];exact q
 frzs:=fun b u xs q=>by rw [Zq (Yz q hn)];exact q
 tbls:=fun b ps q=>⟨#[],by rw [Zq (Yz q hn),q];simp⟩
theorem Un.write (mu:Mut (H x)) (he:e=x\/H e=some (.own x)) (k:∀ b u,b≠e->h.get? b=some u->h'.get? b=some u) (heo:∃ u,h'.get? e=some u):Un fs ex H (upd H x o) h h':=by
 have hx:∀ b,H b=none->b≠x:=fun b n z=>by subst z;rw [n] at mu;exact mu
 have hb:∀ b,H b=none->b≠e:=fun b n z=>by
  subst z
  rcases he with r | r
  ·exact hx b n r
  ·rw [n] at r;cases r
 have hm:∀ b u,H b=some u->¬ Mut (some u)->b≠x:=fun b u q nm z=>by subst z;rw [q] at mu;exact nm mu
 refine ⟨fun b u q n _ _=>k b u (hb b n) q,fun b u q n _ _=>⟨u.slots,k b u (hb b n) q⟩,fun b u q n _=>by rw [Zq (hx b n)];exact n,fun b u q _=>?_,
  fun b xs q=>by rw [Zq (hm b _ q fun z=>z)];exact q,fun b u xs q=>by rw [Zq (hm b _ q fun z=>z)];exact q,fun b ps q=>⟨#[],by rw [Zq (hm b _ q fun z=>z),q];simp⟩⟩
 by_cases hbe:b=e
 ·subst hbe;exact heo
 ·exact ⟨u,k b u hbe q⟩
theorem Un.mono (u:Un fs ex H H1 h h1) (hs:∀ b∈fs,b∈fs') (hx:∀ b∈ex,b∈ex'):Un fs' ex' H H1 h h1 :=
 ⟨fun b ob q n hb he=>u.keep b ob q n (fun z=>hb (hs b z)) fun z=>he (hx b z),fun _ _ q n _ he=>u.any q n fun z=>he (hx _ z),fun b ob q n he=>u.free b ob q n fun z=>he (hx b z),fun b ob q he=>u.there b ob q fun z=>he (hx b z),u.tups,u.frzs,u.tbls⟩
end
noncomputable def trk (h:Heap) (H:Hp):List Addr:=(List.range h.objs.size).filter fun a=>(H a).isSome
noncomputable def Ga (h:Heap) (H:Hp):Heap:=hideAll h (trk h H)
theorem Ay (h:Heap) (H:Hp):(Ga h H).objs.size=h.objs.size:=PySem.W.hideAll_size _ _
theorem yB {h:Heap}{H:Hp}{b:Addr}{o:Obj}(e:h.get? b=some o) (n:H b=none):(Ga h H).get? b=some o :=
 PySem.W.hideAll_get _ e fun hm=>by
  have q:(H b).isSome=true:=(mem_filter.mp hm).2
  rw [n] at q;simp at q
theorem uB {h:Heap}{H:Hp}{b:Addr}{o:Obj}(e:(Ga h H).get? b=some o):h.get? b=some o/\H b=none:=by
 have e':h.get? b=some o:=PySem.W.of_hideAll (trk h H) e
 refine ⟨e',?_⟩
 cases q:H b with
 | none=>rfl
 | some x =>
  have hm:b∈trk h H:=mem_filter.mpr ⟨mem_range.mpr (az e'),by simp [q]⟩
  have z:(Ga h H).get? b=none:=PySem.W.hideAll_none (trk h H) hm
  rw [z] at e;cases e
noncomputable def uC (g h:Heap) (L:Addr):List (Addr × Obj):=(List.range h.objs.size).filterMap fun a=>if a=L\/(g.get? a).isSome=true then none else (h.get? a).map fun o=>(a,o)
noncomputable def rest (g h:Heap) (L d:Addr):List (Addr × Obj):=(uC g h L).filter fun p=>decide (p.1≠d)
structure Mod (K:aj) (mg:Str->Option Value) (base:Heap):Prop where
 kin:K.In base
 glob:base.Ns mainGlobals mg
 blt:∃ mb,base.Ns builtinsNs mb/\∀ x:Str,x ≠ "__name__" -> mb x=bootBuiltins x
 nolimit:base.NoLimit
structure Cx where
 prog:Program
 w:World
 K:aj
 mg:Str->Option Value
 base:Heap
 A:Around
 N:List Str
 s₀:Shared
 H₀:Hp
 env:Env
 outer:List Env
 stack:List Env
 ex:List Addr
 fn:Str->Bool
 calm:Bool
 pn:List (Addr × Obj)
 xe:Value->Shared->Prop
noncomputable def frs (l:List Env):List Addr:=l.filterMap (·.frame)
abbrev Cx.fs (X:Cx):List Addr:=frs X.outer
noncomputable def Vis (sc:Scope) (x:Str):Prop:=sc.names.lookup x=some .local\/sc.names.lookup x=some .cell\/sc.names.lookup x=some .free
noncomputable def Loc (sc:Scope) (x:Str):Prop:=sc.names.lookup x=some .local\/sc.names.lookup x=some .cell
noncomputable def Look (env:Env) (h:Heap) (m:Str->Option Value) (x:Str) (u:Value):Prop :=
 (env.kindOf x=some .local/\m x=some u)\/((env.kindOf x=some .cell\/env.kindOf x=some .free)/\∃ c,env.cells.lookup x=some c/\h.IsCell c (some u))
structure Cx.Ok (X:Cx):Prop where
 mod:Mod X.K X.mg X.base
 kind:X.env.scope.kind = .function
 glob:X.env.globals=mainGlobals
 blt:X.env.builtins=builtinsNs
 above:X.s₀.heap.objs.size<=X.env.locals
 inj:∀ x y c,X.env.cells.lookup x=some c->X.env.cells.lookup y=some c->x=y
 has:∀ x,(X.env.kindOf x=some .cell\/X.env.kindOf x=some .free)->∃ c,X.env.cells.lookup x=some c
 cab:∀ x c,X.fn x=true->X.env.cells.lookup x=some c->X.s₀.heap.objs.size<=c
 hd:X.calm=true->X.A.handled=none
 frames:X.A.frames=some X.stack
 stk:X.stack=X.outer\/(X.stack=X.env::X.outer/\X.env.frame=some X.env.locals)
 exf:∀ b∈X.ex,b≠X.env.locals/\∀ x c,X.env.cells.lookup x=some c->c≠b
 bs:∀ b o,X.base.get? b=some o->X.s₀.heap.get? b=some o/\X.H₀ b=none
 bsz:X.base.objs.size<=X.s₀.heap.objs.size
 noex:∀ b o,X.base.get? b=some o->b∉X.ex
 exfs:∀ b∈X.ex,b∉X.fs
 Ng:X.s₀.heap.FunFrames X.base X.outer
 frf:∀ b∈X.fs,X.H₀ b=none
structure Inv (X:Cx) (pins:List (Addr × Obj)) (σ:List (Option V)) (H:Hp) (s:Shared):Prop where
 ok:X.Ok
 os:s.os=X.s₀.os
 bare:AllBare s.gens
 base:Un X.fs X.ex X.H₀ H X.s₀.heap s.heap
 loc:∃ m,s.heap.Ns X.env.locals m/\∀ (i:Nat) (x:Str) (v:V),X.N[i]?=some x->σ[i]?=some (some v)->Vis X.env.scope x->∃ u,RelV v u/\Look X.env s.heap m x u
 cell:∀ x c,X.env.cells.lookup x=some c->∃ v,s.heap.IsCell c v
 free:H X.env.locals=none
 freeC:∀ x c,X.env.cells.lookup x=some c->H c=none
 pin:∀ p∈X.pn++pins,s.heap.get? p.1=some p.2/\H p.1=none/\p.1≠X.env.locals/\p.1∉X.fs/\∀ v,p.2.data ≠ .cell v
 hok:HOk X.prog X.w H s.heap
 len:σ.length=X.N.length
section
variable {X:Cx}{pins:List (Addr × Obj)}{σ:List (Option V)}{H H':Hp}{s:Shared}{h':Heap}
theorem Cx.Ok.nofr (ok:X.Ok) {b:Addr}{o:Obj}(e:X.base.get? b=some o):b∉X.fs:=fun hb=>by
 have:=(ok.Ng.mem hb).1
 rw [e] at this;cases this
theorem Inv.bs (I:Inv X pins σ H s):∀ b o,X.base.get? b=some o->s.heap.get? b=some o/\H b=none:=fun b o e =>
 ⟨I.base.keep b o (I.ok.bs b o e).1 (I.ok.bs b o e).2 (I.ok.nofr e) (I.ok.noex b o e),I.base.free b o (I.ok.bs b o e).1 (I.ok.bs b o e).2 (I.ok.noex b o e)⟩
theorem Inv.bk (I:Inv X pins σ H s):∀ b o,X.base.get? b=some o->s.heap.get? b=some o:=fun b o e=>(I.bs b o e).1
theorem Inv.mod (I:Inv X pins σ H s):Mod X.K X.mg X.base:=I.ok.mod
theorem Inv.kIn (I:Inv X pins σ H s):X.K.In s.heap:=I.ok.mod.kin.keeps I.bk
theorem Inv.fr (I:Inv X pins σ H s):∃ m,Fr X.base X.env.locals s.heap m :=
 let ⟨m,hn,_⟩:=I.loc
 ⟨m,hn,I.bk,Nat.le_trans I.ok.bsz I.ok.above⟩
theorem Inv.lt (I:Inv X pins σ H s):X.env.locals < s.heap.objs.size:=let ⟨_,hn,_⟩:=I.loc;hn.lt
theorem Inv.sz (I:Inv X pins σ H s):X.s₀.heap.objs.size<=s.heap.objs.size:=Nat.le_trans I.ok.above (Nat.le_of_lt I.lt)
theorem Inv.nofs (I:Inv X pins σ H s) {a:Addr}(h:s.heap.objs.size<=a):a∉X.fs:=fun hb=>by
 obtain ⟨_,o,ho,_⟩:=I.ok.Ng.mem hb
 exact absurd (Nat.lt_of_lt_of_le (az ho) (Nat.le_trans I.sz h)) (Nat.lt_irrefl _)
theorem Inv.cne (I:Inv X pins σ H s):∀ x c,X.env.cells.lookup x=some c->c≠X.env.locals:=fun x c e z=>by
 obtain ⟨v,o,ho,hd⟩:=I.cell x c e
 obtain ⟨m,⟨o',es,ep,ho',hd',_⟩,_⟩:=I.loc
 rw [z,ho'] at ho;cases ho;rw [hd'] at hd;cases hd
theorem Inv.Ng (I:Inv X pins σ H s):s.heap.FunFrames X.base X.outer:=by
 have all:∀ (l:List Env),(∀ b∈frs l,b∈X.fs)->X.s₀.heap.FunFrames X.base l->s.heap.FunFrames X.base l:=by
  intro l
  induction l with
  | nil=>intro _ _;trivial
  | cons env r ih =>
   intro hs hl
   obtain ⟨hk,⟨L,o,hf,hn,ho,hd⟩,hr⟩:=hl
   have hL:L∈X.fs:=hs L (by unfold frs;rw [filterMap_cons,hf];exact mem_cons_self)
   obtain ⟨sl,e⟩:=I.base.slot L o ho (I.ok.frf L hL) hL fun z=>I.ok.exfs L z hL
   exact ⟨hk,⟨L,_,hf,hn,e,hd⟩,ih (fun b hb=>hs b (by unfold frs;rw [filterMap_cons,hf];exact mem_cons_of_mem _ hb)) hr⟩
 exact all X.outer (fun _ hb=>hb) I.ok.Ng
theorem Inv.stack (I:Inv X pins σ H s):s.heap.FunFrames X.base X.stack:=by
 rcases I.ok.stk with e | ⟨e,hf⟩
 ·rw [e];exact I.Ng
 ·rw [e]
  obtain ⟨m,hn,_⟩:=I.loc
  refine .cons (by rw [I.ok.kind];decide) hf hn ?_ I.Ng
  exact Heap.get?_none_of_le (Nat.le_trans I.ok.bsz I.ok.above)
theorem Inv.Gb (I:Inv X pins σ H s):∀ b∈frs X.stack,b∈X.env.locals::X.fs:=fun b hb=>by
 rcases I.ok.stk with e | ⟨e,hf⟩
 ·rw [e] at hb;exact mem_cons_of_mem _ hb
 ·rw [e] at hb
  unfold frs at hb
  rw [filterMap_cons,hf] at hb
  exact hb
theorem Inv.Bh (I:Inv X pins σ H s):∀ b∈frs X.stack,H b=none:=fun b hb=>by
 rcases mem_cons.mp (I.Gb b hb) with e | hb
 ·rw [e];exact I.free
 ·obtain ⟨_,o,ho,_⟩:=I.ok.Ng.mem hb
  exact I.base.free b o ho (I.ok.frf b hb) fun z=>I.ok.exfs b z hb
theorem Inv.step {g':Array GenState}{t':Nat}{d':Drawn}{ch:List Addr}(I:Inv X pins σ H s)
  (hch:∀ b∈ch,(b∈X.ex\/X.s₀.heap.objs.size<=b)/\b≠X.env.locals/\(∀ x c,X.env.cells.lookup x=some c->c≠b)/\∀ p∈X.pn++pins,p.1≠b)
  (keep:∀ b o,b≠X.env.locals->b∉X.fs->b∉ch->s.heap.get? b=some o->H b=none->h'.get? b=some o)
  (slot:∀ b o,b≠X.env.locals->b∈X.fs->b∉ch->s.heap.get? b=some o->H b=none->∃ sl,h'.get? b=some { o with slots:=sl }) (free:∀ b o,b∉ch->s.heap.get? b=some o->H b=none->H' b=none)
  (there:∀ b o,b∉ch->s.heap.get? b=some o->∃ o',h'.get? b=some o')
  (tups:∀ b xs,H b=some (.tup xs)->H' b=some (.tup xs)) (frzs:∀ b o u,H b=some (.frz o u)->H' b=some (.frz o u)) (tbls:∀ b ps,H b=some (.tbl ps)->∃ more,H' b=some (.tbl (ps++more)))
  (ns:∀ m,s.heap.Ns X.env.locals m->h'.Ns X.env.locals m) (hok:HOk X.prog X.w H' h') (hg:AllBare g') :
  Inv X pins σ H' { s with heap:=h',gens:=g',drawn:=d',toks:=t' }:=by
 have neL:∀ b o,X.s₀.heap.get? b=some o->b≠X.env.locals:=fun b o e=>Nat.ne_of_lt (Nat.lt_of_lt_of_le (az e) I.ok.above)
 have neC:∀ b o,X.s₀.heap.get? b=some o->b∉X.ex->b∉ch:=fun b o e hx hb=>by
  rcases (hch b hb).1 with z | z
  ·exact hx z
  ·exact absurd (Nat.lt_of_lt_of_le (az e) z) (Nat.lt_irrefl _)
 have cellK:∀ x c,X.env.cells.lookup x=some c->∀ v,s.heap.IsCell c v->h'.IsCell c v:=fun x c e v ⟨o,ho,hd⟩=>by
  have nch:c∉ch:=fun z=>(hch c z).2.2.1 x c e rfl
  by_cases hc:c∈X.fs
  ·obtain ⟨sl,q⟩:=slot c o (I.cne x c e) hc nch ho (I.freeC x c e)
   exact ⟨_,q,hd⟩
  ·exact ⟨o,keep c o (I.cne x c e) hc nch ho (I.freeC x c e),hd⟩
 refine ⟨I.ok,I.os,hg,⟨fun b o e n hb hx=>?_,fun b o e n hb hx=>?_,fun b o e n hx=>?_,fun b o e hx=>?_,fun b xs e=>tups b xs (I.base.tups b xs e),fun b o xs e=>frzs b o xs (I.base.frzs b o xs e),fun b ps e=>?_⟩,?_,fun x c e=>?_,?_,fun x c e=>?_,fun p hp=>?_,hok,I.len⟩
 ·exact keep b o (neL b o e) hb (neC b o e hx) (I.base.keep b o e n hb hx) (I.base.free b o e n hx)
 ·obtain ⟨sl,e1⟩:=I.base.slot b o e n hb hx
  obtain ⟨sl',e2⟩:=slot b _ (neL b o e) hb (neC b o e hx) e1 (I.base.free b o e n hx)
  exact ⟨sl',e2⟩
 ·obtain ⟨o',e1⟩:=I.base.there b o e hx
  exact free b o' (neC b o e hx) e1 (I.base.free b o e n hx)
 ·obtain ⟨o',e1⟩:=I.base.there b o e hx
  exact there b o' (neC b o e hx) e1
 ·obtain ⟨m1,e1⟩:=I.base.tbls b ps e
  obtain ⟨m2,e2⟩:=tbls b _ e1
  exact ⟨m1++m2,by rw [e2,Array.append_assoc]⟩
 ·obtain ⟨m,hn,hl⟩:=I.loc
  refine ⟨m,ns m hn,fun i x v e1 e2 e3=>?_⟩
  obtain ⟨u,r,l⟩:=hl i x v e1 e2 e3
  refine ⟨u,r,?_⟩
  rcases l with l | ⟨k,c,e,z⟩
  ·exact .inl l
  ·exact .inr ⟨k,c,e,cellK x c e _ z⟩
 ·obtain ⟨v,z⟩:=I.cell x c e
  exact ⟨v,cellK x c e v z⟩
 ·obtain ⟨m,⟨o,_,_,ho,_⟩,_⟩:=I.loc
  exact free _ o (fun z=>(hch _ z).2.1 rfl) ho I.free
 ·obtain ⟨v,o,ho,hd⟩:=I.cell x c e
  exact free c o (fun z=>(hch c z).2.2.1 x c e rfl) ho (I.freeC x c e)
 ·obtain ⟨e,n,ne,nf,d⟩:=I.pin p hp
  have nch:p.1∉ch:=fun z=>(hch p.1 z).2.2.2 p hp rfl
  exact ⟨keep p.1 p.2 ne nf nch e n,free p.1 p.2 nch e n,ne,nf,d⟩
theorem Inv.un {t':Nat}(I:Inv X pins σ H s) (u:Un X.fs [] H H' s.heap h') (hok:HOk X.prog X.w H' h'):Inv X pins σ H' { s with heap:=h',toks:=t' }:=by
 obtain ⟨m,⟨o,es,ep,ho,r⟩,_⟩:=id I.loc
 obtain ⟨sl,hL⟩:=u.any ho I.free (by simp)
 exact I.step (g':=s.gens) (d':=s.drawn) (ch:=[]) (fun _ z=>nomatch z) (fun b o _ hb _ e n=>u.keep b o e n hb (by simp)) (fun b o _ hb _ e n=>u.slot b o e n hb (by simp)) (fun b o _ e n=>u.free b o e n (by simp)) (fun b o _ e=>u.there b o e (by simp)) u.tups u.frzs u.tbls (fun m' hm=>by
  obtain ⟨o',es',ep',ho',r'⟩:=hm
  rw [ho] at ho';cases ho'
  exact ⟨_,es',ep',hL,r'⟩) hok I.bare
theorem Inv.call {g':Array GenState}{t':Nat}{d':Drawn}{ch:List Addr}(I:Inv X pins σ H s) (u:Un (frs X.stack) ch H H' s.heap h') (hok:HOk X.prog X.w H' h') (hg:AllBare g')
  (hch:∀ b∈ch,(b∈X.ex\/X.s₀.heap.objs.size<=b)/\b≠X.env.locals/\(∀ x c,X.env.cells.lookup x=some c->c≠b)/\∀ p∈X.pn++pins,p.1≠b) :
  Inv X pins σ H' { s with heap:=h',gens:=g',drawn:=d',toks:=t' }:=by
 obtain ⟨m,⟨o,es,ep,ho,r⟩,_⟩:=id I.loc
 obtain ⟨sl,hL⟩:=u.any ho I.free fun z=>(hch _ z).2.1 rfl
 exact I.step (ch:=ch) hch (fun b o hL hb hc e n=>u.keep b o e n (fun z=>(mem_cons.mp (I.Gb b z)).elim hL hb) hc) (fun b o _ _ hc e n=>u.any e n hc) (fun b o hc e n=>u.free b o e n hc) (fun b o hc e=>u.there b o e hc) u.tups u.frzs u.tbls (fun m' hm=>by
  obtain ⟨o',es',ep',ho',r'⟩:=hm
  rw [ho] at ho';cases ho'
  exact ⟨_,es',ep',hL,r'⟩) hok hg
theorem Inv.turned {t':Nat}{it:Addr}(I:Inv X pins σ H s) (k:∀ b o,b≠it->s.heap.get? b=some o->h'.get? b=some o) (hn:H it=none) (hL:it≠X.env.locals)
  (h1:it∈X.ex\/X.s₀.heap.objs.size<=it) (h2:∀ x c,X.env.cells.lookup x=some c->c≠it) (h3:∀ p∈X.pn++pins,p.1≠it):Inv X pins σ H { s with heap:=h',toks:=t' }:=by
 have nit:∀ b u,H b=some u->b≠it:=fun b u e z=>by rw [z,hn] at e;cases e
 refine I.step (g':=s.gens) (d':=s.drawn) (ch:=[it]) (fun b hb=>?_) (fun b o _ _ hc e _=>k b o (fun z=>hc (by simp [z])) e) (fun b o _ _ hc e _=>⟨o.slots,k b o (fun z=>hc (by simp [z])) e⟩) (fun _ _ _ _ n=>n)
  (fun b o hc e=>⟨o,k b o (fun z=>hc (by simp [z])) e⟩) (fun _ _ e=>e) (fun _ _ _ e=>e) (fun b ps e=>⟨#[],by rw [e];simp⟩) (fun m hm=>?_) (fun b u e=>?_) I.bare
 ·have e:b=it:=by simpa using hb
  subst e
  exact ⟨h1,hL,h2,h3⟩
 ·obtain ⟨o,es,ep,ho,r⟩:=hm
  exact ⟨o,es,ep,k _ o (Ne.symm hL) ho,r⟩
 ·refine (I.hok b u e).stay (fun c v hc q=>k c v ?_ q) (fun _ q=>q) fun _ _ q=>q
  rcases hc with z | z
  ·rw [z];exact nit b u e
  ·exact nit c _ z
theorem Inv.tok (I:Inv X pins σ H s) (t:Nat):Inv X pins σ H { s with toks:=t }:=I.un (h':=s.heap) (t':=t) Un.refl I.hok
theorem Inv.kept {t':Nat}(I:Inv X pins σ H s) (k:∀ b u,s.heap.get? b=some u->h'.get? b=some u):Inv X pins σ H { s with heap:=h',toks:=t' }:=I.un (Un.kept k) (I.hok.kept k)
theorem Inv.laid {a:Addr}{o:HO}{t':Nat}(I:Inv X pins σ H s) (k:∀ b u,s.heap.get? b=some u->h'.get? b=some u) (hp:s.heap.objs.size<=a) (new:YH X.prog X.w (upd H a o) h' a o) :
  Inv X pins σ (upd H a o) { s with heap:=h',toks:=t' }:=I.un (Un.laid k hp (I.hok.fresh hp)) (I.hok.laid k hp new)
theorem Inv.write {x e:Addr}{o:HO}{t':Nat}(I:Inv X pins σ H s) (mu:Mut (H x)) (he:e=x\/H e=some (.own x)) (k:∀ b u,b≠e->s.heap.get? b=some u->h'.get? b=some u) (heo:∃ u,h'.get? e=some u)
  (new:YH X.prog X.w (upd H x o) h' x o):Inv X pins σ (upd H x o) { s with heap:=h',toks:=t' }:=I.un (Un.write mu he k heo) (I.hok.write mu he k heo new)
theorem Inv.Bi {pins':List (Addr × Obj)}(I:Inv X pins σ H s) (h:∀ p∈pins',s.heap.get? p.1=some p.2/\H p.1=none/\p.1≠X.env.locals/\p.1∉X.fs/\∀ v,p.2.data ≠ .cell v):Inv X pins' σ H s :=
 ⟨I.ok,I.os,I.bare,I.base,I.loc,I.cell,I.free,I.freeC,fun p hp=>(mem_append.mp hp).elim (fun z=>I.pin p (mem_append_left _ z)) (h p),I.hok,I.len⟩
theorem FN {N:List Str}(hN:N.Nodup) {i j:Nat}{x:Str}(a:N[i]?=some x) (b:N[j]?=some x):i=j:=by
 obtain ⟨h1,e1⟩:=List.getElem?_eq_some_iff.mp a
 obtain ⟨h2,e2⟩:=List.getElem?_eq_some_iff.mp b
 exact (List.getElem_inj hN).mp (e1.trans e2.symm)
theorem Hx {M:Model}{A:Around}{E:Value->Shared->Prop}{i:Nat}{x:Str}{v:V}{u:Value}{Q:Unit->Shared->Prop}(I:Inv X pins σ H s) (hN:X.N.Nodup) (hi:X.N[i]?=some x) (hx:Loc X.env.scope x) (r:RelV v u)
  (h:∀ s',Inv X pins (σ.set i (some v)) H s'->(∃ a,Heap.SameBut a s.heap s'.heap/\(a=X.env.locals\/X.env.cells.lookup x=some a))->Q () s') (hf:X.fn x=true\/X.env.scope.names.lookup x=some .local:=by first | exact .inl rfl | exact .inr rfl | assumption):wpAny M A (storeName X.env x u) Q E s:=by
 obtain ⟨m,hn,hl⟩:=id I.loc
 have hcls:(X.env.scope.kind == .class || (X.env.scope.kind == .module && X.env.locals != X.env.globals))=false:=by rw [I.ok.kind];rfl
 have hiσ:i < σ.length:=by rw [I.len];exact (List.getElem?_eq_some_iff.mp hi).1
 have cne:=I.cne
 have tracked:∀ {a:Addr}{h':Heap},(∃ o,s.heap.get? a=some o/\H a=none)->Heap.SameBut a s.heap h'->HOk X.prog X.w H h':=fun {a h'} ha hs b ob e=>by
  obtain ⟨_,_,hfree⟩:=ha
  refine (I.hok b ob e).stay (fun c w' hc q=>(hs.2 c ?_).trans q) (fun _ q=>q) fun _ _ q=>q
  rintro rfl
  rcases hc with rfl | hc
  ·rw [hfree] at e;cases e
  ·rw [hfree] at hc;cases hc
 rcases hx with hk | hk
 ·refine wpAny_storeName_local hk hn (fun h' hn' hs=>?_) hcls
  obtain ⟨oL,_,_,hoL,_⟩:=id hn
  refine h _ ⟨I.ok,I.os,I.bare,⟨fun b o e n hb hx=>?_,fun b o e n hb hx=>?_,I.base.free,fun b o e hx=>?_,I.base.tups,I.base.frzs,I.base.tbls⟩,⟨_,hn',fun j y v' e1 e2 e3=>?_⟩,fun y c e=>?_,I.free,I.freeC,fun p hp=>?_,tracked ⟨oL,hoL,I.free⟩ hs,by simpa using I.len⟩ ⟨_,hs,.inl rfl⟩
  ·exact (hs.2 b (Nat.ne_of_lt (Nat.lt_of_lt_of_le (az e) I.ok.above))).trans (I.base.keep b o e n hb hx)
  ·obtain ⟨sl,e1⟩:=I.base.slot b o e n hb hx
   exact ⟨sl,(hs.2 b (Nat.ne_of_lt (Nat.lt_of_lt_of_le (az e) I.ok.above))).trans e1⟩
  ·obtain ⟨o',e1⟩:=I.base.there b o e hx
   exact ⟨o',(hs.2 b (Nat.ne_of_lt (Nat.lt_of_lt_of_le (az e) I.ok.above))).trans e1⟩
  ·by_cases hj:j=i
   ·subst hj
    rw [hi] at e1;cases e1
    rw [List.getElem?_set_self hiσ] at e2
    cases e2
    exact ⟨u,r,.inl ⟨hk,by simp⟩⟩
   ·rw [getElem?_set_ne (Ne.symm hj)] at e2
    obtain ⟨u',r',q⟩:=hl j y v' e1 e2 e3
    refine ⟨u',r',?_⟩
    rcases q with ⟨k,e⟩ | ⟨k,c,e,z⟩
    ·refine .inl ⟨k,?_⟩
     have:y≠x:=fun e=>hj (FN hN e1 (e ▸ hi))
     simp [this,e]
    ·exact .inr ⟨k,c,e,z.sameBut hs (cne y c e)⟩
  ·obtain ⟨w',z⟩:=I.cell y c e
   exact ⟨w',z.sameBut hs (cne y c e)⟩
  ·obtain ⟨e,n,ne,nf,d⟩:=I.pin p hp
   exact ⟨(hs.2 p.1 ne).trans e,n,ne,nf,d⟩
 ·have hfn:X.fn x=true:=by
   rcases hf with z | z
   ·exact z
   ·rw [z] at hk;cases hk
  obtain ⟨c,hc⟩:=I.ok.has x (.inl hk)
  obtain ⟨w',z⟩:=I.cell x c hc
  refine wpAny_storeName_cell I.ok.kind hk hc z (fun h' hc' hs=>?_)
  obtain ⟨oc,hoc,hocd⟩:=id z
  refine h { s with heap:=h' } ⟨I.ok,I.os,I.bare,⟨fun b o e n hb hx=>?_,fun b o e n hb hx=>?_,I.base.free,fun b o e hx=>?_,I.base.tups,I.base.frzs,I.base.tbls⟩,⟨m,hn.sameBut hs (Ne.symm (cne x c hc)),fun j y v' e1 e2 e3=>?_⟩,fun y c' e=>?_,I.free,I.freeC,fun p hp=>?_,tracked ⟨oc,hoc,I.freeC x c hc⟩ hs,by simpa using I.len⟩ ⟨c,hs,.inr hc⟩
  ·exact (hs.2 b (Nat.ne_of_lt (Nat.lt_of_lt_of_le (az e) (I.ok.cab x c hfn hc)))).trans (I.base.keep b o e n hb hx)
  ·obtain ⟨sl,e1⟩:=I.base.slot b o e n hb hx
   exact ⟨sl,(hs.2 b (Nat.ne_of_lt (Nat.lt_of_lt_of_le (az e) (I.ok.cab x c hfn hc)))).trans e1⟩
  ·obtain ⟨o',e1⟩:=I.base.there b o e hx
   exact ⟨o',(hs.2 b (Nat.ne_of_lt (Nat.lt_of_lt_of_le (az e) (I.ok.cab x c hfn hc)))).trans e1⟩
  ·by_cases hj:j=i
   ·subst hj
    rw [hi] at e1;cases e1
    rw [List.getElem?_set_self hiσ] at e2
    cases e2
    exact ⟨u,r,.inr ⟨.inl hk,c,hc,hc'⟩⟩
   ·rw [getElem?_set_ne (Ne.symm hj)] at e2
    obtain ⟨u',r',q⟩:=hl j y v' e1 e2 e3
    refine ⟨u',r',?_⟩
    rcases q with q | ⟨k,c',e,z'⟩
    ·exact .inl q
    ·refine .inr ⟨k,c',e,z'.sameBut hs ?_⟩
     rintro rfl
     exact hj (FN hN e1 (I.ok.inj _ _ _ e hc ▸ hi))
  ·by_cases hcc:c'=c
   ·subst hcc;exact ⟨_,hc'⟩
   ·obtain ⟨w2,z2⟩:=I.cell y c' e
    exact ⟨w2,z2.sameBut hs hcc⟩
  ·obtain ⟨e,n,ne,nf,d⟩:=I.pin p hp
   refine ⟨(hs.2 p.1 ?_).trans e,n,ne,nf,d⟩
   intro q
   rw [q,hoc] at e
   have q':oc=p.2:=Option.some.inj e
   exact d w' (by rw [<-q'];exact hocd)
theorem FO {M:Model}{A:Around}{E:Value->Shared->Prop}{i:Nat}{x:Str}{v:V}{u:Value}{Q:Unit->Shared->Prop}(I:Inv X pins σ H s) (hN:X.N.Nodup) (hi:X.N[i]?=some x) (hx:Loc X.env.scope x) (r:RelV v u)
  (h:∀ s',Inv X pins (σ.set i (some v)) H s'->Q () s') (hf:X.fn x=true\/X.env.scope.names.lookup x=some .local:=by first | exact .inl rfl | exact .inr rfl | assumption):wpAny M A (storeName X.env x u) Q E s :=
 Hx I hN hi hx r (fun s' I' _=>h s' I') hf
theorem Inv.call' {s':Shared}{ch:List Addr}(I:Inv X pins σ H s) (ho:s'.os=s.os) (u:Un (frs X.stack) ch H H' s.heap s'.heap) (hok:HOk X.prog X.w H' s'.heap) (hg:AllBare s'.gens)
  (hch:∀ b∈ch,(b∈X.ex\/X.s₀.heap.objs.size<=b)/\b≠X.env.locals/\(∀ x c,X.env.cells.lookup x=some c->c≠b)/\∀ p∈X.pn++pins,p.1≠b):Inv X pins σ H' s':=by
 obtain ⟨h',g',d',t',o'⟩:=s'
 have e:o'=s.os:=ho
 subst e
 exact I.call (g':=g') (t':=t') (d':=d') u hok hg hch
end
abbrev XK:=Value->Option Addr->Hp->Prop
abbrev St:=List (Option V)
abbrev VK:=V->Hp->Prop
abbrev TE:=St->Hp->VK->Prop
abbrev TT:=St->Hp->(Bool->Hp->Prop)->Prop
abbrev TA:=St->Hp->(List V->Hp->Prop)->Prop
structure Ends where
 nx:St->Hp->Prop
 rt:VK
 bk:St->Hp->Prop:=fun _ _=>False
 ct:St->Hp->Prop:=fun _ _=>False
abbrev TS:=Ends->St->Hp->Prop
noncomputable def EP (X:Cx) (pins:List (Addr × Obj)) (σ:St) (Q:VK) (u:Value) (s':Shared):Prop:=∃ v H',Inv X pins σ H' s'/\RelV v u/\Q v H'
noncomputable def TP (X:Cx) (pins:List (Addr × Obj)) (σ:St) (Q:Bool->Hp->Prop) (b:Bool) (s':Shared):Prop:=∃ H',Inv X pins σ H' s'/\Q b H'
noncomputable def AP (X:Cx) (pins:List (Addr × Obj)) (σ:St) (Q:List V->Hp->Prop) (us:List Value) (s':Shared):Prop:=∃ vs H',Inv X pins σ H' s'/\Vals vs us/\Q vs H'
noncomputable def SP (X:Cx) (pins:List (Addr × Obj)) (D:Ends) (f:Flow) (s':Shared):Prop :=
 match f with
 | .next=>∃ σ' H',Inv X pins σ' H' s'/\D.nx σ' H'
 | .brk=>∃ σ' H',Inv X pins σ' H' s'/\D.bk σ' H'
 | .cont=>∃ σ' H',Inv X pins σ' H' s'/\D.ct σ' H'
 | .ret u=>∃ v σ' H',Inv X pins σ' H' s'/\RelV v u/\D.rt v H'
noncomputable def PE (X:Cx) (e:Expr) (t:TE):Prop :=
 ∀ (pins:List (Addr × Obj)) (s:Shared) (σ:St) (H:Hp) (Q:VK),Inv X pins σ H s->t σ H Q->wpAny (model X.prog X.w) X.A (eval e X.env) (EP X pins σ Q) X.xe s
noncomputable def PT (X:Cx) (e:Expr) (t:TT):Prop :=
 ∀ (pins:List (Addr × Obj)) (s:Shared) (σ:St) (H:Hp) (Q:Bool->Hp->Prop),Inv X pins σ H s->t σ H Q->wpAny (model X.prog X.w) X.A (isTrue e X.env (eval e X.env)) (TP X pins σ Q) X.xe s
noncomputable def PW (X:Cx) (e:Expr) (t:TT):Prop :=
 ∀ (whole:Sem Value) (pins:List (Addr × Obj)) (s:Shared) (σ:St) (H:Hp) (Q:Bool->Hp->Prop),Inv X pins σ H s->t σ H Q->wpAny (model X.prog X.w) X.A (isTrue e X.env whole) (TP X pins σ Q) X.xe s
theorem PW.pt {X:Cx}{e:Expr}{t:TT}(h:PW X e t):PT X e t:=h _
noncomputable def PA (X:Cx) (es:List Expr) (t:TA):Prop :=
 ∀ (pos:Pos) (pins:List (Addr × Obj)) (s:Shared) (σ:St) (H:Hp) (Q:List V->Hp->Prop),Inv X pins σ H s->t σ H Q->wpAny (model X.prog X.w) X.A (spliced (backTo pos (starEach es X.env))) (AP X pins σ Q) X.xe s
noncomputable def PS (X:Cx) (st:Stmt) (t:TS):Prop :=
 ∀ (pins:List (Addr × Obj)) (s:Shared) (σ:St) (H:Hp) (D:Ends),Inv X pins σ H s->t D σ H->wpAny (model X.prog X.w) X.A (exec st X.env) (SP X pins D) X.xe s
noncomputable def PSs (X:Cx) (st:List Stmt) (t:TS):Prop :=
 ∀ (pins:List (Addr × Obj)) (s:Shared) (σ:St) (H:Hp) (D:Ends),Inv X pins σ H s->t D σ H->wpAny (model X.prog X.w) X.A (execs st X.env) (SP X pins D) X.xe s
theorem thn {α:Type}{t:Sem α}{Q Q':α->Shared->Prop}{M:Model}{A:Around}{E:Value->Shared->Prop}{s:Shared}(h:wpAny M A t Q E s) (hQ:∀ a s,Q a s->Q' a s):wpAny M A t Q' E s:=wpAny_mono h hQ fun _ _ x=>x
section
variable {X:Cx}
noncomputable def tVar (i:Nat):TE:=fun σ H Q=>∃ v,σ[i]?=some (some v)/\Q v H
noncomputable def tC (v:V):TE:=fun _ H Q=>Q v H
theorem pE {i:Nat}{x:Str}{pos:Pos}(hN:X.N[i]?=some x) (hv:Vis X.env.scope x) (hd:autoParam ((x == ("__debug__" : Str))=false) auD) (hcd:autoParam ((x == ("__classdict__" : Str))=false) auD):PE X (.Name x pos) (tVar i):=by
 intro pins s σ H Q I h
 obtain ⟨v,e,h⟩:=h
 obtain ⟨m,hn,hl⟩:=I.loc
 obtain ⟨u,r,l⟩:=hl i x v hN e hv
 have fin:EP X pins σ Q u s:=⟨v,H,I,r,h⟩
 rcases l with ⟨hk,hm⟩ | ⟨hk,c,hc,hcell⟩
 ·exact wpAny_Name (wpAny_loadName_local I.ok.kind hk hn hm fin) hd
 ·rcases hk with hk | hk
  ·exact wpAny_Name (wpAny_loadName_cell I.ok.kind hk hc hcell fin) hd
  ·exact wpAny_Name (wpAny_loadName_free I.ok.kind hk hc hcell fin hcd) hd
theorem pF {i j pos}:PE X (.Constant (.int i) j pos) (tC (.int i)):=fun _ _ _ H _ I h=>wpAny_Constant_int ⟨.int i,H,I.tok _,⟨_,rfl⟩,h⟩
theorem pe_bl {b j pos}:PE X (.Constant (.bool b) j pos) (tC (.bl b)):=fun _ _ _ H _ I h=>Constant_bool ⟨.bl b,H,I,rfl,h⟩
theorem pG {j pos}:PE X (.Constant .none j pos) (tC .non):=fun _ _ _ H _ I h=>Constant_none ⟨.non,H,I,rfl,h⟩
theorem pH {x j pos}:PE X (.Constant (.str x) j pos) (tC (.str x)):=fun _ _ _ H _ I h=>Calls.Constant_str ⟨.str x,H,I.tok _,⟨_,rfl⟩,h⟩
noncomputable def Gl (X:Cx) (x:Str):Prop:=X.env.kindOf x=some .globalImplicit
theorem Nh {E:Value->Shared->Prop}{pins:List (Addr × Obj)}{s:Shared}{σ:St}{H:Hp}{x:Str}{u:Value}{pos:Pos}{Q:Value->Shared->Prop}(I:Inv X pins σ H s) (hg:Gl X x) (hm:X.mg x=some u) (h:Q u s)
  (hd:autoParam ((x == ("__debug__" : Str))=false) auD):wpAny (model X.prog X.w) X.A (eval (.Name x pos) X.env) Q E s :=
 Calls.Name_function_global I.ok.kind hg (Calls.loadGlobal_global (by rw [I.ok.glob];exact I.mod.glob.keeps I.bk) hm h) hd
theorem Jj {E:Value->Shared->Prop}{pins:List (Addr × Obj)}{s:Shared}{σ:St}{H:Hp}{x:Str}{u:Value}{pos:Pos}{Q:Value->Shared->Prop}(I:Inv X pins σ H s) (hg:Gl X x) (hm:X.mg x=none) (hv:bootBuiltins x=some u) (h:Q u s)
  (hn:autoParam (x ≠ "__name__" ) auD) (hd:autoParam ((x == ("__debug__" : Str))=false) auD):wpAny (model X.prog X.w) X.A (eval (.Name x pos) X.env) Q E s:=by
 obtain ⟨mb,h1,h2⟩:=I.mod.blt
 exact Calls.Name_function_global I.ok.kind hg (Calls.loadGlobal_builtin (by rw [I.ok.glob];exact I.mod.glob.keeps I.bk) hm (by rw [I.ok.blt];exact h1.keeps I.bk) ((h2 x hn).trans hv) h) hd
theorem uD {x:Str}{v:V}{u:Value}{pos:Pos}(hg:Gl X x) (hm:X.mg x=some u) (r:RelV v u) (hd:autoParam ((x == ("__debug__" : Str))=false) auD):PE X (.Name x pos) (tC v) :=
 fun _ _ _ H _ I h=>Nh I hg hm ⟨v,H,I,r,h⟩ hd
theorem uE {x:Str}{v:V}{u:Value}{pos:Pos}(hg:Gl X x) (hm:X.mg x=none) (hv:bootBuiltins x=some u) (r:RelV v u) (hn:autoParam (x ≠ "__name__" ) auD) (hd:autoParam ((x == ("__debug__" : Str))=false) auD):PE X (.Name x pos) (tC v) :=
 fun _ _ _ H _ I h=>Jj I hg hm hv ⟨v,H,I,r,h⟩ hn hd
variable {a b:Expr}{ta tb:TE}{pos:Pos}
variable {tA tB':TT}{rest:List Expr}
noncomputable def tAnd (t u:TT):TT:=fun σ H Q=>t σ H fun c H1=>if c=true then u σ H1 Q else Q false H1
noncomputable def tOr (t u:TT):TT:=fun σ H Q=>t σ H fun c H1=>if c=true then Q true H1 else u σ H1 Q
noncomputable def tNot (t:TT):TT:=fun σ H Q=>t σ H fun c H1=>Q (!c) H1
theorem pw_and1 (ha:PT X a tA):PW X (.BoolOp .And [a] pos) tA:=by
 intro wh pins s σ H Q I h
 refine isTrue_and (thn (ha pins s σ H Q I h) fun c s1 e=>?_)
 cases c with
 | true=>exact isTrue_and_nil e
 | false=>exact e
theorem pw_or1 (ha:PT X a tA):PW X (.BoolOp .Or [a] pos) tA:=by
 intro wh pins s σ H Q I h
 refine isTrue_or (thn (ha pins s σ H Q I h) fun c s1 e=>?_)
 cases c with
 | false=>exact isTrue_or_nil e
 | true=>exact e
theorem pw_and (ha:PT X a tA) (hb:PW X (.BoolOp .And (b::rest) pos) tB'):PW X (.BoolOp .And (a::b::rest) pos) (tAnd tA tB'):=by
 intro wh pins s σ H Q I h
 refine isTrue_and (thn (ha pins s σ H _ I h) fun c s1 zq=>?_)
 obtain ⟨H1,I1,q1⟩:=zq
 cases c with
 | true=>exact hb wh pins s1 σ H1 Q I1 q1
 | false=>exact ⟨H1,I1,q1⟩
theorem pw_or (ha:PT X a tA) (hb:PW X (.BoolOp .Or (b::rest) pos) tB'):PW X (.BoolOp .Or (a::b::rest) pos) (tOr tA tB'):=by
 intro wh pins s σ H Q I h
 refine isTrue_or (thn (ha pins s σ H _ I h) fun c s1 zq=>?_)
 obtain ⟨H1,I1,q1⟩:=zq
 cases c with
 | true=>exact ⟨H1,I1,q1⟩
 | false=>exact hb wh pins s1 σ H1 Q I1 q1
theorem pI (ha:PT X a tA):PT X (.UnaryOp .Not a pos) (tNot tA):=by
 intro pins s σ H Q I h
 exact isTrue_not (ha pins s σ H (fun c H1=>Q (!c) H1) I h)
noncomputable def tAndV (ta tb:TE):TE:=fun σ H Q=>ta σ H fun x H1=>∃ c,x = .bl c/\if c=true then tb σ H1 Q else Q (.bl false) H1
noncomputable def tOrV (ta tb:TE):TE:=fun σ H Q=>ta σ H fun x H1=>∃ c,x = .bl c/\if c=true then Q (.bl true) H1 else tb σ H1 Q
noncomputable def tNotV (ta:TE):TE:=fun σ H Q=>ta σ H fun x H1=>∃ c,x = .bl c/\Q (.bl (!c)) H1
theorem pJ {op}{t:TE}(h:PE X a t):PE X (.BoolOp op [a] pos) t:=fun pins s σ H Q I hw=>BoolOp_one (h pins s σ H Q I hw)
theorem pK (ha:PE X a ta) (hb:PE X (.BoolOp .And (b::rest) pos) tb):PE X (.BoolOp .And (a::b::rest) pos) (tAndV ta tb):=by
 intro pins s σ H Q I h
 refine BoolOp_and (thn (ha pins s σ H _ I h) fun v s1 zq=>?_)
 obtain ⟨x,H1,I1,r1,q1⟩:=zq
 obtain ⟨c,rfl,q1⟩:=q1
 cases r1
 refine wpAny_truthy_bool ?_
 cases c with
 | true=>exact hb pins s1 σ H1 Q I1 q1
 | false=>exact ⟨.bl false,H1,I1,rfl,q1⟩
theorem pe_or (ha:PE X a ta) (hb:PE X (.BoolOp .Or (b::rest) pos) tb):PE X (.BoolOp .Or (a::b::rest) pos) (tOrV ta tb):=by
 intro pins s σ H Q I h
 refine BoolOp_or (thn (ha pins s σ H _ I h) fun v s1 zq=>?_)
 obtain ⟨x,H1,I1,r1,q1⟩:=zq
 obtain ⟨c,rfl,q1⟩:=q1
 cases r1
 refine wpAny_truthy_bool ?_
 cases c with
 | false=>exact hb pins s1 σ H1 Q I1 q1
 | true=>exact ⟨.bl true,H1,I1,rfl,q1⟩
theorem pL (ha:PE X a ta):PE X (.UnaryOp .Not a pos) (tNotV ta):=by
 intro pins s σ H Q I h
 refine UnaryOp_ (thn (ha pins s σ H _ I h) fun v s1 zq=>?_)
 obtain ⟨x,H1,I1,r1,q1⟩:=zq
 obtain ⟨c,rfl,q1⟩:=q1
 cases r1
 exact not_of (wpAny_truthy_bool ⟨.bl (!c),H1,I1,rfl,q1⟩)
noncomputable def tIf (t:TT) (ta tb:TE):TE:=fun σ H Q=>t σ H fun c H1=>if c=true then ta σ H1 Q else tb σ H1 Q
theorem yC {c:Expr}(hc:PT X c tA) (ha:PE X a ta) (hb:PE X b tb):PE X (.IfExp c a b pos) (tIf tA ta tb):=by
 intro pins s σ H Q I h
 refine wpAny_IfExp (thn (hc pins s σ H _ I h) fun d s1 zq=>?_)
 obtain ⟨H1,I1,q1⟩:=zq
 cases d with
 | true=>exact ha pins s1 σ H1 Q I1 q1
 | false=>exact hb pins s1 σ H1 Q I1 q1
end
noncomputable def SqL (K:aj) (H:Hp) (a:Addr) (xs:List V):Prop :=
 Rd H a (.lst xs) \/
  ∃ (o:Obj) (its:Array Value) (n:Nat),K.lookup a=some o/\o.cls = .type "list" /\ o.dict=none/\o.data = .seq its n/\its.size<=aA/\Vals xs its.toList
noncomputable def SqT (K:aj) (H:Hp) (a:Addr) (xs:List V):Prop :=
 Rd H a (.tup xs) \/
  ∃ (o:Obj) (its:Array Value) (n:Nat),K.lookup a=some o/\o.cls = .type "tuple" /\ o.data = .seq its n/\its.size<=aA/\Vals xs its.toList
noncomputable def absV:Value->Option V
 | .none=>some .non
 | .bool b=>some (.bl b)
 | .int i _=>some (.int i)
 | .str x _=>some (.str x)
 | .bytes b _=>some (.byt b)
 | .float b _=>some (.flt b)
 | .ref a=>some (.ref a)
 | .type n=>some (.ty n)
 | _=>none
theorem RelV.abs {x:V}{u:Value}(r:RelV x u):absV u=some x:=by
 cases x with
 | non=>cases r;rfl
 | bl _=>cases r;rfl
 | int _=>obtain ⟨t,rfl⟩:=r;rfl
 | str _=>obtain ⟨t,rfl⟩:=r;rfl
 | byt _=>obtain ⟨t,rfl⟩:=r;rfl
 | flt _=>obtain ⟨t,rfl⟩:=r;rfl
 | ref _=>cases r;rfl
 | ty _=>cases r;rfl
theorem RelV.inj {x y:V}{u:Value}(r:RelV x u) (q:RelV y u):x=y:=Option.some.inj (r.abs.symm.trans q.abs)
theorem Vals.inj:∀ {xs ys:List V}{us:List Value},Vals xs us->Vals ys us->xs=ys
 | _,_,_,.nil,.nil=>rfl
 | _,_,_,.cons r t,.cons r' t'=>by rw [r.inj r',Vals.inj t t']
section
variable {X:Cx}{pins:List (Addr × Obj)}{σ:St}{H:Hp}{s:Shared}{a:Addr}{xs ys:List V}
theorem SqL.of {K:aj}(h:H a=some (.lst xs)):SqL K H a xs := .inl (.inl h)
theorem SqT.of {K:aj}(h:H a=some (.tup xs)):SqT K H a xs := .inl (.inl h)
theorem Inv.list (I:Inv X pins σ H s) (h:SqL X.K H a xs):∃ its:List Value,Vals xs its/\PlainL s.heap a its.toArray/\xs.length<=aA:=by
 rcases h with h | ⟨o,its,n,hk,hc,hd,hs,hz,r⟩
 ·obtain ⟨z,its,n,r,e⟩:=h.ok I.hok
  exact ⟨its,r,⟨_,n,e,rfl,rfl,rfl⟩,z⟩
 ·refine ⟨its.toList,r,⟨o,n,I.kIn a o hk,hc,hd,by simpa using hs⟩,?_⟩
  have e:=r.length
  simp only [Array.length_toList] at e
  omega
theorem Inv.tuple (I:Inv X pins σ H s) (h:SqT X.K H a xs):∃ its:List Value,Vals xs its/\IsTup s.heap a its.toArray/\xs.length<=aA:=by
 rcases h with h | ⟨o,its,n,hk,hc,hs,hz,r⟩
 ·obtain ⟨z,its,r,p⟩:=h.ok I.hok
  exact ⟨its,r,p,z⟩
 ·refine ⟨its.toList,r,⟨o,I.kIn a o hk,hc,n,by simpa using hs⟩,?_⟩
  have e:=r.length
  simp only [Array.length_toList] at e
  omega
theorem Inv.Ni (I:Inv X pins σ H s) (h:SqL X.K H a xs) (h':SqL X.K H a ys):xs=ys:=by
 obtain ⟨its,r,⟨o,n,e,_,_,d⟩,_⟩:=I.list h
 obtain ⟨its',r',⟨o',n',e',_,_,d'⟩,_⟩:=I.list h'
 rw [e] at e';cases e'
 rw [d] at d'
 injection d' with d1 _
 have:its=its':=by simpa using congrArg Array.toList d1
 subst this
 exact r.inj r'
theorem Inv.QK (I:Inv X pins σ H s) (h:SqT X.K H a xs) (h':SqT X.K H a ys):xs=ys:=by
 obtain ⟨its,r,⟨o,e,_,n,d⟩,_⟩:=I.tuple h
 obtain ⟨its',r',⟨o',e',_,n',d'⟩,_⟩:=I.tuple h'
 rw [e] at e';cases e'
 rw [d] at d'
 injection d' with d1 _
 have:its=its':=by simpa using congrArg Array.toList d1
 subst this
 exact r.inj r'
end
abbrev Cx.wish (X:Cx) (E:Value->Shared->Prop):Cx:={ X with xe:=E }
abbrev Cx.nox (X:Cx):Cx:=X.wish fun _ _=>False
theorem Cx.Ok.wish {X:Cx}(ok:X.Ok) (E:Value->Shared->Prop):(X.wish E).Ok :=
 ⟨ok.mod,ok.kind,ok.glob,ok.blt,ok.above,ok.inj,ok.has,ok.cab,ok.hd,ok.frames,ok.stk,ok.exf,ok.bs,ok.bsz,ok.noex,ok.exfs,ok.Ng,ok.frf⟩
theorem Cx.Ok.Ti {X:Cx}{E:Value->Shared->Prop}(ok:(X.wish E).Ok):X.Ok :=
 ⟨ok.mod,ok.kind,ok.glob,ok.blt,ok.above,ok.inj,ok.has,ok.cab,ok.hd,ok.frames,ok.stk,ok.exf,ok.bs,ok.bsz,ok.noex,ok.exfs,ok.Ng,ok.frf⟩
section
variable {X:Cx}{pins:List (Addr × Obj)}{σ:St}{H:Hp}{s:Shared}{E:Value->Shared->Prop}
theorem Inv.wish (I:Inv X pins σ H s) (E:Value->Shared->Prop):Inv (X.wish E) pins σ H s:=⟨I.ok.wish E,I.os,I.bare,I.base,I.loc,I.cell,I.free,I.freeC,I.pin,I.hok,I.len⟩
theorem Inv.Ti (I:Inv (X.wish E) pins σ H s):Inv X pins σ H s:=⟨I.ok.Ti,I.os,I.bare,I.base,I.loc,I.cell,I.free,I.freeC,I.pin,I.hok,I.len⟩
theorem SP.Ti {D:Ends}{f:Flow}{s':Shared}(h:SP (X.wish E) pins D f s'):SP X pins D f s':=by
 cases f with
 | next=>obtain ⟨σ',H',I,q⟩:=h;exact ⟨σ',H',I.Ti,q⟩
 | brk=>obtain ⟨σ',H',I,q⟩:=h;exact ⟨σ',H',I.Ti,q⟩
 | cont=>obtain ⟨σ',H',I,q⟩:=h;exact ⟨σ',H',I.Ti,q⟩
 | ret u=>obtain ⟨v,σ',H',I,r,q⟩:=h;exact ⟨v,σ',H',I.Ti,r,q⟩
theorem PE.nox {e:Expr}{t:TE}(h:PE X.nox e t):PE X e t:=fun pins s σ H Q I hw =>
 wpAny_mono (h pins s σ H Q (I.wish _) hw) (fun _ _ ⟨v,H',I',r,q⟩=>⟨v,H',I'.Ti,r,q⟩) fun _ _ z=>False.elim z
theorem PT.nox {e:Expr}{t:TT}(h:PT X.nox e t):PT X e t:=fun pins s σ H Q I hw =>
 wpAny_mono (h pins s σ H Q (I.wish _) hw) (fun _ _ ⟨H',I',q⟩=>⟨H',I'.Ti,q⟩) fun _ _ z=>False.elim z
theorem PSs.nox {st:List Stmt}{t:TS}(h:PSs X.nox st t):PSs X st t:=fun pins s σ H D I hw =>
 wpAny_mono (h pins s σ H D (I.wish _) hw) (fun _ _ q=>q.Ti) fun _ _ z=>False.elim z
end
section
variable {X:Cx}{st:Stmt}{rest:List Stmt}{t u:TS}{e:Expr}{te:TE}{pos:Pos}
noncomputable def tNext:TS:=fun D σ H=>D.nx σ H
noncomputable def tSeq (t u:TS):TS:=fun D σ H=>t { D with nx:=u D } σ H
theorem uF:PSs X [] tNext:=fun _ _ σ H _ I h=>wpAny_execs_nil ⟨σ,H,I,h⟩
theorem yE (h1:PS X st t) (h2:PSs X rest u):PSs X (st::rest) (tSeq t u):=by
 intro pins s σ H D I h
 refine wpAny_execs_cons (thn (h1 pins s σ H { D with nx:=u D } I h) fun f s1 q=>?_)
 cases f with
 | next =>
  obtain ⟨σ',H',I',q⟩:=q
  exact h2 pins s1 σ' H' D I' q
 | ret v=>exact q
 | brk=>exact q
 | cont=>exact q
theorem uG (h1:PS X st t):PSs X [st] t:=by
 intro pins s σ H D I h
 refine wpAny_execs_cons (thn (h1 pins s σ H D I h) fun f s1 q=>?_)
 cases f with
 | next=>exact wpAny_execs_nil q
 | ret v=>exact q
 | brk=>exact q
 | cont=>exact q
theorem Inv.quiet {pins:List (Addr × Obj)}{σ:St}{H:Hp}{s:Shared}(I:Inv X pins σ H s):interactive X.env=false:=by simp [interactive,I.ok.kind]
noncomputable def tDrop (te:TE):TS:=fun D σ H=>te σ H fun _ H1=>D.nx σ H1
theorem SA (he:PE X e te) (hs:autoParam (swapsWith e none pos.line X.env=pure false) auR):PS X (.Expr e pos) (tDrop te):=by
 intro pins s σ H D I h
 exact wpAny_Expr_any (thn (he pins s σ H _ I h) fun v s1 ⟨x,H1,I1,r1,q1⟩=>⟨σ,H1,I1,q1⟩) I.quiet hs
noncomputable def tRet (te:TE):TS:=fun D σ H=>te σ H D.rt
theorem Dq (he:PE X e te):PS X (.Return (some e) pos) (tRet te):=by
 intro pins s σ H D I h
 exact wpAny_Return_some (thn (he pins s σ H _ I h) fun v s1 ⟨x,H1,I1,r1,q1⟩=>⟨x,σ,H1,I1,r1,q1⟩)
noncomputable def tIfS (c:TT) (t u:TS):TS:=fun D σ H=>c σ H fun b H1=>if b=true then t D σ H1 else u D σ H1
theorem ps_if {c:Expr}{a b:List Stmt}{tc:TT}(hc:PT X c tc) (ha:PSs X a t) (hb:PSs X b u):PS X (.If c a b pos) (tIfS tc t u):=by
 intro pins s σ H D I h
 refine wpAny_If (thn (hc pins s σ H _ I h) fun d s1 zq=>?_)
 obtain ⟨H1,I1,q1⟩:=zq
 cases d with
 | true=>exact ha pins s1 σ H1 D I1 q1
 | false=>exact hb pins s1 σ H1 D I1 q1
end
abbrev TG:=V->St->Hp->(St->Hp->Prop)->Prop
abbrev TGs:=List V->St->Hp->(St->Hp->Prop)->Prop
noncomputable def PG (X:Cx) (target:Expr) (t:TG):Prop :=
 ∀ (pins:List (Addr × Obj)) (s:Shared) (σ:St) (H:Hp) (v:V) (u:Value) (Q:St->Hp->Prop),Inv X pins σ H s->RelV v u->t v σ H Q ->
  wpAny (model X.prog X.w) X.A (assign target X.env u) (fun _ s'=>∃ σ' H',Inv X pins σ' H' s'/\Q σ' H') X.xe s
noncomputable def PGs (X:Cx) (ts:List Expr) (t:TGs):Prop :=
 ∀ (pins:List (Addr × Obj)) (s:Shared) (σ:St) (H:Hp) (vs:List V) (us:List Value) (Q:St->Hp->Prop),Inv X pins σ H s->Vals vs us->t vs σ H Q ->
  wpAny (model X.prog X.w) X.A (assignInOrder ((assignEach ts X.env).map (·.2)) us) (fun _ s'=>∃ σ' H',Inv X pins σ' H' s'/\Q σ' H') X.xe s
abbrev TSet:=V->V->V->Hp->(Hp->Prop)->Prop
noncomputable def PSet (X:Cx) (t:TSet):Prop :=
 ∀ (pins:List (Addr × Obj)) (s:Shared) (σ:St) (H:Hp) (o i v:V) (ov iv u:Value) (Q:Hp->Prop),Inv X pins σ H s->RelV o ov->RelV i iv->RelV v u->t o i v H Q ->
  wpAny (model X.prog X.w) X.A (setItem ov iv u) (fun _ s'=>∃ H',Inv X pins σ H' s'/\Q H') X.xe s
section
variable {X:Cx}{pos:Pos}
noncomputable def Jk (i:Nat):TG:=fun v σ H Q=>Q (σ.set i (some v)) H
theorem uH {i:Nat}{x:Str}(hN:X.N.Nodup) (hi:X.N[i]?=some x) (hx:Loc X.env.scope x) (hf:X.fn x=true\/X.env.scope.names.lookup x=some .local:=by first | exact .inl rfl | exact .inr rfl | assumption):PG X (.Name x pos) (Jk i):=by
 intro pins s σ H v u Q I r h
 exact wpAny_assign_Name (FO I hN hi hx r (fun s' I'=>⟨_,H,I',h⟩) hf)
noncomputable def gNil:TGs:=fun vs σ H Q=>vs=[]/\Q σ H
noncomputable def gCons (t:TG) (u:TGs):TGs:=fun vs σ H Q=>∃ v r,vs=v::r/\t v σ H fun σ' H'=>u r σ' H' Q
theorem uI:PGs X [] gNil:=by
 intro pins s σ H vs us Q I r h
 obtain ⟨e,h⟩:=h
 subst e
 cases r
 exact assignInOrder_nil ⟨σ,H,I,h⟩
theorem yF {e:Expr}{es:List Expr}{t:TG}{u:TGs}(h1:PG X e t) (h2:PGs X es u)
  (hs:autoParam ((assignEach (e::es) X.env).map (·.2)=assign e X.env::(assignEach es X.env).map (·.2)) auR):PGs X (e::es) (gCons t u):=by
 intro pins s σ H vs us Q I r h
 obtain ⟨v,vr,e1,h⟩:=h
 subst e1
 cases r with
 | cons r rr =>
  rw [hs]
  refine assignInOrder_cons (thn (h1 pins s σ H _ _ _ I r h) fun _ s1 zq=>?_)
  obtain ⟨σ1,H1,I1,q1⟩:=zq
  exact h2 pins s1 σ1 H1 _ _ Q I1 rr q1
noncomputable def gTup (K:aj) (n:Nat) (t:TGs):TG:=fun v σ H Q=>∃ a xs,v = .ref a/\SqT K H a xs/\xs.length=n/\t xs σ H Q
theorem pM {es:List Expr}{k:Nat}{t:TGs}{n:Nat}(hc:X.calm=true) (h:PGs X es t)
  (hn:autoParam ((assignEach es X.env).length=n) auR) (hst:autoParam ((assignEach es X.env).findIdx? (·.1)=none) auR):PG X (.Tuple es k pos) (gTup X.K n t):=by
 intro pins s σ H v u Q I r hw
 obtain ⟨a,xs,e1,hq,hl,hw⟩:=hw
 subst e1
 cases r
 obtain ⟨its,rv,ht,hz⟩:=I.tuple hq
 refine assign_Tuple_tuple (I.ok.hd hc) ht (by simp [hn,<-hl,rv.length]) hst fun h' hx=>?_
 have I1:Inv X pins σ H { s with heap:=h' }:=I.kept (t':=s.toks) fun b o e=>hx b o (Nat.ne_of_lt (az e)) e
 exact h pins _ σ H xs _ Q I1 (by simpa using rv) hw
noncomputable def gSub (to ti:TE) (t:TSet):TG:=fun v σ H Q=>to σ H fun o H1=>ti σ H1 fun i H2=>t o i v H2 fun H3=>Q σ H3
theorem yG {o i:Expr}{to ti:TE}{t:TSet}(ho:PE X o to) (hi:PE X i ti) (hs:PSet X t)
  (ha:∀ v,assign (.Subscript o i pos) X.env v=(do
   let ov <- holding [v] (eval o X.env)
   let iv <- holding [v,ov] (eval i X.env)
   standAt pos
   holding [v,ov,iv] (setItem ov iv v)
   release [v,ov,iv] []):=by intro _;rfl):PG X (.Subscript o i pos) (gSub to ti t):=by
 intro pins s σ H v u Q I r h
 rw [ha]
 refine ak (wpAny_holding (thn (ho pins s σ H _ I h) fun ov s1 zq=>?_))
 obtain ⟨x,H1,I1,r1,q1⟩:=zq
 refine ak (wpAny_holding (thn (hi pins s1 σ H1 _ I1 q1) fun iv s2 zq=>?_))
 obtain ⟨y,H2,I2,r2,q2⟩:=zq
 refine ak (wpAny_standAt (ak (wpAny_holding (thn (hs pins s2 σ H2 x y v ov iv u _ I2 r1 r2 r q2) fun _ s3 zq=>?_))))
 obtain ⟨H3,I3,q3⟩:=zq
 exact wpAny_release ⟨σ,H3,I3,q3⟩
noncomputable def Gd (te:TE) (g:TG):TS:=fun D σ H=>te σ H fun x H1=>g x σ H1 D.nx
theorem Jl {tg e:Expr}{te:TE}{g:TG}(he:PE X e te) (hg:PG X tg g) (hs:autoParam (swapsWithSole [tg] e pos.line X.env=pure false) auR) (hw:autoParam (swappedStores [tg] e X.env=pure none) auR)
  (h1:autoParam ((assignEach [tg] X.env).map (·.2)=[assign tg X.env]) auR):PS X (.Assign [tg] e pos) (Gd te g):=by
 intro pins s σ H D I h
 refine wpAny_Assign_stores (thn (he pins s σ H _ I h) fun v s1 zq=>?_) hs hw
 obtain ⟨x,H1,I1,r1,q1⟩:=zq
 rw [h1]
 exact thn (hg pins s1 σ H1 x v _ I1 r1 q1) fun _ s2 q=>q
theorem PQ {i:Nat}{x:Str}{e:Expr}{te:TE}{pos':Pos}(hN:X.N.Nodup) (hi:X.N[i]?=some x) (hx:Loc X.env.scope x) (he:PE X e te) (hs:autoParam (swapsWith e (some (.Name x pos')) pos.line X.env=pure false) auR) (hf:X.fn x=true\/X.env.scope.names.lookup x=some .local:=by first | exact .inl rfl | exact .inr rfl | assumption) :
  PS X (.Assign [.Name x pos'] e pos) (Gd te (Jk i)):=by
 intro pins s σ H D I h
 refine wpAny_Assign_Name (thn (he pins s σ H _ I h) fun v s1 zq=>?_) hs
 obtain ⟨y,H1,I1,r1,q1⟩:=zq
 exact FO I1 hN hi hx r1 (fun s2 I2=>⟨_,H1,I2,q1⟩) hf
end
section
variable {X:Cx}{pos:Pos}
noncomputable def pN (c:TT) (tb:TS):TS:=fun D σ H=>∃ W:Nat->St->Hp->Prop,(∃ m,W m σ H)/\∀ m σ H,W m σ H ->
 c σ H fun b H1=>if b=true then ∃ N:St->Hp->Prop,(∀ σ' H',N σ' H'->∃ m',m' < m/\W m' σ' H')/\tb { D with nx:=N,ct:=N,bk:=D.nx } σ H1 else D.nx σ H1
theorem yH {c:Expr}{body:List Stmt}{tc:TT}{tb:TS}(hp:PassesOwn (model X.prog X.w) X.A X.env X.xe) (hc:PT X c tc) (hb:PSs X body tb):PS X (.While c body [] pos) (pN tc tb):=by
 intro pins s σ H D I h
 obtain ⟨W,⟨m0,w0⟩,turn⟩:=h
 refine wpAny_While (codeAny_whileLoop (fun n s'=>∃ σ' H',Inv X pins σ' H' s'/\W n σ' H') ?_ m0 ⟨σ,H,I,w0⟩)
 rintro n s1 ⟨σ1,H1,I1,w1⟩
 refine wpAny_passesOwn hp (thn (hc pins s1 σ1 H1 _ I1 (turn n σ1 H1 w1)) fun b s2 zq=>?_)
 obtain ⟨H2,I2,q2⟩:=zq
 cases b with
 | true =>
  obtain ⟨N,hN,q2⟩:=q2
  rw [if_pos rfl]
  refine wpAny_passesOwn hp (thn (hb pins s2 σ1 H2 _ I2 q2) fun f s3 q3=>?_)
  cases f with
  | next =>
   obtain ⟨σ3,H3,I3,n3⟩:=q3
   obtain ⟨m',hm,w3⟩:=hN σ3 H3 n3
   exact ⟨m',hm,σ3,H3,I3,w3⟩
  | cont =>
   obtain ⟨σ3,H3,I3,n3⟩:=q3
   obtain ⟨m',hm,w3⟩:=hN σ3 H3 n3
   exact ⟨m',hm,σ3,H3,I3,w3⟩
  | brk=>exact q3
  | ret v=>exact q3
 | false =>
  rw [if_neg aD]
  exact wpAny_execs_nil ⟨σ1,H2,I2,q2⟩
end
structure It where
 go:Nat->Hp->Prop
 yld:Nat->Hp->V->Hp->Prop
 stop:Nat->Hp->Prop
noncomputable def NW (X:Cx) (pins:List (Addr × Obj)) (H:Hp) (b:Addr):Prop :=
 H b=none/\b≠X.env.locals/\b∉X.fs/\(b∈X.ex\/X.s₀.heap.objs.size<=b)/\(∀ x c,X.env.cells.lookup x=some c->c≠b)/\∀ p∈X.pn++pins,p.1≠b
theorem Inv.yI {X:Cx}{pins:List (Addr × Obj)}{σ:St}{H H':Hp}{s:Shared}{b:Addr}(I:Inv X pins σ H s) (hb:s.heap.objs.size<=b) (hn:H' b=none):NW X pins H' b:=by
 refine ⟨hn,Nat.ne_of_gt (Nat.lt_of_lt_of_le I.lt hb),I.nofs hb,.inr (Nat.le_trans I.sz hb),fun x c e z=>?_,fun p hp z=>?_⟩
 ·obtain ⟨v,q⟩:=I.cell x c e
  exact absurd (Nat.lt_of_lt_of_le q.lt (by rw [z];exact hb)) (Nat.lt_irrefl _)
 ·exact absurd (Nat.lt_of_lt_of_le (az (I.pin p hp).1) (by rw [z];exact hb)) (Nat.lt_irrefl _)
structure Turn (P:Program) (w:World) (K:aj) (tg:Expr) (J:It) (fp:List Addr) (it:Addr) (tn:Nat->Heap->Prop):Prop where
 mem:it∈fp
 obj:∀ i h,tn i h->∀ b∈fp,∃ o,h.get? b=some o/\∀ v,o.data ≠ .cell v
 keep:∀ i h h',tn i h->(∀ b∈fp,∀ o,h.get? b=some o->h'.get? b=some o)->tn i h'
 item:∀ (X:Cx),X.prog=P->X.w=w->X.K=K->X.calm=true->∀ (i:Nat) (pins:List (Addr × Obj)) (s:Shared) (σ:St) (H:Hp) (E:Value->Shared->Prop),Inv X pins σ H s->(∀ b∈fp,NW X pins H b)->tn i s.heap->J.go i H ->
  wpAny (model P w) X.A (pyNext (.ref it)) (fun r s1=>∃ u,r=some u /\
   wpAny (model P w) X.A (letOwnedTupleGo tg (.ref it) u) (fun _ s2=>∃ x H',Inv X pins σ H' s2/\RelV x u/\J.yld i H x H'/\tn (i + 1) s2.heap/\∀ b∈fp,H' b=none) E s1) E s
 done:∀ (X:Cx),X.prog=P->X.w=w->X.K=K->X.calm=true->∀ (i:Nat) (pins:List (Addr × Obj)) (s:Shared) (σ:St) (H:Hp) (E:Value->Shared->Prop),Inv X pins σ H s->(∀ b∈fp,NW X pins H b)->tn i s.heap->J.stop i H ->
  wpAny (model P w) X.A (pyNext (.ref it)) (fun r s1=>r=none/\Inv X pins σ H s1) E s
 self:∀ (A:Around) (i:Nat) (s:Shared) (Q:Value->Shared->Prop) (E:Value->Shared->Prop),tn i s.heap->Q (.ref it) s->wpAny (model P w) A (pyIter (.ref it)) Q E s
abbrev TI:=St->Hp->(It->Hp->Prop)->Prop
noncomputable def PIE (X:Cx) (pins:List (Addr × Obj)) (σ:St) (tg:Expr) (R:It->Hp->Prop) (itv:Value) (s2:Shared):Prop :=
 ∃ (it:Addr) (fp:List Addr) (tn:Nat->Heap->Prop) (J:It) (H':Hp),itv = .ref it/\Inv X pins σ H' s2/\Turn X.prog X.w X.K tg J fp it tn/\tn 0 s2.heap/\(∀ b∈fp,NW X pins H' b)/\R J H'
noncomputable def PI (X:Cx) (tg iter:Expr) (wi:TI):Prop :=
 ∀ (pins:List (Addr × Obj)) (s:Shared) (σ:St) (H:Hp) (R:It->Hp->Prop),Inv X pins σ H s->wi σ H R ->
  wpAny (model X.prog X.w) X.A (eval iter X.env) (fun v s1=>wpAny (model X.prog X.w) X.A (pyIter v) (PIE X pins σ tg R) X.xe s1) X.xe s
theorem Bj {M:Model}{A:Around}{E:Value->Shared->Prop}{s:Shared}{tg:Expr}{it:Addr}{u:Value}{o:Obj}{n:String}{vs:Array Value}{Q:Unit->Shared->Prop}(ho:s.heap.get? it=some o) (hc:o.cls = .type n) (hd:o.data = .fields vs)
    (hn:["enumerate", "zip", "dict_itemiterator", "dict_reverseitemiterator", "odict_iterator", "itertools.zip_longest", "itertools.pairwise"].contains n=false) (hQ:Q () s):wpAny M A (letOwnedTupleGo tg (.ref it) u) Q E s:=by
  unfold letOwnedTupleGo
  cases tg <;> first
    | exact ao hQ
    | (cases u <;> first
        | exact ao hQ
        | (refine ak (wpAny_load ho ?_)
           rw [hc,hd]
           show wpAny M A (if (["enumerate", "zip", "dict_itemiterator", "dict_reverseitemiterator", "odict_iterator", "itertools.zip_longest", "itertools.pairwise"].contains n && vs[0]? == some (rawInt _))=true then _ else _) Q E s
           rw [if_neg (by intro h;rw [hn,Bool.false_and] at h;cases h)]
           exact ao hQ))
noncomputable def Itl (K:aj) (a:Addr):It :=
 ⟨fun i H=>∃ xs x,SqL K H a xs/\xs[i]?=some x,fun i H x H'=>H'=H/\∀ xs,SqL K H a xs->xs[i]?=some x,fun i H=>∃ xs,SqL K H a xs/\xs.length<=i⟩
noncomputable def Itt (K:aj) (a:Addr):It :=
 ⟨fun i H=>∃ xs x,SqT K H a xs/\xs[i]?=some x,fun i H x H'=>H'=H/\∀ xs,SqT K H a xs->xs[i]?=some x,fun i H=>∃ xs,SqT K H a xs/\xs.length<=i⟩
noncomputable def Itr (lo:Int) (n:Nat):It:=⟨fun i _=>i < n,fun i H x H'=>H'=H/\x = .int (lo + i),fun i _=>n<=i⟩
theorem Az {P:Program}{w:World}{K:aj}{tg:Expr}(a it:Addr):Turn P w K tg (Itl K a) [it] it (fun i h=>h.IsListIter it a i) where
 mem:=by simp
 obj:=fun i h st b hb=>by
  have e:b=it:=by simpa using hb
  subst e
  obtain ⟨o,e,c,d⟩:=st
  exact ⟨o,e,fun v z=>by rw [d] at z;cases z⟩
 keep:=fun i h h' st k=>st.at fun o e=>k it (by simp) o e
 item:=by
  intro X hP hw hK hc i pins s σ H E I hf st hg
  subst hP hw hK
  obtain ⟨xs,x,hq,hx⟩:=hg
  obtain ⟨its,rv,p,hz⟩:=I.list hq
  obtain ⟨u,hu,ru⟩:=rv.get hx
  obtain ⟨f0,f1,f2,f3,f4,f5⟩:=hf it (by simp)
  refine wpAny_pyNext_list_item st p.isList (x:=u) (by simpa using hu) fun h' st' sb=>?_
  have I1:Inv X pins σ H { s with heap:=h' }:=I.turned (t':=s.toks) (fun b o hb e=>(sb.2 b hb).trans e) f0 f1 f3 f4 f5
  obtain ⟨o,e,c,d⟩:=id st'
  exact ⟨u,rfl,Bj (s:={ s with heap:=h' }) e c d (by decide) ⟨x,H,I1,ru,⟨rfl,fun ys hy=>by rw [I.Ni hy hq];exact hx⟩,st',fun b hb=>(hf b hb).1⟩⟩
 done:=by
  intro X hP hw hK hc i pins s σ H E I hf st hg
  subst hP hw hK
  obtain ⟨xs,hq,hx⟩:=hg
  obtain ⟨its,rv,p,hz⟩:=I.list hq
  obtain ⟨f0,f1,f2,f3,f4,f5⟩:=hf it (by simp)
  have hl:=rv.length
  exact wpAny_pyNext_list_end (I.ok.hd hc) st p.isList (by simp;omega) fun h' eb=>⟨rfl,I.turned (t':=s.toks) (fun b o hb e=>eb b o hb e) f0 f1 f3 f4 f5⟩
 self:=fun _ _ _ _ _ st h=>wpAny_pyIter_listiter st h
theorem Dr {P:Program}{w:World}{K:aj}{tg:Expr}(a it:Addr):Turn P w K tg (Itt K a) [it] it (fun i h=>h.IsTupleIter it a i) where
 mem:=by simp
 obj:=fun i h st b hb=>by
  have e:b=it:=by simpa using hb
  subst e
  obtain ⟨o,e,c,d⟩:=st
  exact ⟨o,e,fun v z=>by rw [d] at z;cases z⟩
 keep:=fun i h h' st k=>st.at fun o e=>k it (by simp) o e
 item:=by
  intro X hP hw hK hc i pins s σ H E I hf st hg
  subst hP hw hK
  obtain ⟨xs,x,hq,hx⟩:=hg
  obtain ⟨its,rv,p,hz⟩:=I.tuple hq
  obtain ⟨u,hu,ru⟩:=rv.get hx
  obtain ⟨f0,f1,f2,f3,f4,f5⟩:=hf it (by simp)
  refine wpAny_pyNext_tuple_item st (show s.heap.IsTuple a its.toArray from p) (x:=u) (by simpa using hu) fun h' st' sb=>?_
  have I1:Inv X pins σ H { s with heap:=h' }:=I.turned (t':=s.toks) (fun b o hb e=>(sb.2 b hb).trans e) f0 f1 f3 f4 f5
  obtain ⟨o,e,c,d⟩:=id st'
  exact ⟨u,rfl,Bj (s:={ s with heap:=h' }) e c d (by decide) ⟨x,H,I1,ru,⟨rfl,fun ys hy=>by rw [I.QK hy hq];exact hx⟩,st',fun b hb=>(hf b hb).1⟩⟩
 done:=by
  intro X hP hw hK hc i pins s σ H E I hf st hg
  subst hP hw hK
  obtain ⟨xs,hq,hx⟩:=hg
  obtain ⟨its,rv,p,hz⟩:=I.tuple hq
  obtain ⟨f0,f1,f2,f3,f4,f5⟩:=hf it (by simp)
  have hl:=rv.length
  exact wpAny_pyNext_tuple_end (I.ok.hd hc) st (show s.heap.IsTuple a its.toArray from p) (by simp;omega) fun h' eb=>⟨rfl,I.turned (t':=s.toks) (fun b o hb e=>eb b o hb e) f0 f1 f3 f4 f5⟩
 self:=fun _ _ _ _ _ st h=>wpAny_pyIter_tupleiter st h
theorem Ds {P:Program}{w:World}{K:aj}{tg:Expr}(it:Addr) (lo:Int) (n:Nat):Turn P w K tg (Itr lo n) [it] it (fun i h=>IsRangeIter h it (lo + (i:Nat) * 1) ((n:Int) - (i:Nat)) 1) where
 mem:=by simp
 obj:=fun i h st b hb=>by
  have e:b=it:=by simpa using hb
  subst e
  exact ⟨_,st,fun v z=>by
   have z':Data.fields _=Data.cell v:=z
   cases z'⟩
 keep:=fun i h h' st k=>k it (by simp) _ st
 item:=by
  intro X hP hw hK hc i pins s σ H E I hf st hg
  subst hP hw hK
  obtain ⟨f0,f1,f2,f3,f4,f5⟩:=hf it (by simp)
  have W:=Walks.range (prog:=X.prog) (w:=X.w) (I.ok.hd hc) it lo 1 n
  refine W.item i s _ _ hg st fun v h' tk hv st' kk=>?_
  obtain ⟨t,rfl⟩:=hv
  have I1:Inv X pins σ H { s with heap:=h',toks:=tk }:=I.turned (fun b o hb e=>kk b o (by simpa using hb) e) f0 f1 f3 f4 f5
  refine ⟨_,rfl,Bj (s:={ s with heap:=h',toks:=tk }) (n := "range_iterator") st' rfl rfl (by decide) ⟨.int (lo + i),H,I1,⟨t,?_⟩,⟨rfl,rfl⟩,st',fun b hb=>(hf b hb).1⟩⟩
  rw [Int.mul_one]
 done:=by
  intro X hP hw hK hc i pins s σ H E I hf st hg
  subst hP hw hK
  obtain ⟨f0,f1,f2,f3,f4,f5⟩:=hf it (by simp)
  exact wpAny_pyNext_range_end (I.ok.hd hc) st (by have:n<=i:=hg;omega) fun h' eb=>⟨rfl,I.turned (t':=s.toks) (fun b o hb e=>eb b o hb e) f0 f1 f3 f4 f5⟩
 self:=fun _ _ _ _ _ st h=>wpAny_pyIter_rangeiter st h
section
variable {X:Cx}{tg:Expr}
theorem yJ {pins:List (Addr × Obj)}{σ:St}{H:Hp}{s:Shared}{R:It->Hp->Prop}{E:Value->Shared->Prop}{lo hi:Int}{t u v:Tok}{tk:Nat}(I:Inv X pins σ H s) (h1 : -(2 ^ 62)<=lo) (h2:lo < 2 ^ 62) (h3 : -(2 ^ 62)<=hi) (h4:hi < 2 ^ 62)
  (q:R (Itr lo (hi - lo).toNat) H):wpAny (model X.prog X.w) X.A (pyIter (.ref s.heap.objs.size)) (PIE X pins σ tg R) E { s with heap:=s.heap.push { cls := .type "range",data := .fields #[.int lo t,.int hi u,.int 1 v] },toks:=tk }:=by
 refine wpAny_pyIter_range (IsRange.new ..) (small_one h1 h2 h3 h4) ?_
 have I1:Inv X pins σ H { s with heap:=s.heap.push { cls := .type "range",data := .fields #[.int lo t,.int hi u,.int 1 v] },toks:=tk }:=I.kept fun b o e=>aq _ e
 refine ⟨(s.heap.push { cls := .type "range",data := .fields #[.int lo t,.int hi u,.int 1 v] }).objs.size,[(s.heap.push { cls := .type "range",data := .fields #[.int lo t,.int hi u,.int 1 v] }).objs.size],_,_,H,rfl,
  I1.kept (t':=tk) fun b o e=>aq _ e,Ds _ lo (hi - lo).toNat,?_,fun b hb=>?_,q⟩
 ·have e1:lo + ((0:Nat):Int) * 1=lo:=by simp
  have e2:(((hi - lo).toNat:Nat):Int) - ((0:Nat):Int)=Builtin.Range.rangeSize lo hi 1:=by rw [rangeSize_one];split <;> omega
  show IsRangeIter _ _ (lo + ((0:Nat):Int) * 1) ((((hi - lo).toNat:Nat):Int) - ((0:Nat):Int)) 1
  rw [e1,e2]
  exact au _ rfl
 ·have e:b=(s.heap.push { cls := .type "range",data := .fields #[.int lo t,.int hi u,.int 1 v] }).objs.size:=by simpa using hb
  subst e
  exact I1.yI (Nat.le_refl _) (I1.hok.fresh (Nat.le_refl _))
noncomputable def iRng1 (ta:TA):TI:=fun σ H R=>ta σ H fun vs H1=>∃ j:Int,vs=[.int j] /\ -(2 ^ 62)<=j/\j < 2 ^ 62/\R (Itr 0 j.toNat) H1
theorem AA {a:Expr}{ta:TA}{p pos:Pos}(hg:Gl X "range") (hm:X.mg "range" = none) (ha:PA X [a] ta) (hs:autoParam (starEach [a] X.env=[(false,eval a X.env)]) auR):PI X tg (.Call (.Name "range" p) [a] [] pos) (iRng1 ta):=by
 intro pins s σ H R I h
 refine Call_ (Jj I hg hm boot_range (PyProof.Rows.callWith_type1 (thn (ha pos pins s σ H _ I h) fun us s1 zq=>?_) hs rfl))
 obtain ⟨vs,H1,I1,r1,q1⟩:=zq
 obtain ⟨j,e,q1,q2,q⟩:=q1
 subst e
 cases r1 with
 | cons r rr =>
  cases rr
  obtain ⟨t,rfl⟩:=r
  exact call_range_1 (yJ I1 (by omega) (by omega) q1 q2 (by simpa using q))
noncomputable def tFor (wi:TI) (g:TG) (tb:TS):TS:=fun D σ H=>wi σ H fun J H1=>∃ W:Nat->Nat->St->Hp->Prop,(∃ m,W 0 m σ H1)/\∀ i m σ H,W i m σ H ->
 (J.stop i H/\D.nx σ H)\/(J.go i H/\∃ N:St->Hp->Prop,(∀ σ' H',N σ' H'->∃ m',m' < m/\W (i + 1) m' σ' H')/\∀ x H',J.yld i H x H'->g x σ H' fun σ2 H2=>tb { D with nx:=N,ct:=N,bk:=D.nx } σ2 H2)
noncomputable def Jm (fp:List Addr) (h:Heap):List (Addr × Obj):=fp.filterMap fun b=>(h.get? b).map fun o=>(b,o)
theorem SC {fp:List Addr}{h:Heap}{b:Addr}{o:Obj}(hb:b∈fp) (e:h.get? b=some o):(b,o)∈Jm fp h:=List.mem_filterMap.mpr ⟨b,hb,by rw [e];rfl⟩
theorem AB {fp:List Addr}{h:Heap}{p:Addr × Obj}(hp:p∈Jm fp h):p.1∈fp/\h.get? p.1=some p.2:=by
 obtain ⟨b,hb,e⟩:=List.mem_filterMap.mp hp
 cases q:h.get? b with
 | none=>rw [q] at e;cases e
 | some o =>
  rw [q] at e
  have e':(b,o)=p:=Option.some.inj e
  subst e'
  exact ⟨hb,q⟩
theorem Inv.pinned {pins:List (Addr × Obj)}{σ:St}{H:Hp}{s:Shared}{fp:List Addr}(I:Inv X pins σ H s) (hf:∀ b∈fp,NW X pins H b) (ho:∀ b∈fp,∃ o,s.heap.get? b=some o/\∀ v,o.data ≠ .cell v):Inv X (pins++Jm fp s.heap) σ H s :=
 I.Bi fun p hp=>(mem_append.mp hp).elim (fun z=>I.pin p (mem_append_right _ z)) fun z=>by
  obtain ⟨hb,e⟩:=AB z
  obtain ⟨f0,f1,f2,_⟩:=hf p.1 hb
  obtain ⟨o,e',d⟩:=ho p.1 hb
  rw [e] at e';cases e'
  exact ⟨e,f0,f1,f2,d⟩
theorem Inv.Nj {pins pl:List (Addr × Obj)}{σ:St}{H:Hp}{s:Shared}(I:Inv X (pins++pl) σ H s):Inv X pins σ H s:=I.Bi fun p hp=>I.pin p (mem_append_right _ (mem_append_left _ hp))
theorem pO {iter:Expr}{body:List Stmt}{wi:TI}{g:TG}{tb:TS}{pos:Pos}(hp:PassesOwn (model X.prog X.w) X.A X.env X.xe) (hc:X.calm=true) (hi:PI X tg iter wi) (hg:PG X tg g) (hb:PSs X body tb)
  (hs:∀ x,foldedSetIterable iter X.env x=pure x:=by intro _;rfl):PS X (.For tg iter body [] pos) (tFor wi g tb):=by
 intro pins s σ H D I h
 refine wpAny_For (thn (hi pins s σ H _ I h) fun v s1 h1=>thn h1 fun itv s2 h2=>?_) hs
 obtain ⟨it,fp,tn,J,H2,e,I2,T,st2,f2,W,⟨m0,w0⟩,turn⟩:=h2
 subst e
 -- what stays true of the iterator's objects through the loop
 have stat:∀ {H':Hp},(∀ b∈fp,H' b=none)->∀ b∈fp,NW X pins H' b:=fun hn b hb=>⟨hn b hb,(f2 b hb).2⟩
 refine codeAny_forLoop_any (fun n s'=>∃ i σ' H',Inv X pins σ' H' s'/\tn i s'.heap/\(∀ b∈fp,H' b=none)/\W i n σ' H') ?_ m0 ⟨0,σ,H2,I2,st2,fun b hb=>(f2 b hb).1,w0⟩
 rintro n s3 ⟨i,σ3,H3,I3,st3,fr3,w3⟩
 rcases turn i n σ3 H3 w3 with ⟨stop,qn⟩ | ⟨go,N,hN,step⟩
 ·refine wpAny_passesOwn hp (thn (T.done X rfl rfl rfl hc i pins s3 σ3 H3 X.xe I3 (stat fr3) st3 stop) fun r s4 zq=>?_)
  obtain ⟨hr,I4⟩:=zq
  subst hr
  exact wpAny_execs_nil ⟨σ3,H3,I4,qn⟩
 ·refine wpAny_passesOwn hp (thn (T.item X rfl rfl rfl hc i pins s3 σ3 H3 X.xe I3 (stat fr3) st3 go) fun r s4 zq=>?_)
  obtain ⟨u,hr,h4⟩:=zq
  subst hr
  refine wpAny_passesOwn hp (thn h4 fun _ s5 zq=>?_)
  obtain ⟨x,H5,I5,r5,y5,st5,fr5⟩:=zq
  have I5':=I5.pinned (stat fr5) (T.obj _ _ st5)
  refine wpAny_passesOwn hp (thn (hg _ s5 σ3 H5 x u _ I5' r5 (step x H5 y5)) fun _ s6 zq=>?_)
  obtain ⟨σ6,H6,I6,q6⟩:=zq
  refine wpAny_passesOwn hp (thn (hb _ s6 σ6 H6 _ I6 q6) fun f s7 q7=>?_)
  have again:∀ {σ7:St}{H7:Hp},Inv X (pins++Jm fp s5.heap) σ7 H7 s7->N σ7 H7->∃ m,m < n/\∃ i σ' H',Inv X pins σ' H' s7/\tn i s7.heap/\(∀ b∈fp,H' b=none)/\W i m σ' H':=fun {σ7 H7} I7 n7=>by
   obtain ⟨m',hm,w7⟩:=hN σ7 H7 n7
   refine ⟨m',hm,i + 1,σ7,H7,I7.Nj,T.keep _ _ _ st5 fun b hb o e=>(I7.pin (b,o) (mem_append_right _ (mem_append_right _ (SC hb e)))).1,fun b hb=>?_,w7⟩
   obtain ⟨o,e,d⟩:=T.obj _ _ st5 b hb
   exact (I7.pin (b,o) (mem_append_right _ (mem_append_right _ (SC hb e)))).2.1
  cases f with
  | next=>obtain ⟨σ7,H7,I7,n7⟩:=q7;exact again I7 n7
  | cont=>obtain ⟨σ7,H7,I7,n7⟩:=q7;exact again I7 n7
  | brk=>obtain ⟨σ7,H7,I7,q7⟩:=q7;exact ⟨σ7,H7,I7.Nj,q7⟩
  | ret v=>obtain ⟨x7,σ7,H7,I7,r7,q7⟩:=q7;exact ⟨x7,σ7,H7,I7.Nj,r7,q7⟩
end
abbrev R2:=V->V->Hp->VK->Prop
noncomputable def OpR (X:Cx) (f:Value->Value->Sem Value) (r:R2):Prop :=
 ∀ (pins:List (Addr × Obj)) (s:Shared) (σ:St) (H:Hp) (x y:V) (v u:Value) (Q:VK),Inv X pins σ H s->RelV x v->RelV y u->r x y H Q ->
  wpAny (model X.prog X.w) X.A (f v u) (EP X pins σ Q) X.xe s
noncomputable def UnR (X:Cx) (f:Value->Sem Value) (r:V->Hp->VK->Prop):Prop :=
 ∀ (pins:List (Addr × Obj)) (s:Shared) (σ:St) (H:Hp) (x:V) (v:Value) (Q:VK),Inv X pins σ H s->RelV x v->r x H Q ->
  wpAny (model X.prog X.w) X.A (f v) (EP X pins σ Q) X.xe s
noncomputable def Xn (X:Cx) (f:Value) (r:List V->Hp->VK->Prop):Prop :=
 ∀ (pins:List (Addr × Obj)) (s:Shared) (σ:St) (H:Hp) (xs:List V) (us:List Value) (Q:VK),Inv X pins σ H s->Vals xs us->r xs H Q ->
  wpAny (model X.prog X.w) X.A (call f us) (EP X pins σ Q) X.xe s
noncomputable def TruR (X:Cx) (r:V->Hp->(Bool->Hp->Prop)->Prop):Prop :=
 ∀ (pins:List (Addr × Obj)) (s:Shared) (σ:St) (H:Hp) (x:V) (v:Value) (Q:Bool->Hp->Prop),Inv X pins σ H s->RelV x v->r x H Q ->
  wpAny (model X.prog X.w) X.A (truthy v) (TP X pins σ Q) X.xe s
noncomputable def tOp (r:R2) (ta tb:TE):TE:=fun σ H Q=>ta σ H fun x H1=>tb σ H1 fun y H2=>r x y H2 Q
noncomputable def tUn (r:V->Hp->VK->Prop) (ta:TE):TE:=fun σ H Q=>ta σ H fun x H1=>r x H1 Q
noncomputable def rI (C:Int->Int->Prop) (g:Int->Int->V):R2:=fun x y H Q=>∃ i j,x = .int i/\y = .int j/\C i j/\Q (g i j) H
noncomputable def rI0 (g:Int->Int->V):R2:=fun x y H Q=>∃ i j,x = .int i/\y = .int j/\Q (g i j) H
noncomputable def rU (g:Int->V):V->Hp->VK->Prop:=fun x H Q=>∃ i,x = .int i/\Q (g i) H
section
variable {X:Cx}{a b c:Expr}{ta tb tc:TE}{pos:Pos}
theorem binT (ha:PE X a ta) (hb:PE X b tb) {pins:List (Addr × Obj)}{s:Shared}{σ:St}{H:Hp}{R:V->V->Hp->Prop}(I:Inv X pins σ H s)
  (h:ta σ H fun x H1=>tb σ H1 fun y H2=>R x y H2) {Q:Value->Shared->Prop}{f:Value->Value->Sem Value}
  (hf:∀ v u s2 x y H2,Inv X pins σ H2 s2->RelV x v->RelV y u->R x y H2->wpAny (model X.prog X.w) X.A (f v u) Q X.xe s2) :
  wpAny (model X.prog X.w) X.A (eval a X.env) (fun v s₁=>wpAny (model X.prog X.w) X.A (eval b X.env) (fun u s₂=>wpAny (model X.prog X.w) X.A (f v u) Q X.xe s₂) X.xe s₁) X.xe s:=by
 refine thn (ha pins s σ H _ I h) fun v s1 zq=>?_
 obtain ⟨x,H1,I1,r1,q1⟩:=zq
 refine thn (hb pins s1 σ H1 _ I1 q1) fun u s2 zq=>?_
 obtain ⟨y,H2,I2,r2,q2⟩:=zq
 exact hf v u s2 x y H2 I2 r1 r2 q2
theorem pe_op {op:Operator}{r:R2}(ho:OpR X (binaryOp op) r) (ha:PE X a ta) (hb:PE X b tb):PE X (.BinOp a op b pos) (tOp r ta tb):=by
 intro pins s σ H Q I h
 exact wpAny_BinOp (binT ha hb I h fun v u s2 x y H2 I2 rx ry q=>ho pins s2 σ H2 x y v u Q I2 rx ry q)
theorem pe_un {op:UnaryOp}{r:V->Hp->VK->Prop}(ho:UnR X (unaryOp op) r) (ha:PE X a ta):PE X (.UnaryOp op a pos) (tUn r ta):=by
 intro pins s σ H Q I h
 exact UnaryOp_ (thn (ha pins s σ H _ I h) fun v s1 ⟨x,H1,I1,r1,q1⟩=>ho pins s1 σ H1 x v Q I1 r1 q1)
theorem opI {f:Value->Value->Sem Value}{C:Int->Int->Prop}{g:Int->Int->Int}
  (rule:∀ (i j:Int) (t u:Tok) (s:Shared) (Q:Value->Shared->Prop) (E:Value->Shared->Prop),C i j->Q (.int (g i j) s.toks) { s with toks:=s.toks + 1 }->wpAny (model X.prog X.w) X.A (f (.int i t) (.int j u)) Q E s) :
  OpR X f (rI C fun i j => .int (g i j)):=by
 intro pins s σ H x y v u Q I rx ry h
 obtain ⟨i,j,rfl,rfl,hc,q⟩:=h
 obtain ⟨t,rfl⟩:=rx
 obtain ⟨t',rfl⟩:=ry
 exact rule i j t t' s _ _ hc ⟨.int (g i j),H,I.tok _,⟨_,rfl⟩,q⟩
theorem opI0 {f:Value->Value->Sem Value}{g:Int->Int->Int}
  (rule:∀ (i j:Int) (t u:Tok) (s:Shared) (Q:Value->Shared->Prop) (E:Value->Shared->Prop),Q (.int (g i j) s.toks) { s with toks:=s.toks + 1 }->wpAny (model X.prog X.w) X.A (f (.int i t) (.int j u)) Q E s) :
  OpR X f (rI0 fun i j => .int (g i j)):=by
 intro pins s σ H x y v u Q I rx ry h
 obtain ⟨i,j,rfl,rfl,q⟩:=h
 obtain ⟨t,rfl⟩:=rx
 obtain ⟨t',rfl⟩:=ry
 exact rule i j t t' s _ _ ⟨.int (g i j),H,I.tok _,⟨_,rfl⟩,q⟩
theorem opB0 {f:Value->Value->Sem Value}{g:Int->Int->Bool}
  (rule:∀ (i j:Int) (t u:Tok) (s:Shared) (Q:Value->Shared->Prop) (E:Value->Shared->Prop),Q (.bool (g i j)) s->wpAny (model X.prog X.w) X.A (f (.int i t) (.int j u)) Q E s) :
  OpR X f (rI0 fun i j => .bl (g i j)):=by
 intro pins s σ H x y v u Q I rx ry h
 obtain ⟨i,j,rfl,rfl,q⟩:=h
 obtain ⟨t,rfl⟩:=rx
 obtain ⟨t',rfl⟩:=ry
 exact rule i j t t' s _ _ ⟨.bl (g i j),H,I,rfl,q⟩
noncomputable def CPow (i j:Int):Prop:=0<=j/\j<=1000000/\i.natAbs < 2 ^ 64
noncomputable def CMul (i j:Int):Prop:=(-(2 ^ 64) < i/\i < 2 ^ 64)\/(-(2 ^ 64) < j/\j < 2 ^ 64)
theorem CMul.ok {i j:Int}(h:CMul i j):IntMulOk i j:=by
 rcases h with ⟨h1,h2⟩ | ⟨h1,h2⟩
 ·exact .of_left (intBits_le_64 h1 h2)
 ·exact .of_right (intBits_le_64 h1 h2)
theorem pP:OpR X (binaryOp .Add) (rI0 fun i j => .int (i + j)):=opI0 fun _ _ _ _ _ _ _ q=>add_int q
theorem pQ:OpR X (binaryOp .Sub) (rI0 fun i j => .int (i - j)):=opI0 fun _ _ _ _ _ _ _ q=>sub_int q
theorem uJ:OpR X (binaryOp .Mod) (rI (fun _ j=>j≠0) fun i j => .int (i.fmod j)):=opI fun _ _ _ _ _ _ _ hc q=>mod_int' hc q
theorem pR:OpR X (binaryOp .Pow) (rI CPow fun i j => .int (i ^ j.toNat)):=opI fun _ _ _ _ _ _ _ hc q=>pow_int_small hc.1 hc.2.1 hc.2.2 q
theorem unI {f:Value->Sem Value}{g:Int->Int}
  (rule:∀ (i:Int) (t:Tok) (s:Shared) (Q:Value->Shared->Prop) (E:Value->Shared->Prop),Q (.int (g i) s.toks) { s with toks:=s.toks + 1 }->wpAny (model X.prog X.w) X.A (f (.int i t)) Q E s) :
  UnR X f (rU fun i => .int (g i)):=by
 intro pins s σ H x v Q I rx h
 obtain ⟨i,rfl,q⟩:=h
 obtain ⟨t,rfl⟩:=rx
 exact rule i t s _ _ ⟨.int (g i),H,I.tok _,⟨_,rfl⟩,q⟩
theorem pS:UnR X (unaryOp .USub) (rU fun i => .int (-i)):=unI fun _ _ _ _ _ q=>neg_int q
end
noncomputable def scal:V->V->Bool
 | .non,.non=>true | .non,.int _=>true | .int _,.non=>true | .non,.bl _=>true | .bl _,.non=>true | .non,.str _=>true | .str _,.non=>true
 | .int _,.int _=>true | .bl _,.bl _=>true | .str _,.str _=>true | .byt _,.byt _=>true
 | .int _,.str _=>true | .str _,.int _=>true | .bl _,.str _=>true | .str _,.bl _=>true
 | _,_=>false
noncomputable def rEq:R2:=fun x y H Q=>scal x y=true/\Q (.bl (decide (x=y))) H
noncomputable def rNe:R2:=fun x y H Q=>scal x y=true/\Q (.bl (!decide (x=y))) H
theorem Bk {i j:Int}:decide (V.int i=V.int j)=(i == j):=by
 rw [Bool.eq_iff_iff]
 simp
theorem yK {i j:Bool}:decide (V.bl i=V.bl j)=(i == j):=by
 rw [Bool.eq_iff_iff]
 simp
theorem Bl {i j:Str}:decide (V.str i=V.str j)=(i == j):=by
 rw [Bool.eq_iff_iff]
 simp
theorem Bn {i j:Array UInt8}:decide (V.byt i=V.byt j)=(i.toList == j.toList):=by
 rw [Bool.eq_iff_iff]
 cases i
 cases j
 simp
section
variable {X:Cx}{a b c:Expr}{ta tb tc:TE}{pos:Pos}
theorem ZW {pins:List (Addr × Obj)}{σ:St}{H:Hp}{s:Shared}{Q:VK}{k k':Bool}(I:Inv X pins σ H s) (q:Q (.bl k) H) (e:k=k'):EP X pins σ Q (.bool k') s:=by
 subst e
 exact ⟨.bl k,H,I,rfl,q⟩
theorem op_eq:OpR X (compareOp .Eq) rEq:=by
 intro pins s σ H x y v u Q I rx ry h
 obtain ⟨hs,q⟩:=h
 cases x with
 | non =>
  cases rx
  cases y with
  | non=>cases ry;exact PySem.EqNone.eq_none_none (ZW I q (by simp))
  | bl j=>cases ry;exact PySem.EqNone.eq_none_bool (ZW I q (by simp))
  | int j=>obtain ⟨t',rfl⟩:=ry;exact PySem.EqNone.eq_none_int (ZW I q (by simp))
  | str j=>obtain ⟨t',rfl⟩:=ry;exact PySem.EqNone.eq_none_str (ZW I q (by simp))
  | _=>exact absurd (show false=true from hs) aD
 | bl i =>
  cases rx
  cases y with
  | non=>cases ry;exact PySem.EqNone.eq_bool_none (ZW I q (by simp))
  | bl j=>cases ry;exact eq_bool (ZW I q yK)
  | str j=>obtain ⟨t',rfl⟩:=ry;exact PySem.EqMixed.eq_bool_str (ZW I q (by simp))
  | _=>exact absurd (show false=true from hs) aD
 | int i =>
  obtain ⟨t,rfl⟩:=rx
  cases y with
  | non=>cases ry;exact PySem.EqNone.eq_int_none (ZW I q (by simp))
  | int j=>obtain ⟨t',rfl⟩:=ry;exact eq_int (ZW I q Bk)
  | str j=>obtain ⟨t',rfl⟩:=ry;exact PySem.EqMixed.eq_int_str (ZW I q (by simp))
  | _=>exact absurd (show false=true from hs) aD
 | str i =>
  obtain ⟨t,rfl⟩:=rx
  cases y with
  | non=>cases ry;exact PySem.EqNone.eq_str_none (ZW I q (by simp))
  | bl j=>cases ry;exact PySem.EqMixed.eq_str_bool (ZW I q (by simp))
  | int j=>obtain ⟨t',rfl⟩:=ry;exact PySem.EqMixed.eq_str_int (ZW I q (by simp))
  | str j=>obtain ⟨t',rfl⟩:=ry;exact eq_str (ZW I q Bl)
  | _=>exact absurd (show false=true from hs) aD
 | byt i =>
  obtain ⟨t,rfl⟩:=rx
  cases y with
  | byt j=>obtain ⟨t',rfl⟩:=ry;exact PySem.W.eq_bytes (ZW I q Bn)
  | _=>exact absurd (show false=true from hs) aD
 | _=>cases y <;> exact absurd (show false=true from hs) aD
theorem op_ne:OpR X (compareOp .NotEq) rNe:=by
 intro pins s σ H x y v u Q I rx ry h
 obtain ⟨hs,q⟩:=h
 cases x with
 | non =>
  cases rx
  cases y with
  | non=>cases ry;exact PySem.EqNone.ne_none_none (ZW I q (by simp))
  | bl j=>cases ry;exact PySem.EqNone.ne_none_bool (ZW I q (by simp))
  | int j=>obtain ⟨t',rfl⟩:=ry;exact PySem.EqNone.ne_none_int (ZW I q (by simp))
  | str j=>obtain ⟨t',rfl⟩:=ry;exact PySem.EqNone.ne_none_str (ZW I q (by simp))
  | _=>exact absurd (show false=true from hs) aD
 | bl i =>
  cases rx
  cases y with
  | non=>cases ry;exact PySem.EqNone.ne_bool_none (ZW I q (by simp))
  | bl j=>cases ry;exact ne_bool (ZW I q (congrArg not yK))
  | str j=>obtain ⟨t',rfl⟩:=ry;exact PySem.EqMixed.ne_bool_str (ZW I q (by simp))
  | _=>exact absurd (show false=true from hs) aD
 | int i =>
  obtain ⟨t,rfl⟩:=rx
  cases y with
  | non=>cases ry;exact PySem.EqNone.ne_int_none (ZW I q (by simp))
  | int j=>obtain ⟨t',rfl⟩:=ry;exact ne_int (ZW I q (congrArg not Bk))
  | str j=>obtain ⟨t',rfl⟩:=ry;exact PySem.EqMixed.ne_int_str (ZW I q (by simp))
  | _=>exact absurd (show false=true from hs) aD
 | str i =>
  obtain ⟨t,rfl⟩:=rx
  cases y with
  | non=>cases ry;exact PySem.EqNone.ne_str_none (ZW I q (by simp))
  | bl j=>cases ry;exact PySem.EqMixed.ne_str_bool (ZW I q (by simp))
  | int j=>obtain ⟨t',rfl⟩:=ry;exact PySem.EqMixed.ne_str_int (ZW I q (by simp))
  | str j=>obtain ⟨t',rfl⟩:=ry;exact ne_str (ZW I q (congrArg not Bl))
  | _=>exact absurd (show false=true from hs) aD
 | byt i =>
  obtain ⟨t,rfl⟩:=rx
  cases y with
  | byt j=>obtain ⟨t',rfl⟩:=ry;exact PySem.W.ne_bytes (ZW I q (congrArg not Bn))
  | _=>exact absurd (show false=true from hs) aD
 | _=>cases y <;> exact absurd (show false=true from hs) aD
theorem op_lt:OpR X (compareOp .Lt) (rI0 fun i j => .bl (decide (i < j))):=opB0 fun _ _ _ _ _ _ _ q=>lt_int q
theorem op_le:OpR X (compareOp .LtE) (rI0 fun i j => .bl (decide (i<=j))):=opB0 fun _ _ _ _ _ _ _ q=>le_int q
theorem op_gt:OpR X (compareOp .Gt) (rI0 fun i j => .bl (decide (j < i))):=opB0 fun _ _ _ _ _ _ _ q=>gt_int q
theorem op_ge:OpR X (compareOp .GtE) (rI0 fun i j => .bl (decide (j<=i))):=opB0 fun _ _ _ _ _ _ _ q=>ge_int q
theorem AD:OpR X (compareOp .In) (fun x y H Q=>∃ i j,x = .str i/\y = .str j/\Q (.bl (!(Builtin.Str.occurrences j i 0 j.length 1).isEmpty)) H):=by
 intro pins s σ H x y v u Q I rx ry h
 obtain ⟨i,j,rfl,rfl,q⟩:=h
 obtain ⟨t,rfl⟩:=rx
 obtain ⟨t',rfl⟩:=ry
 exact in_str (ZW I q rfl)
theorem pT:OpR X (compareOp .Is) (fun x y H Q=>y = .non/\Q (.bl (decide (x = .non))) H):=by
 intro pins s σ H x y v u Q I rx ry h
 obtain ⟨rfl,q⟩:=h
 cases ry
 refine is_none_gen (ZW I q ?_)
 cases x <;> first
  | (cases rx;rfl)
  | (obtain ⟨t,rfl⟩:=rx;rfl)
theorem uK:OpR X (compareOp .IsNot) (fun x y H Q=>y = .non/\Q (.bl (!decide (x = .non))) H):=by
 intro pins s σ H x y v u Q I rx ry h
 obtain ⟨rfl,q⟩:=h
 cases ry
 refine isnot_none_gen (ZW I q ?_)
 cases x <;> first
  | (cases rx;rfl)
  | (obtain ⟨t,rfl⟩:=rx;rfl)
theorem Ge:OpR X (compareOp .NotIn) (fun x y H Q=>∃ i j,x = .str i/\y = .str j/\Q (.bl (!(!(Builtin.Str.occurrences j i 0 j.length 1).isEmpty))) H):=by
 intro pins s σ H x y v u Q I rx ry h
 obtain ⟨i,j,rfl,rfl,q⟩:=h
 obtain ⟨t,rfl⟩:=rx
 obtain ⟨t',rfl⟩:=ry
 exact notIn_str (ZW I q rfl)
theorem OpR.or {f:Value->Value->Sem Value}{r r':R2}(h:OpR X f r) (h':OpR X f r'):OpR X f (fun x y H Q=>r x y H Q\/r' x y H Q):=by
 intro pins s σ H x y v u Q I rx ry q
 rcases q with q | q
 ·exact h pins s σ H x y v u Q I rx ry q
 ·exact h' pins s σ H x y v u Q I rx ry q
theorem Zu (b:Expr) {op:CmpOp}(h:autoParam (op ≠ .In) auD) (h2:autoParam (op ≠ .NotIn) auD):behindInMarks op b=false:=by
 have e1:(op == CmpOp.In)=false:=by cases op <;> first | rfl | exact absurd rfl h
 have e2:(op == CmpOp.NotIn)=false:=by cases op <;> first | rfl | exact absurd rfl h2
 cases b <;> simp [behindInMarks,e1,e2]
theorem uL {op:CmpOp}{r:R2}(ho:OpR X (compareOp op) r) (ha:PE X a ta) (hb:PE X b tb) (hm:behindInMarks op b=false):PE X (.Compare a [op] [b] pos) (tOp r ta tb):=by
 intro pins s σ H Q I h
 exact wpAny_Compare1 (binT ha hb I h fun v u s2 x y H2 I2 rx ry q=>ho pins s2 σ H2 x y v u Q I2 rx ry q) hm
noncomputable def yL (t:TE):TT:=fun σ H Q=>t σ H fun x H'=>∃ k,x = .bl k/\Q k H'
theorem uM {op:CmpOp}{r:R2}(ho:OpR X (compareOp op) r) (ha:PE X a ta) (hb:PE X b tb) (hm:behindInMarks op b=false):PT X (.Compare a [op] [b] pos) (yL (tOp r ta tb)):=by
 intro pins s σ H Q I h
 refine wpAny_isTrue_Compare1 (thn (ha pins s σ H _ I h) fun v s1 ⟨x,H1,I1,r1,q1⟩=>thn (hb pins s1 σ H1 _ I1 q1) fun u s2 ⟨y,H2,I2,r2,q2⟩ =>
  thn (ho pins s2 σ H2 x y v u _ I2 r1 r2 q2) fun c s3 ⟨z,H3,I3,r3,k,e,q3⟩=>?_) hm
 subst e
 cases r3
 exact wpAny_truthy_bool ⟨H3,I3,q3⟩
noncomputable def pU (r r':R2) (ta tb tc:TE):TE:=fun σ H Q=>ta σ H fun x H1=>tb σ H1 fun y H2=>r x y H2 fun z H3=>∃ k,z = .bl k /\
 (if k=true then tc σ H3 fun w' H4=>r' y w' H4 Q else Q (.bl false) H3)
theorem yM {op op':CmpOp}{r r':R2}(ho:OpR X (compareOp op) r) (ho':OpR X (compareOp op') r') (ha:PE X a ta) (hb:PE X b tb) (hc:PE X c tc)
  (hm:lastMarks [op,op'] [b,c]=false:=by with_unfolding_all rfl):PT X (.Compare a [op,op'] [b,c] pos) (yL (pU r r' ta tb tc)):=by
 intro pins s σ H Q I h
 refine isTrue_chain (thn (ha pins s σ H _ I h) fun v s1 ⟨x,H1,I1,r1,q1⟩=>test_link (thn (hb pins s1 σ H1 _ I1 q1) fun u s2 ⟨y,H2,I2,r2,q2⟩ =>
  thn (ho pins s2 σ H2 x y v u _ I2 r1 r2 q2) fun d s3 ⟨z,H3,I3,r3,k,e,q3⟩=>?_)) hm
 subst e
 cases r3
 refine wpAny_truthy_bool ?_
 cases k with
 | false =>
  obtain ⟨k',e',q'⟩:=q3
  cases e'
  exact ite_ff ⟨H3,I3,q'⟩
 | true =>
  refine ite_tt (test_last (thn (hc pins s3 σ H3 _ I3 q3) fun w' s4 ⟨z',H4,I4,r4,q4⟩=>thn (ho' pins s4 σ H4 y z' u w' _ I4 r2 r4 q4) fun d' s5 zq=>?_))
  obtain ⟨z2,H5,I5,r5,k2,e2,q5⟩:=zq
  subst e2
  cases r5
  exact wpAny_truthy_bool ⟨H5,I5,q5⟩
noncomputable def TruV (K:aj) (x:V) (H:Hp) (k:Bool):Prop :=
 match x with
 | .non=>k=false
 | .bl b=>k=b
 | .int i=>k=(i != 0)
 | .str y=>y.length<=aA/\k=((y.length:Int) != 0)
 | .byt y=>y.size<=aA/\k=((y.size:Int) != 0)
 | .ref p=>(∃ xs,SqL K H p xs/\k = !xs.isEmpty)\/(∃ xs,SqT K H p xs/\k = !xs.isEmpty)\/∃ kvs,H p=some (.dK kvs)/\k = !kvs.isEmpty
 | _=>False
theorem Dt {κ:Type}{kvs:List (κ × V)}{vs:List (κ × Value)}(r:KV kvs vs):(!vs.isEmpty) = !kvs.isEmpty:=by
 cases r <;> rfl
theorem Jn {xs:List V}{its:List Value}(r:Vals xs its):(!its.toArray.isEmpty) = !xs.isEmpty:=by
 cases r <;> simp
theorem PR:(aA:Nat) < 2 ^ 63:=by rw [sizeLine_eq];decide
theorem pV:TruR X (fun x H Q=>∃ k,TruV X.K x H k/\Q k H):=by
 intro pins s σ H x v Q I rx h
 obtain ⟨k,e,q⟩:=h
 have hl:=PR
 have hs:aA=16777216:=sizeLine_eq
 cases x with
 | non =>
  cases rx
  have e':k=false:=e
  subst e'
  exact truthy_none ⟨H,I,q⟩
 | bl b =>
  cases rx
  have e':k=b:=e
  subst e'
  exact wpAny_truthy_bool ⟨H,I,q⟩
 | int i =>
  obtain ⟨t,rfl⟩:=rx
  have e':k=(i != 0):=e
  subst e'
  exact PySem.P.truthy_int ⟨H,I,q⟩
 | str y =>
  obtain ⟨t,rfl⟩:=rx
  obtain ⟨hy,e'⟩:y.length<=aA/\k=((y.length:Int) != 0):=e
  subst e'
  exact PySem.P.truthy_str (by omega) ⟨H,I.tok _,q⟩
 | byt y =>
  obtain ⟨t,rfl⟩:=rx
  obtain ⟨hy,e'⟩:y.size<=aA/\k=((y.size:Int) != 0):=e
  subst e'
  exact PySem.W.truthy_bytes (by omega) ⟨H,I.tok _,q⟩
 | ref p =>
  cases rx
  have e':(∃ xs,SqL X.K H p xs/\k = !xs.isEmpty)\/(∃ xs,SqT X.K H p xs/\k = !xs.isEmpty)\/∃ kvs,H p=some (.dK kvs)/\k = !kvs.isEmpty:=e
  rcases e' with ⟨xs,hx,e'⟩ | ⟨xs,hx,e'⟩ | ⟨kvs,hx,e'⟩
  ·subst e'
   obtain ⟨its,r,pl,hz⟩:=I.list hx
   have hlen:=r.length
   exact wpAny_truthy_list pl.isList (by simp only [size_toArray];omega) ⟨H,I.tok _,by rw [Jn r];exact q⟩
  ·subst e'
   obtain ⟨its,r,pl,hz⟩:=I.tuple hx
   have hlen:=r.length
   exact truthy_tuple pl (by simp only [size_toArray];omega) ⟨H,I.tok _,by rw [Jn r];exact q⟩
  ·subst e'
   obtain ⟨hz,hS,vs,r,m⟩:kvs.length<=aA/\(p == sysModules)=false/\∃ vs,KV kvs vs/\s.heap.DictOf (Yp X.prog X.w) p vs:=I.hok p _ hx
   have hlen:kvs.length=vs.length:=Paired.length r
   exact wpAny_truthy_dict hS m (by omega) ⟨H,I.tok _,by rw [Dt r];exact q⟩
 | _=>exact (show False from e).elim
theorem yN (ha:PE X a ta) (he:∀ whole,isTrue a X.env whole=(do let v <- whole;standAt a.pos;holding [v] (truthy v))) :
  PT X a (fun σ H Q=>ta σ H fun x H'=>∃ k,TruV X.K x H' k/\Q k H'):=by
 intro pins s σ H Q I h
 exact isTrue_plain (thn (ha pins s σ H _ I h) fun v s1 ⟨x,H1,I1,r1,q1⟩=>pV pins s1 σ H1 x v Q I1 r1 q1) (he _)
theorem Du:OpR X (binaryOp .Add) (fun x y H Q=>∃ i j,x = .str i/\y = .str j/\i.length + j.length<=aA/\Q (.str (i++j)) H):=by
 intro pins s σ H x y v u Q I rx ry h
 obtain ⟨i,j,rfl,rfl,hz,q⟩:=h
 obtain ⟨t,rfl⟩:=rx
 obtain ⟨t',rfl⟩:=ry
 exact add_str (fun t' tk=>⟨.str (i++j),H,I.tok _,⟨_,rfl⟩,q⟩) hz
theorem vals1 {x:V}{us:List Value}(r:Vals [x] us):∃ u,us=[u]/\RelV x u:=by
 cases r with
 | cons r1 r2=>cases r2;exact ⟨_,rfl,r1⟩
theorem vals2 {x y:V}{us:List Value}(r:Vals [x,y] us):∃ u w',us=[u,w']/\RelV x u/\RelV y w':=by
 cases r with
 | cons r1 r2 =>
  cases r2 with
  | cons r3 r4=>cases r4;exact ⟨_,_,rfl,r1,r3⟩
theorem yO:Xn X (.builtin "abs") (fun xs H Q=>∃ i,xs=[.int i]/\Q (.int (if i < 0 then -i else i)) H):=by
 intro pins s σ H xs us Q I r h
 obtain ⟨i,rfl,q⟩:=h
 obtain ⟨u,rfl,t,rfl⟩:=vals1 r
 exact call_abs_int fun u tk=>⟨.int (if i < 0 then -i else i),H,I.tok _,⟨_,rfl⟩,q⟩
theorem AF:Xn X (.type "int") (fun xs H Q=>(∃ i,xs=[.int i]/\Q (.int i) H)\/∃ k,xs=[.bl k]/\Q (.int (if k then 1 else 0)) H):=by
 intro pins s σ H xs us Q I r h
 rcases h with ⟨i,rfl,q⟩ | ⟨k,rfl,q⟩
 ·obtain ⟨u,rfl,t,rfl⟩:=vals1 r
  exact call_int_int ⟨.int i,H,I,⟨_,rfl⟩,q⟩
 ·obtain ⟨u,rfl,r1⟩:=vals1 r
  cases r1
  exact call_int_bool ⟨.int (if k then 1 else 0),H,I.tok _,⟨_,rfl⟩,q⟩
end
structure Dv (h:Heap) (x dx C:Addr) (mA:Str->Option Value):Prop where
 obj:h.get? x=some (instObj C dx)
 ns:h.Ns1 dx mA
 ne:dx≠x
theorem AG {h:Heap}{dx:Addr}{mA:Str->Option Value}(n:h.Ns1 dx mA):∃ od,h.get? dx=some od/\∀ name,lookIn name od=some (mA name):=by
 obtain ⟨o,es,ep,ho,hd,hk,_,hm⟩:=n
 refine ⟨o,ho,fun name=>?_⟩
 have e:=hm name
 unfold nsFind findBy at e
 rw [<-Array.find?_toList] at e
 unfold lookIn
 rw [hd]
 dsimp only
 split
 ·rename_i y q
  rw [q] at e
  exact congrArg some e
 ·rename_i q
  rw [q] at e
  have a:es.toList.any (·.refKey)=false:=by
   rw [List.any_eq_false]
   intro y hy
   obtain ⟨z,t,hkey⟩:=hk y (Array.mem_toList_iff.mp hy)
   simp [DictEntry.refKey,hkey]
  have a':¬ es.toList.any (·.refKey)=true:=by rw [a];exact aD
  rw [if_neg a']
  exact congrArg some e
theorem Dv.look {h:Heap}{x dx C:Addr}{mA:Str->Option Value}(I:Dv h x dx C mA):∃ od,PySem.W.InstAt h x (instObj C dx) C (some od)/\∀ name,lookIn name od=some (mA name) :=
 let ⟨od,ho,hl⟩:=AG I.ns
 ⟨od,⟨I.obj,rfl,rfl,ho⟩,hl⟩
section
variable {prog:Program}{w:World}{A:Around}{E:Value->Shared->Prop}{s:Shared}{K:aj}{x dx C f:Addr}{mA:Str->Option Value}{name:Str}{v:Value}
theorem get_map {expr:Bool}{Q:Value->Shared->Prop}(X:K.In s.heap) (I:Dv s.heap x dx C mA) (hg:plainGet K C name=true) (hh:hasDictIn K C=true)
  (ha:findIn K (.ref C) name=some none) (hv:mA name=some v) (hv':PySem.W.handedIn v=true) (h:Q v { s with toks:=s.toks + 1 }) :
  wpAny (model prog w) A (getAttr (.ref x) name expr) Q E s:=by
 obtain ⟨od,J,hl⟩:=I.look
 exact PySem.W.get_value X J (plainGet_of hg).1 (PySem.W.findObj_own hh ha rfl (by rw [hl,hv])) hv' h
theorem yP {pl:Sem Bool}{Q:Value × List Value->Shared->Prop}(X:K.In s.heap) (I:Dv s.heap x dx C mA) (hg:plainGet K C name=true)
  (hf:findIn K (.ref C) name=some (some (.ref f))) (ht:isFn K (.ref f)=true) (hv:mA name=none) (h:Q (.ref f,[.ref x]) s) :
  wpAny (model prog w) A (getMethod (.ref x) name pl) Q E s:=by
 obtain ⟨od,J,hl⟩:=I.look
 exact PySem.W.method_fn X J (plainGet_of hg).1 (plainGet_of hg).2 hf (beq_iff_eq.mp ht) (by show (lookIn name od).map (·.isSome)=some false;rw [hl,hv];rfl) h
theorem uN {ns:List Str}{Q:Unit->Shared->Prop}(X:K.In s.heap) (I:Dv s.heap x dx C mA)
  (hs:findIn K (.ref C) "__setattr__" = some (some (.builtin "object.__setattr__"))) (hp:plainOver K C=true) (ht:takerIn K C name=some none) (hh:hasDictIn K C=true)
  (hw:PySem.Within mA ns) (hsz:ns.length<=aA)
  (h:∀ h',Dv h' x dx C (fun y=>if y=name then some v else mA y)->Heap.SameBut dx s.heap h'->Q () { s with heap:=h',toks:=s.toks + 2 }) :
  wpAny (model prog w) A (setAttr (.ref x) name v) Q E s:=by
 obtain ⟨od,J,hl⟩:=I.look
 refine PySem.W.set_plain X J hs (PySem.W.osa_open (s:={ s with toks:=s.toks + 1 }) (r:=none) X J hp ht fun b=>?_)
 obtain ⟨cd,hc,hd'⟩:=PySem.W.any_some hh
 have hx:s.heap.get? x=some ⟨.ref C,some dx,.plain,#[]⟩:=I.obj
 refine ak (ao (ak (ak (wpAny_loadPart hx (ak (Looks.here (s:={ s with toks:=s.toks + 1 }) (PySem.W.looks_clsIn X hc) ?_))))))
 rw [hd']
 refine ao (a:=some dx) (ak (ao (ak ?_)))
 refine wpAny_nsSet1 (s:={ s with toks:=s.toks + 1 }) I.ns fun h' hn2 hs2=>?_
 obtain ⟨oD,esD,epD,hoD,hdD,hcD⟩:=hn2.count (PySem.Within.cons name v hw)
 refine ak (wpAny_lookBehind hoD (by rw [hdD];exact pastItsLine_dict (Nat.le_trans hcD (by rw [length_cons];omega))) ?_)
 exact ao (h _ ⟨(hs2.2 _ (Ne.symm I.ne)).trans I.obj,hn2,I.ne⟩ hs2)
theorem yQ {R:Result->Shared->Prop}{vs:List Value}{kw:List (Str × Value)}(X:K.In s.heap) (hm:makesIn K C=true)
  (hi:findIn K (.ref C) "__init__" = some (some (.ref f))) (hf:typeIn K (.ref f)=some (.type "function"))
  (h:codeAny (model prog w) (A.under (.builtin "type.__call__" ⟨.ref C::vs,kw⟩)) (.call (.ref f) ⟨.ref (s.heap.objs.size + 1)::vs,kw⟩) (PySem.W.InitBack (s.heap.objs.size + 1) R)
   { s with heap:=(s.heap.push emptyDict).push (instObj C s.heap.objs.size) }) :
  codeAny (model prog w) A (.call (.ref C) ⟨vs,kw⟩) R s:=by
 obtain ⟨hh,g,d,t,os⟩:=s
 exact PySem.W.make_core (makes_of X hm) (looks_findIn X hi) (fun self=>PySem.W.bind_fn X self hf) (.inl rfl) h
theorem AH {R:Result->Shared->Prop}(X:K.In s.heap) (hm:makesIn K C=true)
  (hi:findIn K (.ref C) "__init__" = some (some (.builtin "object.__init__")))
  (hb:∀ self,Looks (model prog w) s.heap (bindSpecial (.builtin "object.__init__") self) (.builtin "object.__init__",[self]))
  (h:codeAny (model prog w) (A.under (.builtin "type.__call__" ⟨[.ref C],[]⟩)) (.call (.builtin "object.__init__") ⟨[.ref (s.heap.objs.size + 1)],[]⟩) (PySem.W.InitBack (s.heap.objs.size + 1) R)
   { s with heap:=(s.heap.push emptyDict).push (instObj C s.heap.objs.size) }) :
  codeAny (model prog w) A (.call (.ref C) ⟨[],[]⟩) R s:=by
 obtain ⟨hh,g,d,t,os⟩:=s
 exact PySem.W.make_core (makes_of X hm) (looks_findIn X hi) hb (.inr ⟨rfl,rfl⟩) h
end
noncomputable def SD (f:Str) (v:V):List (Str × V)->List (Str × V)
 | []=>[(f,v)]
 | (g,x)::r=>if g=f then (g,v)::r else (g,x)::SD f v r
theorem LU (f g:Str) (v:V):∀ fs:List (Str × V),(SD f v fs).lookup g=if g=f then some v else fs.lookup g
 | []=>by
  show List.lookup g [(f,v)]=_
  by_cases h:g=f
  ·have hb:(g == f)=true:=beq_iff_eq.mpr h
   simp only [List.lookup,hb,if_pos h]
  ·have hb:(g == f)=false:=beq_eq_false_iff_ne.mpr h
   simp only [List.lookup,hb,if_neg h]
 | (k,x)::r=>by
  have ih:=LU f g v r
  rw [show SD f v ((k,x)::r)=(if k=f then (k,v)::r else (k,x)::SD f v r) from rfl]
  by_cases hk:k=f
  ·rw [if_pos hk]
   by_cases h:g=k
   ·have hb:(g == k)=true:=beq_iff_eq.mpr h
    simp only [List.lookup,hb,if_pos (h.trans hk)]
   ·have hb:(g == k)=false:=beq_eq_false_iff_ne.mpr h
    simp only [List.lookup,hb,if_neg (fun e:g=f=>h (e.trans hk.symm))]
  ·rw [if_neg hk]
   by_cases h:g=k
   ·have hb:(g == k)=true:=beq_iff_eq.mpr h
    simp only [List.lookup,hb,if_neg (fun e:g=f=>hk (h.symm.trans e))]
   ·have hb:(g == k)=false:=beq_eq_false_iff_ne.mpr h
    simp only [List.lookup,hb]
    exact ih
theorem NY (f:Str) (v:V):∀ fs:List (Str × V),f∈(SD f v fs).map (·.1)/\∀ g,g∈fs.map (·.1)->g∈(SD f v fs).map (·.1)
 | []=>⟨by simp [SD],fun g h=>by simp at h⟩
 | (k,x)::r=>by
  obtain ⟨i1,i2⟩:=NY f v r
  rw [show SD f v ((k,x)::r)=(if k=f then (k,v)::r else (k,x)::SD f v r) from rfl]
  by_cases hk:k=f
  ·rw [if_pos hk]
   subst hk
   exact ⟨by simp,fun g h=>by simpa using h⟩
  ·rw [if_neg hk]
   refine ⟨?_,fun g h=>?_⟩
   ·rw [map_cons]
    exact mem_cons_of_mem _ i1
   ·rw [map_cons] at h ⊢
    rcases mem_cons.mp h with e | e
    ·exact mem_cons.mpr (.inl e)
    ·exact mem_cons_of_mem _ (i2 g e)
theorem LV (f:Str) (v:V):∀ fs:List (Str × V),(SD f v fs).length<=fs.length + 1
 | []=>by simp [SD]
 | (k,x)::r=>by
  have ih:=LV f v r
  rw [show SD f v ((k,x)::r)=(if k=f then (k,v)::r else (k,x)::SD f v r) from rfl]
  by_cases hk:k=f
  ·rw [if_pos hk,length_cons,length_cons];omega
  ·rw [if_neg hk,length_cons,length_cons];omega
theorem Ki.some_of {v:V}{o:Option Value}(r:Ki (some v) o):∃ u,o=some u/\RelV v u:=by
 cases o with
 | none=>exact (show False from r).elim
 | some u=>exact ⟨u,rfl,r⟩
theorem Ki.none_of {o:Option Value}(r:Ki none o):o=none:=by
 cases o with
 | none=>rfl
 | some u=>exact (show False from r).elim
theorem AI {v:V}{u:Value}(r:RelV v u):PySem.W.handedIn u=true:=by
 cases v with
 | non=>cases (show u=Value.none from r);rfl
 | bl b=>cases (show u=Value.bool b from r);rfl
 | int i=>obtain ⟨t,e⟩:=(show ∃ t,u=Value.int i t from r);cases e;rfl
 | str x=>obtain ⟨t,e⟩:=(show ∃ t,u=Value.str x t from r);cases e;rfl
 | byt b=>obtain ⟨t,e⟩:=(show ∃ t,u=Value.bytes b t from r);cases e;rfl
 | flt b=>obtain ⟨t,e⟩:=(show ∃ t,u=Value.float b t from r);cases e;rfl
 | ref a=>cases (show u=Value.ref a from r);rfl
 | ty n=>cases (show u=Value.type n from r);rfl
section
variable {P:Program}{w:World}{H H':Hp}{h h':Heap}{a C dx:Addr}{fs fs':List (Str × V)}
theorem KW (hok:HOk P w H h) (e:H a=some (.ins C dx fs)):∃ mA,Dv h a dx C mA/\(∀ f,Ki (fs.lookup f) (mA f))/\PySem.Within mA (fs.map (·.1))/\fs.length<=1000/\H dx=some (.own a):=by
 obtain ⟨d,z,ne,ob,mA,n,r,q⟩:=(show YH P w H h a (.ins C dx fs) from hok a _ e)
 exact ⟨mA,⟨ob,n,ne⟩,r,q,z,d⟩
end
structure Cls (K:aj) (C:Addr):Prop where
 pg:plainGet K C Str.empty=true
 hd:hasDictIn K C=true
 po:plainOver K C=true
 sa:findIn K (.ref C) "__setattr__" = some (some (.builtin "object.__setattr__"))
theorem Cls.get {K:aj}{C:Addr}(c:Cls K C) (f:Str):plainGet K C f=true:=c.pg
noncomputable def YV (K:aj) (C:Addr) (f:Str):Prop:=findIn K (.ref C) f=some none
theorem YV.taker {K:aj}{C:Addr}{f:Str}(n:YV K C f):takerIn K C f=some none:=by
 unfold takerIn
 rw [show findIn K (.ref C) f=some none from n]
 rfl
structure Meth (K:aj) (C:Addr) (m:Str) (f:Addr):Prop where
 at_:findIn K (.ref C) m=some (some (.ref f))
 fn:isFn K (.ref f)=true
 kp:keepIn K (.ref f)=true
section
variable {X:Cx}{pins:List (Addr × Obj)}{σ:St}{H:Hp}{s:Shared}{a C dx:Addr}{fs:List (Str × V)}{f:Str}{v:V}{A:Around}{E:Value->Shared->Prop}
theorem Dw {b:Bool}{Q:Value->Shared->Prop}(I:Inv X pins σ H s) (e:H a=some (.ins C dx fs)) (c:Cls X.K C) (n:YV X.K C f) (l:fs.lookup f=some v)
  (h:∀ u s',Inv X pins σ H s'->RelV v u->Q u s'):wpAny (model X.prog X.w) A (getAttr (.ref a) f b) Q E s:=by
 obtain ⟨mA,O,r,_,_,_⟩:=KW I.hok e
 obtain ⟨u,hu,ru⟩:=Ki.some_of (v:=v) (o:=mA f) (by rw [<-l];exact r f)
 exact get_map I.kIn O (c.get f) c.hd n hu (AI ru) (h u _ (I.tok _) ru)
theorem Dx {m:Str}{g:Addr}{pl:Sem Bool}{Q:Value × List Value->Shared->Prop}(I:Inv X pins σ H s) (e:H a=some (.ins C dx fs)) (c:Cls X.K C) (k:Meth X.K C m g) (l:fs.lookup m=none)
  (h:Q (.ref g,[.ref a]) s):wpAny (model X.prog X.w) A (getMethod (.ref a) m pl) Q E s:=by
 obtain ⟨mA,O,r,_,_,_⟩:=KW I.hok e
 have hn:mA m=none:=Ki.none_of (by rw [<-l];exact r m)
 exact yP I.kIn O (c.get m) k.at_ k.fn hn h
theorem Dy {y:V}{u:Value}{Q:Unit->Shared->Prop}(I:Inv X pins σ H s) (e:H a=some (.ins C dx fs)) (c:Cls X.K C) (n:YV X.K C f) (hl:fs.length < 1000) (ry:RelV y u)
  (h:∀ s',Inv X pins σ (upd H a (.ins C dx (SD f y fs))) s'->Q () s'):wpAny (model X.prog X.w) A (setAttr (.ref a) f u) Q E s:=by
 obtain ⟨mA,O,r,wi,_,ho⟩:=KW I.hok e
 have hz:(fs.map (·.1)).length<=aA:=by rw [length_map,sizeLine_eq];omega
 refine uN I.kIn O c.sa c.po n.taker c.hd wi hz fun h' O' sb=>h _ ?_
 have hd:∃ o,h'.get? dx=some o:=let ⟨o,_,_,e',_⟩:=O'.ns;⟨o,e'⟩
 refine I.write (x:=a) (e:=dx) (by rw [e];exact True.intro) (.inr ho) (fun b q hb z=>(sb.2 b hb).trans z) hd ?_
 refine ⟨by rw [Zq O.ne];exact ho,?_,O.ne,O'.obj,_,O'.ns,fun g=>?_,fun g hg=>?_⟩
 ·have:=LV f y fs;omega
 ·show Ki ((SD f y fs).lookup g) (if g=f then some u else mA g)
  rw [LU]
  by_cases q:g=f
  ·rw [if_pos q,if_pos q];exact ry
  ·rw [if_neg q,if_neg q];exact r g
 ·by_cases q:g=f
  ·rw [q];exact (NY f y fs).1
  ·refine (NY f y fs).2 g (wi g fun z=>hg ?_)
   show (if g=f then some u else mA g)=none
   rw [if_neg q];exact z
theorem Inv.made (I:Inv X pins σ H s):Inv X pins σ (upd (upd H s.heap.objs.size (.own (s.heap.objs.size + 1))) (s.heap.objs.size + 1) (.ins C s.heap.objs.size []))
  { s with heap:=(s.heap.push emptyDict).push (instObj C s.heap.objs.size) }:=by
 have e1:(s.heap.push emptyDict).get? s.heap.objs.size=some emptyDict:=au s.heap rfl
 have e2:((s.heap.push emptyDict).push (instObj C s.heap.objs.size)).get? (s.heap.objs.size + 1)=some (instObj C s.heap.objs.size):=by
  have:=au (s.heap.push emptyDict) (o:=instObj C s.heap.objs.size) rfl
  rwa [Heap.size_push] at this
 have e3:(s.heap.push emptyDict).Ns s.heap.objs.size (fun _=>none):=⟨emptyDict,#[],_,e1,rfl,(fun e he=>absurd he (by simp)),fun _=>rfl⟩
 have I1:=I.laid (a:=s.heap.objs.size) (o := .own (s.heap.objs.size + 1)) (h':=s.heap.push emptyDict) (t':=s.toks) (fun b u q=>aq _ q) (Nat.le_refl _) ⟨_,e1⟩
 refine I1.laid (a:=s.heap.objs.size + 1) (o := .ins C s.heap.objs.size []) (t':=s.toks) (fun b u q=>aq _ q) (Nat.le_of_eq (Heap.size_push _ _)) ?_
 have ne:s.heap.objs.size≠s.heap.objs.size + 1:=Nat.ne_of_lt (Nat.lt_succ_self _)
 refine ⟨by rw [Zq ne,Zy],Nat.zero_le _,ne,e2,fun _=>none,(Heap.Ns1.of_empty e3).at fun o q=>aq _ q,fun _=>True.intro,fun y hy=>absurd rfl hy⟩
theorem uO {prog:Program}{w:World}{env:Env}{e:Expr}{f:Str}{pos:Pos}{s:Shared}{Q:Value->Shared->Prop}(hb:attributeBase e f env (eval e env)=eval e env)
  (h:wpAny (model prog w) A (eval e env) (fun o s₁=>wpAny (model prog w) A (getAttr o f true) Q E s₁) E s):wpAny (model prog w) A (eval (.Attribute e f pos) env) Q E s :=
 Attribute_any_ h (by rw [arm_eval_Attribute,hb])
end
noncomputable def tFld (K:aj) (ta:TE) (f:Str):TE:=fun σ H Q=>ta σ H fun x H1=>∃ a C dx fs v,x = .ref a/\H1 a=some (.ins C dx fs)/\Cls K C/\YV K C f/\fs.lookup f=some v/\Q v H1
noncomputable def sFld (K:aj) (ta tv:TE) (f:Str):TS:=fun D σ H=>tv σ H fun y H1=>ta σ H1 fun x H2=>∃ a C dx fs,x = .ref a/\H2 a=some (.ins C dx fs)/\Cls K C/\YV K C f/\fs.length < 1000 /\
 D.nx σ (upd H2 a (.ins C dx (SD f y fs)))
section
variable {X:Cx}{o e value:Expr}{f:Str}{pos pos' tpos:Pos}{ta tv:TE}
theorem pW (he:PE X e ta) (hb:attributeBase e f X.env (eval e X.env)=eval e X.env):PE X (.Attribute e f pos) (tFld X.K ta f):=by
 intro pins s σ H Q I h
 refine uO hb (thn (he pins s σ H _ I h) fun u s1 zq=>?_)
 obtain ⟨x,H1,I1,rx,a,C,dx,fs,v,ex,ea,c,n,l,q⟩:=zq
 subst ex
 obtain rfl:u=Value.ref a:=rx
 exact Dw I1 ea c n l fun u' s2 I2 ru=>⟨v,H1,I2,ru,q⟩
theorem pX (ha:PE X o ta) (hv:PE X value tv) (hs:swapsWith value (some (.Attribute o f pos')) pos.line X.env=pure false):PS X (.Assign [.Attribute o f pos'] value pos) (sFld X.K ta tv f):=by
 intro pins s σ H D I h
 refine plainObj_wpAny_Assign_Attribute (thn (hv pins s σ H _ I h) fun u s1 ⟨y,H1,I1,ry,q⟩=>thn (ha pins s1 σ H1 _ I1 q) fun ov s2 zq=>?_) hs
 obtain ⟨x,H2,I2,rx,a,C,dx,fs,ex,ea,c,n,l,q2⟩:=zq
 subst ex
 obtain rfl:ov=Value.ref a:=rx
 exact Dy I2 ea c n l ry fun s3 I3=>⟨σ,_,I3,q2⟩
end
section
variable {X:Cx}{pins:List (Addr × Obj)}{σ:St}{H:Hp}{s:Shared}{A:Around}{E:Value->Shared->Prop}{Q:Value->Shared->Prop}{c:Value}{b:Bool}
inductive PU (K:aj) (H:Hp):V->Value->Prop where
 | non:PU K H .non (.type "NoneType")
 | bl (x:Bool):PU K H (.bl x) (.type "bool")
 | int (i:Int):PU K H (.int i) (.type "int")
 | str (x:Str):PU K H (.str x) (.type "str")
 | flt (x:UInt64):PU K H (.flt x) (.type "float")
 | lst {a:Addr}{xs:List V}(e:H a=some (.lst xs)):PU K H (.ref a) (.type "list")
 | frz {a:Addr}{o:Obj}{xs:List V}(e:H a=some (.frz o (.lst xs))):PU K H (.ref a) (.type "list")
 | tup {a:Addr}{xs:List V}(e:H a=some (.tup xs)):PU K H (.ref a) (.type "tuple")
 | dK {a:Addr}{kvs:List (Key × V)}(e:H a=some (.dK kvs)):PU K H (.ref a) (.type "dict")
 | dT {a:Addr}{kvs:List (List Key × V)}(e:H a=some (.dT kvs)):PU K H (.ref a) (.type "dict")
 | ins {a C dx:Addr}{fs:List (Str × V)}(e:H a=some (.ins C dx fs)) (cl:Cls K C) (ha:findIn K (.ref C) "__class__" = some (some (.builtin "object.__class__")))
   (hn:PySem.W.specialIn K (.builtin "object.__class__") "__get__" = some (some (.builtin "getset_descriptor.__get__"))) (htk:takesIn K (.builtin "object.__class__")=some true)
   (hm:mroIn K C (.type "object")=some true):PU K H (.ref a) (.ref C)
theorem AJ {x:V}{u t:Value}(I:Inv X pins σ H s) (rx:RelV x u) (ty:PU X.K H x t) (e:kitOne X.K t c=some b) (h:∀ tk,Q (.bool b) { s with toks:=tk }) :
  wpAny (model X.prog X.w) A (call (.builtin "isinstance") [u,c]) Q E s:=by
 cases ty with
 | non=>cases (show u=Value.none from rx);exact kia_one PySem.W.kitx_none I.kIn True.intro e (fun z=>nomatch z) h
 | bl y=>cases (show u=Value.bool y from rx);exact kia_one PySem.W.kitx_bool I.kIn True.intro e (fun z=>nomatch z) h
 | int i=>obtain ⟨t,q⟩:=(show ∃ t,u=Value.int i t from rx);cases q;exact kia_one PySem.W.kitx_int I.kIn True.intro e (fun z=>nomatch z) h
 | str y=>obtain ⟨t,q⟩:=(show ∃ t,u=Value.str y t from rx);cases q;exact kia_one PySem.W.kitx_str I.kIn True.intro e (fun z=>nomatch z) h
 | flt y=>obtain ⟨t,q⟩:=(show ∃ t,u=Value.float y t from rx);cases q;exact kia_one PySem.W.kitx_float I.kIn True.intro e (fun z=>nomatch z) h
 | @lst a xs ea =>
  cases (show u=Value.ref a from rx)
  obtain ⟨_,_,n,_,h1⟩:=(show YH X.prog X.w H s.heap a (.lst xs) from I.hok a _ ea)
  exact kia_one kitx_list I.kIn ⟨_,h1,rfl⟩ e (fun z=>nomatch z) h
 | @frz a ob xs ea =>
  cases (show u=Value.ref a from rx)
  obtain ⟨_,_,_,n,_,h1⟩:=(show YH X.prog X.w H s.heap a (.frz ob (.lst xs)) from I.hok a _ ea)
  exact kia_one kitx_list I.kIn ⟨_,h1,rfl⟩ e (fun z=>nomatch z) h
 | @tup a xs ea =>
  cases (show u=Value.ref a from rx)
  obtain ⟨_,_,_,p⟩:=(show YH X.prog X.w H s.heap a (.tup xs) from I.hok a _ ea)
  obtain ⟨o,h1,h2,_⟩:=p
  exact kia_one PySem.W.kitx_tuple I.kIn ⟨o,h1,h2⟩ e (fun z=>nomatch z) h
 | @dK a kvs ea =>
  cases (show u=Value.ref a from rx)
  obtain ⟨_,_,vs,_,p⟩:=(show YH X.prog X.w H s.heap a (.dK kvs) from I.hok a _ ea)
  obtain ⟨o,es,ep,h1,h2,_⟩:=p
  exact kia_one PySem.W.kitx_dict I.kIn ⟨o,h1,h2.1⟩ e (fun z=>nomatch z) h
 | @dT a kvs ea =>
  cases (show u=Value.ref a from rx)
  obtain ⟨_,_,xs,_,o,es,ep,h1,h2,_⟩:=(show YH X.prog X.w H s.heap a (.dT kvs) from I.hok a _ ea)
  exact kia_one PySem.W.kitx_dict I.kIn ⟨o,h1,h2.1⟩ e (fun z=>nomatch z) h
 | @ins a C dx fs ea cl ha hn htk hm =>
  cases (show u=Value.ref a from rx)
  obtain ⟨mA,O,_⟩:=KW I.hok ea
  obtain ⟨od,J,_⟩:=O.look
  exact kia_one (PySem.W.kitx_own (cl.get _) cl.hd ha hn htk hm) I.kIn J e (fun z=>nomatch z) h
end
structure Xq (k:Nat) (A:Around):Prop where
 hd:A.handled=none
 dp:A.depth + 3 * k + 5 < recursionLimit
 un:A.units + 16 * k + 200 < cLine
theorem Xq.mono {j k:Nat}{A:Around}(r:Xq k A) (h:j<=k):Xq j A:=⟨r.hd,by have:=r.dp;omega,by have:=r.un;omega⟩
theorem Xq.deeper {k:Nat}{A:Around}(r:Xq (k + 1) A) (env:Env):Xq k (A.deeper env) :=
 ⟨r.hd,by have:=r.dp;show A.depth + 1 + 3 * k + 5 < _;omega,by have:=r.un;show A.units + 3 + 16 * k + 200 < _;omega⟩
theorem Dz {A:Around}{C:Addr}{us:List Value}{kw:List (Str × Value)}:(A.under (.builtin "type.__call__" ⟨.ref C::us,kw⟩)).depth=A.depth + 1:=by
 first | rfl | simp [Around.under,Code.weight,Code.isCreation,Code.isGuard,Code.isCaller,Code.frames,Code.isFrame,guardIds]
theorem DB {A:Around}{C:Addr}{us:List Value}{kw:List (Str × Value)}:(A.under (.builtin "type.__call__" ⟨.ref C::us,kw⟩)).units=A.units + 1:=by
 first | rfl | simp [Around.under,Code.cUnits,Code.frames,Code.isFrame]
theorem Xq.make {k:Nat}{A:Around}(r:Xq (k + 1) A) (C:Addr) (us:List Value) (kw:List (Str × Value)):Xq k (A.under (.builtin "type.__call__" ⟨.ref C::us,kw⟩)) :=
 ⟨r.hd,by have:=r.dp;rw [Dz];omega,by have:=r.un;rw [DB];omega⟩
theorem Xq.depth {k:Nat}{A:Around}(r:Xq k A):A.depth < recursionLimit:=by have:=r.dp;omega
noncomputable def tNil:TA:=fun _ H Q=>Q [] H
noncomputable def qq (ta:TE) (tr:TA):TA:=fun σ H Q=>ta σ H fun x H1=>tr σ H1 fun xs H2=>Q (x::xs) H2
section
variable {X:Cx}{e:Expr}{es:List Expr}{te:TE}{t:TA}{pos:Pos}
theorem Ua:PA X [] tNil:=fun _ _ _ _ H Q I h=>Calls.spliced_nil ⟨[],H,I,.nil,h⟩
theorem uQ (ha:PE X e te) (hr:PA X es t) (hs:autoParam (starEach (e::es) X.env=(false,eval e X.env)::starEach es X.env) auR):PA X (e::es) (qq te t):=by
 intro pos pins s σ H Q I h
 rw [hs]
 show wpAny _ _ (spliced ((false,eval e X.env)::backTo pos (starEach es X.env))) _ _ s
 refine Calls.spliced_cons (thn (ha pins s σ H _ I h) fun u s1 zq=>?_)
 obtain ⟨x,H1,I1,r1,q1⟩:=zq
 exact thn (hr pos pins s1 σ H1 _ I1 q1) fun us s2 ⟨xs,H2,I2,r2,q2⟩=>⟨x::xs,H2,I2,.cons r1 r2,q2⟩
noncomputable def tTup (t:TA):TE:=fun σ H Q=>t σ H fun xs H1=>xs.length<=aA/\∀ p,H1 p=none->Q (.ref p) (upd H1 p (.tup xs))
noncomputable def tLst (t:TA):TE:=fun σ H Q=>t σ H fun xs H1=>xs.length<=aA/\∀ p,H1 p=none->Q (.ref p) (upd H1 p (.lst xs))
theorem yR {x1}(h:PA X es t):PE X (.Tuple es x1 pos) (tTup t):=by
 intro pins s σ H Q I hq
 refine wpAny_Tuple_spliced (thn (h pos pins s σ H _ I hq) fun us s1 ⟨xs,H1,I1,r,z,q⟩=>⟨by rw [<-r.length];exact z,?_⟩)
 have hf:H1 s1.heap.objs.size=none:=I1.hok.fresh (Nat.le_refl _)
 refine ⟨.ref s1.heap.objs.size,upd H1 s1.heap.objs.size (.tup xs),I1.laid (t':=s1.toks) (fun b u e=>aq _ e) (Nat.le_refl _) ?_,rfl,q _ hf⟩
 exact ⟨z,us,r,⟨_,au _ rfl,rfl,_,rfl⟩⟩
theorem DC (h:PA X es t):PE X (.List es pos) (tLst t):=by
 intro pins s σ H Q I hq
 refine wpAny_List_spliced (thn (h pos pins s σ H _ I hq) fun us s1 ⟨xs,H1,I1,r,z,q⟩=>⟨by rw [<-r.length];exact z,?_⟩)
 have hf:H1 s1.heap.objs.size=none:=I1.hok.fresh (Nat.le_refl _)
 refine ⟨.ref s1.heap.objs.size,upd H1 s1.heap.objs.size (.lst xs),I1.laid (t':=s1.toks) (fun b u e=>aq _ e) (Nat.le_refl _) ?_,rfl,q _ hf⟩
 exact ⟨z,us,0,r,au _ rfl⟩
end
abbrev Sp:=List V->Hp->VK->XK->Prop
abbrev CXT:=List Env->Hp->Shared->XK->Value->Shared->Prop
structure DF (P:Program) (w:World) (K:aj) (mg:Str->Option Value) (base:Heap) (A:Around) (outer:List Env) (s:Shared) (H:Hp):Prop where
 frames:A.frames=some outer
 mod:Mod K mg base
 bs:∀ b o,base.get? b=some o->s.heap.get? b=some o/\H b=none
 bsz:base.objs.size<=s.heap.objs.size
 Ng:s.heap.FunFrames base outer
 frf:∀ b∈frs outer,H b=none
 hok:HOk P w H s.heap
 bare:AllBare s.gens
noncomputable def CE (outer:List Env) (P:Program) (w:World) (H:Hp) (s:Shared) (Q:VK) (u:Value) (s':Shared):Prop :=
 ∃ v H',s'.os=s.os/\AllBare s'.gens/\Un (frs outer) [] H H' s.heap s'.heap/\HOk P w H' s'.heap/\RelV v u/\Q v H'
noncomputable def CR (CX:CXT) (outer:List Env) (P:Program) (w:World) (H:Hp) (s:Shared) (Q:VK) (E:XK) (r:Result) (s':Shared):Prop :=
 match r with
 | .ok (.ret u)=>CE outer P w H s Q u s'
 | .ok _=>False
 | .error e=>CX outer H s E e s'
structure ZE (P:Program) (w:World) (K:aj) (mg:Str->Option Value) (base:Heap) (CX:CXT) (k:Nat) (f:Addr) (fd:FuncData) (ps:List Str) (sp:Sp):Prop where
 len:∀ vs H Q E,sp vs H Q E->vs.length=ps.length
 run:∀ (A:Around) (outer:List Env) (s:Shared) (H:Hp) (args:Args) (us:List Value) (vs:List V) (Q:VK) (E:XK),Xq k A->DF P w K mg base A outer s H->BindsTo s fd args (ps.zip us)->Vals vs us->sp vs H Q E ->
  codeAny (model P w) A (.call (.ref f) args) (CR CX outer P w H s Q E) s
theorem ZE.mono {P:Program}{w:World}{K:aj}{mg:Str->Option Value}{base:Heap}{CX:CXT}{j k:Nat}{f:Addr}{fd:FuncData}{ps:List Str}{sp:Sp}(F:ZE P w K mg base CX j f fd ps sp) (h:j<=k) :
  ZE P w K mg base CX k f fd ps sp:=⟨F.len,fun A outer s H args us vs Q E hr=>F.run A outer s H args us vs Q E (hr.mono h)⟩
theorem DF.make {P:Program}{w:World}{K:aj}{mg:Str->Option Value}{base:Heap}{A:Around}{outer:List Env}{s:Shared}{H:Hp}(e:DF P w K mg base A outer s H) (C:Addr) (us:List Value) (kw:List (Str × Value)) :
  DF P w K mg base (A.under (.builtin "type.__call__" ⟨.ref C::us,kw⟩)) outer s H:=⟨by first | exact e.frames | (simpa [Around.under,Code.envs,Code.isFrame,pushEnvs] using e.frames),e.mod,e.bs,e.bsz,e.Ng,e.frf,e.hok,e.bare⟩
section
variable {X:Cx}{pins:List (Addr × Obj)}{σ:St}{H:Hp}{s s':Shared}
theorem Inv.env0 (I:Inv X pins σ H s):DF X.prog X.w X.K X.mg X.base X.A X.stack s H :=
 ⟨I.ok.frames,I.ok.mod,I.bs,Nat.le_trans I.ok.bsz I.sz,I.stack,I.Bh,I.hok,I.bare⟩
theorem Inv.after {Q:VK}{u:Value}(I:Inv X pins σ H s) (h:CE X.stack X.prog X.w H s Q u s'):EP X pins σ Q u s':=by
 obtain ⟨v,H',os,bare,un,hok,r,q⟩:=h
 obtain ⟨hh,g,d,t,os'⟩:=s'
 obtain rfl:os'=s.os:=os
 exact ⟨v,H',I.call (h':=hh) (g':=g) (d':=d) (t':=t) (ch:=[]) un hok bare (fun b z=>absurd z (by simp)),r,q⟩
end
noncomputable def Binds (K:aj) (fd:FuncData) (ps:List Str) (ds:List Value):Prop :=
 ∀ (s:Shared) (us:List Value),K.In s.heap->(us++ds).length=ps.length->BindsTo s fd ⟨us,[]⟩ (ps.zip (us++ds))
theorem Binds.all {K:aj}{fd:FuncData}{ps:List Str}(h:∀ us:List Value,us.length=ps.length->bindArgs fd ⟨us,[]⟩=pure (ps.zip us)):Binds K fd ps []:=fun s us _ hl=>by
 rw [append_nil] at hl ⊢
 exact .of_eq (h us hl)
section
variable {X:Cx}{CX:CXT}{k:Nat}{f C:Addr}{fd:FuncData}{ps:List Str}{sp:Sp}{dvs:List V}{ds:List Value}{E:XK}{x m:Str}{p pos apos:Pos}{e o:Expr}{es:List Expr}{ta:TE}{t:TA}
structure Mk (K:aj) (C f:Addr):Prop where
 makes:makesIn K C=true
 init:findIn K (.ref C) "__init__" = some (some (.ref f))
 fn:isFn K (.ref f)=true
 kp:keepIn K (.ref C)=true
end
section
variable {X:Cx}{CX:CXT}{k:Nat}{f C:Addr}{fd:FuncData}{ps ks:List Str}{sp:Sp}{E:XK}{x m:Str}{p pos apos kpos:Pos}{e o:Expr}{es:List Expr}{kws:List Keyword}{te ta:TE}{t tk:TA}{nm:Option Str}
variable {g:List Value->List Value->List Value}{gV:List V->List V->List V}
end
structure Zo (N P:List Str) (sc:Scope):Prop where
 kind:sc.kind = .function
 co:sc.isCoroutine=false
 gen:sc.isGenerator=false
 nd:N.Nodup
 pre:N.take P.length=P
 par:∀ x∈P,sc.names.lookup x=some .local\/sc.names.lookup x=some .cell
 nofree:∀ y∈sc.names,y.2 ≠ .free
theorem Hy {kindOf:Str->Option NameKind}{x:Str}:∀ {binds:List (Str × Value)}{m:Str->Option Value},(∀ v,(x,v)∉binds)->bindL kindOf binds m x=m x
 | [],_,_=>rfl
 | (n,v)::r,m,h=>by
  unfold bindL
  rw [Hy fun w hw=>h w (mem_cons_of_mem _ hw)]
  split
  ·have:x≠n:=by rintro rfl;exact h v mem_cons_self
   simp [this]
  ·rfl
theorem Hz {kindOf:Str->Option NameKind}{x:Str}:∀ {binds:List (Str × Value)}{m:Str->Option Value},(∀ v,(x,v)∉binds)->bindC kindOf binds m x=m x
 | [],_,_=>rfl
 | (n,v)::r,m,h=>by
  unfold bindC
  rw [Hz fun w hw=>h w (mem_cons_of_mem _ hw)]
  split
  ·rfl
  ·have:x≠n:=by rintro rfl;exact h v mem_cons_self
   simp [this]
theorem HA {kindOf:Str->Option NameKind}{x:Str}{v:Value}:∀ {P:List Str}{vs:List Value}{i:Nat}{m:Str->Option Value},P.Nodup->P[i]?=some x->vs[i]?=some v->kindOf x=some .local ->
  bindL kindOf (P.zip vs) m x=some v
 | [],_,_,_,_,h,_,_=>by simp at h
 | _::_,[],_,_,_,_,h,_=>by simp at h
 | p::P,w::vs,0,m,nd,h1,h2,hk=>by
  simp at h1 h2;subst h1;subst h2
  show bindL kindOf ((p,w)::P.zip vs) m p=_
  unfold bindL
  rw [Hy fun v hv=>(nodup_cons.mp nd).1 (of_mem_zip hv).1,if_pos hk]
  simp
 | p::P,w::vs,i + 1,m,nd,h1,h2,hk=>by
  show bindL kindOf ((p,w)::P.zip vs) m x=_
  unfold bindL
  exact HA (i:=i) (nodup_cons.mp nd).2 (by simpa using h1) (by simpa using h2) hk
theorem HB {kindOf:Str->Option NameKind}{x:Str}{v:Value}:∀ {P:List Str}{vs:List Value}{i:Nat}{m:Str->Option Value},P.Nodup->P[i]?=some x->vs[i]?=some v->kindOf x≠some .local ->
  bindC kindOf (P.zip vs) m x=some v
 | [],_,_,_,_,h,_,_=>by simp at h
 | _::_,[],_,_,_,_,h,_=>by simp at h
 | p::P,w::vs,0,m,nd,h1,h2,hk=>by
  simp at h1 h2;subst h1;subst h2
  show bindC kindOf ((p,w)::P.zip vs) m p=_
  unfold bindC
  rw [Hz fun v hv=>(nodup_cons.mp nd).1 (of_mem_zip hv).1,if_neg hk]
  simp
 | p::P,w::vs,i + 1,m,nd,h1,h2,hk=>by
  show bindC kindOf ((p,w)::P.zip vs) m x=_
  unfold bindC
  exact HB (i:=i) (nodup_cons.mp nd).2 (by simpa using h1) (by simpa using h2) hk
noncomputable def start (N:List Str) (vs:List V):St:=vs.map some++replicate (N.length - vs.length) none
noncomputable def XF (CX:CXT) (P:Program) (w:World) (K:aj) (mg:Str->Option Value) (base:Heap) (N:List Str) (qual:Str) (scope:Scope) (f:Addr) (cd:Value) (A:Around) (outer:List Env) (s:Shared) (H:Hp) (E:XK):Cx where
 prog:=P
 w:=w
 K:=K
 mg:=mg
 base:=base
 A:=A.deeper (envOfC qual scope s.heap.objs.size f cd)
 N:=N
 s₀:=s
 H₀:=H
 env:=envOfC qual scope s.heap.objs.size f cd
 outer:=outer
 stack:=envOfC qual scope s.heap.objs.size f cd::outer
 ex:=[]
 calm:=true
 fn:=fun _=>true
 pn:=[]
 xe:=fun e s'=>wpAny (model P w) (A.deeper (envOfC qual scope s.heap.objs.size f cd)) (leaving (envOfC qual scope s.heap.objs.size f cd) e) (fun _ s''=>CX outer H s E e s'') (fun e' s''=>CX outer H s E e' s'') s'
theorem FP {sc:Scope}{n:Nat}{x:Str}(h:sc.names.lookup x=some .cell):∃ c,(cellsFrom n sc.names []).lookup x=some c:=by
 have q:=PySem.W.cellsFrom_some sc.names n [] (.inl h)
 exact Option.isSome_iff_exists.mp q
theorem AK {CX:CXT}{P:Program}{w:World}{K:aj}{mg:Str->Option Value}{base:Heap}{N ps:List Str}{qual:Str}{scope:Scope}{f:Addr}{cd:Value}{A:Around}{outer:List Env}{s s1:Shared}{H:Hp}{E:XK}{us:List Value}{vs:List V}
  (S:Zo N ps scope) (hd:A.handled=none) (e0:DF P w K mg base A outer s H) (hl:vs.length=ps.length) (r:Vals vs us)
  (x:InCallC s s.heap.objs.size (bindL (envOfC qual scope s.heap.objs.size f cd).kindOf (ps.zip us) fun _=>none) (cellsFrom (s.heap.objs.size + 1) scope.names []) (bindC (envOfC qual scope s.heap.objs.size f cd).kindOf (ps.zip us) fun _=>none) s1) :
  Inv (XF CX P w K mg base N qual scope f cd A outer s H E) [] (start N vs) H s1:=by
 have hpl:ps.length<=N.length:=by have:=congrArg length S.pre;rw [length_take] at this;omega
 obtain ⟨h1,tk,rfl,hk⟩:=x.done
 have noA:∀ b:Addr,b∉(XF CX P w K mg base N qual scope f cd A outer s H E).ex:=fun b z=>absurd (show b∈([]:List Addr) from z) (by simp)
 refine ⟨⟨e0.mod,S.kind,rfl,rfl,Nat.le_refl _,fun y z c h1 h2=>?_,fun y hy=>?_,fun y c _ h=>?_,fun _=>hd,Around.frames_deeper e0.frames,.inr ⟨rfl,rfl⟩,fun b z=>absurd z (noA b),e0.bs,e0.bsz,fun b _ _=>noA b,fun b z=>absurd z (noA b),e0.Ng,e0.frf⟩,
  rfl,e0.bare,Un.kept hk,⟨_,x.toInCall.ns,fun i y v h1 h2 h3=>?_⟩,fun y c h=>⟨_,x.cell y c h⟩,e0.hok.fresh (Nat.le_refl _),fun y c h=>?_,fun p hp=>absurd (show p∈([]:List (Addr × Obj)) from hp) (by simp),e0.hok.kept hk,?_⟩
 ·exact name_of_addr x.apart (PySem.mem_of_lookup h1) (PySem.mem_of_lookup h2)
 ·have hy:scope.names.lookup y=some .cell\/scope.names.lookup y=some .free:=hy
  rcases hy with hy | hy
  ·exact FP hy
  ·exact absurd rfl (S.nofree _ (PySem.mem_of_lookup hy))
 ·exact Nat.le_of_lt (x.above y c (PySem.mem_of_lookup h))
 ·have hi:i < vs.length:=by
   unfold start at h2
   by_cases hi:i < vs.length
   ·exact hi
   ·rw [getElem?_append_right (by simpa using hi)] at h2
    rw [getElem?_replicate] at h2
    split at h2 <;> cases h2
  have ha:vs[i]?=some v:=by
   unfold start at h2
   rw [getElem?_append_left (by simpa using hi),getElem?_map] at h2
   cases e:vs[i]? with
   | none=>rw [e] at h2;cases h2
   | some a=>rw [e] at h2;cases h2;rfl
  obtain ⟨u,hu,rv⟩:=r.get ha
  have hp:ps[i]?=some y:=by
   rw [<-S.pre,List.getElem?_take_of_lt (by omega)];exact h1
  have ndP:ps.Nodup:=by rw [<-S.pre];exact S.nd.sublist (List.take_sublist _ _)
  refine ⟨u,rv,?_⟩
  rcases S.par y (mem_of_getElem? hp) with k | k
  ·exact .inl ⟨k,HA ndP hp hu k⟩
  ·obtain ⟨c,e⟩:=FP (n:=s.heap.objs.size + 1) k
   refine .inr ⟨.inl k,c,e,?_⟩
   have q:=x.cell y c e
   rw [HB ndP hp hu (by show scope.names.lookup y≠_;rw [k];decide)] at q
   exact q
 ·exact e0.hok.fresh (Nat.le_of_lt (x.above y c (PySem.mem_of_lookup h)))
 ·unfold start
  show _=N.length
  rw [length_append,length_map,length_replicate]
  omega
theorem yS {CX:CXT}{P:Program}{w:World}{K:aj}{mg:Str->Option Value}{base:Heap}{k:Nat}{f:Addr}{name qual:Str}{params:Arguments}{body:List Stmt}{scope:Scope}{dV kV doc pm cdv ct oc:Value}{an od:Option Addr}
  {osl:Array (Option Value)}{N ps:List Str}{sp:Sp}(lk:K.lookup f=some ⟨oc,od,.func (PySem.W.fnOf name qual params body scope dV kV doc pm an cdv ct),osl⟩) (hcd:PySem.W.codeIn K cdv qual=true) (S:Zo N ps scope)
  (len:∀ vs H Q E,sp vs H Q E->vs.length=ps.length)
  (hbody:∀ (A:Around) (outer:List Env) (s:Shared) (H:Hp) (vs:List V) (Q:VK) (E:XK),Xq k (A.deeper (envOfC qual scope s.heap.objs.size f cdv))->sp vs H Q E ->
   ∃ t,PSs (XF CX P w K mg base N qual scope f cdv A outer s H E) body t/\t { nx:=fun _ H'=>Q .non H',rt:=Q } (start N vs) H) :
  ZE P w K mg base CX (k + 1) f (PySem.W.fnOf name qual params body scope dV kV doc pm an cdv ct) ps sp:=by
 refine ⟨len,fun A outer s H args us vs Q E hr e0 hb r hsp=>?_⟩
 have hl:=len _ _ _ _ hsp
 have KX:K.In s.heap:=e0.mod.kin.keeps fun b o e=>(e0.bs b o e).1
 have lim:s.heap.NoLimit:=e0.mod.nolimit.keeps fun b o e=>(e0.bs b o e).1
 have hkind:∀ y∈ps.zip us,scope.names.lookup y.1=some .local\/(scope.names.lookup y.1=some .cell/\((cellsFrom (s.heap.objs.size + 1) scope.names []).lookup y.1).isSome=true):=fun ⟨n,v⟩ hy=>by
  rcases S.par n (of_mem_zip hy).1 with q | q
  ·exact .inl q
  ·exact .inr ⟨q,PySem.W.cellsFrom_some _ _ _ (.inl q)⟩
 refine codeAny_call_function hr.depth (KX _ _ lk) rfl S.co S.gen rfl (PySem.W.codeRec_of KX hcd) (hb _ _ _ _ ?_)
 refine wpAny_newFunctionEnv_cells S.kind hkind fun env he s1 x=>?_
 subst he
 refine ⟨lim.keeps x.toInCall.keep,codeAny_func ?_⟩
 obtain ⟨t,ht,hq⟩:=hbody A outer s H vs Q E (hr.deeper _) hsp
 have I:Inv (XF CX P w K mg base N qual scope f cdv A outer s H E) [] (start N vs) H s1:=AK S hr.hd e0 hl r x
 refine wpAny_mono (ht [] s1 (start N vs) H _ I hq) (fun fl s' hs=>?_) fun e s' hs=>hs
 have fin:∀ {σ':St}{H':Hp}{v:V}{u:Value},Inv (XF CX P w K mg base N qual scope f cdv A outer s H E) [] σ' H' s'->RelV v u->Q v H'->CE outer P w H s Q u s' :=
  fun {σ' H' v u} J rv q=>⟨v,H',J.os,J.bare,J.base,J.hok,rv,q⟩
 cases fl with
 | ret u =>
  obtain ⟨v,σ',H',J,rv,q⟩:=hs
  exact fin J rv q
 | next =>
  obtain ⟨σ',H',J,q⟩:=hs
  exact fin (v:=V.non) (u:=Value.none) J rfl q
 | brk =>
  obtain ⟨_,_,_,q⟩:=hs
  exact False.elim q
 | cont =>
  obtain ⟨_,_,_,q⟩:=hs
  exact False.elim q
section
variable {X:Cx}{x:Str}{p pos:Pos}{e:Expr}{es:List Expr}{t:TA}{id T:String}{r:List V->Hp->VK->Prop}
noncomputable def tCB (r:List V->Hp->VK->Prop) (t:TA):TE:=fun σ H Q=>t σ H fun vs H1=>r vs H1 Q
theorem yT (hc:Xn X (.builtin id) r) (hg:Gl X x) (hm:X.mg x=none) (hv:bootBuiltins x=some (.builtin id)) (ha:PA X (e::es) t) (hn:autoParam (x ≠ "__name__" ) auD) (hdb:autoParam ((x == ("__debug__" : Str))=false) auD)
  (he:autoParam (starEach (e::es) X.env=(false,eval e X.env)::starEach es X.env) auR) (hpl:autoParam ((backTo pos (starEach es X.env)).any (·.1)=false) auR):PE X (.Call (.Name x p) (e::es) [] pos) (tCB r t):=by
 intro pins s σ H Q I h
 refine wpAny_Call_Name_kw (Jj I hg hm hv ?_ hn hdb)
 exact PyProof.Rows.callWith_builtin1 (thn (ha pos pins s σ H _ I h) fun us s1 ⟨vs,H1,I1,r1,q1⟩=>hc pins s1 σ H1 vs us Q I1 r1 q1) he hpl
theorem AO (hc:Xn X (.type T) r) (hg:Gl X x) (hm:X.mg x=none) (hv:bootBuiltins x=some (.type T)) (ha:PA X (e::es) t) (hn:autoParam (x ≠ "__name__" ) auD) (hdb:autoParam ((x == ("__debug__" : Str))=false) auD)
  (he:autoParam (starEach (e::es) X.env=(false,eval e X.env)::starEach es X.env) auR) (hpl:autoParam ((backTo pos (starEach es X.env)).any (·.1)=false) auR):PE X (.Call (.Name x p) (e::es) [] pos) (tCB r t):=by
 intro pins s σ H Q I h
 refine wpAny_Call_Name_kw (Jj I hg hm hv ?_ hn hdb)
 exact PyProof.Rows.callWith_type1 (thn (ha pos pins s σ H _ I h) fun us s1 ⟨vs,H1,I1,r1,q1⟩=>hc pins s1 σ H1 vs us Q I1 r1 q1) he hpl
end
end L2
namespace HT
open PySem PyProof.Rows
section
open PySem.SeqAt
open PySem.AutoSeq1 (wpAny_loadPart')
open PySem.MeetsSeq PySem.MeetsSeq2 PySem.MeetsSeq3
end
section
variable {prog:Program}{w:World}{A:Around}{E:Value->Shared->Prop}{s:Shared}
theorem uR {t b:Addr}{vs ws:List Value}{Q:Value->Shared->Prop}(ht:IsTup s.heap t vs.toArray) (hb:IsTup s.heap b ws.toArray) (hv:vs≠[])
  (h1:ws=[]->Q (.ref t) s) (h2:ws≠[]->Q (.ref s.heap.objs.size) { s with heap:=s.heap.push { cls := .type "tuple",data := .seq (vs++ws).toArray } })
  (hsz:vs.length + ws.length<=aA):wpAny (model prog w) A (binaryOp .Add (.ref t) (.ref b)) Q E s:=by
 obtain ⟨⟨cls,dd,data,sl⟩,ho,hc,n,hd⟩:=id ht
 obtain ⟨⟨cls2,dd2,data2,sl2⟩,ho2,hc2,n2,hd2⟩:=id hb
 simp only at hc hd hc2 hd2
 subst hc hd hc2 hd2
 have e:vs.toArray++ws.toArray=(vs++ws).toArray:=by simp
 by_cases hw:ws=[]
 ·exact concat_meets ⟨_,ho,rfl⟩ ⟨_,ho2,rfl⟩ noFill_tuple_add seq_tuple_add PySem.F.slot_tuple_add PySem.F.entry_tuple_add (PySem.F.args_tuple_add_2 _ _)
   (tuple_addW1 t b vs.toArray ws.toArray n n2 dd dd2 sl sl2 (by simpa using hv) (by simp [hw])) ⟨ho,ho2,h1 hw⟩
 ·refine concat_meets ⟨_,ho,rfl⟩ ⟨_,ho2,rfl⟩ noFill_tuple_add seq_tuple_add PySem.F.slot_tuple_add PySem.F.entry_tuple_add (PySem.F.args_tuple_add_2 _ _)
   (tuple_addW2 t b vs.toArray ws.toArray n n2 dd dd2 sl sl2 (by simpa using hv) (by simpa using hw) (by rw [size_toArray,size_toArray];exact hsz)) ⟨ho,ho2,?_⟩
  rw [e]
  exact h2 hw
noncomputable def sIx (n d:Nat):Option Int->Nat
 | none=>d
 | some v=>if v < 0 then (v + (n:Int)).toNat else min v.toNat n
theorem FQ (n d:Nat):sIx n d none=d:=rfl
theorem KY (n d k:Nat):sIx n d (some (k:Int))=min k n:=by
 show (if (k:Int) < 0 then ((k:Int) + (n:Int)).toNat else min (k:Int).toNat n)=min k n
 rw [if_neg (by omega),Int.toNat_natCast]
theorem pY (n d:Nat) (hd:d<=n) (o:Option Int):sIx n d o<=n:=by
 cases o with
 | none=>exact hd
 | some v =>
  show (if v < 0 then (v + (n:Int)).toNat else min v.toNat n)<=n
  by_cases hv:v < 0
  ·rw [if_pos hv];omega
  ·rw [if_neg hv];exact Nat.min_le_right _ _
theorem Bo (v:Int) (n d:Nat):(if v < 0 then max (v + (n:Int)) 0 else min v (n:Int))=((sIx n d (some v):Nat):Int):=by
 show (if v < 0 then max (v + (n:Int)) 0 else min v (n:Int))=(((if v < 0 then (v + (n:Int)).toNat else min v.toNat n):Nat):Int)
 by_cases hv:v < 0
 ·simp only [if_pos hv];omega
 ·simp only [if_neg hv];omega
theorem DH (lo hi:Option Int) (n:Nat):Builtin.Slice.sliceAdjust lo hi 1 (n:Int)=(((sIx n 0 lo:Nat):Int),((sIx n n hi:Nat):Int)):=by
 have h1:¬ ((1:Int) < 0):=by omega
 unfold Builtin.Slice.sliceAdjust
 simp only [h1,if_false]
 refine Prod.ext ?_ ?_
 ·cases lo with
  | none=>rfl
  | some v=>exact Bo v n 0
 ·cases hi with
  | none=>rfl
  | some v=>exact Bo v n n
theorem DJ (i j:Nat):Builtin.Slice.slicePlaces (i:Int) (j:Int) 1=j - i:=by
 unfold Builtin.Slice.slicePlaces
 have h1:(1:Int) > 0:=by omega
 simp only [h1,if_true,Int.ediv_one]
 split <;> omega
theorem Jo {v:Value}{o:Option Int}{Q:Option Int->Shared->Prop}(p:IsPart v o) (h:Q o s):wpAny (model prog w) A (Builtin.Slice.slicePartIndex v) Q E s:=by
 cases p with
 | none=>exact slicePart_none h
 | int i t=>exact slicePart_int h
theorem TQ {sl:Addr}{vl vu:Value}{lo hi:Option Int}{n:Nat}{Q:Int × Int × Nat->Shared->Prop}(hs:s.heap.IsSliceOf sl vl vu .none) (pl:IsPart vl lo) (pu:IsPart vu hi)
  (h:Q (((sIx n 0 lo:Nat):Int),1,sIx n n hi - sIx n 0 lo) s):wpAny (model prog w) A (Builtin.Slice.sliceApplied (.ref sl) (pure (n:Int))) Q E s:=by
 obtain ⟨os,hos,hcs,hds⟩:=id hs
 unfold Builtin.Slice.sliceApplied Builtin.Slice.sliceFields
 refine ak (ak (wpAny_field hos hds (x:=vl) rfl (ak (wpAny_field hos hds (x:=vu) rfl (ak (wpAny_field hos hds (x := .none) rfl (ao ?_)))))))
 refine ak (slicePart_none ?_)
 show wpAny _ _ (if ((1:Int) == 0)=true then _ else _) _ _ s
 rw [if_neg (by decide)]
 refine ak (Jo pl (ak (Jo pu (ak (ao ?_)))))
 show wpAny _ _ (match Builtin.Slice.sliceAdjust lo hi 1 (n:Int) with | (lo,hi)=>pure (lo,(1:Int),Builtin.Slice.slicePlaces lo hi 1)) _ _ s
 rw [DH lo hi n]
 show wpAny _ _ (pure (((sIx n 0 lo:Nat):Int),(1:Int),Builtin.Slice.slicePlaces ((sIx n 0 lo:Nat):Int) ((sIx n n hi:Nat):Int) 1)) _ _ s
 rw [DJ]
 exact ao h
theorem yU (xs:Array Value) (i k:Nat):((List.range k).filterMap fun (m:Nat)=>xs[((i:Int) + (m:Int) * 1).toNat]?).toArray=((xs.toList.drop i).take k).toArray:=by
 have e:(fun (m:Nat)=>xs[((i:Int) + (m:Int) * 1).toNat]?)=fun m=>xs[i + m]?:=by
  funext m
  have:((i:Int) + (m:Int) * 1).toNat=i + m:=by omega
  rw [this]
 rw [e]
 have:=pick_run xs i k
 rw [List.filterMap_map] at this
 have e2:((fun x=>xs[x]?) ∘ fun x=>i + x)=fun m=>xs[i + m]?:=rfl
 rw [e2] at this
 rw [this]
theorem Nk {t sl:Addr}{items:Array Value}{vl vu:Value}{lo hi:Option Int}{Q:Value->Shared->Prop}(ht:IsTup s.heap t items) (hs:s.heap.IsSliceOf sl vl vu .none) (pl:IsPart vl lo) (pu:IsPart vu hi)
  (hw:¬ (sIx items.size 0 lo=0/\sIx items.size items.size hi=items.size))
  (h:Q (.ref s.heap.objs.size) { s with heap:=s.heap.push { cls := .type "tuple",data := .seq ((items.toList.drop (sIx items.size 0 lo)).take (sIx items.size items.size hi - sIx items.size 0 lo)).toArray } })
  (hsz:items.size<=aA):wpAny (model prog w) A (getItem (.ref t) (.ref sl)) Q E s:=by
 have htake:sizeOk (.seq ((items.toList.drop (sIx items.size 0 lo)).take (sIx items.size items.size hi - sIx items.size 0 lo)).toArray):=by
  show ((items.toList.drop (sIx items.size 0 lo)).take (sIx items.size items.size hi - sIx items.size 0 lo)).toArray.size<=aA
  rw [size_toArray,length_take,length_drop,Array.length_toList]
  omega
 have hj:sIx items.size items.size hi<=items.size:=pY _ _ (Nat.le_refl _) hi
 obtain ⟨os,hos,hcs,hds⟩:=id hs
 have hTs:s.TypeIs (.ref sl) "slice" := ⟨os,hos,hcs⟩
 unfold getItem
 try with_reducible refine wpAny_holding ?_
 first | refine ak (ao ?_) | skip
 refine ak (wpAny_sequenceKey ht.typeIs (by decide) ?_)
 refine ak (wpAny_callSpecial?_slot (name:=Str.ofString "__getitem__") ht.typeIs PyProof.Rows.slot_tuple_getitem
  (wpAny_call_entry PyProof.Rows.slot_tuple_getitem ht.typeIs entry_tuple_getitem ?_ (args_tuple_getitem _ _)))
 show wpAny _ _ (Builtin.Tuple.tupleItemsOf (.ref t) >>= _) _ _ s
 refine ak (tupleItemsOf_ ht ?_)
 refine ak (wpAny_typeOf hTs ?_)
 rw [if_pos (by decide)]
 refine ak (TQ hs pl pu ?_)
 have hno:¬ ((((sIx items.size 0 lo:Nat):Int) == 0 && (1:Int) == 1 && (sIx items.size items.size hi - sIx items.size 0 lo) == items.size)=true):=by
  intro q
  rw [aF,aF] at q
  have q1:((sIx items.size 0 lo:Nat):Int)=0:=eq_of_beq q.1.1
  have q2:sIx items.size items.size hi - sIx items.size 0 lo=items.size:=eq_of_beq q.2
  exact hw ⟨by omega,by omega⟩
 show wpAny _ _ (if (((sIx items.size 0 lo:Nat):Int) == 0 && (1:Int) == 1 && (sIx items.size items.size hi - sIx items.size 0 lo) == items.size)=true then _ else _) _ _ s
 rw [if_neg hno,yU]
 first
  | exact ak (m:=Builtin.Tuple.tupleExact _) (wpAny_newObj_type (ao ⟨_,rfl,ao h⟩) htake)
  | exact ak (m:=Builtin.Tuple.tupleExact _) (wpAny_newObj_type (ak (ao (ao ⟨_,rfl,ao h⟩))) htake)
  | exact ak (ak (m:=Builtin.Tuple.tupleExact _) (wpAny_newObj_type (ao (ao ⟨_,rfl,ao h⟩)) htake))
  | exact ak (ak (m:=Builtin.Tuple.tupleExact _) (wpAny_newObj_type (ao ⟨_,rfl,ao h⟩) htake))
end
end HT
namespace L2
open PySem PySem.Spec PyProof.Rows
abbrev TO:=St->Hp->(Option Int->Hp->Prop)->Prop
noncomputable def PO (X:Cx) (e:Option Expr) (t:TO):Prop :=
 ∀ (pins:List (Addr × Obj)) (s:Shared) (σ:St) (H:Hp) (Q:Option Int->Hp->Prop),Inv X pins σ H s->t σ H Q ->
  wpAny (model X.prog X.w) X.A (evalPart e X.env) (fun u s'=>∃ o H',Inv X pins σ H' s'/\IsPart u o/\Q o H') X.xe s
noncomputable def uS:TO:=fun _ H Q=>Q none H
noncomputable def qt (t:TE):TO:=fun σ H Q=>t σ H fun x H1=>∃ i,x = .int i/\Q (some i) H1
theorem intsAre_of {ns:List Int}:∀ {us:List Value},Vals (ns.map V.int) us->IntsAre us ns:=by
 induction ns with
 | nil=>intro us r;rw [List.map_nil] at r;cases r;exact .nil
 | cons n ns ih =>
  intro us r
  rw [map_cons] at r
  cases r with
  | cons r1 r2 =>
   obtain ⟨t,e⟩:=r1
   subst e
   exact .cons n t (ih r2)
section
variable {X:Cx}{e:Expr}{te:TE}{lo hi:Option Expr}{tl th:TO}{pos p2:Pos}
theorem uT:PO X none uS:=by
 intro pins s σ H Q I h
 rw [evalPart_none]
 exact ao ⟨none,H,I,.none,h⟩
theorem Bp (h:PE X e te):PO X (some e) (qt te):=by
 intro pins s σ H Q I hw
 rw [evalPart_some]
 refine thn (h pins s σ H _ I hw) fun u s1 zq=>?_
 obtain ⟨x,H1,I1,r1,q1⟩:=zq
 obtain ⟨i,rfl,q⟩:=q1
 obtain ⟨t,rfl⟩:=r1
 exact ⟨some i,H1,I1,.int i t,q⟩
noncomputable def SlR (X:Cx) (r:V->Option Int->Option Int->Hp->VK->Prop):Prop :=
 ∀ (pins:List (Addr × Obj)) (s:Shared) (σ:St) (H:Hp) (x:V) (v vl vu:Value) (lo hi:Option Int) (sl:Addr) (Q:VK),Inv X pins σ H s->RelV x v->s.heap.IsSliceOf sl vl vu .none->IsPart vl lo->IsPart vu hi->r x lo hi H Q ->
  ∃ T id,typeLookup (.type T) "__getitem__" = pure (some (.builtin id))/\s.TypeIs v T/\wpAny (model X.prog X.w) X.A (getItem v (.ref sl)) (EP X pins σ Q) X.xe s
theorem SlR.or {r r':V->Option Int->Option Int->Hp->VK->Prop}(h:SlR X r) (h':SlR X r'):SlR X (fun x lo hi H Q=>r x lo hi H Q\/r' x lo hi H Q):=by
 intro pins s σ H x v vl vu lo hi sl Q I rx hs pl pu q
 rcases q with q | q
 ·exact h pins s σ H x v vl vu lo hi sl Q I rx hs pl pu q
 ·exact h' pins s σ H x v vl vu lo hi sl Q I rx hs pl pu q
noncomputable def tSl (r:V->Option Int->Option Int->Hp->VK->Prop) (te:TE) (tl th:TO):TE:=fun σ H Q=>te σ H fun x H1=>tl σ H1 fun l H2=>th σ H2 fun u H3=>r x l u H3 Q
theorem FR {r:V->Option Int->Option Int->Hp->VK->Prop}(hr:SlR X r) (he:PE X e te) (hl:PO X lo tl) (hu:PO X hi th):PE X (.Subscript e (.Slice lo hi none p2) pos) (tSl r te tl th):=by
 intro pins s σ H Q I h
 refine Subscript_ (thn (he pins s σ H _ I h) fun v s1 zq=>?_)
 obtain ⟨x,H1,I1,r1,q1⟩:=zq
 refine wpAny_Slice (thn (hl pins s1 σ H1 _ I1 q1) fun vl s2 ⟨l,H2,I2,pl,q2⟩=>thn (hu pins s2 σ H2 _ I2 q2) fun vu s3 zq=>?_)
 obtain ⟨u,H3,I3,pu,q3⟩:=zq
 rw [evalPart_none]
 refine ao ?_
 have I4:Inv X pins σ H3 { s3 with heap:=s3.heap.push { cls := .type "slice",data := .fields #[vl,vu,.none] } }:=I3.kept (t':=s3.toks) fun b ob q=>aq _ q
 obtain ⟨T,id,hT,ht,hg⟩:=hr pins { s3 with heap:=s3.heap.push { cls := .type "slice",data := .fields #[vl,vu,.none] } } σ H3 x v vl vu l u s3.heap.objs.size Q I4 r1 (Heap.IsSliceOf.new ..) pl pu q3
 show wpAny (model X.prog X.w) X.A (subscriptTail e (.Slice lo hi none p2) v (.ref s3.heap.objs.size)) (EP X pins σ Q) X.xe { s3 with heap:=s3.heap.push { cls := .type "slice",data := .fields #[vl,vu,.none] } }
 exact tail_any (ops:=[.ref s3.heap.objs.size,v]) ht hT hg (by with_unfolding_all rfl)
noncomputable def FT (xs:List V) (lo hi:Option Int):List V:=(xs.drop (HT.sIx xs.length 0 lo)).take (HT.sIx xs.length xs.length hi - HT.sIx xs.length 0 lo)
theorem LX (xs:List V) (lo hi:Option Int):(FT xs lo hi).length<=xs.length:=by
 unfold FT
 rw [length_take,length_drop]
 omega
noncomputable def rSlT (K:aj):V->Option Int->Option Int->Hp->VK->Prop:=fun x lo hi H Q=>∃ a xs,x = .ref a/\SqT K H a xs /\
 ¬ (HT.sIx xs.length 0 lo=0/\HT.sIx xs.length xs.length hi=xs.length)/\∀ p,H p=none->Q (.ref p) (upd H p (.tup (FT xs lo hi)))
theorem pZ:SlR X (rSlT X.K):=by
 intro pins s σ H x v vl vu lo hi sl Q I rx hs pl pu h
 obtain ⟨a,xs,rfl,hx,hw,q⟩:=h
 cases rx
 obtain ⟨its,r,ht,hz⟩:=I.tuple hx
 have hlen:its.toArray.size=xs.length:=by rw [size_toArray];exact r.length.symm
 refine ⟨"tuple",_,PyProof.Rows.slot_tuple_getitem.lookup,ht.typeIs,?_⟩
 refine HT.Nk ht hs pl pu (by rw [hlen];exact hw) ?_ (by rw [hlen];exact hz)
 rw [hlen]
 refine ⟨.ref s.heap.objs.size,_,I.laid (t':=s.toks) (o := .tup (FT xs lo hi)) (fun b ob q=>aq _ q) (Nat.le_refl _) ?_,rfl,q _ (I.hok.fresh (Nat.le_refl _))⟩
 exact ⟨Nat.le_trans (LX xs lo hi) hz,_,(r.drop (HT.sIx xs.length 0 lo)).take (HT.sIx xs.length xs.length hi - HT.sIx xs.length 0 lo),IsTup.new _ _⟩
noncomputable def rCatT (K:aj):R2:=fun x y H Q=>∃ a b xs ys,x = .ref a/\y = .ref b/\SqT K H a xs/\SqT K H b ys/\xs≠[]/\xs.length + ys.length<=aA /\
 (ys=[]->Q (.ref a) H)/\(ys≠[]->∀ p,H p=none->Q (.ref p) (upd H p (.tup (xs++ys))))
theorem Vals.Gf {xs:List V}{us:List Value}(r:Vals xs us):us=[]↔xs=[]:=by
 cases r with
 | nil=>simp
 | cons _ _=>simp
theorem uU:OpR X (binaryOp .Add) (rCatT X.K):=by
 intro pins s σ H x y v u Q I rx ry h
 obtain ⟨a,b,xs,ys,rfl,rfl,ha,hb,hx,hz,q1,q2⟩:=h
 cases rx
 cases ry
 obtain ⟨its,r1,p1,_⟩:=I.tuple ha
 obtain ⟨its2,r2,p2,_⟩:=I.tuple hb
 refine HT.uR p1 p2 (fun z=>hx (r1.Gf.mp z)) (fun z=>⟨.ref a,H,I,rfl,q1 (r2.Gf.mp z)⟩) (fun z=>?_) (by rw [<-r1.length,<-r2.length];exact hz)
 refine ⟨.ref s.heap.objs.size,_,I.laid (t':=s.toks) (o := .tup (xs++ys)) (fun b ob q=>aq _ q) (Nat.le_refl _) ?_,rfl,q2 (fun w=>z (r2.Gf.mpr w)) _ (I.hok.fresh (Nat.le_refl _))⟩
 exact ⟨by rw [length_append];exact hz,_,r1.append r2,IsTup.new _ _⟩
end
noncomputable def ixN (n:Nat) (i:Int):Option Nat:=if 0<=i then (if i < n then some i.toNat else none) else if -(n:Int)<=i then some (i + n).toNat else none
noncomputable def atI {α:Type}(xs:List α) (i:Int):Option α:=(ixN xs.length i).bind fun j=>xs[j]?
theorem Bq {n:Nat}{i:Int}{j:Nat}(h:ixN n i=some j):seqIndex? i n=some j/\j < n /\ -(n:Int)<=i/\i < n:=by
 unfold ixN at h
 by_cases h0:0<=i
 ·rw [if_pos h0] at h
  by_cases h1:i < n
  ·rw [if_pos h1] at h
   have e:i.toNat=j:=Option.some.inj h
   exact ⟨by rw [seqIndex_of h0 h1,e],by omega,by omega,h1⟩
  ·rw [if_neg h1] at h;cases h
 ·rw [if_neg h0] at h
  by_cases h1 : -(n:Int)<=i
  ·rw [if_pos h1] at h
   have e:(i + n).toNat=j:=Option.some.inj h
   exact ⟨by rw [seqIndex_neg (by omega) h1,e],by omega,h1,by omega⟩
  ·rw [if_neg h1] at h;cases h
theorem Gg {α:Type}{xs:List α}{i:Int}{v:α}(h:atI xs i=some v):∃ j,seqIndex? i xs.length=some j/\xs[j]?=some v/\j < xs.length /\ -(xs.length:Int)<=i/\i < xs.length:=by
 unfold atI at h
 cases e:ixN xs.length i with
 | none=>rw [e] at h;cases h
 | some j =>
  rw [e] at h
  obtain ⟨h1,h2,h3,h4⟩:=Bq e
  exact ⟨j,h1,h,h2,h3,h4⟩
theorem Yv {α:Type}{xs:List α}{j:Nat}{v:α}(h:xs[j]?=some v):atI xs (j:Int)=some v:=by
 have hj:j < xs.length:=(List.getElem?_eq_some_iff.mp h).1
 have e:ixN xs.length (j:Int)=some j:=by
  unfold ixN
  rw [if_pos (by omega),if_pos (by omega)];simp
 unfold atI;rw [e];exact h
noncomputable def Gh (b:Expr):Prop:=∀ o i,subscripted b false o i=operate [o,i] (getItem o i)
noncomputable def IxR (X:Cx) (r:R2):Prop :=
 ∀ (value slice:Expr) (pins:List (Addr × Obj)) (s:Shared) (σ:St) (H:Hp) (x y:V) (v u:Value) (Q:VK),Inv X pins σ H s->RelV x v->RelV y u->r x y H Q ->
  subscripted slice false v u=operate [v,u] (getItem v u)->wpAny (model X.prog X.w) X.A (subscriptTail value slice v u) (EP X pins σ Q) X.xe s
noncomputable def MtR (X:Cx) (id:String) (r:V->List V->Hp->VK->Prop):Prop :=
 ∀ (pins:List (Addr × Obj)) (s:Shared) (σ:St) (H:Hp) (x:V) (xs:List V) (v:Value) (us:List Value) (Q:VK),Inv X pins σ H s->RelV x v->Vals xs us->r x xs H Q ->
  wpAny (model X.prog X.w) X.A (call (.builtin id) (v::us)) (EP X pins σ Q) X.xe s
section
variable {X:Cx}{a b:Expr}{ta tb:TE}{pos:Pos}
theorem IxR.or {r r':R2}(h:IxR X r) (h':IxR X r'):IxR X (fun x y H Q=>r x y H Q\/r' x y H Q):=by
 intro value slice pins s σ H x y v u Q I rx ry q hs
 rcases q with q | q
 ·exact h value slice pins s σ H x y v u Q I rx ry q hs
 ·exact h' value slice pins s σ H x y v u Q I rx ry q hs
theorem MtR.or {id:String}{r r':V->List V->Hp->VK->Prop}(h:MtR X id r) (h':MtR X id r'):MtR X id (fun x xs H Q=>r x xs H Q\/r' x xs H Q):=by
 intro pins s σ H x xs v us Q I rx rs q
 rcases q with q | q
 ·exact h pins s σ H x xs v us Q I rx rs q
 ·exact h' pins s σ H x xs v us Q I rx rs q
theorem qu {r:R2}(hr:IxR X r) (ha:PE X a ta) (hb:PE X b tb) (hs:Gh b):PE X (.Subscript a b pos) (tOp r ta tb):=by
 intro pins s σ H Q I h
 exact Subscript_ (binT ha hb I h fun v u s2 x y H2 I2 rx ry q=>hr a b pins s2 σ H2 x y v u Q I2 rx ry q (hs _ _))
noncomputable def rIxL (K:aj):R2:=fun x y H Q=>∃ p xs i v,x = .ref p/\y = .int i/\SqL K H p xs/\atI xs i=some v/\Q v H
noncomputable def rIxT (K:aj):R2:=fun x y H Q=>∃ p xs i v,x = .ref p/\y = .int i/\SqT K H p xs/\atI xs i=some v/\Q v H
noncomputable def rIxS:R2:=fun x y H Q=>∃ z i c,x = .str z/\y = .int i/\z.length<=aA/\atI z.cps.toList i=some c/\Q (.str ⟨#[c]⟩) H
theorem uV:IxR X (rIxL X.K):=by
 intro value slice pins s σ H x y v u Q I rx ry h hs
 obtain ⟨p,xs,i,z,rfl,rfl,hq,he,q⟩:=h
 cases rx
 obtain ⟨t,rfl⟩:=ry
 obtain ⟨its,r,pl,hz⟩:=I.list hq
 obtain ⟨j,h1,h2,h3,h4,h5⟩:=Gg he
 obtain ⟨w,ew,rw'⟩:=r.get h2
 have hl:=r.length
 have hn:=PR
 have fin:EP X pins σ Q w s:=⟨z,H,I,rw',q⟩
 by_cases h0:0<=i
 ·have hj:i.toNat=j:=by
   rw [seqIndex_of h0 h5] at h1
   exact Option.some.inj h1
  exact item_listR pl.isList h0 (by omega) (by rw [hj];simpa using ew) fin hs
 ·have hj:(i + (its.toArray.size:Int)).toNat=j:=by
   rw [seqIndex_neg (by omega) h4] at h1
   rw [size_toArray,<-hl]
   exact Option.some.inj h1
  exact subscriptTail_builtinR (x:=w) pl.isList.typeIs slot_list_getitem.lookup
   (wpAny_getItem_list_neg (Q:=fun r s'=>r=w/\EP X pins σ Q r s') pl.isList (by omega) (by rw [size_toArray] <;> omega) (by omega) (by rw [hj];simpa using ew) ⟨rfl,fin⟩) hs
theorem og:IxR X (rIxT X.K):=by
 intro value slice pins s σ H x y v u Q I rx ry h hs
 obtain ⟨p,xs,i,z,rfl,rfl,hq,he,q⟩:=h
 cases rx
 obtain ⟨t,rfl⟩:=ry
 obtain ⟨its,r,pl,hz⟩:=I.tuple hq
 obtain ⟨j,h1,h2,h3,h4,h5⟩:=Gg he
 obtain ⟨w,ew,rw'⟩:=r.get h2
 have hl:=r.length
 have hn:=PR
 have fin:EP X pins σ Q w s:=⟨z,H,I,rw',q⟩
 exact subscriptTail_builtinR (x:=w) pl.typeIs slot_tuple_getitem.lookup
  (getItem_tuple (j:=j) (Q:=fun r s'=>r=w/\EP X pins σ Q r s') pl (by omega) (by omega) (by rw [size_toArray,<-hl];exact h1) (by simpa using ew) ⟨rfl,fin⟩) hs
theorem oh:IxR X rIxS:=by
 intro value slice pins s σ H x y v u Q I rx ry h hs
 obtain ⟨z,i,c,rfl,rfl,hz,he,q⟩:=h
 obtain ⟨t,rfl⟩:=rx
 obtain ⟨t',rfl⟩:=ry
 obtain ⟨j,h1,h2,h3,h4,h5⟩:=Gg he
 have hl:z.cps.toList.length=z.length:=by simp [Str.length]
 rw [hl] at h1 h4 h5
 have hn:=PR
 exact tail_any (typeIs_str s z t) slot_str_getitem.lookup (getItem_str (c:=c) (by
  have e1:decide (i < -(2 ^ 63:Int))=false:=decide_eq_false (by omega)
  have e2:decide (i >= 2 ^ 63)=false:=decide_eq_false (by omega)
  rw [e1,e2,Bool.or_false]) (by rw [h1];simpa using h2) ⟨.str ⟨#[c]⟩,H,I.tok _,⟨_,rfl⟩,q⟩) hs
noncomputable def rIx (K:aj):R2:=fun x y H Q=>rIxL K x y H Q\/rIxT K x y H Q\/rIxS x y H Q
theorem yV:IxR X (rIx X.K):=uV.or (og.or oh)
theorem DK (its:List Value) (n j:Nat) (u:Value):Obj.mapSeq (·.setIfInBounds j u) { cls := .type "list",data := .seq its.toArray n }={ cls := .type "list",data := .seq (its.set j u).toArray n }:=by
 simp [Obj.mapSeq]
theorem Inv.lst {pins:List (Addr × Obj)}{σ:St}{H:Hp}{s:Shared}{p:Addr}{xs:List V}(I:Inv X pins σ H s) (h:H p=some (.lst xs)) :
  ∃ (its:List Value) (n:Nat),Vals xs its/\s.heap.get? p=some { cls := .type "list",data := .seq its.toArray n }/\xs.length<=aA:=by
 obtain ⟨z,its,n,r,e⟩:=I.hok p _ h
 exact ⟨its,n,r,e,z⟩
theorem Inv.oi {pins:List (Addr × Obj)}{σ:St}{H:Hp}{s:Shared}{p:Addr}{xs ys:List V}{its its':List Value}{n n':Nat}{f:Obj->Obj}(I:Inv X pins σ H s) (h:H p=some (.lst xs))
  (ho:s.heap.get? p=some { cls := .type "list",data := .seq its.toArray n }) (hf:f { cls := .type "list",data := .seq its.toArray n }={ cls := .type "list",data := .seq its'.toArray n' }) (r:Vals ys its') (hz:ys.length<=aA) (t:Nat) :
  Inv X pins σ (upd H p (.lst ys)) { s with heap:=s.heap.update p f,toks:=t }:=by
 have e:(s.heap.update p f).get? p=some { cls := .type "list",data := .seq its'.toArray n' }:=by
  rw [Heap.get?_update_self f ho (by rw [hf] <;> rfl),hf]
 refine I.write (x:=p) (e:=p) (by rw [h];trivial) (.inl rfl) (fun b u hb q=>(Heap.get?_update_other _ _ (Ne.symm hb)).trans q) ⟨_,e⟩ ?_
 exact ⟨hz,its',n',r,e⟩
noncomputable def qv:V->V->V->Hp->(Hp->Prop)->Prop:=fun o i v H Q=>∃ p xs k j,o = .ref p/\i = .int k/\H p=some (.lst xs)/\ixN xs.length k=some j/\Q (upd H p (.lst (xs.set j v)))
theorem set_list:PSet X qv:=by
 intro pins s σ H o i v ov iv u Q I ro ri rv h
 obtain ⟨p,xs,k,j,rfl,rfl,hp,hj,q⟩:=h
 cases ro
 obtain ⟨t,rfl⟩:=ri
 obtain ⟨its,n,r,ho,hz⟩:=I.lst hp
 obtain ⟨h1,h2,h3,h4⟩:=Bq hj
 have hl:=r.length
 have hn:=PR
 have I':Inv X pins σ (upd H p (.lst (xs.set j v))) { s with heap:=s.heap.update p (Obj.mapSeq (·.setIfInBounds j u)) } :=
  I.oi hp ho (DK its n j u) (r.set rv j) (by rw [length_set];exact hz) s.toks
 by_cases h0:0<=k
 ·have hk:k.toNat=j:=by
   rw [seqIndex_of h0 h4] at h1
   exact Option.some.inj h1
  exact PySem.W.ki_setAt ho h0 (by omega) (by rw [size_toArray,<-hl];exact h4) (by rw [hk];exact ⟨_,I',q⟩)
 ·have hk:(k + (its.toArray.size:Int)).toNat=j:=by
   rw [seqIndex_neg (by omega) h3] at h1
   rw [size_toArray,<-hl]
   exact Option.some.inj h1
  exact PySem.W.ki_setBack ho (by omega) (by rw [size_toArray,<-hl];exact h3) (by omega) (by rw [hk];exact ⟨_,I',q⟩)
theorem Gi (lo hi:Option Int) (n:Nat):(sliceBounds lo hi none n).1=((HT.sIx n 0 lo:Nat):Int)/\(sliceBounds lo hi none n).2.1=((HT.sIx n n hi:Nat):Int)/\(sliceBounds lo hi none n).2.2=1:=by
 refine ⟨?_,?_,rfl⟩
 ·cases lo with
  | none=>simp [sliceBounds,HT.sIx]
  | some i =>
   simp only [sliceBounds,HT.sIx,Option.getD_none,show (1:Int) > 0 by decide,if_true]
   by_cases h:i < 0
   ·simp only [h,if_true] <;> omega
   ·simp only [h,if_false] <;> omega
 ·cases hi with
  | none=>simp [sliceBounds,HT.sIx]
  | some i =>
   simp only [sliceBounds,HT.sIx,Option.getD_none,show (1:Int) > 0 by decide,if_true]
   by_cases h:i < 0
   ·simp only [h,if_true] <;> omega
   ·simp only [h,if_false] <;> omega
theorem IJ (its:List Value) (lo hi:Option Int):slicePick its.toArray lo hi none=((its.drop (HT.sIx its.length 0 lo)).take (HT.sIx its.length its.length hi - HT.sIx its.length 0 lo)).toArray:=by
 obtain ⟨h1,h2,h3⟩:=Gi lo hi its.toArray.size
 unfold slicePick
 rw [h1,h2,h3]
 simp only [sliceRange_one,pick_run,size_toArray] <;> rfl
noncomputable def rSlL (K:aj):V->Option Int->Option Int->Hp->VK->Prop:=fun x lo hi H Q=>∃ a xs,x = .ref a/\SqL K H a xs/\∀ p,H p=none->Q (.ref p) (upd H p (.lst (FT xs lo hi)))
theorem uW:SlR X (rSlL X.K):=by
 intro pins s σ H x v vl vu lo hi sl Q I rx hs pl pu h
 obtain ⟨a,xs,rfl,hx,q⟩:=h
 cases rx
 obtain ⟨its,r,ht,hz⟩:=I.list hx
 have hlen:=r.length
 refine ⟨"list",_,slot_list_getitem.lookup,ht.isList.typeIs,?_⟩
 refine wpAny_getItem_list_slice ht.isList hs pl pu .none (by simp) ?_ (by rw [size_toArray] <;> omega)
 rw [IJ,<-hlen]
 refine ⟨.ref s.heap.objs.size,_,I.laid (t':=s.toks) (o := .lst (FT xs lo hi)) (fun b ob q=>aq _ q) (Nat.le_refl _) ?_,rfl,q _ (I.hok.fresh (Nat.le_refl _))⟩
 exact ⟨Nat.le_trans (LX xs lo hi) hz,_,0,(r.drop (HT.sIx xs.length 0 lo)).take (HT.sIx xs.length xs.length hi - HT.sIx xs.length 0 lo),au _ rfl⟩
noncomputable def UT:V->Bool
 | .non=>true
 | .bl _=>true
 | .int _=>true
 | .str _=>true
 | _=>false
noncomputable def eqV:V->V->Bool
 | .non,.non=>true
 | .bl a,.bl b=>a == b
 | .bl a,.int b=>(if a then 1 else 0) == b
 | .int a,.bl b=>a == (if b then 1 else 0)
 | .int a,.int b=>a == b
 | .str a,.str b=>a == b
 | _,_=>false
theorem yW {A:Around}{s:Shared}{y x:V}{u v:Value}(ry:RelV y u) (rx:RelV x v) (fy:UT y=true) (fx:UT x=true):SeqAt.EqAt A s u v (eqV y x):=by
 cases y with
 | non =>
  cases ry
  cases x with
  | non=>cases rx;exact SeqAt.EqAt.same _
  | bl b=>cases rx;exact SeqAt.EqAt.none_bool b
  | int b=>obtain ⟨t,rfl⟩:=rx;exact SeqAt.EqAt.none_int b t
  | str b=>obtain ⟨t,rfl⟩:=rx;exact SeqAt.EqAt.none_str b t
  | _=>exact absurd (show false=true from fx) aD
 | bl a =>
  cases ry
  cases x with
  | non=>cases rx;exact SeqAt.EqAt.bool_none a
  | bl b=>cases rx;exact SeqAt.EqAt.bool_bool a b
  | int b=>obtain ⟨t,rfl⟩:=rx;exact SeqAt.EqAt.bool_int a b t
  | str b=>obtain ⟨t,rfl⟩:=rx;exact SeqAt.EqAt.bool_str a b t
  | _=>exact absurd (show false=true from fx) aD
 | int a =>
  obtain ⟨t',rfl⟩:=ry
  cases x with
  | non=>cases rx;exact SeqAt.EqAt.int_none a t'
  | bl b=>cases rx;exact SeqAt.EqAt.int_bool a t' b
  | int b=>obtain ⟨t,rfl⟩:=rx;exact SeqAt.EqAt.int_int a t' b t
  | str b=>obtain ⟨t,rfl⟩:=rx;exact SeqAt.EqAt.int_str a t' b t
  | _=>exact absurd (show false=true from fx) aD
 | str a =>
  obtain ⟨t',rfl⟩:=ry
  cases x with
  | non=>cases rx;exact SeqAt.EqAt.str_none a t'
  | bl b=>cases rx;exact SeqAt.EqAt.str_bool a t' b
  | int b=>obtain ⟨t,rfl⟩:=rx;exact SeqAt.EqAt.str_int a t' b t
  | str b=>obtain ⟨t,rfl⟩:=rx;exact SeqAt.EqAt.str_str a t' b t
  | _=>exact absurd (show false=true from fx) aD
 | _=>exact absurd (show false=true from fy) aD
noncomputable def eqU (x:V) (u:Value):Bool:=match u with
 | .none=>eqV .non x
 | .bool b=>eqV (.bl b) x
 | .int i _=>eqV (.int i) x
 | .str z _=>eqV (.str z) x
 | _=>false
theorem yX {x y:V}{u:Value}(r:RelV y u) (f:UT y=true):eqU x u=eqV y x:=by
 cases y with
 | non=>cases r;rfl
 | bl b=>cases r;rfl
 | int i=>obtain ⟨t,rfl⟩:=r;rfl
 | str z=>obtain ⟨t,rfl⟩:=r;rfl
 | _=>exact absurd (show false=true from f) aD
theorem Nm {x:V}:∀ {xs:List V}{us:List Value},Vals xs us->xs.all UT=true->us.any (eqU x)=xs.any fun y=>eqV y x
 | _,_,.nil,_=>rfl
 | y::xs,u::us,.cons r t,f=>by
  rw [all_cons,aF] at f
  rw [any_cons,any_cons,yX r f.1,Nm t f.2]
theorem Qa {A:Around}{s:Shared}{x:V}{v:Value}(rx:RelV x v) (fx:UT x=true):∀ {xs:List V}{us:List Value},Vals xs us->xs.all UT=true->∀ u∈us,SeqAt.EqAt A s u v (eqU x u)
 | _,_,.nil,_=>fun u hu=>by cases hu
 | y::xs,u::us,.cons r t,f=>fun u' hu=>by
  rw [all_cons,aF] at f
  rcases mem_cons.mp hu with rfl | hu
  ·rw [yX r f.1];exact yW r rx f.1 fx
  ·exact Qa rx fx t f.2 u' hu
noncomputable def inV (x:V) (xs:List V):Bool:=xs.any fun y=>eqV y x
noncomputable def rIn (K:aj) (neg:Bool):R2:=fun x y H Q=>∃ p xs,y = .ref p/\(SqL K H p xs\/SqT K H p xs)/\UT x=true/\xs.all UT=true/\Q (.bl (if neg then !inV x xs else inV x xs)) H
theorem AQ:OpR X (compareOp .In) (rIn X.K false):=by
 intro pins s σ H x y v u Q I rx ry h
 obtain ⟨p,xs,rfl,hq,fx,fs,q⟩:=h
 cases ry
 rcases hq with hq | hq
 ·obtain ⟨its,r,pl,hz⟩:=I.list hq
  refine SeqAt.in_listAt (eqU x) pl.isList (fun w hw=>Qa rx fx r fs w (by simpa using hw)) ⟨.bl _,H,I,rfl,?_⟩
  rw [show its.toArray.any (eqU x)=its.any (eqU x) by simp,Nm r fs]
  exact q
 ·obtain ⟨its,r,pl,hz⟩:=I.tuple hq
  refine SeqAt.in_tupleAt (eqU x) pl (fun w hw=>Qa rx fx r fs w (by simpa using hw)) ⟨.bl _,H,I,rfl,?_⟩
  rw [show its.toArray.any (eqU x)=its.any (eqU x) by simp,Nm r fs]
  exact q
theorem Gj:OpR X (compareOp .NotIn) (rIn X.K true):=by
 intro pins s σ H x y v u Q I rx ry h
 obtain ⟨p,xs,rfl,hq,fx,fs,q⟩:=h
 cases ry
 rcases hq with hq | hq
 ·obtain ⟨its,r,pl,hz⟩:=I.list hq
  refine SeqAt.notIn_listAt (eqU x) pl.isList (fun w hw=>Qa rx fx r fs w (by simpa using hw)) ⟨.bl _,H,I,rfl,?_⟩
  rw [show its.toArray.any (eqU x)=its.any (eqU x) by simp,Nm r fs]
  exact q
 ·obtain ⟨its,r,pl,hz⟩:=I.tuple hq
  refine SeqAt.notIn_tupleAt (eqU x) pl (fun w hw=>Qa rx fx r fs w (by simpa using hw)) ⟨.bl _,H,I,rfl,?_⟩
  rw [show its.toArray.any (eqU x)=its.any (eqU x) by simp,Nm r fs]
  exact q
theorem Nn:Xn X (.builtin "len") (fun xs H Q=>∃ p ys,xs=[.ref p]/\(SqL X.K H p ys\/SqT X.K H p ys)/\Q (.int ys.length) H):=by
 intro pins s σ H xs us Q I r h
 obtain ⟨p,ys,rfl,hq,q⟩:=h
 obtain ⟨u,rfl,rx⟩:=vals1 r
 cases rx
 have hn:=PR
 rcases hq with hq | hq
 ·obtain ⟨its,r',pl,hz⟩:=I.list hq
  have hlen:=r'.length
  exact Calls.call_len_list pl.isList (by simp only [size_toArray] <;> omega) ⟨.int ys.length,H,I.tok _,⟨s.toks + 1,by rw [size_toArray,hlen]⟩,q⟩
 ·obtain ⟨its,r',pl,hz⟩:=I.tuple hq
  have hlen:=r'.length
  exact len_tuple pl (by simp only [size_toArray] <;> omega) ⟨.int ys.length,H,I.tok _,⟨s.toks + 1,by rw [size_toArray,hlen]⟩,q⟩
theorem Gk:Xn X (.builtin "len") (fun xs H Q=>∃ z,xs=[.str z]/\z.length<=aA/\Q (.int z.length) H):=by
 intro pins s σ H xs us Q I r h
 obtain ⟨z,rfl,hz,q⟩:=h
 obtain ⟨u,rfl,t,rfl⟩:=vals1 r
 have hn:=PR
 exact len_str (by omega) ⟨.int z.length,H,I.tok _,⟨_,rfl⟩,q⟩
theorem Xn.or {f:Value}{r r':List V->Hp->VK->Prop}(h:Xn X f r) (h':Xn X f r'):Xn X f (fun xs H Q=>r xs H Q\/r' xs H Q):=by
 intro pins s σ H xs us Q I rs q
 rcases q with q | q
 ·exact h pins s σ H xs us Q I rs q
 ·exact h' pins s σ H xs us Q I rs q
theorem Gm:Xn X (.type "list") (fun xs H Q=>∃ p ys,xs=[.ref p]/\(SqL X.K H p ys\/SqT X.K H p ys)/\∀ l,H l=none->Q (.ref l) (upd H l (.lst ys))):=by
 intro pins s σ H xs us Q I r h
 obtain ⟨p,ys,rfl,hq,q⟩:=h
 obtain ⟨u,rfl,rx⟩:=vals1 r
 cases rx
 have fin:∀ (its:List Value),Vals ys its->ys.length<=aA->∀ (h':Heap) (c':Nat),(∀ b o',s.heap.get? b=some o'->h'.get? b=some o') ->
   h'.get? s.heap.objs.size=some { cls := .type "list",dict:=none,data := .seq its.toArray c',slots:=#[] }->EP X pins σ Q (.ref s.heap.objs.size) { s with heap:=h' }:=fun its r' hz h' c' kp e =>
  ⟨.ref s.heap.objs.size,_,I.laid (t':=s.toks) kp (Nat.le_refl _) (show YH X.prog X.w _ h' _ (.lst ys) from ⟨hz,its,c',r',e⟩),rfl,q _ (I.hok.fresh (Nat.le_refl _))⟩
 rcases hq with hq | hq
 ·obtain ⟨its,r',pl,hz⟩:=I.list hq
  have hlen:=r'.length
  obtain ⟨o,ho,hc,n,hd⟩:=pl.isList
  exact call_list_seq p (.inl rfl) ho hc hd (fun h' c' kp e=>fin its r' hz h' c' kp e) (by simp only [size_toArray] <;> omega)
 ·obtain ⟨its,r',pl,hz⟩:=I.tuple hq
  have hlen:=r'.length
  obtain ⟨o,ho,hc,n,hd⟩:=pl
  exact call_list_seq p (.inr rfl) ho hc hd (fun h' c' kp e=>fin its r' hz h' c' kp e) (by simp only [size_toArray] <;> omega)
theorem IK:Xn X (.type "tuple") (fun xs H Q=>∃ p ys,xs=[.ref p]/\((SqL X.K H p ys/\∀ l,H l=none->Q (.ref l) (upd H l (.tup ys)))\/(SqT X.K H p ys/\Q (.ref p) H))):=by
 intro pins s σ H xs us Q I r h
 obtain ⟨p,ys,rfl,h⟩:=h
 obtain ⟨u,rfl,rx⟩:=vals1 r
 cases rx
 rcases h with ⟨hq,q⟩ | ⟨hq,q⟩
 ·obtain ⟨its,r',pl,hz⟩:=I.list hq
  have hlen:=r'.length
  refine call_tuple_list pl.isList (fun h' kp=>?_) (by simp only [size_toArray] <;> omega)
  have I1:Inv X pins σ H { s with heap:=h' }:=I.kept (t':=s.toks) kp
  have I2:Inv X pins σ (upd H h'.objs.size (.tup ys)) { s with heap:=h'.push { cls := .type "tuple",data := .seq its.toArray } } :=
   I1.laid (t':=s.toks) (fun b o e=>aq _ e) (Nat.le_refl _) (show YH X.prog X.w _ _ _ (.tup ys) from ⟨hz,its,r',IsTup.new _ _⟩)
  exact ⟨.ref h'.objs.size,_,I2,rfl,q _ (I1.hok.fresh (Nat.le_refl _))⟩
 ·obtain ⟨its,r',pl,hz⟩:=I.tuple hq
  exact call_tuple_same pl ⟨.ref p,H,I,rfl,q⟩
noncomputable def tyV (K:aj) (T:String) (x:V) (H:Hp):Prop:=match x with
 | .str _=>T = "str"
 | .int _=>T = "int"
 | .ref p=>(T = "list" /\ ∃ xs,SqL K H p xs)\/(T = "tuple" /\ ∃ o,K.lookup p=some o/\o.cls = .type "tuple" /\ o.dict=none) \/
   (T = "dict" /\ ((∃ kvs,H p=some (.dK kvs))\/∃ kvs,H p=some (.dT kvs)))\/(T = "set" /\ ∃ S n,H p=some (.set S n))
 | _=>False
theorem yY {pins:List (Addr × Obj)}{σ:St}{H:Hp}{s:Shared}{T:String}{x:V}{v:Value}(I:Inv X pins σ H s) (r:RelV x v) (ty:tyV X.K T x H) :
  s.TypeIs v T/\∀ a,v = .ref a->∃ ob,s.heap.get? a=some ob/\ob.dict=none:=by
 cases x with
 | str z =>
  obtain ⟨t,rfl⟩:=r
  cases (show T = "str" from ty)
  exact ⟨typeIs_str s z t,fun _ e=>nomatch e⟩
 | int i =>
  obtain ⟨t,rfl⟩:=r
  cases (show T = "int" from ty)
  exact ⟨typeIs_int s i t,fun _ e=>nomatch e⟩
 | ref p =>
  cases r
  rcases ty with ⟨rfl,xs,hq⟩ | ⟨rfl,o,hk,hc,hd⟩ | ⟨rfl,hk⟩ | ⟨rfl,S,n,hk⟩
  ·obtain ⟨its,_,pl,_⟩:=I.list hq
   refine ⟨pl.isList.typeIs,fun a e=>?_⟩
   cases e
   obtain ⟨o,n,e,c,hd,_⟩:=pl
   exact ⟨o,e,hd⟩
  ·refine ⟨⟨o,I.kIn p o hk,hc⟩,fun a e=>?_⟩
   cases e
   exact ⟨o,I.kIn _ o hk,hd⟩
  ·have z:∃ o,s.heap.get? p=some o/\o.ExactDict:=by
    rcases hk with ⟨kvs,hk⟩ | ⟨kvs,hk⟩
    ·obtain ⟨_,_,_,_,o,_,_,e,ex,_⟩:=I.hok p _ hk
     exact ⟨o,e,ex⟩
    ·obtain ⟨_,_,_,_,o,_,_,e,ex,_⟩:=I.hok p _ hk
     exact ⟨o,e,ex⟩
   obtain ⟨o,e,ex⟩:=z
   refine ⟨⟨o,e,ex.1⟩,fun a e2=>?_⟩
   cases e2
   exact ⟨o,e,ex.2.1⟩
  ·obtain ⟨o,_,_,_,e,ex,_⟩:=I.hok p _ hk
   refine ⟨⟨o,e,ex.1⟩,fun a e2=>?_⟩
   cases e2
   exact ⟨o,e,ex.2.1⟩
 | _=>exact False.elim ty
noncomputable def tBM0 (K:aj) (T:String) (r:V->List V->Hp->VK->Prop) (to:TE):TE:=fun σ H Q=>to σ H fun x H1=>tyV K T x H1/\r x [] H1 Q
noncomputable def tBM (K:aj) (T:String) (r:V->List V->Hp->VK->Prop) (to:TE) (t:TA):TE:=fun σ H Q=>to σ H fun x H1=>tyV K T x H1/\t σ H1 fun xs H2=>r x xs H2 Q
variable {o e:Expr}{es:List Expr}{to:TE}{t:TA}{name:Str}{apos cpos:Pos}{T id:String}{r:V->List V->Hp->VK->Prop}
theorem yZ (pa:PlainAttrs T) (slot:Slot T name id) (hty:typeOf (.builtin id)=pure (.type "method_descriptor")) (hm:MtR X id r) (ho:PE X o to)
  (hbase:autoParam (attributeBase o name X.env (eval o X.env)=eval o X.env) auR) (hline:autoParam ((apos.endLine == cpos.line)=true) auR):PE X (.Call (.Attribute o name apos) [] [] cpos) (tBM0 X.K T r to):=by
 intro pins s σ H Q I h
 refine wpAny_Call_method0_late hbase hline (thn (ho pins s σ H _ I h) fun v s1 zq=>?_)
 obtain ⟨x,H1,I1,r1,ty,q1⟩:=zq
 obtain ⟨h1,h2⟩:=yY I1 r1 ty
 exact ⟨T,id,pa,slot,hty,h1,h2,Calls.callWith_builtin rfl (PySem.evalArgs_none (hm pins s1 σ H1 x [] v [] Q I1 r1 .nil q1))⟩
theorem Jp (pa:PlainAttrs T) (slot:Slot T name id) (hty:typeOf (.builtin id)=pure (.type "method_descriptor")) (hm:MtR X id r) (ho:PE X o to) (ha:PA X (e::es) t)
  (hbase:autoParam (attributeBase o name X.env (eval o X.env)=eval o X.env) auR)
  (hfew:autoParam (((backTo cpos (starEach (e::es) X.env)).all (fun x => !x.1) && (backToKw cpos (keywordEach [] X.env)).all (fun x=>x.1.isSome)
   && decide ((e::es).length + ([]:List Keyword).length + (if ([]:List Keyword).isEmpty then 0 else 1) < 30))=true) auR)
  (hline:autoParam ((apos.endLine == cpos.line)=true) auR) (hs:autoParam (starEach (e::es) X.env=(false,eval e X.env)::starEach es X.env) auR) (hplain:autoParam ((backTo cpos (starEach es X.env)).any (·.1)=false) auR) :
  PE X (.Call (.Attribute o name apos) (e::es) [] cpos) (tBM X.K T r to t):=by
 intro pins s σ H Q I h
 refine wpAny_Call_method_late hbase hfew hline rfl (thn (ho pins s σ H _ I h) fun v s1 zq=>?_)
 obtain ⟨x,H1,I1,r1,ty,q1⟩:=zq
 obtain ⟨h1,h2⟩:=yY I1 r1 ty
 refine ⟨T,id,pa,slot,hty,h1,h2,?_⟩
 have hA:=ha cpos pins s1 σ H1 _ I1 q1
 rw [hs] at hA ⊢
 refine Calls.callWith_builtin (by show (false || (backTo cpos (starEach es X.env)).any (·.1))=false;rw [hplain] <;> rfl) (Calls.evalArgs_plain ?_)
 exact thn hA fun us s2 ⟨vs,H2,I2,r2,q2⟩=>hm pins s2 σ H2 x vs v us Q I2 r1 r2 q2
/- xs.append(e),list.index on a module's tuple .. are MtR facts of 06m -/
end
noncomputable def MtM (X:Cx) (id:String) (r:V->List V->Hp->VK->Prop):Prop :=
 ∀ (pins:List (Addr × Obj)) (s:Shared) (σ:St) (H:Hp) (x:V) (xs:List V) (v:Value) (us:List Value) (Q:VK),Inv X pins σ H s->RelV x v->Vals xs us->r x xs H Q ->
  wpAny (model X.prog X.w) X.A (call (.builtin id) (v::us)) (EP X pins σ Q) X.xe s
theorem Vals.one {x:V}{us:List Value}(h:Vals [x] us):∃ u,us=[u]/\RelV x u:=by
 cases h with | cons r t=>cases t;exact ⟨_,rfl,r⟩
theorem Vals.two {x y:V}{us:List Value}(h:Vals [x,y] us):∃ u v,us=[u,v]/\RelV x u/\RelV y v:=by
 cases h with | cons r t=>cases t with | cons q t=>cases t;exact ⟨_,_,rfl,r,q⟩
theorem Vals.zero:∀ {us:List Value},Vals [] us->us=[]
 | _,.nil=>rfl
theorem Vals.dropLast {xs:List V}{us:List Value}(h:Vals xs us):Vals xs.dropLast us.dropLast:=by
 induction h with
 | nil=>exact .nil
 | cons r t ih =>
  cases t with
  | nil=>exact .nil
  | cons q t'=>exact .cons r ih
theorem Vals.reverse {xs:List V}{us:List Value}(h:Vals xs us):Vals xs.reverse us.reverse:=by
 induction h with
 | nil=>exact .nil
 | cons r t ih=>rw [List.reverse_cons,List.reverse_cons];exact Vals.append ih (.cons r .nil)
theorem Vals.rep {xs:List V}{us:List Value}(h:Vals xs us):∀ k:Nat,Vals (replicate k xs).flatten (replicate k us).flatten
 | 0 => .nil
 | k + 1=>by
  rw [replicate_succ,replicate_succ,flatten_cons,flatten_cons]
  exact Vals.append h (Vals.rep h k)
theorem DL {α:Type}(l:List α):l.eraseIdx (l.length - 1)=l.dropLast:=by
 induction l with
 | nil=>rfl
 | cons a r ih =>
  cases r with
  | nil=>rfl
  | cons b r =>
   have e:(a::b::r).length - 1=((b::r).length - 1) + 1:=by
    have h1:(a::b::r).length=r.length + 2:=rfl
    have h2:(b::r).length=r.length + 1:=rfl
    omega
   rw [e,List.eraseIdx_cons_succ,ih]
   all_goals rfl
theorem foldl_rep (its:List Value):∀ (k:Nat) (acc:List Value),
  foldl (fun x1 x2=>x1++x2) acc.toArray (replicate k its.toArray)=(acc++(replicate k its).flatten).toArray
 | 0,acc=>by simp
 | k + 1,acc=>by
  have e:acc.toArray++its.toArray=(acc++its).toArray:=by simp
  have e2:(acc++its)++(replicate k its).flatten=acc++(replicate (k + 1) its).flatten:=by
   rw [replicate_succ,flatten_cons,append_assoc]
  rw [<-e2,<-foldl_rep its k (acc++its),<-e,replicate_succ,foldl_cons]
section
variable {X:Cx}{pins:List (Addr × Obj)}{σ:St}{H:Hp}{s:Shared}{l b:Addr}{xs ys zs:List V}
theorem Inv.lset {its its':List Value}{n:Nat}{f:Array Value->Array Value}{t':Nat}(I:Inv X pins σ H s) (hH:H l=some (.lst xs))
  (e:s.heap.get? l=some { cls := .type "list",data := .seq its.toArray n }) (hf:f its.toArray=its'.toArray) (hv:Vals ys its') (hz:ys.length<=aA) :
  Inv X pins σ (upd H l (.lst ys)) { s with heap:=s.heap.update l (Obj.mapSeq f),toks:=t' }:=by
 have q:=PySem.IsL.update e f
 rw [hf] at q
 refine I.write (x:=l) (e:=l) (by rw [hH];exact trivial) (.inl rfl) (fun b' u hb hu=>(Heap.get?_update_other s.heap (Obj.mapSeq f) (Ne.symm hb)).trans hu) ⟨_,q⟩ ?_
 exact ⟨hz,its',_,hv,q⟩
theorem Inv.lnew {its:List Value}{t':Nat}(I:Inv X pins σ H s) (hv:Vals ys its) (hz:ys.length<=aA) :
  Inv X pins σ (upd H s.heap.objs.size (.lst ys)) { s with heap:=s.heap.push { cls := .type "list",data := .seq its.toArray },toks:=t' } :=
 I.laid (fun _ _ q=>aq _ q) (Nat.le_refl _) ⟨hz,its,0,hv,au _ rfl⟩
theorem Inv.fresh (I:Inv X pins σ H s):H s.heap.objs.size=none:=I.hok.fresh (Nat.le_refl _)
theorem Inv.AR (I:Inv X pins σ H s) (hH:H l=some (.lst xs)):xs.length<=aA/\∃ (its:List Value) (n:Nat),Vals xs its/\xs.length=its.length/\s.heap.get? l=some { cls := .type "list",data := .seq its.toArray n }:=by
 obtain ⟨z,its,n,r,e⟩:=I.hok l _ hH
 exact ⟨z,its,n,r,r.length,e⟩
theorem Np {n:Nat}(h:n<=aA):Builtin.List.listTooLong n=false:=by
 unfold Builtin.List.listTooLong
 exact decide_eq_false (by omega)
end
section
variable {X:Cx}
noncomputable def Gn:V->List V->Hp->VK->Prop:=fun x vs H Q=>∃ l xs y,x = .ref l/\vs=[y]/\H l=some (.lst xs)/\xs.length < aA/\Q .non (upd H l (.lst (xs++[y])))
theorem HC:MtM X "list.append" Gn:=by
 intro pins s σ H x vs v us Q I rx rv h
 obtain ⟨l,xs,y,rfl,rfl,hH,hz,q⟩:=h
 cases rx
 obtain ⟨u,rfl,ru⟩:=rv.one
 obtain ⟨z,its,n,r,hl,e⟩:=I.AR hH
 refine call_meets F.slot_list_append ⟨_,e,rfl⟩ F.entry_list_append (F.args_list_append_2 _ _) (PySem.list_append l its.toArray n u (by rw [size_toArray];omega)) ⟨e,?_⟩
 refine ⟨.non,_,I.lset (its':=its++[u]) hH e (by simp) (r.append (.cons ru .nil)) ?_,rfl,q⟩
 rw [length_append,List.length_singleton]
 omega
noncomputable def Gp:V->List V->Hp->VK->Prop:=fun x vs H Q=>∃ l b xs zs,x = .ref l/\vs=[.ref b]/\H l=some (.lst xs)/\H b=some (.lst zs)/\xs.length + zs.length<=aA/\Q .non (upd H l (.lst (xs++zs)))
theorem AU:MtM X "list.extend" Gp:=by
 intro pins s σ H x vs v us Q I rx rv h
 obtain ⟨l,b,xs,zs,rfl,rfl,hH,hB,hz,q⟩:=h
 cases rx
 obtain ⟨u,rfl,ru⟩:=rv.one
 cases ru
 obtain ⟨z,its,n,r,hl,e⟩:=I.AR hH
 obtain ⟨z2,its2,n2,r2,hl2,e2⟩:=I.AR hB
 have hsz:its.toArray.size + its2.toArray.size<=aA:=by rw [size_toArray,size_toArray];omega
 have hlong:¬ (!its.toArray.isEmpty && Builtin.List.listTooLong (its.toArray.size + its2.toArray.size))=true:=by
  rw [Np hsz,Bool.and_false]
  exact aD
 refine call_meets F.slot_list_extend ⟨_,e,rfl⟩ F.entry_list_extend (F.args_list_extend_2 _ _)
  (AutoSeq1.list_extend_list_list_0 l its.toArray n b its2.toArray n2 hlong (by rw [size_toArray];omega) (by omega)) ⟨e,e2,?_⟩
 refine ⟨.non,_,I.lset (its':=its++its2) hH e (by simp) (r.append r2) ?_,rfl,q⟩
 rw [length_append]
 omega
noncomputable def rPop:V->List V->Hp->VK->Prop:=fun x vs H Q=>∃ l xs y,x = .ref l/\vs=[]/\H l=some (.lst xs)/\xs[xs.length - 1]?=some y/\Q y (upd H l (.lst xs.dropLast))
theorem om:MtM X "list.pop" rPop:=by
 intro pins s σ H x vs v us Q I rx rv h
 obtain ⟨l,xs,y,rfl,rfl,hH,hy,q⟩:=h
 cases rx
 have hus:=rv.zero
 subst hus
 obtain ⟨z,its,n,r,hl,e⟩:=I.AR hH
 obtain ⟨u,hu,ru⟩:=r.get hy
 have hy':its.toArray[its.toArray.size - 1]?=some u:=by
  show its.toArray[its.length - 1]?=some u
  rw [<-Array.getElem?_toList,<-hl]
  exact hu
 refine call_meets F.slot_list_pop ⟨_,e,rfl⟩ F.entry_list_pop (F.args_list_pop_1 _) (MeetsSeq.list_pop_last l its.toArray n u hy' (by rw [size_toArray];omega)) ⟨e,?_⟩
 refine ⟨y,_,I.lset (its':=its.dropLast) hH e ?_ r.dropLast ?_,ru,q⟩
 ·show its.toArray.eraseIdxIfInBounds (its.toArray.size - 1)=its.dropLast.toArray
  rw [size_toArray,List.eraseIdxIfInBounds_toArray,DL]
 ·rw [List.length_dropLast]
  omega
noncomputable def rRep:R2:=fun x y H Q=>∃ l k xs,x = .ref l/\y = .int k/\H l=some (.lst xs) /\ -(2 ^ 63)<=k/\k < 2 ^ 63/\xs.length * k.toNat<=aA /\
 ∀ p,H p=none->Q (.ref p) (upd H p (.lst (replicate k.toNat xs).flatten))
theorem len_rep {α:Type}(xs:List α) (k:Nat):(replicate k xs).flatten.length=k * xs.length:=by
 induction k with
 | zero=>simp
 | succ k ih=>rw [replicate_succ,flatten_cons,length_append,ih,Nat.succ_mul,Nat.add_comm]
theorem oo:OpR X (binaryOp .Mult) rRep:=by
 intro pins s σ H x y v u Q I rx ry h
 obtain ⟨l,k,xs,rfl,rfl,hH,h1,h2,hz,q⟩:=h
 cases rx
 obtain ⟨t,rfl⟩:=ry
 obtain ⟨z,its,n,r,hl,e⟩:=I.AR hH
 have hlen:its.toArray.size * k.toNat<=aA:=by rw [size_toArray,<-hl];exact hz
 have hcap:¬ its.toArray.size * k.toNat > (2 ^ 63 - 1) / 8:=by
  have:(aA:Nat)<=(2 ^ 63 - 1) / 8:=by decide
  omega
 have hfit:¬ (!Builtin.List.listFitsIndex k)=true:=by
  rw [fitsIndex_both h1 h2]
  exact aD
 have hlong:¬ Builtin.List.listTooLong (its.toArray.size * k.toNat)=true:=by
  rw [Np hlen]
  exact aD
 have hnew:foldl (fun x1 x2=>x1++x2) #[] (replicate (if its.toArray.isEmpty=true then 0 else k.toNat) its.toArray)=(replicate k.toNat its).flatten.toArray:=by
  have f0:∀ m:Nat,foldl (fun x1 x2=>x1++x2) #[] (replicate m its.toArray)=(replicate m its).flatten.toArray:=fun m=>by
   have:=foldl_rep its m []
   rw [List.nil_append] at this
   exact this
  rw [f0]
  cases its with
  | nil=>simp
  | cons a r'=>rw [if_neg (by simp)]
 refine wpAny_binaryOp_repeat_ref (T := "list") (U := "int") (by decide) ⟨_,e,rfl⟩ (fun s'=>typeIs_int s' k t) noFill_list_mul F.fills_int_mul F.slot_int_rmul repeat_list F.slot_int_index.lookup
  (call_meets F.slot_int_rmul (typeIs_int s k t) F.entry_int_rmul (F.args_int_rmul_2 _ _) (int___rmul___int_list k t l its.toArray n)
   ⟨e,rfl,⟨_,e,rfl⟩,call_meets F.slot_list_mul ⟨_,e,rfl⟩ F.entry_list_mul (F.args_list_mul_2 _ _) (AutoListH.list___mul___list_int_3 l its.toArray n k t hfit hcap hlong) ⟨e,?_⟩⟩)
 rw [hnew]
 exact ⟨.ref _,_,I.lnew (t':=s.toks) (r.rep k.toNat) (by rw [len_rep,Nat.mul_comm];exact hz),rfl,q _ I.fresh⟩
end
section
variable {prog:Program}{w:World}{A:Around}{E:Value->Shared->Prop}{s:Shared}
theorem DM {a c n:Nat}(hac:a<=c) (hc:c<=n):sliceBounds (some (a:Int)) (some (c:Int)) none n=((a:Int),(c:Int),1):=by
 simp only [sliceBounds,Option.getD_none]
 have h1:¬ ((a:Int) < 0):=by omega
 have h2:¬ ((c:Int) < 0):=by omega
 simp only [h1,h2,if_false,show (1:Int) > 0 by decide,if_true]
 congr 1
 ·omega
 ·congr 1;omega
set_option maxRecDepth 100000 in
/-- list.__setitem__ with a slice of step one and another list -/
theorem uA {l b sl:Addr}{items new:Array Value}{n n2:Nat}{vl vu:Value}{a c:Nat}{Q:Unit->Shared->Prop}
    (e:s.heap.get? l=some { cls := .type "list",data := .seq items n }) (e2:s.heap.get? b=some { cls := .type "list",data := .seq new n2 }) (hne:l≠b)
    (hs:s.heap.IsSliceOf sl vl vu .none) (pl:IsPart vl (some (a:Int))) (pu:IsPart vu (some (c:Int))) (hac:a<=c) (hc:c<=items.size)
    (hsz:items.size + new.size<=aA) (h:Q () { s with heap:=s.heap.update l (Obj.mapSeq fun xs=>xs.extract 0 a++new++xs.extract c xs.size) }) :
    wpAny (model prog w) A (setItem (.ref l) (.ref sl) (.ref b)) Q E s:=by
  have hl:s.heap.IsList l items:=PySem.IsL.isList e
  have hb:s.heap.IsList b new:=PySem.IsL.isList e2
  obtain ⟨os,hos,hcs,hds⟩:=id hs
  have hTs:s.TypeIs (.ref sl) "slice" := ⟨os,hos,hcs⟩
  have hstep:¬ ((rawPart none == rawInt 0)=true):=aD
  have hsame:Builtin.List.listSameRef (.ref l) (.ref b)=false:=by
    unfold Builtin.List.listSameRef
    exact beq_eq_false_iff_ne.mpr hne
  have hmax:(max (a:Int) (c:Int)).toNat=c:=by omega
  have hz':((fun xs:Array Value=>xs.extract 0 a++new++xs.extract c xs.size) items).size<=aA + 1:=by
    simp only [Array.size_append,Array.size_extract]
    omega
  unfold setItem
  try with_reducible refine wpAny_holding ?_
  first | refine ak (ao ?_) | skip
  refine ak (wpAny_sequenceKey hl.typeIs (by decide) ?_)
  refine ak (wpAny_callSpecial?_slot (name:=Str.ofString "__setitem__") hl.typeIs slot_list_setitem
    (wpAny_call_entry slot_list_setitem hl.typeIs entry_list_setitem ?_ (args_list_setitem _ _ _)))
  show wpAny _ _ (Builtin.List.listSubscript? (.ref sl) >>= _) _ _ s
  refine ak ?_
  unfold Builtin.List.listSubscript?
  refine ak (wpAny_specialOf hTs slice_no_index ?_)
  simp only [Option.isNone_none,if_true]
  refine ao ?_
  show wpAny _ _ (typeOf (.ref sl) >>= _) _ _ s
  refine ak (wpAny_typeOf hTs ?_)
  first
    | rw [if_neg (by decide)]
    | refine PySem.W.KFB.if_not (by decide) ?_
  rw [listSliceParts_eq]
  refine ak (ak (wpAny_field hos hds (x := .none) rfl (ak (wpAny_listPart .none ?_))))
  rw [if_neg hstep]
  refine ak (wpAny_field hos hds (x:=vl) rfl (ak (wpAny_listPart pl ?_)))
  refine ak (wpAny_field hos hds (x:=vu) rfl (ak (wpAny_listPart pu (ao ?_))))
  first
    | simp only [hsame,Bool.false_eq_true,if_false]
    | refine PySem.W.KFB.if_not hsame ?_
    | (dsimp only
       rw [if_neg (by rw [hsame];exact aD)])
  refine ak (m:=Builtin.List.listAllItems (.ref b) "must assign iterable to extended slice") ?_
  unfold Builtin.List.listAllItems
  refine ak (wpAny_typeOf hb.typeIs ?_)
  first
    | refine PySem.W.KFB.if_so (by decide) ?_
    | rw [if_pos (by decide)]
    | simp only [beq_self_eq_true,Bool.true_or,if_true]
  unfold Builtin.List.listItems
  refine ak (wpAny_seqItems e2 rfl (ao ?_))
  refine ak (ak (wpAny_seqItems e rfl (ao ?_)))
  refine ak (wpAny_of_eq ((sliceIndices_raw (some (a:Int)) (some (c:Int)) none items.size (by simp)).trans (congrArg (pure:Int × Int × Int->Sem (Int × Int × Int)) (DM hac hc))) ?_)
  show wpAny _ _ (if ((1:Int) == 1)=true then _ else _) _ _ s
  rw [if_pos (by decide)]
  refine ak (wpAny_rule ?_)
  first
    | simp only [Np hsz,Bool.false_eq_true,if_false]
    | refine PySem.W.KFB.if_not (Np hsz) ?_
  first | refine ak (ao ?_) | skip
  show wpAny _ _ (updateSeq l (fun xs=>xs.extract 0 ((a:Int)).toNat++new++xs.extract (max (a:Int) (c:Int)).toNat xs.size) >>= _) _ _ s
  rw [hmax,Int.toNat_natCast]
  refine ak (wpAny_updateSeq (hz:=Nat.le_trans (Nat.le_add_right _ _) hsz) (_hz':=hz') e rfl ?_)
  refine ak (wpAny_letGo ?_)
  first
    | exact ak (ao (ao ⟨.none,rfl,ao h⟩))
    | exact ao ⟨.none,rfl,ao h⟩
end
section
variable {X:Cx}
end
end L2
namespace Att
open PySem PySem.W PySem.Calls PyProof.Rows
theorem Kj {P:Params}{h:Heap}:∀ (ns:List Int) (vs:List Value),WellAll P h vs (ns.map WData.int)->IntsAre vs ns:=by
 intro ns
 induction ns with
 | nil =>
  intro vs w
  rw [List.map_nil] at w
  cases w
  exact .nil
 | cons n ns ih =>
  intro vs w
  rw [map_cons] at w
  cases w with
  | cons a b =>
   cases a
   exact .cons _ _ (ih _ b)
theorem AV {l:OpenLaw}{n:Nat}(hn:l.most=some n) {P:Params}{h:Heap}{args:List WData}{vals:List Value}
  (hpre:l.row.toRowW.claim.pre args=true) (hwl:WellAll P h vals args) :
  ∃ a vs ns,vals=[Value.ref a]/\args=[WData.list (ns.map WData.int)]/\h.get? a=some { cls := .type "list",data := .seq vs.toArray }/\IntsAre vs ns/\ns.length<=n:=by
 have hsh:WShape.hasAll [] args [.list .int]=true:=(pre_splitW hpre).1
 have hc:l.pre.holds [] { args:=args }=true:=(pre_splitW hpre).2
 obtain ⟨d,r,rfl,h1,h2⟩:=hasAllW_cons hsh
 obtain rfl:=hasAllW_nil h2
 obtain ⟨xs,rfl,h3⟩:=hasW_list h1
 obtain ⟨ns,rfl⟩:=items_int h3
 have hlen:ns.length<=n:=by
  unfold OpenLaw.pre at hc
  have h4:(WTm.not (.lt (.lit (.int (n:Int))) (.len (.arg 0)))).holds [] { args:=[.list (ns.map .int)] }=true:=by
   have h4:=(holds_andW hc).1
   rw [hn] at h4
   exact h4
  have h5:=condW_of h4 (w_not (w_lt w_lit (w_len_list (w_arg rfl))))
  rw [length_map] at h5
  refine Nat.le_of_not_lt fun q=>?_
  have q':(n:Int) < ((ns.length:Nat):Int):=by omega
  first
   | (rw [decide_eq_true q'] at h5;exact absurd h5 (by decide))
   | (simp at h5;omega)
 cases hwl with
 | cons w1 w2 =>
  cases w2
  cases w1 with
  | list ho hall=>exact ⟨_,_,ns,rfl,rfl,ho,Kj ns _ hall,hlen⟩
theorem AW (l:OpenLaw) (args:List WData):l.row.toRowW.claim.post args (.bool true) args=true :=
 postW_of (r:=l.row.toRowW) (X:=(true == true))
  (show WShape.has [] (.bool true) .bool=true by first | rfl | decide | simp [WShape.has,WShape.arms,WShape.armsAll])
  (show (WTm.eq .res (.lit (.bool true))).value [] { args:=args,res:=some (.bool true),after:=args }=some (.bool (true == true)) from w_eq_bool (w_res rfl) w_lit) rfl
theorem FU {l:OpenLaw}{n:Nat}{q:Program}{loose:List Str}{XP:(Str->Option Value)->Heap->Prop}{YP:World->Heap->Prop}{d:DefRec}
  (hn:l.most=some n) (hdf:d.params.defaults=[])
  (call:∀ (w:World) (s₀ s₁:Shared) (mg mb:Str->Option Value) (fa:Addr) (o:Obj) (pm cd doc:Value) (a:Addr) (vs:List Value) (ns:List Int),
   Ground q loose [] XP w s₀ mg mb s₁.heap->YP w s₁.heap ->
   s₁.heap.get? fa=some o->o.data = .func (docDef d.name d.params d.body d.scope pm cd doc)->s₁.heap.CodeRec cd d.name->mg d.name=some (.ref fa) ->
   s₁.heap.get? a=some { cls := .type "list",data := .seq vs.toArray }->IntsAre vs ns->ns.length<=n->s₁.gens=#[] ->
   codeAny (model l.prog w) callerA (.call (.ref fa) ⟨[.ref a],[]⟩) (fun r s'=>r = .ok (.ret (.bool true))/\OldK s₁.heap s'.heap/\s'.os=s₁.os/\AllBare s'.gens) s₁) :
  WalkO q loose XP YP l.row.toRowW d [] (fun f vs=>PySem.call f vs):=by
 intro w s₀ s₁ mg mb G Y fa o pm cd doc dV kV ho hd hcd hD hmg hg args vals as hpre hlay hrd hwl hlo
 obtain rfl:dV = .none:=Dflts.none hD hdf
 obtain rfl:kV = .none:=Dflts.noKw hD
 obtain ⟨a,vs,ns,rfl,rfl,hobj,hints,hlen⟩:=AV hn hpre hwl
 refine enter_call (codeAny_mono (call w s₀ s₁ mg mb fa o pm cd doc a vs ns G Y ho (fd_plain hd) hcd hmg hobj hints hlen hg) fun r s' hq=>?_)
 obtain ⟨rfl,h2,h3,h4⟩:=hq
 exact ⟨.inl ⟨.bool true,.bool true,[],rfl,fun _=>rfl,.bool true,AW l _,fun _=>⟨List.Pairwise.nil,fun _ hm=>(nomatch hm)⟩⟩,h2,h3,h4⟩
section
variable {prog:Program}{w:World}{A:Around}{E:Value->Shared->Prop}{s:Shared}{K:Frag}
noncomputable def ledger (h:Heap) (L d:Addr):List (Addr × Obj):=(List.range h.objs.size).filterMap fun a=>if a=L\/a=d then none else (h.get? a).map fun o=>(a,o)
end
end Att
namespace L2
open PySem PySem.Spec PyProof.Rows
theorem HD:∀ {vs:List Value}{ns:List Int},IntsAre vs ns->Vals (ns.map V.int) vs
 | _,_,.nil => .nil
 | _,_,.cons n t h => .cons ⟨t,rfl⟩ (HD h)
noncomputable def Only (H:Hp):Prop:=∀ b,H b=none\/∃ o xs,H b=some (.frz o (.lst xs))
theorem xf {P:Program}{w:World}{K:aj}{mg mb:Str->Option Value}{CX:CXT}{k:Nat}{fa a:Addr}{fd:FuncData}{x:Str}{sp:Sp}{s₁:Shared}{vs:List Value}{ns:List Int}
  (KX:K.In s₁.heap) (hns:s₁.heap.Ns mainGlobals mg) (hb:s₁.heap.Ns builtinsNs mb) (hbb:∀ x:Str,x ≠ "__name__" -> mb x=bootBuiltins x) (hlim:s₁.heap.NoLimit) (hg:s₁.gens=#[])
  (ha:s₁.heap.get? a=some { cls := .type "list",data := .seq vs.toArray }) (hi:IntsAre vs ns) (hl:ns.length<=aA) (hr:Xq k callerA)
  (F:∀ base:Heap,K.In base->base.Ns mainGlobals mg->ZE P w K mg base CX k fa fd [x] sp) (hbind:∀ (s:Shared) (u:Value),BindsTo s fd ⟨[u],[]⟩ [(x,u)])
  (hsp:∀ H:Hp,Only H->SqL K H a (ns.map V.int)->sp [.ref a] H (fun v _=>v = .bl true) fun _ _ _=>False)
  (hCX:∀ H e s',CX [] H s₁ (fun _ _ _=>False) e s'->False) :
  codeAny (model P w) callerA (.call (.ref fa) ⟨[.ref a],[]⟩) (fun r s'=>r = .ok (.ret (.bool true))/\OldK s₁.heap s'.heap/\s'.os=s₁.os/\AllBare s'.gens) s₁:=by
 have rv:=HD hi
 have lenV:=hi.length
 -- from an abstract heap in which nothing but the script may be tracked
 have core:∀ H:Hp,Only H->SqL K H a (ns.map V.int)->HOk P w H s₁.heap->(∀ b,H b≠none->b=a)->(H a≠none->K.lookup a=none) ->
   codeAny (model P w) callerA (.call (.ref fa) ⟨[.ref a],[]⟩) (fun r s'=>r = .ok (.ret (.bool true))/\OldK s₁.heap s'.heap/\s'.os=s₁.os/\AllBare s'.gens) s₁:=by
  intro H hO hS hok hA hK
  have base_of:∀ {b:Addr}{o:Obj},s₁.heap.get? b=some o->H b=none->(Ga s₁.heap H).get? b=some o:=fun e n=>yB e n
  have noA:∀ {b:Addr}{o:Obj}{es:Array DictEntry}{ep:Nat},s₁.heap.get? b=some o->o.data = .dict es ep->H b=none:=fun {b o es ep} e d=>by
   cases q:H b with
   | none=>rfl
   | some u =>
    have e':b=a:=hA b (by rw [q];simp)
    subst e'
    rw [ha] at e;cases e
    have d':Data.seq vs.toArray _=Data.dict es ep:=d
    cases d'
  have nsK:∀ {b:Addr}{m:Str->Option Value},s₁.heap.Ns b m->(Ga s₁.heap H).Ns b m:=fun {b m} ⟨o,es,ep,e,d,r⟩=>⟨o,es,ep,base_of e (noA e d),d,r⟩
  have hKb:K.In (Ga s₁.heap H):=fun b o e=>base_of (KX b o e) (by
   cases q:H b with
   | none=>rfl
   | some u =>
    have e':b=a:=hA b (by rw [q];simp)
    subst e'
    rw [hK (by rw [q];simp)] at e;cases e)
  have hM:Mod K mg (Ga s₁.heap H):=⟨hKb,nsK hns,⟨mb,nsK hb,hbb⟩,let ⟨mc,h1,h2⟩:=hlim;⟨mc,nsK h1,h2⟩⟩
  have e0:DF P w K mg (Ga s₁.heap H) callerA [] s₁ H:=⟨rfl,hM,fun b o e=>uB e,Nat.le_of_eq (Ay _ _),trivial,fun b hb=>absurd (show b∈([]:List Addr) from hb) (by simp),hok,.of_eq hg⟩
  refine codeAny_mono ((F _ hKb (nsK hns)).run callerA [] s₁ H ⟨[.ref a],[]⟩ [.ref a] [.ref a] _ _ hr e0 (hbind s₁ (.ref a)) (.cons rfl .nil) (hsp H hO hS)) fun r s' h=>?_
  cases r with
  | error e=>exact (hCX H e s' h).elim
  | ok fl =>
   cases fl with
   | next=>exact False.elim h
   | brk=>exact False.elim h
   | cont=>exact False.elim h
   | ret u =>
    obtain ⟨v,H',os,bare,un,hok',r',q⟩:=h
    have q':v = .bl true:=q
    subst q'
    obtain rfl:u=Value.bool true:=r'
    refine ⟨rfl,OldK.of_keep fun b o e=>?_,os,bare⟩
    cases q:H b with
    | none=>exact un.keep b o e q (by intro z;exact absurd (show b∈([]:List Addr) from z) (by simp)) (by simp)
    | some u =>
     rcases hO b with z | ⟨ob,xs,z⟩
     ·rw [q] at z;cases z
     ·have z2:=un.frzs b ob _ z
      obtain ⟨e1,_⟩:=hok b _ z
      obtain ⟨e2,_⟩:=hok' b _ z2
      rw [e] at e1;cases e1
      exact e2
 cases hk:K.lookup a with
 | some o =>
  -- the script is one of the module's own objects
  have e:=KX a o hk
  rw [ha] at e
  cases e
  refine core (fun _=>none) (fun _ => .inl rfl) (.inr ⟨_,vs.toArray,_,hk,rfl,rfl,rfl,by rw [size_toArray,lenV];exact hl,by simpa using rv⟩) (fun b u z=>by have z':(none:Option HO)=some u:=z;cases z') (fun b z=>absurd rfl z) fun z=>absurd rfl z
 | none =>
  refine core (fun b=>if b=a then some (.frz { cls := .type "list",data := .seq vs.toArray } (.lst (ns.map V.int))) else none) (fun b=>?_) (.inl (.inr ⟨{ cls := .type "list",data := .seq vs.toArray },if_pos rfl⟩)) (fun b u z=>?_) (fun b z=>?_) fun _=>hk
  ·by_cases hb:b=a
   ·exact .inr ⟨_,_,if_pos hb⟩
   ·exact .inl (if_neg hb)
  ·by_cases hb:b=a
   ·have z':=(if_pos hb).symm.trans z
    cases z'
    subst hb
    exact ⟨ha,by rw [length_map];exact hl,vs,_,rv,ha⟩
   ·have z':=(if_neg hb).symm.trans z
    cases z'
  ·by_cases hb:b=a
   ·exact hb
   ·exact absurd (if_neg hb) z
abbrev KOf {K:aj}{h:Heap}(_:K.In h):aj:=K
theorem Br {l:PySem.W.OpenLaw}{n k:Nat}{q:Program}{loose:List Str}{XP:(Str->Option Value)->Heap->Prop}{YP:World->Heap->Prop}{d:DefRec}{K:Params->aj}{CX:World->CXT}{sp:World->Sp}{x:Str}
  (hn:l.most=some n) (hn2:n<=aA) (hdf:d.params.defaults=[]) (hr:Xq k callerA)
  (hY:∀ (w:World) (h:Heap),YP w h->(K w.params).In h)
  (F:∀ (w:World) (mg:Str->Option Value) (fa:Addr) (h:Heap),(K w.params).In h->h.Ns mainGlobals mg->mg d.name=some (.ref fa) ->
   ∃ fd:FuncData,(∀ (s:Shared) (u:Value),BindsTo s fd ⟨[u],[]⟩ [(x,u)]) /\
    ∀ base:Heap,(K w.params).In base->base.Ns mainGlobals mg->ZE l.prog w (K w.params) mg base (CX w) k fa fd [x] (sp w))
  (hsp:∀ (w:World) (H:Hp) (a:Addr) (ns:List Int),ns.length<=n->Only H->SqL (K w.params) H a (ns.map V.int)->sp w [.ref a] H (fun v _=>v = .bl true) fun _ _ _=>False)
  (hCX:∀ (w:World) (H:Hp) (s:Shared) (e:Value) (s':Shared),CX w [] H s (fun _ _ _=>False) e s'->False) :
  PySem.W.WalkO q loose XP YP l.row.toRowW d [] (fun f vs=>PySem.call f vs):=by
 refine Att.FU hn hdf fun w s₀ s₁ mg mb fa o pm cd doc a vs ns G Y ho hd hcd hmg hobj hints hlen hg=>?_
 have KX:=hY w _ Y
 obtain ⟨fd,hb,hF⟩:=F w mg fa _ KX G.T.g hmg
 exact xf KX G.T.g G.T.b G.T.builtins G.T.nolimit hg hobj hints (Nat.le_trans hlen hn2) hr hF hb (fun H hO hS=>hsp w H a ns hlen hO hS) fun H e s'=>hCX w H s₁ e s'
end L2
/- THE LAST THEOREM (shape;LID,My.* are yours):
   My.Adr: a structure of the addresses that your layer names (classes,functions);My.Txt K t: a structure (Prop) of the equations over K;
   My.txt_mk:{K}{implicit addresses ..}(e1:nsIn K mainGlobals "law" = some (some (.ref f))) (e2:K.lookup f=some ⟨oc,od,.func (fnOf "law" "law" params body scope dV kV doc pm an cdv ct),sl⟩) (e3:codeIn K cdv "law" = true) ..:∃ t,My.Txt K t
set_option maxRecDepth 100000 in
set_option maxHeartbeats 0 in
theorem PySem.Challenge.cw_LID_holds:PySem.Challenge.rw_LID.Holds:=by
 w_on;o_law;k_head;(case hw=>w_witness2)
 k_fill
 refine L2.Br (l:=PySem.Challenge.rw_LID) (n:=63) (k:=40) (x := "script") (CX:=fun w => ..) (sp:=fun _=>My.sp_law) rfl (by decide) rfl ⟨rfl,by decide,by decide⟩ (fun w h Y=>PySem.W.kIn_of Y) ?F ?S ?C
 case F =>
  intro w mg fa h KX G hmg
  have T:∃ t,My.Txt (L2.KOf KX) t:=by
   dsimp only [L2.KOf]                          -- K must stand as «<heap const> w.params» for k_is
   refine' My.txt_mk ?e1 ?e2 ?e3 ..
   (case e1=>PySem.W.k_is)                    -- in the order: a name -> its address -> its object -> its parts
   (case e2=>PySem.W.k_is)
   ..
  obtain ⟨t,T⟩:=T
  have e0:=hmg.symm.trans (mg_of KX G T.law)
  cases e0                                       -- fa is the law's own address
  exact ⟨_,fun s u => .of_eq rfl,fun base kb nb=>My.law_fn T kb nb⟩     -- if «.of_eq rfl» comes too early: refine' ⟨_,?b,fun base kb nb=>My.law_fn T kb nb⟩;exact fun s u => .of_eq rfl
 case S=>exact fun w H a ns hl hO hS => ..
 case C=>exact ..
(the tactic k_is has no namespace: write k_is) -/
namespace L2
open PySem PySem.Spec PyProof.Rows
noncomputable def inClass (s:Stmt) (j:Nat):Stmt:=match s with
 | .ClassDef _ _ _ body _ _ _ _ _ _ _=>body.getD j (.Pass ⟨0,0,0,0⟩)
 | _ => .Pass ⟨0,0,0,0⟩
noncomputable def Xh (s:Stmt):Arguments:=match s with
 | .FunctionDef _ a _ _ _ _ _ _ _ _=>a
 | _=>{ posonlyargs:=[],args:=[],vararg:=none,kwonlyargs:=[],kw_defaults:=[],kwarg:=none,defaults:=[] }
noncomputable def Yd (s:Stmt):List Stmt:=match s with
 | .FunctionDef _ _ b _ _ _ _ _ _ _=>b
 | _=>[]
noncomputable def Zf (s:Stmt):Scope:=match s with
 | .FunctionDef _ _ _ _ _ _ sc _ _ _=>sc
 | _=>{ kind := .function,names:=[],isGenerator:=false,isCoroutine:=false }
abbrev CX0:CXT:=fun _ _ _ _ _ _=>False
structure Fun (K:aj) (x qual:Str) (st:Stmt) (f:Addr) (fd:FuncData):Prop where
 ex:∃ (oc:Value) (od:Option Addr) (kV doc pm:Value) (an:Option Addr) (cdv ct:Value) (osl:Array (Option Value)),
  fd=PySem.W.fnOf x qual (Xh st) (Yd st) (Zf st) .none kV doc pm an cdv ct/\K.lookup f=some ⟨oc,od,.func fd,osl⟩/\PySem.W.codeIn K cdv qual=true
 kp:keepIn K (.ref f)=true
section
variable {P:Program}{w:World}{K:aj}{mg:Str->Option Value}{base:Heap}
theorem Fun.ok {x qual:Str}{st:Stmt}{f:Addr}{fd:FuncData}{N ps:List Str}{k:Nat}{sp:Sp}(F:Fun K x qual st f fd) (S:Zo N ps (Zf st)) (len:∀ vs H Q E,sp vs H Q E->vs.length=ps.length)
  (hbody:∀ (cdv:Value) (A:Around) (outer:List Env) (s:Shared) (H:Hp) (vs:List V) (Q:VK) (E:XK),Xq k (A.deeper (envOfC qual (Zf st) s.heap.objs.size f cdv))->sp vs H Q E ->
   ∃ t,PSs (XF CX0 P w K mg base N qual (Zf st) f cdv A outer s H E).nox (Yd st) t/\t { nx:=fun _ H'=>Q .non H',rt:=Q } (start N vs) H):ZE P w K mg base CX0 (k + 1) f fd ps sp:=by
 obtain ⟨oc,od,kV,doc,pm,an,cdv,ct,osl,rfl,lk,hcd⟩:=F.ex
 refine yS lk hcd S len fun A outer s H vs Q E hr hsp=>?_
 obtain ⟨t,h,q⟩:=hbody cdv A outer s H vs Q E hr hsp
 exact ⟨t,h.nox,q⟩
theorem Fun.binds {x qual:Str}{st:Stmt}{f:Addr}{fd:FuncData}{ps:List Str}(F:Fun K x qual st f fd)
  (h:∀ (kV doc pm:Value) (an:Option Addr) (cdv ct:Value) (us:List Value),us.length=ps.length->bindArgs (PySem.W.fnOf x qual (Xh st) (Yd st) (Zf st) .none kV doc pm an cdv ct) ⟨us,[]⟩=pure (ps.zip us)):Binds K fd ps []:=by
 obtain ⟨oc,od,kV,doc,pm,an,cdv,ct,osl,rfl,lk,hcd⟩:=F.ex
 exact .all (h kV doc pm an cdv ct)
theorem PV {x qual:Str}{st:Stmt}{f:Addr}{oc:Value}{od an:Option Addr}{osl:Array (Option Value)}{kV doc pm cdv ct:Value}(l:K.lookup f=some ⟨oc,od,.func (PySem.W.fnOf x qual (Xh st) (Yd st) (Zf st) .none kV doc pm an cdv ct),osl⟩)
  (c:PySem.W.codeIn K cdv qual=true) (k:keepIn K (.ref f)=true):Fun K x qual st f (PySem.W.fnOf x qual (Xh st) (Yd st) (Zf st) .none kV doc pm an cdv ct):=⟨⟨oc,od,kV,doc,pm,an,cdv,ct,osl,rfl,l,c⟩,k⟩
end
section
variable {X:Cx}
theorem pv (i:Nat) {x:Str}{pos:Pos}(hN:autoParam (X.N[i]?=some x) auR) (hv:Vis X.env.scope x:=by first | exact Or.inl rfl | exact Or.inr (Or.inl rfl) | exact Or.inr (Or.inr rfl)) (hd:autoParam ((x == ("__debug__" : Str))=false) auD)
  (hcd:autoParam ((x == ("__classdict__" : Str))=false) auD):PE X (.Name x pos) (tVar i):=pE hN hv hd hcd
end
noncomputable def Zw (H H':Hp):Prop:=∀ b o,H b=some o->H' b=some o
theorem Zw.refl (H:Hp):Zw H H:=fun _ _ h=>h
theorem Zw.trans {H H1 H2:Hp}(a:Zw H H1) (b:Zw H1 H2):Zw H H2:=fun c o h=>b c o (a c o h)
theorem Zw.free {H H':Hp}(e:Zw H H') {l:Addr}(h:H' l=Option.none):H l=Option.none:=by
 cases q:H l with
 | none=>rfl
 | some o =>
  rw [e l o q] at h
  cases h
theorem Zw.seq {K:aj}{H H':Hp}{a:Addr}{xs:List V}(e:Zw H H') (h:SqL K H a xs):SqL K H' a xs:=by
 rcases h with (h | ⟨o,h⟩) | h
 ·exact .inl (.inl (e _ _ h))
 ·exact .inl (.inr ⟨o,e _ _ h⟩)
 ·exact .inr h
section
variable {κ:Type} [DecidableEq κ]
noncomputable def valV (kvs:List (κ × V)) (k:κ):Option V:=(kvs.find? fun kv=>decide (kv.1=k)).map (·.2)
noncomputable def putK (kvs:List (κ × V)) (k:κ) (v:V):List (κ × V) :=
 if (kvs.any fun kv=>decide (kv.1=k))=true then kvs.map (fun kv=>if kv.1=k then (kv.1,v) else kv) else kvs++[(k,v)]
theorem Ki.getD {o:Option V}{u:Option Value}{d:V}{d':Value}(r:Ki o u) (rd:RelV d d'):RelV (o.getD d) (u.getD d'):=by
 cases o with
 | none=>cases u with
  | none=>exact rd
  | some _=>exact (show False from r).elim
 | some _=>cases u with
  | none=>exact (show False from r).elim
  | some _=>exact r
theorem KV.any {kvs:List (κ × V)}{vs:List (κ × Value)}(r:KV kvs vs) (k:κ):(kvs.any fun kv=>decide (kv.1=k))=vs.any fun kv=>decide (kv.1=k):=by
 unfold KV at r
 induction r with
 | nil=>rfl
 | cons h t ih=>rw [any_cons,any_cons,ih,h.1]
theorem KV.repl {kvs:List (κ × V)}{vs:List (κ × Value)}(r:KV kvs vs) (k:κ) {y:V}{u:Value}(ry:RelV y u) :
  KV (kvs.map fun kv=>if kv.1=k then (kv.1,y) else kv) (vs.map fun kv=>if kv.1=k then (kv.1,u) else kv):=by
 unfold KV at r ⊢
 induction r with
 | nil=>exact .nil
 | @cons p q ps qs h t ih =>
  rw [map_cons,map_cons]
  refine .cons ?_ ih
  obtain ⟨h1,h2⟩:=h
  by_cases e:p.1=k
  ·rw [if_pos e,if_pos (h1.symm.trans e)];exact ⟨h1,ry⟩
  ·rw [if_neg e,if_neg (fun z=>e (h1.trans z))];exact ⟨h1,h2⟩
theorem KV.put {kvs:List (κ × V)}{vs:List (κ × Value)}(r:KV kvs vs) (k:κ) {y:V}{u:Value}(ry:RelV y u):KV (putK kvs k y) (stored vs k u):=by
 unfold putK stored
 rw [r.any k]
 by_cases e:(vs.any fun kv=>decide (kv.1=k))=true
 ·rw [if_pos e,if_pos e];exact r.repl k ry
 ·rw [if_neg e,if_neg e];exact Paired.snoc r ⟨rfl,ry⟩
theorem KV.keys {kvs:List (κ × V)}{vs:List (κ × Value)}(r:KV kvs vs):kvs.map (·.1)=vs.map (·.1):=by
 unfold KV at r
 induction r with
 | nil=>rfl
 | cons h t ih=>rw [map_cons,map_cons,ih,h.1]
theorem KV.length {kvs:List (κ × V)}{vs:List (κ × Value)}(r:KV kvs vs):kvs.length=vs.length:=Paired.length r
end
abbrev KT (H:Hp):List (List Key × V)->List (List Key × Addr × Value)->Prop:=Paired fun p q=>p.1=q.1/\H q.2.1=some (.tup (p.1.map kV))/\RelV p.2 q.2.2
theorem KT.keeps {H H':Hp}{kvs:List (List Key × V)}{xs:List (List Key × Addr × Value)}(r:KT H kvs xs) (ht:∀ b ys,H b=some (.tup ys)->H' b=some (.tup ys)):KT H' kvs xs :=
 Paired.mapP r fun _ _ z=>⟨z.1,ht _ _ z.2.1,z.2.2⟩
section
variable {P:Program}{w:World}{H:Hp}{h:Heap}{a:Addr}
end
noncomputable def DGet (H:Hp) (a:Addr) (y:V) (r:Option V):Prop :=
 (∃ kvs k,Rd H a (.dK kvs)/\y=kV k/\r=valV kvs k)\/∃ kvs k b,Rd H a (.dT kvs)/\y = .ref b/\H b=some (.tup (k.map kV))/\r=valV kvs k
noncomputable def DPut (H:Hp) (a:Addr) (y v:V) (H':Hp):Prop :=
 (∃ kvs k,H a=some (.dK kvs)/\y=kV k/\kvs.length < aA/\H'=upd H a (.dK (putK kvs k v))) \/
 ∃ kvs k b,H a=some (.dT kvs)/\y = .ref b/\H b=some (.tup (k.map kV))/\kvs.length < aA/\H'=upd H a (.dT (putK kvs k v))
theorem DGet.k {H:Hp}{a:Addr}{kvs:List (Key × V)}{k:Key}(e:H a=some (.dK kvs)):DGet H a (kV k) (valV kvs k) := .inl ⟨kvs,k,.inl e,rfl,rfl⟩
theorem DGet.t {H:Hp}{a b:Addr}{kvs:List (List Key × V)}{k:List Key}(e:H a=some (.dT kvs)) (eb:H b=some (.tup (k.map kV))):DGet H a (.ref b) (valV kvs k) := .inr ⟨kvs,k,b,.inl e,rfl,eb,rfl⟩
theorem DPut.k {H:Hp}{a:Addr}{kvs:List (Key × V)}{k:Key}{v:V}(e:H a=some (.dK kvs)) (hl:kvs.length < aA):DPut H a (kV k) v (upd H a (.dK (putK kvs k v))) := .inl ⟨kvs,k,e,rfl,hl,rfl⟩
theorem DPut.t {H:Hp}{a b:Addr}{kvs:List (List Key × V)}{k:List Key}{v:V}(e:H a=some (.dT kvs)) (eb:H b=some (.tup (k.map kV))) (hl:kvs.length < aA) :
  DPut H a (.ref b) v (upd H a (.dT (putK kvs k v))) := .inr ⟨kvs,k,b,e,rfl,eb,hl,rfl⟩
section
variable {X:Cx}{pins:List (Addr × Obj)}{σ:St}{H:Hp}{s:Shared}{a:Addr}{y v:V}{u r:Value}{o:Option V}{A:Around}{E:Value->Shared->Prop}
theorem Inv.big (I:Inv X pins σ H s):sysModules < s.heap.objs.size:=by
 have h:mainGlobals < s.heap.objs.size:=(I.mod.glob.keeps I.bk).lt
 exact Nat.lt_trans (by decide) h
end
section
variable {X:Cx}{pins:List (Addr × Obj)}{σ:St}{H:Hp}{s:Shared}{a:Addr}{kvs:List (Key × V)}{k:Key}{u:Value}{A:Around}{E:Value->Shared->Prop}
end
section
variable {X:Cx}{o i e value:Expr}{pos pos' tpos:Pos}{td ty tv:TE}
end
section
variable {X:Cx}{pos:Pos}
end
noncomputable def Jq (kvs more:List (Key × V)):List (Key × V):=more.foldl (fun acc kv=>putK acc kv.1 kv.2) kvs
section
variable {X:Cx}{pins:List (Addr × Obj)}{σ:St}{H:Hp}{s:Shared}{a:Addr}{y d:V}{u r:Value}{o:Option V}{A:Around}{E:Value->Shared->Prop}
end
section
variable {X:Cx}{o e f:Expr}{apos cpos:Pos}{td ty tx:TE}
end
section
variable {X:Cx}{pins:List (Addr × Obj)}{σ:St}{H:Hp}{s:Shared}{a:Addr}{kvs:List (Key × V)}{A:Around}{E:Value->Shared->Prop}
end
section
variable {X:Cx}{pins:List (Addr × Obj)}{σ:St}{H:Hp}{s:Shared}{a:Addr}{y:V}{u:Value}{A:Around}{E:Value->Shared->Prop}
end
noncomputable def Bd (n:Nat) (i:Int):Prop:=i.natAbs < 2 ^ n
theorem Bd.mono {n m:Nat}{i:Int}(h:Bd n i) (k:n<=m):Bd m i:=Nat.lt_of_lt_of_le h (Nat.pow_le_pow_right (by decide) k)
theorem Bd.bits {n:Nat}{i:Int}(h:Bd n i):Builtin.Int.intBits i<=n:=by
 unfold Builtin.Int.intBits
 split
 ·exact Nat.zero_le _
 ·rename_i h0
  have hn:i.natAbs≠0:=by
   intro z
   apply h0
   have:i=0:=by omega
   simp [this]
  have:i.natAbs.log2 < n:=(Nat.log2_lt hn).mpr h
  omega
theorem Bd.log {n:Nat}{i:Int}(h:Bd n i) (k:n<=9000):i.natAbs.log2 < 9000:=by
 rcases Nat.eq_zero_or_pos i.natAbs with h0 | hp
 ·rw [h0];decide +kernel
 ·exact (Nat.log2_lt (by omega)).mpr (Nat.lt_of_lt_of_le h (Nat.pow_le_pow_right (by decide) k))
theorem Bd.of {n:Nat}{i:Int}(a : -(2 ^ n) < i) (b:i < 2 ^ n):Bd n i:=by
 unfold Bd
 have e:((2 ^ n:Nat):Int)=2 ^ n:=by norm_cast
 omega
theorem Bd.le {n:Nat}{i j:Int}(h:Bd n i) (k:j.natAbs<=i.natAbs):Bd n j:=Nat.lt_of_le_of_lt k h
section
variable {X:Cx}{a b c:Expr}{ta tb tc:TE}{pos:Pos}
noncomputable def CMulB (i j:Int):Prop:=Bd 100000 i/\Bd 100000 j
noncomputable def CDivB (i j:Int):Prop:=j≠0/\Bd 9000 j
theorem xg:OpR X (binaryOp .FloorDiv) (rI CDivB fun i j => .int (i.fdiv j)):=opI fun _ _ _ _ _ _ _ hc q =>
 floordiv_int hc.1 q (.inl (PyProof.noPylong_of_log2 (hc.2.log (Nat.le_refl _))))
noncomputable def rCatL (K:aj):R2:=fun x y H Q=>∃ l b xs zs,x = .ref l/\y = .ref b/\SqL K H l xs/\SqL K H b zs/\xs.length + zs.length<=aA/\∀ p,H p=none->Q (.ref p) (upd H p (.lst (xs++zs)))
theorem uX:OpR X (binaryOp .Add) (rCatL X.K):=by
 intro pins s σ H x y v u Q I rx ry h
 obtain ⟨l,b,xs,zs,rfl,rfl,hH,hB,hz,q⟩:=h
 cases rx
 cases ry
 obtain ⟨its,r,p,z⟩:=I.list hH
 obtain ⟨its2,r2,p2,z2⟩:=I.list hB
 obtain ⟨⟨cls,dd,data,sl⟩,n,ho,hc,_,hd⟩:=id p
 obtain ⟨⟨cls2,dd2,data2,sl2⟩,n2,ho2,hc2,_,hd2⟩:=id p2
 simp only at hc hd hc2 hd2
 subst hc hd hc2 hd2
 have hl1:=r.length
 have hl2:=r2.length
 refine concat_meets ⟨_,ho,rfl⟩ ⟨_,ho2,rfl⟩ noFill_list_add seq_list_add PySem.F.slot_list_add PySem.F.entry_list_add (PySem.F.args_list_add_2 _ _) (list_addW l b its.toArray its2.toArray n n2 dd dd2 sl sl2 (by rw [size_toArray,size_toArray];omega)) ⟨ho,ho2,?_⟩
 have ea:its.toArray++its2.toArray=(its++its2).toArray:=by simp
 rw [ea]
 exact ⟨.ref _,_,I.lnew (t':=s.toks) (r.append r2) (by rw [length_append];omega),rfl,q _ I.fresh⟩
theorem xh {x:V}(h:UT x=true):eqV x x=true:=by
 cases x <;> simp_all [eqV,UT]
noncomputable def rIsi (K:aj):List V->Hp->VK->Prop:=fun xs H Q=>∃ x c cv t b,xs=[x,c]/\(∀ u,RelV c u->u=cv)/\PU K H x t/\kitOne K t cv=some b/\Q (.bl b) H
theorem xi:Xn X (.builtin "isinstance") (rIsi X.K):=by
 intro pins s σ H xs us Q I r h
 obtain ⟨x,c,cv,t,b,rfl,hc,ty,e,q⟩:=h
 obtain ⟨u,w',rfl,r1,r2⟩:=vals2 r
 cases hc _ r2
 exact AJ I r1 ty e fun tk=>⟨.bl b,H,I.tok tk,rfl,q⟩
end
section
variable {X:Cx}
end
section
variable {X:Cx}
noncomputable def PH (i j:Int):Prop:=CMul i j\/CMulB i j
theorem uY:OpR X (binaryOp .Mult) (rI PH fun i j => .int (i * j)):=opI fun _ _ _ _ _ _ _ hc q=>by
 rcases hc with hc | hc
 ·exact mul_int q hc.ok
 ·exact mul_int q (IntMulOk.of_bits (Nat.le_trans hc.1.bits (by decide)) (Nat.le_trans hc.2.bits (by decide)))
theorem PH.l {i j:Int}(a : -(2 ^ 64) < i) (b:i < 2 ^ 64):PH i j := .inl (.inl ⟨a,b⟩)
theorem PH.r {i j:Int}(a : -(2 ^ 64) < j) (b:j < 2 ^ 64):PH i j := .inl (.inr ⟨a,b⟩)
theorem PH.b {n m:Nat}{i j:Int}(a:Bd n i) (b:Bd m j) (hn:autoParam (n<=100000) auD) (hm:autoParam (m<=100000) auD):PH i j := .inr ⟨a.mono hn,b.mono hm⟩
end
theorem Zw.upd {H:Hp}{p:Addr}{o:HO}(h:H p=none):Zw H (upd H p o):=fun b u e=>by rw [Zq (Yz e h)];exact e
theorem Zw.tup {K:aj}{H H':Hp}{a:Addr}{xs:List V}(e:Zw H H') (h:H a=some (.tup xs)):SqT K H' a xs:=SqT.of (e _ _ h)
structure MkP (K:aj) (C:Addr):Prop where
 makes:makesIn K C=true
 init:findIn K (.ref C) "__init__" = some (some (.builtin "object.__init__"))
 kp:keepIn K (.ref C)=true
section
variable {X:Cx}{C:Addr}{x m:Str}{p pos apos:Pos}{e o:Expr}{es:List Expr}{ta:TE}{t:TA}{k:Nat}
noncomputable def oq (C:Addr):TE:=fun _ H Q=>∀ x dx,H x=none->H dx=none->dx≠x->Q (.ref x) (upd (upd H dx (.own x)) x (.ins C dx []))
theorem AX {pins:List (Addr × Obj)}{σ:St}{H:Hp}{s:Shared}{Q:VK}(M:MkP X.K C) (I:Inv X pins σ H s)
  (h:∀ x dx,H x=none->H dx=none->dx≠x->Q (.ref x) (upd (upd H dx (.own x)) x (.ins C dx []))) :
  wpAny (model X.prog X.w) X.A (call (.ref C) []) (EP X pins σ Q) X.xe s:=by
 have I2:=Inv.made (C:=C) I
 have hq:=h (s.heap.objs.size + 1) s.heap.objs.size (I.hok.fresh (Nat.le_succ _)) (I.hok.fresh (Nat.le_refl _)) (Nat.ne_of_lt (Nat.lt_succ_self _))
 refine wpAny_call (AH I.kIn M.makes M.init (fun self=>Looks.of_pure (PySem.W.oi_bind self)) ?_)
 obtain ⟨hh,g,d,tk,os⟩:=s
 have Y:=makes_of (M:=model X.prog X.w) I.kIn M.makes
 have e2:((hh.push emptyDict).push (instObj C hh.objs.size)).get? (hh.objs.size + 1)=some (instObj C hh.objs.size):=by
  have:=au (hh.push emptyDict) (o:=instObj C hh.objs.size) rfl
  rwa [Heap.size_push] at this
 have t1:Looks (model X.prog X.w) ((hh.push emptyDict).push (instObj C hh.objs.size)) (typeOf (.ref (hh.objs.size + 1))) (.ref C):=(Looks.ld e2).andThen .now
 have t2:Looks (model X.prog X.w) ((hh.push emptyDict).push (instObj C hh.objs.size)) (isInstance (.ref (hh.objs.size + 1)) (.type "object")) true:=t1.andThen (Y.top.keeps fun b o e=>aq _ (aq _ e))
 refine codeAny_call_builtin PySem.W.oi_plain PySem.W.entry_oi (@PySem.W.check_slot (model X.prog X.w) _ _ _ "object.__init__" "object" "__init__" (.ref (hh.objs.size + 1)) [] [] _ PySem.W.oi_kind PySem.W.oi_split t2 (PySem.W.oi_args (.ref (hh.objs.size + 1))) ?_)
 rw [PySem.W.oi_run]
 exact ao (And.intro rfl ⟨V.ref (hh.objs.size + 1),_,I2,rfl,hq⟩)
theorem xj (M:MkP X.K C) (hg:Gl X x) (hm:X.mg x=some (.ref C)) (hdb:autoParam ((x == ("__debug__" : Str))=false) auD):PE X (.Call (.Name x p) [] [] pos) (oq C):=by
 intro pins s σ H Q I h
 refine wpAny_Call_Name_kw (Nh I hg hm ?_ hdb)
 exact PySem.W.callWith_K0 I.kIn M.kp (AX M I h)
structure xl (K:aj) (C:Addr):Prop where
 ha:findIn K (.ref C) "__class__" = some (some (.builtin "object.__class__"))
 hn:PySem.W.specialIn K (.builtin "object.__class__") "__get__" = some (some (.builtin "getset_descriptor.__get__"))
 htk:takesIn K (.builtin "object.__class__")=some true
 hm:mroIn K C (.type "object")=some true
theorem xl.ty {K:aj}{C a dx:Addr}{H:Hp}{fs:List (Str × V)}(i:xl K C) (c:Cls K C) (e:H a=some (.ins C dx fs)):PU K H (.ref a) (.ref C) := .ins e c i.ha i.hn i.htk i.hm
end
theorem kit_ref {K:aj}{C D:Addr}{b:Bool}(hd:hasDictIn K D=true) (ht:typeIn K (.ref D)=some (.type "type")) (hs:subIn K (.ref C) (.ref D)=some b)
  (hr:subIn K (.ref D) (.ref D)=some true):kitOne K (.ref C) (.ref D)=some b:=by
 obtain ⟨cd,hc,_⟩:=PySem.W.any_some hd
 unfold kitOne
 by_cases q:(Value.ref C == Value.ref D)=true
 ·rw [if_pos q]
  have e:Value.ref C=Value.ref D:=beq_iff_eq.mp q
  rw [e,hr] at hs
  exact hs
 ·rw [if_neg q]
  unfold kitCls
  simp only
  rw [if_pos (by rw [hc,ht];rfl)]
  exact hs
theorem YH.get {P:Program}{w:World}{H:Hp}{h:Heap}{a:Addr}{o:HO}(x:YH P w H h a o):∃ ob,h.get? a=some ob:=by
 cases o with
 | lst xs=>obtain ⟨_,_,_,_,e⟩:=x;exact ⟨_,e⟩
 | tup xs=>obtain ⟨_,_,_,ob,e,_⟩:=x;exact ⟨_,e⟩
 | dK kvs=>obtain ⟨_,_,_,_,o,_,_,e,_⟩:=x;exact ⟨_,e⟩
 | dT kvs=>obtain ⟨_,_,_,_,o,_,_,e,_⟩:=x;exact ⟨_,e⟩
 | set S n=>obtain ⟨o,_,_,_,e,_⟩:=x;exact ⟨_,e⟩
 | ins C dx fs=>obtain ⟨_,_,_,e,_⟩:=x;exact ⟨_,e⟩
 | own y=>obtain ⟨_,e⟩:=x;exact ⟨_,e⟩
 | xd fs=>obtain ⟨_,⟨_,_,_,e,_⟩,_⟩:=x;exact ⟨_,e⟩
 | rng lo hi=>obtain ⟨_,_,_,e⟩:=x;exact ⟨_,e⟩
 | frz ob u=>obtain ⟨e,_⟩:=x;exact ⟨_,e⟩
 | tbl ps=>exact ⟨_,(show h.get? a=some _ from x)⟩
 | met f y=>exact ⟨_,(show h.get? a=some _ from x)⟩
 | ext φ=>obtain ⟨_,⟨_,e⟩,_⟩:=x;exact ⟨_,e⟩
noncomputable def Cov (fs:List Addr) (H':Hp) (h0 h B:Heap):Prop:=∀ b o,h.get? b=some o->b∉fs->(H' b≠none\/∃ u,h0.get? b=some u)->B.get? b=some o
theorem Bs {fs:List Addr}{H0 H':Hp}{h0 h h2 B:Heap}(u:Un fs [] H0 H' h0 h) (cv:Cov fs H' h0 h B) (st:B.StaysIn h2)
  (sl:∀ b∈fs,∀ o,h.get? b=some o->∃ sl,h2.get? b=some { o with slots:=sl }):Un fs [] H0 H' h0 h2 where
 keep:=fun b o e n hb hx=>st b o (cv b o (u.keep b o e n hb hx) hb (.inr ⟨o,e⟩))
 slot:=fun b o e n hb hx=>by
  obtain ⟨s1,e1⟩:=u.slot b o e n hb hx
  obtain ⟨s2,e2⟩:=sl b hb _ e1
  exact ⟨s2,e2⟩
 free:=u.free
 there:=fun b o e hx=>by
  obtain ⟨o1,e1⟩:=u.there b o e hx
  by_cases hb:b∈fs
  ·obtain ⟨s2,e2⟩:=sl b hb _ e1
   exact ⟨_,e2⟩
  ·exact ⟨o1,st b o1 (cv b o1 e1 hb (.inr ⟨o,e⟩))⟩
 tups:=u.tups
 frzs:=u.frzs
 tbls:=u.tbls
theorem FV {P:Program}{w:World}{fs:List Addr}{H':Hp}{h0 h h2 B:Heap}(ok:HOk P w H' h) (cv:Cov fs H' h0 h B) (st:B.StaysIn h2) (fr:∀ b∈fs,H' b=none):HOk P w H' h2:=fun a o e =>
 (ok a o e).stay (fun b v hb q=>st b v (cv b v q (fun z=>by
   rcases hb with rfl | hb
   ·rw [fr _ z] at e;cases e
   ·rw [fr _ z] at hb;cases hb) (.inl (by
   rcases hb with rfl | hb
   ·rw [e];exact fun z=>nomatch z
   ·rw [hb];exact fun z=>nomatch z)))) (fun _ q=>q) fun _ _ q=>q
theorem FW {P:Program}{w:World}{fs:List Addr}{H0 H':Hp}{h0 h h2 B:Heap}(u:Un fs [] H0 H' h0 h) (ok:HOk P w H' h) (cv:Cov fs H' h0 h B) (st:B.StaysIn h2):Cov fs H' h0 h2 B:=fun b o e hb c=>by
 have key:∃ o1,h.get? b=some o1:=by
  rcases c with c | ⟨v,c⟩
  ·cases q:H' b with
   | none=>exact absurd q c
   | some x=>exact (ok b x q).get
  ·exact u.there b v c (by simp)
 obtain ⟨o1,e1⟩:=key
 have e2:=cv b o1 e1 hb c
 have e3:=st b o1 e2
 rw [e] at e3
 cases e3
 exact e2
noncomputable def CXE (P:Program) (w:World):CXT:=fun outer H s E e s'=>∃ (ex t:Addr) (cls:Value) (H':Hp) (B:Heap),
 e = .ref ex/\s'.os=s.os/\AllBare s'.gens/\Un (frs outer) [] H H' s.heap s'.heap/\HOk P w H' s'.heap/\Heap.FlyingW B outer ex cls (.ref t) s'.heap/\Cov (frs outer) H' s.heap s'.heap B/\s.heap.get? ex=none/\H' ex=none/\E cls none H'
theorem FX {B h h2:Heap}{l:List Env}(ff:h.FunFrames B l) (up:h.UpToSlots h2):∀ b∈frs l,∀ o,h.get? b=some o->∃ sl,h2.get? b=some { o with slots:=sl }:=fun b hb o e=>by
 obtain ⟨_,o',e',nf⟩:=ff.mem hb
 rw [e] at e'
 cases e'
 exact up b o e nf
section
variable {X:Cx}{pins:List (Addr × Obj)}{σ:St}{H:Hp}{s:Shared}
theorem Jr {fs ex:List Addr}{H0 H':Hp}{h0 h:Heap}(u:Un fs ex H0 H' h0 h) {b:Addr}(hx:b∉ex) (e:h.get? b=none):h0.get? b=none:=by
 cases q:h0.get? b with
 | none=>rfl
 | some o =>
  obtain ⟨o',e'⟩:=u.there b o q hx
  rw [e] at e'
  cases e'
theorem Inv.frf (I:Inv X pins σ H s):∀ b∈frs X.stack,H b=none:=I.env0.frf
end
section
variable {P:Program}{w:World}{K:aj}{mg:Str->Option Value}{base:Heap}{N:List Str}{qual:Str}{scope:Scope}{f:Addr}{cdv:Value}{A:Around}{outer:List Env}{s:Shared}{H:Hp}{E:XK}
 {pins:List (Addr × Obj)}{σ:St}{H1:Hp}{s1:Shared}
theorem uZ {h2:Heap}{ex C:Addr}{args:List Value}(I:Inv (XF (CXE P w) P w K mg base N qual scope f cdv A outer s H E) pins σ H1 s1)
  (hx:Heap.MadeExcOf s1.heap h2 ex (.ref C) args) (h:E (.ref C) none H1):(XF (CXE P w) P w K mg base N qual scope f cdv A outer s H E).xe (.ref ex) { s1 with heap:=h2 }:=by
 have e0:=I.env0
 have stk:(XF (CXE P w) P w K mg base N qual scope f cdv A outer s H E).stack=envOfC qual scope s.heap.objs.size f cdv::outer:=rfl
 have hin:∀ env∈(envOfC qual scope s.heap.objs.size f cdv::outer),∀ a,env.frame=some a->a∈frs (envOfC qual scope s.heap.objs.size f cdv::outer):=fun env he a ha=>List.mem_filterMap.mpr ⟨env,he,ha⟩
 have ff:s1.heap.FunFrames (hideAll s1.heap (frs (envOfC qual scope s.heap.objs.size f cdv::outer))) (envOfC qual scope s.heap.objs.size f cdv::outer):=PySem.W.funFrames_hide e0.Ng hin
 have hkb:(hideAll s1.heap (frs (envOfC qual scope s.heap.objs.size f cdv::outer))).StaysIn s1.heap:=fun b o q=>PySem.W.of_hideAll _ q
 show wpAny _ _ (leaving _ _) _ _ _
 refine wpAny_leaves_madeW (L:=s.heap.objs.size) (s:={ s1 with heap:=h2 }) e0.frames rfl hkb ff hx fun h' t fl tup hBt up=>?_
 have ffo:s1.heap.FunFrames (hideAll s1.heap (frs (envOfC qual scope s.heap.objs.size f cdv::outer))) outer:=ff.2.2
 have u1:Un (frs outer) [] H H1 s.heap s1.heap:=I.base
 have hL:H1 s.heap.objs.size=none:=I.free
 have cv:Cov (frs outer) H1 s.heap s1.heap (hideAll s1.heap (frs (envOfC qual scope s.heap.objs.size f cdv::outer))):=fun b o e hb c=>by
  refine PySem.W.hideAll_get _ e fun hm=>?_
  have hm':b=s.heap.objs.size\/b∈frs outer:=by
   have:=hm
   unfold frs at this
   rw [filterMap_cons] at this
   exact mem_cons.mp this
  rcases hm' with rfl | hm'
  ·rcases c with c | ⟨v,c⟩
   ·exact c hL
   ·exact absurd (az c) (Nat.lt_irrefl _)
  ·exact hb hm'
 have up2:s1.heap.UpToSlots h':=(Heap.UpToSlots.of_keeps hx.keeps).trans up
 have sl:=FX ffo up2
 have fr:∀ b∈frs outer,H1 b=none:=fun b hb=>I.frf b (by
  show b∈frs (envOfC qual scope s.heap.objs.size f cdv::outer)
  unfold frs
  rw [filterMap_cons]
  exact mem_cons_of_mem _ hb)
 have hexn:H1 ex=none:=by
  cases q:H1 ex with
  | none=>rfl
  | some x =>
   obtain ⟨ob,eo⟩:=(I.hok ex x q).get
   have:=hx.new
   rw [eo] at this
   cases this
 exact ⟨ex,t,.ref C,H1,_,rfl,I.os,I.bare,Bs u1 cv fl.1 sl,FV I.hok cv fl.1 fr,fl,FW u1 I.hok cv fl.1,Jr u1 (by simp) hx.new,hexn,h⟩
theorem xe_on {E':XK}{e:Value}{s':Shared}(I:Inv (XF (CXE P w) P w K mg base N qual scope f cdv A outer s H E) pins σ H1 s1)
  (h:CXE P w (XF (CXE P w) P w K mg base N qual scope f cdv A outer s H E).stack H1 s1 E' e s') (k:∀ cls H',E' cls none H'->E cls none H') :
  (XF (CXE P w) P w K mg base N qual scope f cdv A outer s H E).xe e s':=by
 obtain ⟨ex,t,cls,H',B,rfl,ho,hg,u,ok,fl,cv,hn,hexn,hE⟩:=h
 have I':=I.call' (ch:=[]) ho u ok hg (fun _ z=>nomatch z)
 have e0:=I'.env0
 have u1:Un (frs outer) [] H H' s.heap s'.heap:=I'.base
 have hL:H' s.heap.objs.size=none:=I'.free
 show wpAny _ _ (leaving _ _) _ _ _
 refine wpAny_leaves_onW (L:=s.heap.objs.size) e0.frames rfl fl fun h' fl' up=>?_
 have cv1:Cov (frs outer) H' s.heap s'.heap B:=fun b o e hb c=>by
  have hb':b∉frs (envOfC qual scope s.heap.objs.size f cdv::outer):=fun hm=>by
   have hm':b=s.heap.objs.size\/b∈frs outer:=by
    have:=hm
    unfold frs at this
    rw [filterMap_cons] at this
    exact mem_cons.mp this
   rcases hm' with rfl | hm'
   ·rcases c with c | ⟨v,c⟩
    ·exact c hL
    ·exact absurd (az c) (Nat.lt_irrefl _)
   ·exact hb hm'
  refine cv b o e hb' ?_
  rcases c with c | ⟨v,c⟩
  ·exact .inl c
  ·exact .inr (Un.there (show Un (frs outer) [] H H1 s.heap s1.heap from I.base) b v c (by simp))
 have ffo:s'.heap.FunFrames B outer:=fl.2.2.1.2.2
 have sl:=FX ffo up
 have fr:∀ b∈frs outer,H' b=none:=fun b hb=>I'.frf b (by
  show b∈frs (envOfC qual scope s.heap.objs.size f cdv::outer)
  unfold frs
  rw [filterMap_cons]
  exact mem_cons_of_mem _ hb)
 exact ⟨ex,t,cls,H',B,rfl,I'.os,I'.bare,Bs u1 cv1 fl'.1 sl,FV ok cv1 fl'.1 fr,fl',FW u1 ok cv1 fl'.1,Jr (show Un (frs outer) [] H H1 s.heap s1.heap from I.base) (by simp) hn,hexn,k _ _ hE⟩
end
noncomputable def Xa (X:Cx) (XE:St->XK):Prop:=∀ (pins:List (Addr × Obj)) (σ:St) (H:Hp) (s:Shared) (e:Value) (s':Shared),Inv X pins σ H s->CXE X.prog X.w X.stack H s (XE σ) e s'->X.xe e s'
theorem Zh {P:Program}{w:World}{K:aj}{mg:Str->Option Value}{base:Heap}{N:List Str}{qual:Str}{scope:Scope}{f:Addr}{cdv:Value}{A:Around}{outer:List Env}{s:Shared}{H:Hp}{E:XK} :
  Xa (XF (CXE P w) P w K mg base N qual scope f cdv A outer s H E) (fun _=>E):=fun _ _ _ _ _ _ I h=>xe_on I h fun _ _ z=>z
noncomputable def Js (sp:Sp) (XE:St->XK) (t:TA):TE:=fun σ H Q=>t σ H fun vs H1=>sp vs H1 Q (XE σ)
section
variable {X:Cx}{k:Nat}{f C:Addr}{fd:FuncData}{ps:List Str}{sp:Sp}{XE:St->XK}{x m:Str}{p pos apos np cpos:Pos}{e o:Expr}{es:List Expr}{ta:TE}{t:TA}
theorem Bt {pins:List (Addr × Obj)}{σ:St}{H:Hp}{s:Shared}{Q:VK}{us:List Value}{vs:List V}(F:ZE X.prog X.w X.K X.mg X.base (CXE X.prog X.w) k f fd ps sp) (hr:Xq k X.A) (hb:Binds X.K fd ps []) (hx:Xa X XE)
  (I:Inv X pins σ H s) (r:Vals vs us) (h:sp vs H Q (XE σ)):wpAny (model X.prog X.w) X.A (call (.ref f) us) (EP X pins σ Q) X.xe s:=by
 have hl:(us++[]).length=ps.length:=by rw [append_nil,<-r.length];exact F.len _ _ _ _ h
 have hb':=hb s us I.kIn hl
 rw [append_nil] at hb'
 refine wpAny_call (codeAny_mono (F.run X.A X.stack s H ⟨us,[]⟩ us vs Q (XE σ) hr I.env0 hb' r h) fun r s' hq=>?_)
 cases r with
 | error e=>exact hx pins σ H s e s' I hq
 | ok fl =>
  cases fl with
  | ret u=>exact I.after hq
  | next=>exact False.elim hq
  | brk=>exact False.elim hq
  | cont=>exact False.elim hq
theorem xm (F:ZE X.prog X.w X.K X.mg X.base (CXE X.prog X.w) k f fd ps sp) (hr:Xq k X.A) (hg:Gl X x) (hm:X.mg x=some (.ref f)) (hk:keepIn X.K (.ref f)=true) (hb:Binds X.K fd ps []) (hx:Xa X XE)
  (ha:PA X (e::es) t) (hdb:autoParam ((x == ("__debug__" : Str))=false) auD) (he:autoParam (starEach (e::es) X.env=(false,eval e X.env)::starEach es X.env) auR) (hpl:autoParam ((backTo pos (starEach es X.env)).any (·.1)=false) auR) :
  PE X (.Call (.Name x p) (e::es) [] pos) (Js sp XE t):=by
 intro pins s σ H Q I h
 refine wpAny_Call_Name_kw (Nh I hg hm ?_ hdb)
 refine callWith_K (h₀:=X.base) I.ok.mod.kin hk (thn (ha pos pins s σ H _ I h) fun us s1 ⟨vs,H1,I1,r,q⟩=>⟨I1.kIn,?_⟩) he hpl
 exact Bt F hr hb hx I1 r q
end
structure DN (K:aj) (C:Addr):Prop where
 ex:excIn K C [.type "ValueError",.type "Exception",.type "BaseException",.type "object"] "ValueError.__new__" = true
theorem DN.obj {K:aj}{C:Addr}(c:DN K C):∃ nm q N bs bm hdct sn sub ab col dd k0 k1 k2 k3 k5,K.lookup C=some (excClassObj nm q C N bs bm hdct sn sub ab col dd k0 k1 k2 k3 k5 "ValueError.__new__") /\
  PySem.W.tailIn K [.type "ValueError",.type "Exception",.type "BaseException",.type "object"] bm=true/\nsOkIn K N=true/\PySem.W.nsIn K N "__init__" = some none:=by
 have q:=c.ex
 unfold excIn at q
 split at q
 ·rename_i dd cd sl ho
  split at q
  ·rename_i C' bm k0 k1 k2 k3 n k5 hm hs
   simp only [aF,beq_iff_eq,Bool.not_eq_true'] at q
   obtain ⟨⟨⟨⟨⟨rfl,rfl⟩,hdel⟩,ht⟩,hok⟩,hni⟩:=q
   obtain ⟨nm,bs,mro,ns,qn,hd,sn,sub,ab,col,del⟩:=cd
   dsimp only at hm hdel hok hni
   subst hm hdel
   have hsl:sl=#[k0,k1,k2,k3,some (.builtin "ValueError.__new__"),k5]:=by
    obtain ⟨l⟩:=sl
    simp only at hs
    rw [hs]
   subst hsl
   exact ⟨nm,qn,ns,bs,bm,hd,sn,sub,ab,col,dd,k0,k1,k2,k3,k5,ho,ht,hok,hni⟩
  ·cases q
 ·cases q
section
variable {P:Program}{w:World}{K:aj}{mg:Str->Option Value}{base:Heap}{N:List Str}{qual:Str}{scope:Scope}{f C:Addr}{cdv:Value}{A:Around}{outer:List Env}{s:Shared}{H:Hp}{E:XK}
 {x:Str}{np cpos pos:Pos}{e₀:Expr}{rest:List Expr}{t:TA}
noncomputable def xn (C:Addr) (E:XK) (t:TA):TS:=fun _ σ H=>t σ H fun vs H1=>vs.length<=aA/\E (.ref C) none H1
theorem xo (c:DN K C) (hm:mg x=some (.ref C))
  (ha:PA (XF (CXE P w) P w K mg base N qual scope f cdv A outer s H E) (e₀::rest) t)
  (hg:autoParam (Gl (XF (CXE P w) P w K mg base N qual scope f cdv A outer s H E) x) auR) (hdb:autoParam ((x == ("__debug__" : Str))=false) auD)
  (he:autoParam (starEach (e₀::rest) (XF (CXE P w) P w K mg base N qual scope f cdv A outer s H E).env=(false,eval e₀ (XF (CXE P w) P w K mg base N qual scope f cdv A outer s H E).env)::starEach rest (XF (CXE P w) P w K mg base N qual scope f cdv A outer s H E).env) auR)
  (hpl:autoParam ((backTo cpos (starEach rest (XF (CXE P w) P w K mg base N qual scope f cdv A outer s H E).env)).any (·.1)=false) auR) :
  PS (XF (CXE P w) P w K mg base N qual scope f cdv A outer s H E) (.Raise (some (.Call (.Name x np) (e₀::rest) [] cpos)) none pos) (xn C E t):=by
 intro pins s1 σ H1 D I h
 obtain ⟨nm,q,NN,bs,bm,hdct,sn,sub,ab,col,dd,k0,k1,k2,k3,k5,lk,ht,hok,hni⟩:=c.obj
 have hbase:bm.contains (.type "BaseException")=true:=(PySem.W.tail_of_in I.kIn ht).hasType (by decide +kernel)
 have hkk:K.In s1.heap:=I.kIn
 refine wpAny_Raise_call_subT (C:=C) (nm:=nm) (q:=q) (N:=NN) (bs:=bs) (bm:=bm) (hdct:=hdct) (sn:=sn) (sub:=sub) (ab:=ab) (col:=col) (dd:=dd) (k0:=k0) (k1:=k1) (k2:=k2) (k3:=k3) (k5:=k5) (mN:=s1.heap.nsMap NN)
  F.excBase_ValueError hbase (I.ok.hd rfl) (by rw [he];show (false || (backTo cpos (starEach rest _)).any (·.1))=false;rw [hpl];rfl) (PySem.W.nsMap_none_of_in hkk hok hni) ?_
 refine Nh I hg hm ?_ hdb
 refine ⟨rfl,?_⟩
 have hargs:=ha cpos pins s1 σ H1 _ I h
 rw [he] at hargs ⊢
 refine Calls.evalArgs_plain (thn hargs fun us s2 zq=>?_)
 obtain ⟨vs,H2,I2,r,hlen,q2⟩:=zq
 have k2':K.In s2.heap:=I2.kIn
 have keepN:s2.heap.Ns NN (s1.heap.nsMap NN):=by
  have n1:s1.heap.Ns NN (s1.heap.nsMap NN) := .of_isNs (PySem.W.isNs_of_in hkk hok)
  obtain ⟨o,es,ep,e,r1⟩:=n1
  unfold nsOkIn at hok
  split at hok
  ·rename_i c0 d0 es0 n0 sl0 ho
   have e1:=hkk _ _ ho
   rw [e] at e1
   cases e1
   exact ⟨_,es,ep,k2' _ _ ho,r1⟩
  ·cases hok
 refine ⟨rfl,by show us.length<=aA;rw [<-r.length];exact hlen,k2' _ _ lk,keepN,PySem.W.tail_of_in k2' ht,fun h' ex hx=>?_⟩
 exact uZ I2 hx q2
end
theorem Cx.Ok.pn {X:Cx}(ok:X.Ok) (p:List (Addr × Obj)) (E:Value->Shared->Prop):Cx.Ok { X with pn:=p,xe:=E } :=
 ⟨ok.mod,ok.kind,ok.glob,ok.blt,ok.above,ok.inj,ok.has,ok.cab,ok.hd,ok.frames,ok.stk,ok.exf,ok.bs,ok.bsz,ok.noex,ok.exfs,ok.Ng,ok.frf⟩
noncomputable def ExcO (ex C:Addr):HO := .ext fun h=>∃ o vs,h.get? ex=some o/\o.cls = .ref C/\o.data = .fields vs
section
variable {X:Cx}{pins:List (Addr × Obj)}{σ:St}{H:Hp}{s:Shared}
theorem Inv.locals {h':Heap}{m':Str->Option Value}{σ':St}{t':Nat}(I:Inv X pins σ H s) (hs:Heap.SameBut X.env.locals s.heap h') (hn':h'.Ns X.env.locals m')
  (hl:∀ (i:Nat) (x:Str) (v:V),X.N[i]?=some x->σ'[i]?=some (some v)->Vis X.env.scope x->∃ u,RelV v u/\Look X.env h' m' x u) (len:σ'.length=σ.length):Inv X pins σ' H { s with heap:=h',toks:=t' }:=by
 have cne:=I.cne
 obtain ⟨m,⟨oL,_,_,hoL,_⟩,_⟩:=id I.loc
 refine ⟨I.ok,I.os,I.bare,⟨fun b o e n hb hx=>?_,fun b o e n hb hx=>?_,I.base.free,fun b o e hx=>?_,I.base.tups,I.base.frzs,I.base.tbls⟩,⟨_,hn',hl⟩,fun y c e=>?_,I.free,I.freeC,fun p hp=>?_,fun b ob e=>?_,len.trans I.len⟩
 ·exact (hs.2 b (Nat.ne_of_lt (Nat.lt_of_lt_of_le (az e) I.ok.above))).trans (I.base.keep b o e n hb hx)
 ·obtain ⟨sl,e1⟩:=I.base.slot b o e n hb hx
  exact ⟨sl,(hs.2 b (Nat.ne_of_lt (Nat.lt_of_lt_of_le (az e) I.ok.above))).trans e1⟩
 ·obtain ⟨o',e1⟩:=I.base.there b o e hx
  exact ⟨o',(hs.2 b (Nat.ne_of_lt (Nat.lt_of_lt_of_le (az e) I.ok.above))).trans e1⟩
 ·obtain ⟨w',z⟩:=I.cell y c e
  exact ⟨w',z.sameBut hs (cne y c e)⟩
 ·obtain ⟨e,n,ne,nf,d⟩:=I.pin p hp
  exact ⟨(hs.2 p.1 ne).trans e,n,ne,nf,d⟩
 ·refine (I.hok b ob e).stay (fun c w' hc q=>(hs.2 c ?_).trans q) (fun _ q=>q) fun _ _ q=>q
  rintro rfl
  rcases hc with rfl | hc
  ·rw [I.free] at e;cases e
  ·rw [I.free] at hc;cases hc
end
structure XTy (K:aj) (C:Addr):Prop where
 ga:findIn K (.ref C) "__getattribute__" = some (some (.builtin "BaseException.__getattribute__"))
 gn:findIn K (.ref C) "__getattr__" = some none
 cl:findIn K (.ref C) "__class__" = some (some (.builtin "object.__class__"))
 ob:mroIn K C (.type "object")=some true
 be:mroIn K C (.type "BaseException")=some true
 ic:isClsIn K C=true
section
variable {prog:Program}{w:World}{A:Around}{E:Value->Shared->Prop}{K:aj}{h:Heap}{g:Array GenState}{d:Drawn}{t:Nat}{os:OsState}{a C:Addr}{o:Obj}
theorem exc_type {M:Model}(hx:h.get? a=some o) (hc:o.cls = .ref C):Looks M h (typeOf (.ref a)) (.ref C):=hc ▸ (Looks.ld hx).andThen .now
theorem IL {R:Result->Shared->Prop}{tp:Value}(X:K.In h) (T:XTy K C) (hx:h.get? a=some o) (hc:o.cls = .ref C) (hq:R (.ok (.ret (.ref C))) ⟨h,g,d,t,os⟩) :
  codeAny (model prog w) A (.call (.builtin "getset_descriptor.__get__") ⟨[.builtin "object.__class__",.ref a,tp],[]⟩) R ⟨h,g,d,t,os⟩:=by
 have L0:=exc_type (M:=model prog w) hx hc
 have L1:=PySem.W.looks_mroIn (M:=model prog w) X T.ob
 refine codeAny_call_builtin PySem.W.KF.slot_gs.plain PySem.W.KF.entry_gs (PySem.W.KF.slot_gs.check _ _ _ _ _ _ _ _ PySem.W.KF.type_class (PySem.W.KF.args_gs _ _ _) ?_)
 unfold Builtin.«getset_descriptor.__get__» Builtin.Getset_descriptor.descrGet
 rw [PySem.W.dga_obj]
 refine ak (ao ?_)
 unfold Builtin.Getset_descriptor.descrGetter Builtin.Getset_descriptor.descrCheckInstance Builtin.Getset_descriptor.descrNameAndClass isInstance
 simp only [PySem.W.KF.owner_class]
 repeat lk
 refine ⟨Code.quiet_builtin _ (by decide +kernel),codeAny_builtin PySem.W.KF.entry_class ?_⟩
 unfold Builtin.«object.__class__» shownTypeOf
 repeat lk
 exact hq
theorem Gq {M:Model}{nameV:Value}{Q:Unit->Shared->Prop}(X:K.In h) (T:XTy K C) (hx:h.get? a=some o) (hc:o.cls = .ref C) (hq:Q () ⟨h,g,d,t,os⟩) :
  wpAny M A (checkBuiltinCall "BaseException.__getattribute__" ⟨[.ref a,nameV],[]⟩) Q E ⟨h,g,d,t,os⟩:=by
 have hk:builtinKind "BaseException.__getattribute__" = some .slot:=by decide +kernel
 have hsplit:splitId "BaseException.__getattribute__" = some ("BaseException", "__getattribute__"):=by decide +kernel
 have ha:=F.args_bexc_ga (.ref a) nameV
 have L0:=exc_type (M:=M) hx hc
 have L1:=PySem.W.looks_mroIn (M:=M) X T.be
 have L2:Looks M h (isInstance (.ref a) (.type "BaseException")) true:=L0.andThen L1
 simp only [checkBuiltinCall,hk,hsplit]
 refine ak (L2.at ?_)
 repeat (any_goals (first | assumption | wp_step))
theorem Kk {tk:Tok}{Q:Fin->Shared->Prop}(X:K.In h) (T:XTy K C) (hx:h.get? a=some o) (hc:o.cls = .ref C) (hq:Q (.done (.ret (.ref C))) ⟨h,g,d,t,os⟩) :
  wpAny (model prog w) A (Builtin.«object.__getattribute__» ⟨[.ref a,.str "__class__" tk],[]⟩) Q E ⟨h,g,d,t,os⟩:=by
 have hT5:(⟨h,g,d,t,os⟩:Shared).TypeIs (.builtin "object.__class__") "getset_descriptor" := F.typeOf_object_class
 have f5:=F.typeOf_object_class
 have f6:=F.slot_gs_get.lookup
 have f7:=F.slot_gs_set.lookup
 have LC:=looks_findIn (M:=model prog w) X T.cl
 repeat (any_goals (first | assumption | (with_reducible refine wpAny_loadPart_at hx ?_;rw [hc]) | with_reducible refine Looks.at LC ?_ | wp_step))
 refine IL X T hx hc ?_
 repeat (any_goals (first | assumption | wp_step))
theorem Gs {tk:Tok}{Q:Value->Shared->Prop}(X:K.In h) (T:XTy K C) (hx:h.get? a=some o) (hc:o.cls = .ref C) (hq:Q (.ref C) ⟨h,g,d,t,os⟩) :
  wpAny (model prog w) A (getAttrBy (.ref a) (.str "__class__" tk) false) Q E ⟨h,g,d,t,os⟩:=by
 have f3:=F.attr_ValueError.ga.bind (.ref a)
 have hx2:(Value.builtin "BaseException.__getattribute__" == Value.builtin "object.__getattribute__")=false:=by decide +kernel
 have hx1:(onTheHeap (Value.ref C) && Value.builtin "BaseException.__getattribute__" == Value.builtin "object.__getattribute__")=false:=by rw [hx2];rfl
 have L1:=looks_findIn (M:=model prog w) X T.ga
 have L2:=looks_findIn (M:=model prog w) X T.gn
 repeat (any_goals (first | assumption | (with_reducible refine wpAny_loadPart_at hx ?_;rw [hc]) | with_reducible refine Looks.at L1 ?_ | with_reducible refine Looks.at L2 ?_ | wp_step))
 refine codeAny_call_builtin F.attr_ValueError.ga.plain F.entry_bexc_ga (Gq X T hx hc (Kk X T hx hc ?_))
 repeat (any_goals (first | assumption | wp_step))
theorem Jt {Q:Option Value->Shared->Prop}(X:K.In h) (T:XTy K C) (hx:h.get? a=some o) (hc:o.cls = .ref C) (hq:Q (some (.ref C)) ⟨h,g,d,t + 1,os⟩) :
  wpAny (model prog w) A (getAttr? (.ref a) "__class__") Q E ⟨h,g,d,t,os⟩:=by
 unfold getAttr? getAttrBy?
 repeat (any_goals (first | assumption | with_reducible apply Gs X T hx hc | wp_step))
end
theorem FY {K:aj}{a C:Addr}(T:XTy K C):PySem.W.KitX K (.ref a) (.ref C) (fun h=>∃ o vs,h.get? a=some o/\o.cls = .ref C/\o.data = .fields vs) where
 ty:=fun _ _ _ ⟨o,vs,e,c,_⟩=>exc_type e c
 it:=fun _ _ X _=>by
  have hcD:=T.ic
  unfold isClsIn clsIn at hcD
  split at hcD
  ·rename_i c' d' cd' sl' ho
   intro A' Q' E' s' k q
   unfold isType loadHead
   exact ak (wpAny_loadPart (k _ _ (X _ _ ho)) (ao q))
  ·cases hcD
 ne:=fun h tp dd its n sl X htp=>by
  have hcD:=T.ic
  refine Bool.eq_false_iff.mpr fun q=>?_
  have e:C=tp:=Value.ref.inj (beq_iff_eq.mp q)
  subst e
  unfold isClsIn clsIn at hcD
  split at hcD
  ·rename_i c' d' cd' sl' ho
   have z:=(X _ _ ho).symm.trans htp
   cases z
  ·cases hcD
 ca:=fun {_ _ _ _ _ s} X ⟨o,vs,e,c,_⟩ k=>by
  obtain ⟨hh,g,d,t,os⟩:=s
  exact Jt X T e c k
section
variable {X:Cx}
noncomputable def rIsiX (K:aj):List V->Hp->VK->Prop:=fun xs H Q=>∃ a C,xs[0]?=some (.ref a)/\H a=some (ExcO a C)/\XTy K C /\
  ((∃ (c:V) (cv:Value) (b:Bool),xs=[.ref a,c]/\(∀ u,RelV c u->u=cv)/\kitOne K (.ref C) cv=some b/\Q (.bl b) H) \/
   (∃ (tp:Addr) (cs:List Addr) (b:Bool),xs=[.ref a,.ref tp]/\H tp=some (.tup (cs.map V.ref))/\kitAny K (.ref C) (cs.map Value.ref)=some b/\Q (.bl b) H))
theorem NZ:∀ {cs:List Addr}{us:List Value},Vals (cs.map V.ref) us->us=cs.map Value.ref
 | [],_,.nil=>rfl
 | _::_,_,.cons r t=>by rw [map_cons,NZ t];rw [show _=Value.ref _ from r]
theorem AY:Xn X (.builtin "isinstance") (rIsiX X.K):=by
 intro pins s σ H xs us Q I r h
 obtain ⟨a,C,_,hH,T,h⟩:=h
 obtain ⟨p,_,_⟩:=(show YH X.prog X.w H s.heap a (ExcO a C) from I.hok a _ hH)
 rcases h with ⟨c,cv,b,rfl,hc,e,q⟩ | ⟨tp,cs,b,rfl,hT,e,q⟩
 ·obtain ⟨u,w',rfl,r1,r2⟩:=vals2 r
  cases hc _ r2
  cases r1
  exact kia_one (FY T) I.kIn p e (fun z=>nomatch z) fun tk=>⟨.bl b,H,I.tok tk,rfl,q⟩
 ·obtain ⟨u,w',rfl,r1,r2⟩:=vals2 r
  cases r1
  cases r2
  obtain ⟨_,its,rv,ob,ho,hcl,n,hd⟩:=(show YH X.prog X.w H s.heap tp (.tup (cs.map V.ref)) from I.hok tp _ hT)
  have ei:=NZ rv
  subst ei
  obtain ⟨c0,dd,dt,sl⟩:=ob
  dsimp only at hcl hd
  subst hcl hd
  exact kia_tup (FY T) I.kIn p ho e (fun z=>nomatch z) fun tk=>⟨.bl b,H,I.tok tk,rfl,q⟩
end
theorem kit_type {K:aj}{C:Addr}{T:String}{b:Bool}(hk:PySem.W.kitMeta T=true) (hs:mroIn K C (.type T)=some b):kitOne K (.ref C) (.type T)=some b:=by
 unfold kitOne
 rw [if_neg (by simp)]
 unfold kitCls
 simp only
 rw [if_pos hk]
 exact hs
structure CZ where
 cl:List (Str × Addr)
 C:Addr
 s:Shared
 H:Hp
 fp:List Addr
abbrev Zx (X:Cx) (scope:Scope) (N:List Str) (z:CZ):Cx where
 prog:=X.prog
 w:=X.w
 K:=X.K
 mg:=X.mg
 base:=X.base
 A:=X.A
 N:=N
 s₀:=z.s
 H₀:=z.H
 env:=compEnvC scope z.cl z.C X.env
 outer:=X.stack
 stack:=X.stack
 ex:=z.fp
 fn:=fun _=>false
 calm:=X.calm
 pn:=[]
 xe:=fun _ _=>False
noncomputable def SE (own sc:Scope) (Nc:List Str):Bool :=
 (own.kind == .function) && (own.names.all fun y=>y.2 != .cell && (y.2 != .free || sc.names.lookup y.1 == some .cell || sc.names.lookup y.1 == some .free) && (y.2 != .local || own.names.lookup y.1 == some .local)) &&
 (Nc.all fun x=>own.names.lookup x == some .free)
structure DQ (own sc:Scope) (Nc:List Str):Prop where
 kind:own.kind = .function
 nocell:∀ y∈own.names,y.2 ≠ .cell
 free:∀ y∈own.names,y.2 = .free->sc.names.lookup y.1=some .cell\/sc.names.lookup y.1=some .free
 loc:∀ y∈own.names,y.2 = .local->own.names.lookup y.1=some .local
 cap:∀ x∈Nc,own.names.lookup x=some .free
theorem HE {own sc:Scope}{Nc:List Str}(h:SE own sc Nc=true):DQ own sc Nc:=by
 unfold SE at h
 simp only [aF,all_eq_true,Bool.or_eq_true,bne_iff_ne,ne_eq,beq_iff_eq] at h
 obtain ⟨⟨h1,h2⟩,h3⟩:=h
 refine ⟨h1,fun y hy=>(h2 y hy).1.1,fun y hy e=>?_,fun y hy e=>?_,h3⟩
 ·rcases (h2 y hy).1.2 with (z | z) | z
  ·exact absurd e z
  ·exact .inl z
  ·exact .inr z
 ·rcases (h2 y hy).2 with z | z
  ·exact absurd e z
  ·exact z
theorem Ju {scope:Scope}{env:Env}(h:∀ y∈scope.names,y.2 = .free->∃ c,env.cells.lookup y.1=some c) :
  ∃ cl,closureFor scope env=pure cl/\(∀ y∈scope.names,y.2 = .free->∃ c,cl.lookup y.1=some c)/\∀ x c,cl.lookup x=some c->env.cells.lookup x=some c:=by
 have key:∀ (l:List (Str × NameKind)) (cs:List (Str × Addr)),(∀ y∈l,y.2 = .free->∃ c,env.cells.lookup y.1=some c)->(∀ x c,cs.lookup x=some c->env.cells.lookup x=some c) ->
   ∃ cl,(forIn l cs fun x r=>if (x.2 == NameKind.free)=true then do let a <- cellOf env x.1;pure (ForInStep.yield ((x.1,a)::r)) else pure (ForInStep.yield r):Sem (List (Str × Addr)))=pure cl /\
    (∀ y∈l,y.2 = .free->∃ c,cl.lookup y.1=some c)/\(∀ x c,cs.lookup x=some c->∃ c',cl.lookup x=some c')/\∀ x c,cl.lookup x=some c->env.cells.lookup x=some c:=by
  intro l
  induction l with
  | nil=>intro cs _ hcs;exact ⟨cs,rfl,fun y hy=>(nomatch hy),fun x c e=>⟨c,e⟩,hcs⟩
  | cons y r ih =>
   intro cs hl hcs
   obtain ⟨n,k⟩:=y
   have hr:∀ y∈r,y.2 = .free->∃ c,env.cells.lookup y.1=some c:=fun y hy=>hl y (mem_cons_of_mem _ hy)
   by_cases hk:k = .free
   ·subst hk
    obtain ⟨c,hc⟩:=hl (n,.free) mem_cons_self rfl
    have hcs':∀ x c',((n,c)::cs).lookup x=some c'->env.cells.lookup x=some c':=fun x c' e=>by
     rw [lookup_cons] at e
     cases hx:x == n with
     | true=>rw [hx] at e;cases e;rw [eq_of_beq hx];exact hc
     | false=>rw [hx] at e;exact hcs x c' e
    obtain ⟨cl,e1,e2,e3,e4⟩:=ih ((n,c)::cs) hr hcs'
    refine ⟨cl,?_,?_,?_,e4⟩
    ·have hcell:cellOf env n=pure c:=by unfold cellOf;rw [hc]
     rw [forIn_cons]
     simp only [beq_self_eq_true,if_true,hcell,pure_bind]
     exact e1
    ·intro y hy ey
     rcases mem_cons.mp hy with rfl | hy
     ·exact e3 n c (by rw [lookup_cons];simp)
     ·exact e2 y hy ey
    ·intro x c' e
     cases hx:x == n with
     | true=>exact e3 x c (by rw [lookup_cons,hx])
     | false=>exact e3 x c' (by rw [lookup_cons,hx];exact e)
   ·obtain ⟨cl,e1,e2,e3,e4⟩:=ih cs hr hcs
    have hb:(k == NameKind.free)=false:=by simpa using hk
    refine ⟨cl,?_,?_,e3,e4⟩
    ·rw [forIn_cons]
     simp only [hb,Bool.false_eq_true,if_false,pure_bind]
     exact e1
    ·intro y hy ey
     rcases mem_cons.mp hy with rfl | hy
     ·exact absurd ey hk
     ·exact e2 y hy ey
 obtain ⟨cl,e1,e2,_,e4⟩:=key scope.names [] h (fun x c e=>by cases e)
 refine ⟨cl,?_,e2,e4⟩
 have e:closureFor scope env=(forIn scope.names ([]:List (Str × Addr)) (fun x r=>if (x.2 == NameKind.free)=true then do let a <- cellOf env x.1;pure (ForInStep.yield ((x.1,a)::r)) else pure (ForInStep.yield r)) >>= fun r=>pure r:Sem (List (Str × Addr))):=rfl
 rw [e,e1,pure_bind]
theorem Ub {env:Env}{x:Str}:∀ {names:List (Str × NameKind)}, 
  (names.map fun (n,k)=>if (k == NameKind.free && env.scope.kind == .function && env.kindOf n == some .cell) then (n,NameKind.cell) else (n,k)).lookup x =
   (names.lookup x).map fun k=>if (k == NameKind.free && env.scope.kind == .function && env.kindOf x == some .cell) then NameKind.cell else k
 | []=>rfl
 | (n,k)::r=>by
  have ih:=@Ub env x r
  show List.lookup x ((if (k == NameKind.free && env.scope.kind == .function && env.kindOf n == some .cell)=true then (n,NameKind.cell) else (n,k))::_)=_
  cases hx:x == n with
  | true =>
   have e:=eq_of_beq hx
   subst e
   by_cases hc:(k == NameKind.free && env.scope.kind == .function && env.kindOf x == some .cell)=true
   ·rw [if_pos hc,lookup_cons,lookup_cons];simp only [beq_self_eq_true,Option.map_some,hc,if_true]
   ·rw [if_neg hc,lookup_cons,lookup_cons];simp only [beq_self_eq_true,Option.map_some,if_neg hc]
  | false =>
   by_cases hc:(k == NameKind.free && env.scope.kind == .function && env.kindOf n == some .cell)=true
   ·rw [if_pos hc,lookup_cons,lookup_cons,hx];exact ih
   ·rw [if_neg hc,lookup_cons,lookup_cons,hx];exact ih
theorem Gu {env:Env}{own:Scope}{x:Str}(h:own.names.lookup x=some .free):(relabel own env).names.lookup x=some .cell\/(relabel own env).names.lookup x=some .free:=by
 have e:(relabel own env).names.lookup x=_:=Ub
 rw [e,h]
 by_cases hc:(NameKind.free == NameKind.free && env.scope.kind == .function && env.kindOf x == some .cell)=true
 ·left;simp only [Option.map_some,hc,if_true]
 ·right;simp only [Option.map_some,hc,if_false];rfl
theorem FZ {env:Env}{own:Scope}{x:Str}(h:(relabel own env).names.lookup x=some .cell\/(relabel own env).names.lookup x=some .free):own.names.lookup x=some .free\/own.names.lookup x=some .cell:=by
 have e:(relabel own env).names.lookup x=_:=Ub
 rw [e] at h
 cases hl:own.names.lookup x with
 | none=>rw [hl] at h;simp at h
 | some k =>
  rw [hl] at h
  simp only [Option.map_some,Option.some.injEq] at h
  by_cases hc:(k == NameKind.free && env.scope.kind == .function && env.kindOf x == some .cell)=true
  ·simp only [aF,beq_iff_eq] at hc
   exact .inl (by rw [hc.1.1])
  ·rw [if_neg hc] at h
   rcases h with h | h
   ·exact .inr (by rw [h])
   ·exact .inl (by rw [h])
section
variable {X:Cx}
noncomputable def pre (n:Nat) (fr:List Nat) (σ:St):St:=replicate n none++fr.map fun j=>(σ[j]?).getD none
theorem DR {pins:List (Addr × Obj)}{σ:St}{H:Hp}{s s':Shared}{own:Scope}{cl:List (Str × Addr)}{C D:Addr}{fp:List Addr}{ts Nc:List Str}{fr:List Nat}{m:Str->Option Value}
  (I:Inv X pins σ H s) (hf:∀ b∈fp,NW X pins H b) (hlt:∀ b∈fp,b < s.heap.objs.size) (c:DQ own X.env.scope Nc) (hc1:∀ y∈own.names,y.2 = .free->∃ c,cl.lookup y.1=some c) (hc2:∀ x c,cl.lookup x=some c->X.env.cells.lookup x=some c)
  (hN:fr.map (X.N[·]?)=Nc.map some) (hD:s.heap.objs.size<=D) (hC:s.heap.objs.size<=C) (hDC:D≠C)
  (k:∀ b o,s.heap.get? b=some o->s'.heap.get? b=some o) (ns:s'.heap.Ns C m) (nl:s'.heap.get? D=some { cls := .type "list",data := .seq #[] }) (eo:s'.os=s.os) (eg:s'.gens=s.gens) :
  Inv (Zx X own (ts++Nc) ⟨cl,C,s,H,fp⟩) [] (pre ts.length fr σ) (upd H D (.lst [])) s':=by
 have fresh:∀ {b},s.heap.objs.size<=b->H b=none:=fun h=>I.hok.fresh h
 have old:∀ {b:Addr}{o:Obj},s.heap.get? b=some o->b < s.heap.objs.size:=fun e=>az e
 have cellLt:∀ x c,X.env.cells.lookup x=some c->c < s.heap.objs.size:=fun x c e=>by
  obtain ⟨v,o,ho,_⟩:=I.cell x c e
  exact old ho
 refine ⟨⟨I.ok.mod,c.kind,I.ok.glob,I.ok.blt,hC,fun x y a h1 h2=>I.ok.inj x y a (hc2 x a h1) (hc2 y a h2),fun x hx=>?_,fun x a z _=>(by cases z),I.ok.hd,I.ok.frames,.inl rfl,fun b hb=>?_,I.bs,Nat.le_trans I.ok.bsz I.sz,fun b o e hb=>?_,fun b hb hb2=>?_,I.stack,I.Bh⟩,
  eo,by rw [eg];exact I.bare,?_,⟨m,ns,fun i x v h1 h2 h3=>?_⟩,fun x a h=>?_,?_,fun x a h=>?_,fun p hp=>absurd hp (by simp),?_,?_⟩
 ·have hx:(relabel own X.env).names.lookup x=some .cell\/(relabel own X.env).names.lookup x=some .free:=hx
  rcases FZ hx with h | h
  ·exact hc1 (x,.free) (PySem.mem_of_lookup h) rfl
  ·exact absurd rfl (c.nocell _ (PySem.mem_of_lookup h))
 ·obtain ⟨_,f1,f2,f3,f4,f5⟩:=hf b hb
  refine ⟨fun z=>?_,fun x a h=>f4 x a (hc2 x a h)⟩
  have z:b=C:=z
  subst z
  exact absurd (hlt _ hb) (Nat.not_lt.mpr hC)
 ·obtain ⟨_,f1,f2,f3,f4,f5⟩:=hf b hb
  rcases f3 with f3 | f3
  ·exact I.ok.noex b o e f3
  ·exact absurd (az (I.ok.bs b o e).1) (Nat.not_lt.mpr f3)
 ·obtain ⟨_,f1,f2,f3,f4,f5⟩:=hf b hb
  rcases mem_cons.mp (I.Gb b hb2) with z | z
  ·exact f1 z
  ·exact f2 z
 ·exact Un.laid k hD (fresh hD)
 ·by_cases hi:i < ts.length
  ·unfold pre at h2
   rw [getElem?_append_left (by simpa using hi),getElem?_replicate] at h2
   split at h2 <;> cases h2
  ·have h1:(ts++Nc)[i]?=some x:=h1
   unfold pre at h2
   rw [getElem?_append_right (by omega)] at h1
   rw [getElem?_append_right (by simpa using hi),length_replicate,getElem?_map] at h2
   have e1:(fr.map (X.N[·]?))[i - ts.length]?=some (some x):=by rw [hN,getElem?_map,h1];rfl
   rw [getElem?_map] at e1
   cases e:fr[i - ts.length]? with
   | none=>rw [e] at h2;cases h2
   | some j =>
    rw [e] at h2 e1
    simp only [Option.map_some,Option.some.injEq] at h2 e1
    have hj:σ[j]?=some (some v):=by
     cases e2:σ[j]? with
     | none=>rw [e2] at h2;cases h2
     | some w'=>rw [e2] at h2;exact congrArg some h2
    have hx:=c.cap x (mem_of_getElem? h1)
    have hv:=c.free _ (PySem.mem_of_lookup hx) rfl
    obtain ⟨m0,hns0,hl0⟩:=I.loc
    obtain ⟨u,ru,lk⟩:=hl0 j x v e1 hj (.inr hv)
    refine ⟨u,ru,.inr ⟨Gu hx,?_⟩⟩
    rcases lk with ⟨lk,_⟩ | ⟨_,a,ea,ha⟩
    ·have lk:X.env.scope.names.lookup x=some .local:=lk
     rw [lk] at hv
     rcases hv with hv | hv <;> cases hv
    ·obtain ⟨a',ea'⟩:=hc1 _ (PySem.mem_of_lookup hx) rfl
     have:=hc2 x a' ea'
     rw [ea] at this
     cases this
     obtain ⟨o,ho,hd⟩:=ha
     exact ⟨a,ea',o,k _ _ ho,hd⟩
 ·obtain ⟨v,o,ho,hd⟩:=I.cell x a (hc2 x a h)
  exact ⟨v,o,k _ _ ho,hd⟩
 ·show upd H D (.lst []) C=none
  rw [Zq (Ne.symm hDC)]
  exact fresh hC
 ·have h:=hc2 x a h
  rw [Zq (Nat.ne_of_lt (Nat.lt_of_lt_of_le (cellLt x a h) hD))]
  exact I.freeC x a h
 ·exact I.hok.laid k hD ⟨Nat.zero_le _,[],0,.nil,nl⟩
 ·have:=congrArg length hN
  simp only [length_map] at this
  unfold pre
  simp only [length_append,length_replicate,length_map,this]
theorem comp_back {pins:List (Addr × Obj)}{σ σ':St}{H H':Hp}{s s':Shared}{own:Scope}{cl:List (Str × Addr)}{C:Addr}{fp:List Addr}{N:List Str}{pl:List (Addr × Obj)}
  (I:Inv X pins σ H s) (hf:∀ b∈fp,NW X pins H b) (J:Inv (Zx X own N ⟨cl,C,s,H,fp⟩) pl σ' H' s'):Inv X pins σ H' s' :=
 I.call' (ch:=fp) J.os J.base J.hok J.bare fun b hb=>let ⟨_,f1,_,f3,f4,f5⟩:=hf b hb;⟨f3,f1,f4,f5⟩
theorem Jv {pins:List (Addr × Obj)}{σ σ2:St}{H H':Hp}{s s':Shared}{C:Addr}{h':Heap}
  (I:Inv X pins σ H s) (hC:s.heap.objs.size<=C) (J:Inv X pins σ2 H' s') (hn:H' C=none) (k:∀ b o,b≠C->s'.heap.get? b=some o->h'.get? b=some o):Inv X pins σ2 H' { s' with heap:=h' }:=by
 refine J.turned (t':=s'.toks) k hn (Nat.ne_of_gt (Nat.lt_of_lt_of_le I.lt hC)) (.inr (Nat.le_trans I.sz hC)) (fun x c e z=>?_) (fun p hp z=>?_)
 ·obtain ⟨v,o,ho,_⟩:=I.cell x c e
  exact absurd (az ho) (Nat.not_lt.mpr (z ▸ hC))
 ·exact absurd (az (I.pin p hp).1) (Nat.not_lt.mpr (z ▸ hC))
noncomputable def PIf (X:Cx) (ifs:List Expr) (t:TT):Prop :=
 ∀ (pins:List (Addr × Obj)) (s:Shared) (σ:St) (H:Hp) (Q:Bool->Hp->Prop),Inv X pins σ H s->t σ H Q ->
  wpAny (model X.prog X.w) X.A (forIn ifs true fun c r=>if r=true then do let ok <- isTrue c X.env (eval c X.env);pure (ForInStep.yield ok) else pure (ForInStep.yield r)) (TP X pins σ Q) X.xe s
noncomputable def tYes:TT:=fun _ H Q=>Q true H
theorem xq:PIf X [] tYes:=fun pins s σ H Q I h=>wpAny_tests_nil ⟨H,I,h⟩
theorem ot {c:Expr}{tc:TT}(h:PT X c tc):PIf X [c] tc:=fun pins s σ H Q I q=>wpAny_tests_one (h pins s σ H Q I q)
end
section
variable {prog:Program}{w:World}{A:Around}{R:Result->Shared->Prop}{s:Shared}
theorem AZ {elt target iter:Expr}{ifs:List Expr}{scope:Scope}{pos:Pos}{it acc:Value}{env:Env}(I:Nat->Shared->Prop)
  (turn:∀ n s,I n s->wpAny (model prog w) A (pyNext it) (fun r s₁=>match r with
   | none=>R (.ok .next) s₁
   | some v=>wpAny (model prog w) A (letOwnedTupleGo target it v) (fun _ s₁=>wpAny (model prog w) A (assign target env v) (fun _ s₂ =>
     wpAny (model prog w) A (forIn ifs true fun c r=>if r=true then do let ok <- isTrue c env (eval c env);pure (ForInStep.yield ok) else pure (ForInStep.yield r)) (fun ok s₃ =>
      if ok=true then wpAny (model prog w) A (eval elt env) (fun x s₄ =>
       wpAny (model prog w) A (call (.builtin "list.append") [acc,x]) (fun _ s₅=>∃ m,m < n/\I m s₅) (fun _ _=>False) s₄) (fun _ _=>False) s₃
      else ∃ m,m < n/\I m s₃) (fun _ _=>False) s₂) (fun _ _=>False) s₁) (fun _ _=>False) s₁) (fun _ _=>False) s)
  (n:Nat) (h:I n s) :
  codeAny (model prog w) A (.compLoop (.ListComp elt [⟨target,iter,ifs,0⟩] scope pos) 0 it acc env) R s:=by
 refine codeAny_loop rfl I (fun n s hI=>?_) n h
 show wpAny _ A ((compTurn (.ListComp elt [⟨target,iter,ifs,0⟩] scope pos) 0 it acc env).onRaise (fun x=>do noteFrame x env;theTreesLotGoes x)) _ _ s
 refine wpAny_noted ?_
 rw [compTurn_list]
 refine ak (wpAny_standAt (ak (wpAny_mono (turn n s hI) (fun r s₁ h₁=>?_) fun _ _ h'=>h'.elim)))
 cases r with
 | none=>exact ao h₁
 | some v =>
  refine ak (wpAny_mono h₁ (fun _ s₁ h₁=>?_) fun _ _ h'=>h'.elim)
  refine ak (wpAny_mono h₁ (fun _ s₂ h₂=>ak (wpAny_mono h₂ (fun ok s₃ h₃=>?_) fun _ _ h'=>h'.elim)) fun _ _ h'=>h'.elim)
  cases ok with
  | false=>exact ao ⟨rfl,h₃⟩
  | true =>
   exact ak (ak (wpAny_mono h₃ (fun x s₄ h₄=>ak (wpAny_mono h₄ (fun _ s₅ h₅=>ao (ao ⟨rfl,h₅⟩)) fun _ _ h'=>h'.elim)) fun _ _ h'=>h'.elim))
end
section
variable {X:Cx}
noncomputable def DU (J:It) (g:TG) (tf:TT) (te:TE) (D:Addr) (σ:St) (H:Hp) (Q:Hp->Prop):Prop :=
 ∃ W:Nat->Nat->St->Hp->Prop,(∃ m,W 0 m σ H)/\∀ i m σ H,W i m σ H ->
  (J.stop i H/\Q H)\/(J.go i H/\∃ N:St->Hp->Prop,(∀ σ' H',N σ' H'->∃ m',m' < m/\W (i + 1) m' σ' H')/\∀ x H',J.yld i H x H'->g x σ H' fun σ2 H2=>tf σ2 H2 fun b H3 =>
   if b=true then te σ2 H3 fun y H4=>∃ ys,H4 D=some (.lst ys)/\ys.length < aA/\N σ2 (upd H4 D (.lst (ys++[y]))) else N σ2 H3)
noncomputable def Bu (n:Nat) (fr:List Nat) (wi:TI) (g:TG) (tf:TT) (te:TE):TE:=fun σ H Q=>wi σ H fun J H1=>∀ D,H1 D=none->DU J g tf te D (pre n fr σ) (upd H1 D (.lst [])) fun H2=>Q (.ref D) H2
theorem za {own:Scope}{N:List Str}{z:CZ}{elt tg iter:Expr}{ifs:List Expr}{sc:Scope}{pos:Pos}{g:TG}{tf:TT}{te:TE}{J:It}{it D:Addr}{tn:Nat->Heap->Prop}{σ:St}{H:Hp}{s:Shared}{Q:Hp->Prop}{R:Result->Shared->Prop}
  (hg:PG (Zx X own N z) tg g) (hf:PIf (Zx X own N z) ifs tf) (he:PE (Zx X own N z) elt te) (hc:X.calm=true) (T:Turn X.prog X.w X.K tg J z.fp it tn) (fo:∀ H':Hp,(∀ b∈z.fp,H' b=none)->∀ b∈z.fp,NW (Zx X own N z) [] H' b)
  (I:Inv (Zx X own N z) [] σ H s) (st:tn 0 s.heap) (fr:∀ b∈z.fp,H b=none) (h:DU J g tf te D σ H Q) (hR:∀ σ' H' s',Inv (Zx X own N z) [] σ' H' s'->Q H'->R (.ok .next) s') :
  codeAny (model X.prog X.w) X.A (.compLoop (.ListComp elt [⟨tg,iter,ifs,0⟩] sc pos) 0 (.ref it) (.ref D) (compEnvC own z.cl z.C X.env)) R s:=by
 obtain ⟨W,⟨m0,w0⟩,turn⟩:=h
 refine AZ (fun n s'=>∃ i σ' H',Inv (Zx X own N z) [] σ' H' s'/\tn i s'.heap/\(∀ b∈z.fp,H' b=none)/\W i n σ' H') ?_ m0 ⟨0,σ,H,I,st,fr,w0⟩
 rintro n s3 ⟨i,σ3,H3,I3,st3,fr3,w3⟩
 rcases turn i n σ3 H3 w3 with ⟨stop,qn⟩ | ⟨go,Nx,hN,step⟩
 ·refine thn (T.done (Zx X own N z) rfl rfl rfl hc i [] s3 σ3 H3 _ I3 (fo H3 fr3) st3 stop) fun r s4 zq=>?_
  obtain ⟨hr,I4⟩:=zq
  subst hr
  exact hR σ3 H3 s4 I4 qn
 ·refine thn (T.item (Zx X own N z) rfl rfl rfl hc i [] s3 σ3 H3 _ I3 (fo H3 fr3) st3 go) fun r s4 zq=>?_
  obtain ⟨u,hr,h4⟩:=zq
  subst hr
  refine thn h4 fun _ s5 zq=>?_
  obtain ⟨x,H5,I5,r5,y5,st5,fr5⟩:=zq
  have I5':=I5.pinned (fo H5 fr5) (T.obj _ _ st5)
  refine thn (hg _ s5 σ3 H5 x u _ I5' r5 (step x H5 y5)) fun _ s6 zq=>?_
  obtain ⟨σ6,H6,I6,q6⟩:=zq
  have again:∀ {σ7:St}{H7:Hp}{s7:Shared},Inv (Zx X own N z) ([]++Jm z.fp s5.heap) σ7 H7 s7->Nx σ7 H7->∃ m,m < n/\∃ i σ' H',Inv (Zx X own N z) [] σ' H' s7/\tn i s7.heap/\(∀ b∈z.fp,H' b=none)/\W i m σ' H':=fun {σ7 H7 s7} I7 n7=>by
   obtain ⟨m',hm,w7⟩:=hN σ7 H7 n7
   refine ⟨m',hm,i + 1,σ7,H7,I7.Nj,T.keep _ _ _ st5 fun b hb o e=>(I7.pin (b,o) (mem_append_right _ (mem_append_right _ (SC hb e)))).1,fun b hb=>?_,w7⟩
   obtain ⟨o,e,d⟩:=T.obj _ _ st5 b hb
   exact (I7.pin (b,o) (mem_append_right _ (mem_append_right _ (SC hb e)))).2.1
  refine thn (hf _ s6 σ6 H6 _ I6 q6) fun b s7 zq=>?_
  obtain ⟨H7,I7,q7⟩:=zq
  cases b with
  | false=>exact again I7 q7
  | true =>
   refine thn (he _ s7 σ6 H7 _ I7 q7) fun y s8 zq=>?_
   obtain ⟨yv,H8,I8,r8,ys,e8,z8,n8⟩:=zq
   exact thn (HC _ s8 σ6 H8 (.ref D) [yv] (.ref D) [y] (fun _ H'=>Nx σ6 H') I8 rfl (.cons r8 .nil) ⟨D,ys,yv,rfl,rfl,e8,z8,n8⟩) fun _ s9 ⟨_,H9,I9,_,q9⟩=>again I9 q9
theorem HF {elt tg iter:Expr}{ifs:List Expr}{own sc:Scope}{pos:Pos}{ts Nc:List Str}{fr:List Nat}{g:TG}{tf:TT}{te:TE}{J:It}{it:Addr}{fp:List Addr}{tn:Nat->Heap->Prop}{cl:List (Str × Addr)}
  {pins:List (Addr × Obj)}{σ:St}{H:Hp}{s:Shared}{Q:Addr->Hp->Prop}{RR:Value->Addr->Result->Shared->Prop}{E:Value->Shared->Prop}
  (hg:∀ z,PG (Zx X own (ts++Nc) z) tg g) (hf:∀ z,PIf (Zx X own (ts++Nc) z) ifs tf) (he:∀ z,PE (Zx X own (ts++Nc) z) elt te) (hc:X.calm=true) (c:DQ own X.env.scope Nc) (hN:fr.map (X.N[·]?)=Nc.map some)
  (hc1:∀ y∈own.names,y.2 = .free->∃ c,cl.lookup y.1=some c) (hc2:∀ x c,cl.lookup x=some c->X.env.cells.lookup x=some c)
  (I:Inv X pins σ H s) (T:Turn X.prog X.w X.K tg J fp it tn) (st:tn 0 s.heap) (fo:∀ b∈fp,NW X pins H b)
  (h:∀ D,H D=none->DU J g tf te D (pre ts.length fr σ) (upd H D (.lst [])) (Q D))
  (hR:∀ D C σ' H' s',s.heap.objs.size<=C->Inv (Zx X own (ts++Nc) ⟨cl,C,s,H,fp⟩) [] σ' H' s'->Q D H'->RR (.ref D) C (.ok .next) s') :
  wpAny (model X.prog X.w) X.A (newList []) (fun acc s₃=>wpAny (model X.prog X.w) X.A (newFunctionEnv own X.env.globals cl [] X.env.qual none .none (some X.env)) (fun cenv s₄ =>
   codeAny (model X.prog X.w) X.A (.compStart (.ListComp elt [⟨tg,iter,ifs,0⟩] sc pos) 0 (.ref it) acc { cenv with scope:=relabel own X.env }) (RR acc cenv.locals) s₄) E s₃) E s:=by
 refine wpAny_newObj_type (wpAny_newFunctionEnv c.nocell (by intro y hy;simp at hy) (fun h₁ hns₁ hsb₁=>?_) c.kind)
 dsimp only at hns₁ hsb₁ ⊢
 have hlt:∀ b∈fp,b < s.heap.objs.size:=fun b hb=>let ⟨o,e,_⟩:=T.obj 0 _ st b hb;az e
 generalize hH2:s.heap.push { cls := .type "list",dict:=none,data := .seq ([]:List Value).toArray }=H2 at hns₁ hsb₁ ⊢
 have hC:H2.objs.size=s.heap.objs.size + 1:=by rw [<-hH2,Heap.size_push]
 have hDC:s.heap.objs.size≠H2.objs.size:=by rw [hC];exact Nat.ne_of_lt (Nat.lt_succ_self _)
 have hCle:s.heap.objs.size<=H2.objs.size:=by rw [hC];exact Nat.le_succ _
 have below:∀ b,b < s.heap.objs.size->b≠H2.objs.size:=fun b hb=>by rw [hC];exact Nat.ne_of_lt (Nat.lt_succ_of_lt hb)
 have old:∀ b o,s.heap.get? b=some o->h₁.get? b=some o:=fun b o e=>hsb₁.extBut b o (below b (az e)) (aq _ (hH2 ▸ aq _ e))
 have hacc:h₁.get? s.heap.objs.size=some { cls := .type "list",data := .seq #[] }:=hsb₁.extBut _ _ hDC (aq _ (hH2 ▸ au _ rfl))
 have st1:tn 0 h₁:=T.keep _ _ _ st fun b _ o e=>old b o e
 have hD0:H s.heap.objs.size=none:=I.fresh
 have I1:Inv (Zx X own (ts++Nc) ⟨cl,H2.objs.size,s,H,fp⟩) [] (pre ts.length fr σ) (upd H s.heap.objs.size (.lst [])) { s with heap:=h₁,toks:=s.toks + ([]:List (Str × Value)).length } :=
  DR I fo hlt c hc1 hc2 hN (Nat.le_refl _) hCle hDC old hns₁ hacc rfl rfl
 have fo':∀ H':Hp,(∀ b∈fp,H' b=none)->∀ b∈fp,NW (Zx X own (ts++Nc) ⟨cl,H2.objs.size,s,H,fp⟩) [] H' b:=fun H' hn b hb=>by
  obtain ⟨_,f1,f2,f3,f4,f5⟩:=fo b hb
  refine ⟨hn b hb,below b (hlt b hb),fun z=>?_,.inl hb,fun x a e=>f4 x a (hc2 x a e),fun p hp=>absurd hp (by simp)⟩
  rcases mem_cons.mp (I.Gb b z) with z | z
  ·exact f1 z
  ·exact f2 z
 have fr1:∀ b∈fp,upd H s.heap.objs.size (.lst []) b=none:=fun b hb=>by
  rw [Zq (Nat.ne_of_lt (hlt b hb))]
  exact (fo b hb).1
 have loop:=za (z:=⟨cl,H2.objs.size,s,H,fp⟩) (pos:=pos) (sc:=sc) (iter:=iter) (R:=RR (.ref s.heap.objs.size) H2.objs.size) (hg _) (hf _) (he _) hc T fo' I1 st1 fr1 (h _ hD0) fun σ' H' s' J' q=>hR _ _ σ' H' s' hCle J' q
 exact codeAny_compStart_list loop (T.self _ 0 _ _ _ st1 loop)
theorem Bv {elt tg iter:Expr}{ifs:List Expr}{own:Scope}{pos:Pos}(ts Nc:List Str) (fr:List Nat) {wi:TI}{g:TG}{tf:TT}{te:TE}(hi:PI X tg iter wi)
  (hg:∀ z,PG (Zx X own (ts++Nc) z) tg g) (hf:∀ z,PIf (Zx X own (ts++Nc) z) ifs tf) (he:∀ z,PE (Zx X own (ts++Nc) z) elt te) (hc:autoParam (X.calm=true) auR) (c:autoParam (SE own X.env.scope Nc=true) auR) (hN:autoParam (fr.map (X.N[·]?)=Nc.map some) auR)
  (hs:∀ x,foldedSetIterable iter X.env x=pure x:=by intro _;rfl):PE X (.ListComp elt [⟨tg,iter,ifs,0⟩] own pos) (Bu ts.length fr wi g tf te):=by
 have c:=HE c
 intro pins s σ H Q I h
 obtain ⟨cl,e0,hc1,hc2⟩:=Ju (scope:=own) (env:=X.env) fun y hy e=>I.ok.has y.1 (c.free y hy e)
 rw [eval_ListComp]
 refine wpAny_comprehension_free (use:=none) rfl hs e0 c.kind c.loc (thn (hi pins s σ H _ I h) fun xv s₁ h₁=>thn h₁ fun itv s₂ h₂=>?_)
 obtain ⟨it,fp,tn,J,H2,e,I2,T,st2,f2,q⟩:=h₂
 subst e
 refine HF (RR:=fun acc C=>compPost (model X.prog X.w) X.A X.xe none (EP X pins σ Q) acc C) (Q:=fun D H'=>Q (.ref D) H') hg hf he hc c hN hc1 hc2 I2 T st2 f2 q ?_
 intro D C σ' H' s' hC J' q'
 obtain ⟨m,hns,_⟩:=J'.loc
 refine ⟨m,hns,fun h' sb=>⟨.ref D,H',Jv I2 hC (comp_back I2 f2 J') J'.free fun b o hb e=>sb.extBut b o hb e,rfl,q'⟩⟩
theorem tj {i:Nat}{x:Str}{px spos:Pos}{elt tg iter:Expr}{ifs:List Expr}{own:Scope}{pos:Pos}(ts Nc:List Str) (fr:List Nat) {wi:TI}{g:TG}{tf:TT}{te:TE}(hnd:X.N.Nodup) (hi:X.N[i]?=some x) (hx:Loc X.env.scope x)
  (hit:PI X tg iter wi) (hg:∀ z,PG (Zx X own (ts++Nc) z) tg g) (hf:∀ z,PIf (Zx X own (ts++Nc) z) ifs tf) (he:∀ z,PE (Zx X own (ts++Nc) z) elt te) (hsw:autoParam (swapsWith (.ListComp elt [⟨tg,iter,ifs,0⟩] own pos) (some (.Name x px)) spos.line X.env=pure true) auR)
  (hc:autoParam (X.calm=true) auR) (c:autoParam (SE own X.env.scope Nc=true) auR) (hN:autoParam (fr.map (X.N[·]?)=Nc.map some) auR)
  (hs:∀ x,foldedSetIterable iter X.env x=pure x:=by intro _;rfl) (hfn:X.fn x=true\/X.env.scope.names.lookup x=some .local:=by first | exact .inl rfl | exact .inr rfl | assumption) :
  PS X (.Assign [.Name x px] (.ListComp elt [⟨tg,iter,ifs,0⟩] own pos) spos) (Gd (Bu ts.length fr wi g tf te) (Jk i)):=by
 have c:=HE c
 intro pins s σ H D0 I h
 obtain ⟨cl,e0,hc1,hc2⟩:=Ju (scope:=own) (env:=X.env) fun y hy e=>I.ok.has y.1 (c.free y hy e)
 rw [exec_Assign_Name_used _ _ _ _ hsw]
 refine ak (wpAny_standAt (ak ?_))
 show wpAny _ _ (do let _ <- comprehension (.ListComp elt [⟨tg,iter,ifs,0⟩] own pos) own X.env _ (newList []) false (eval iter X.env) (some (assign (.Name x px) X.env))) _ _ s
 refine ak (wpAny_mono (wpAny_comprehension_free (use:=some (assign (.Name x px) X.env)) (Q:=fun _ s'=>SP X pins D0 .next s') rfl hs e0 c.kind c.loc
  (thn (hit pins s σ H _ I h) fun xv s₁ h₁=>thn h₁ fun itv s₂ h₂=>?_)) (fun _ s' hq=>ao (ao hq)) fun _ _ e=>e)
 obtain ⟨it,fp,tn,J,H2,e,I2,T,st2,f2,q⟩:=h₂
 subst e
 refine HF (RR:=fun acc C=>compPost (model X.prog X.w) X.A X.xe (some (assign (.Name x px) X.env)) (fun _ s'=>SP X pins D0 .next s') acc C) (Q:=fun D H'=>D0.nx (σ.set i (some (.ref D))) H') hg hf he hc c hN hc1 hc2 I2 T st2 f2 q ?_
 intro D C σ' H' s' hC J' q'
 show wpAny _ _ (assign (.Name x px) X.env (.ref D)) _ _ _
 have I3:=comp_back I2 f2 J'
 refine wpAny_assign_Name (Hx I3 hnd hi hx (v := .ref D) rfl (fun s4 I4 zq=>?_) hfn)
 obtain ⟨a,sb4,ha⟩:=zq
 obtain ⟨m,hns,_⟩:=J'.loc
 have hCa:C≠a:=by
  rcases ha with rfl | ha
  ·exact Nat.ne_of_gt (Nat.lt_of_lt_of_le I2.lt hC)
  ·obtain ⟨v,o,ho,_⟩:=I2.cell x a ha
   exact Nat.ne_of_gt (Nat.lt_of_lt_of_le (az ho) hC)
 refine ⟨m,hns.sameBut sb4 hCa,fun h' sb=>⟨_,H',Jv I2 hC I4 J'.free fun b o hb e=>sb.extBut b o hb e,q'⟩⟩
end
noncomputable def Its (x:Str):It:=⟨fun i _=>i < x.cps.size,fun i H v H'=>H'=H/\∃ c,x.cps[i]?=some c/\v = .str ⟨#[c]⟩,fun i _=>x.cps.size<=i⟩
theorem xr {P:Program}{w:World}{K:aj}{tg:Expr}(x:Str) (t:Tok) (it:Addr) (n:String) (hn:n = "str_ascii_iterator" \/ n = "str_iterator"):Turn P w K tg (Its x) [it] it (fun i h=>h.IsStrIter it n x t i) where
 mem:=by simp
 obj:=fun i h st b hb=>by
  have e:b=it:=by simpa using hb
  subst e
  obtain ⟨o,e,c,d⟩:=st
  exact ⟨o,e,fun v z=>by rw [d] at z;cases z⟩
 keep:=fun i h h' st k=>let ⟨o,ho,r⟩:=st;⟨o,k it (by simp) o ho,r⟩
 item:=by
  intro X hP hw hK hc i pins s σ H E I hf st hg
  subst hP hw hK
  obtain ⟨f0,f1,f2,f3,f4,f5⟩:=hf it (by simp)
  have hi:i < x.cps.size:=hg
  have hx:x.cps[i]?=some x.cps[i]:=Array.getElem?_eq_getElem hi
  have fin:∀ h',h'.IsStrIter it n x t (i + 1)->Heap.SameBut it s.heap h'->∃ u,some (Value.str ⟨#[x.cps[i]]⟩ s.toks)=some u/\wpAny (model X.prog X.w) X.A (letOwnedTupleGo tg (.ref it) u)
    (fun _ s2=>∃ y H',Inv X pins σ H' s2/\RelV y u/\(Its x).yld i H y H'/\s2.heap.IsStrIter it n x t (i + 1)/\∀ b∈[it],H' b=none) E { s with heap:=h',toks:=s.toks + 1 }:=fun h' st' sb=>by
   have I1:Inv X pins σ H { s with heap:=h',toks:=s.toks + 1 }:=I.turned (fun b o hb e=>(sb.2 b hb).trans e) f0 f1 f3 f4 f5
   obtain ⟨o,e,c,d⟩:=id st'
   exact ⟨_,rfl,Bj (s:={ s with heap:=h',toks:=s.toks + 1 }) e c d (by rcases hn with rfl | rfl <;> decide) ⟨.str ⟨#[x.cps[i]]⟩,H,I1,⟨_,rfl⟩,⟨rfl,_,hx,rfl⟩,st',fun b hb=>(hf b hb).1⟩⟩
  rcases hn with rfl | rfl
  ·exact wpAny_pyNext_ascii_item st hx fun h' st' sb=>fin h' st' sb
  ·exact wpAny_pyNext_wide_item st hx fun h' st' sb=>fin h' st' sb
 done:=by
  intro X hP hw hK hc i pins s σ H E I hf st hg
  subst hP hw hK
  obtain ⟨f0,f1,f2,f3,f4,f5⟩:=hf it (by simp)
  have hx:x.cps[i]?=none:=by simpa using show x.cps.size<=i from hg
  rcases hn with rfl | rfl
  ·exact wpAny_pyNext_ascii_end (I.ok.hd hc) st hx fun h' eb=>⟨rfl,I.turned (t':=s.toks) (fun b o hb e=>eb b o hb e) f0 f1 f3 f4 f5⟩
  ·exact wpAny_pyNext_wide_end (I.ok.hd hc) st hx fun h' eb=>⟨rfl,I.turned (t':=s.toks) (fun b o hb e=>eb b o hb e) f0 f1 f3 f4 f5⟩
 self:=fun _ _ _ _ _ st h=>by
  rcases hn with rfl | rfl
  ·exact wpAny_pyIter_striter_ascii st h
  ·exact wpAny_pyIter_striter_wide st h
section
variable {X:Cx}{tg:Expr}
noncomputable def iStr (tl:TE):TI:=fun σ H R=>tl σ H fun x H1=>∃ y,x = .str y/\R (Its y) H1
theorem ou {l:Expr}{tl:TE}(hl:PE X l tl):PI X tg l (iStr tl):=by
 intro pins s σ H R I h
 refine thn (hl pins s σ H _ I h) fun v s1 zq=>?_
 obtain ⟨x,H1,I1,r1,y,e,q⟩:=zq
 subst e
 obtain ⟨t,rfl⟩:=r1
 have fin:∀ n:String,(n = "str_ascii_iterator" \/ n = "str_iterator")->PIE X pins σ tg R (.ref s1.heap.objs.size) { s1 with heap:=s1.heap.push { cls := .type n,data := .fields #[.str y t,.int 0 0] } }:=fun n hn=>by
  refine ⟨_,[s1.heap.objs.size],_,_,H1,rfl,I1.kept (t':=s1.toks) fun b o e=>aq _ e,xr y t _ n hn,⟨_,au _ rfl,rfl,rfl⟩,fun b hb=>?_,q⟩
  have z:b=s1.heap.objs.size:=by simpa using hb
  subst z
  exact I1.yI (Nat.le_refl _) (I1.hok.fresh (Nat.le_refl _))
 cases ha:y.cps.all (· < 128)
 ·exact wpAny_pyIter_wide ha (fin _ (.inr rfl))
 ·exact wpAny_pyIter_ascii ha (fin _ (.inl rfl))
end
noncomputable def SameB (H H':Hp):Prop:=∀ b o,H b=some o->(∀ zs,o ≠ .lst zs)->H' b=some o
theorem Zw.b {H H':Hp}(e:Zw H H'):SameB H H':=fun b o q _=>e b o q
section
variable {X:Cx}
theorem ow {bs:List Bool}:∀ {us:List Value},Vals (bs.map V.bl) us->∀ i,i < bs.length->us[i]?=some (.bool (bs.getD i false)):=by
 induction bs with
 | nil=>intro us _ i hi;simp at hi
 | cons b r ih =>
  intro us h i hi
  cases h with
  | cons h1 h2 =>
   cases h1
   cases i with
   | zero=>rfl
   | succ j=>simpa using ih h2 j (by simpa using hi)
theorem all_range (bs:List Bool):(List.range bs.length).all (fun i=>bs.getD i false)=bs.all id:=by
 induction bs with
 | nil=>rfl
 | cons b r ih =>
  rw [length_cons,List.range_succ_eq_map,all_cons,all_map,all_cons,<-ih]
  rfl
theorem xt (hc:X.calm=true):Xn X (.builtin "all") (fun xs H Q=>∃ p,∃ bs:List Bool,xs=[.ref p]/\SqL X.K H p (bs.map V.bl)/\Q (.bl (bs.all id)) H):=by
 intro pins s σ H xs us Q I r h
 obtain ⟨p,bs,rfl,hq,q⟩:=h
 obtain ⟨u,rfl,ru⟩:=vals1 r
 cases ru
 obtain ⟨its,rv,pl,hz⟩:=I.list hq
 have hlen:=rv.length
 rw [length_map] at hlen
 refine call_all_walk (wpAny_pyIter_list pl.isList ?_)
 have hne:p≠s.heap.objs.size:=by
  obtain ⟨o,_,e,_⟩:=pl
  exact Nat.ne_of_lt (az e)
 have hl2:(s.heap.push { cls := .type "list_iterator",data := .fields #[.ref p,.int 0 0] }).IsList p its.toArray:=pl.isList.at fun o e=>aq _ e
 refine ⟨_,_,_,_,_,_,fun i=>bs.getD i false,rfl,Walks.list (A:=X.A.in1) (show X.A.in1.handled=none from I.ok.hd hc) s.heap.objs.size p hne its.toArray,⟨⟨_,au _ rfl,rfl,rfl⟩,hl2⟩,?_,?_⟩
 ·intro i v s' Q' E' hv hQ
  have hi:i < bs.length:=by
   have:=(Array.getElem?_eq_some_iff.mp hv).1
   simp only [size_toArray] at this
   omega
  have e:=ow rv i hi
  rw [show its.toArray[i]?=its[i]? by simp,e] at hv
  cases hv
  exact wpAny_truthy_bool hQ
 ·intro h' tk k
  have I':Inv X pins σ H { s with heap:=h',toks:=tk }:=I.kept fun b o e=>k b o (by simpa using Nat.ne_of_lt (az e)) (aq _ e)
  refine ⟨.bl _,H,I',rfl,?_⟩
  rw [size_toArray,<-hlen,all_range]
  exact q
theorem DV {ys:List Str}:∀ {us:List Value},Vals (ys.map V.str) us->StrsAre us ys:=by
 induction ys with
 | nil=>intro us h;cases h;exact .nil
 | cons y r ih =>
  intro us h
  cases h with
  | cons h1 h2 =>
   obtain ⟨t,rfl⟩:=h1
   exact .cons _ _ (ih h2)
theorem tm:MtR X "str.join" (fun x xs H Q=>∃ sep p,∃ ys:List Str,x = .str sep/\xs=[.ref p]/\SqL X.K H p (ys.map V.str)/\(ys.map (·.length)).sum + ys.length * sep.length<=16777216/\Q (.str (Txt.join sep ys)) H):=by
 intro pins s σ H x xs v us Q I rx r h
 obtain ⟨sep,p,ys,rfl,rfl,hq,hok,q⟩:=h
 obtain ⟨t,rfl⟩:=rx
 obtain ⟨u,rfl,ru⟩:=vals1 r
 cases ru
 obtain ⟨its,rv,pl,hz⟩:=I.list hq
 exact join_list pl.isList (by simpa using DV rv) hok fun t' k=>⟨.str _,H,I.tok k,⟨t',rfl⟩,q⟩
theorem ox:SlR X (fun x lo hi H Q=>∃ y,x = .str y/\y.length<=aA/\Q (.str (Txt.slice y lo hi)) H):=by
 intro pins s σ H x v vl vu lo hi sl Q I rx hs pl pu h
 obtain ⟨y,rfl,hz,q⟩:=h
 obtain ⟨t,rfl⟩:=rx
 refine ⟨"str",_,F.slot_str_getitem.lookup,typeIs_str _ _ _,?_⟩
 have fin:∀ t' k,EP X pins σ Q (.str (Txt.slice y lo hi) t') { s with toks:=k }:=fun t' k=>⟨.str _,H,I.tok k,⟨t',rfl⟩,q⟩
 cases pl with
 | none =>
  cases pu with
  | none=>exact wpAny_getItem_str_slice (l:=none) (u:=none) (st:=none) hs rfl (post_val_or_str ⟨Nat.le_trans (Txt.slice_le y _ _) hz,fin⟩)
  | int j uj=>exact wpAny_getItem_str_slice (l:=none) (u:=some (j,uj)) (st:=none) hs rfl (post_val_or_str ⟨Nat.le_trans (Txt.slice_le y _ _) hz,fin⟩)
 | int i ui =>
  cases pu with
  | none=>exact wpAny_getItem_str_slice (l:=some (i,ui)) (u:=none) (st:=none) hs rfl (post_val_or_str ⟨Nat.le_trans (Txt.slice_le y _ _) hz,fin⟩)
  | int j uj=>exact wpAny_getItem_str_slice (l:=some (i,ui)) (u:=some (j,uj)) (st:=none) hs rfl (post_val_or_str ⟨Nat.le_trans (Txt.slice_le y _ _) hz,fin⟩)
end
noncomputable def noStar:Expr->Bool
 | .Starred ..=>false
 | _=>true
noncomputable def Yb:List Expr->Bool
 | []=>true
 | e::es=>noStar e && Yb es
theorem SG {e:Expr}{es:List Expr}{env:Env}(h:noStar e=true):starEach (e::es) env=(false,eval e env)::starEach es env:=by
 cases e <;> first | rfl | cases h
theorem TR {env:Env}:∀ {es:List Expr},Yb es=true->∀ pos,(backTo pos (starEach es env)).any (·.1)=false
 | [],_,_=>rfl
 | e::es,h,pos=>by
  unfold Yb at h
  rw [aF] at h
  rw [SG h.1]
  show (false || (backTo pos (starEach es env)).any (·.1))=false
  rw [TR h.2 pos]
  rfl
section
variable {X:Cx}{CX:CXT}{k:Nat}{f:Addr}{fd:FuncData}{ps:List Str}{sp:Sp}{dvs:List V}{ds:List Value}{E:XK}{x:Str}{p pos apos:Pos}{e o:Expr}{es:List Expr}{te to:TE}{t:TA}{id T:String}{r:List V->Hp->VK->Prop}
theorem Ma (ha:PE X e te) (hr:PA X es t) (h:autoParam (noStar e=true) auR):PA X (e::es) (qq te t):=uQ ha hr (SG h)
theorem pe_b (hc:Xn X (.builtin id) r) (hg:Gl X x) (hm:X.mg x=none) (hv:bootBuiltins x=some (.builtin id)) (ha:PA X (e::es) t) (hst:autoParam (Yb (e::es)=true) auR) (hn:autoParam (x ≠ "__name__" ) auD) (hdb:autoParam ((x == ("__debug__" : Str))=false) auD) :
  PE X (.Call (.Name x p) (e::es) [] pos) (tCB r t):=by
 have h:=hst
 unfold Yb at h
 rw [aF] at h
 exact yT hc hg hm hv ha hn hdb (SG h.1) (TR h.2 pos)
theorem xu (hc:Xn X (.type T) r) (hg:Gl X x) (hm:X.mg x=none) (hv:bootBuiltins x=some (.type T)) (ha:PA X (e::es) t) (hst:autoParam (Yb (e::es)=true) auR) (hn:autoParam (x ≠ "__name__" ) auD) (hdb:autoParam ((x == ("__debug__" : Str))=false) auD) :
  PE X (.Call (.Name x p) (e::es) [] pos) (tCB r t):=by
 have h:=hst
 unfold Yb at h
 rw [aF] at h
 exact AO hc hg hm hv ha hn hdb (SG h.1) (TR h.2 pos)
end
structure QE (X:Cx) (e:Expr) (t:TE):Prop where
 get:PE X e t
structure QA (X:Cx) (es:List Expr) (t:TA):Prop where
 get:PA X es t
structure QS (X:Cx) (st:Stmt) (t:TS):Prop where
 get:PS X st t
structure QSs (X:Cx) (st:List Stmt) (t:TS):Prop where
 get:PSs X st t
section
variable {P:Program}{w:World}{K:aj}{mg:Str->Option Value}{base:Heap}
theorem Fun.okX {x qual:Str}{st:Stmt}{f:Addr}{fd:FuncData}{N ps:List Str}{k:Nat}{sp:Sp}(F:Fun K x qual st f fd) (S:Zo N ps (Zf st)) (len:∀ vs H Q E,sp vs H Q E->vs.length=ps.length)
  (hbody:∀ (cdv:Value) (A:Around) (outer:List Env) (s:Shared) (H:Hp) (vs:List V) (Q:VK) (E:XK),Xq k (A.deeper (envOfC qual (Zf st) s.heap.objs.size f cdv))->sp vs H Q E ->
   ∃ t,QSs (XF (CXE P w) P w K mg base N qual (Zf st) f cdv A outer s H E) (Yd st) t/\t { nx:=fun _ H'=>Q .non H',rt:=Q } (start N vs) H):ZE P w K mg base (CXE P w) (k + 1) f fd ps sp:=by
 obtain ⟨oc,od,kV,doc,pm,an,cdv,ct,osl,rfl,lk,hcd⟩:=F.ex
 refine yS lk hcd S len fun A outer s H vs Q E hr hsp=>?_
 obtain ⟨t,h,q⟩:=hbody cdv A outer s H vs Q E hr hsp
 exact ⟨t,h.get,q⟩
end
section
variable {K:aj}{g:TG}{te:TE}{D:Addr}{σ:St}{H0:Hp}{Q:Hp->Prop}
end
theorem xx {zs:List Str}{m:Nat}(h:∀ z∈zs,z.length<=m):(zs.map (·.length)).sum<=zs.length * m:=by
 induction zs with
 | nil=>simp
 | cons z r ih =>
  have h1:=h z mem_cons_self
  have h2:=ih fun z' hz=>h z' (mem_cons_of_mem _ hz)
  simp only [map_cons,sum_cons,length_cons,Nat.add_mul,Nat.one_mul]
  omega
theorem xA {X:Cx}:Xa X (fun _ _ _ _=>False):=fun _ _ _ _ _ _ _ h=>by
 obtain ⟨_,_,_,_,_,_,_,_,_,_,_,_,_,_,z⟩:=h
 exact z.elim
section
variable {X:Cx}{k:Nat}{f C:Addr}{fd:FuncData}{ps:List Str}{sp:Sp}{XE:St->XK}{x m:Str}{p pos apos np cpos:Pos}{e o:Expr}{es:List Expr}{ta:TE}{t:TA}
theorem KZ (F:ZE X.prog X.w X.K X.mg X.base (CXE X.prog X.w) k f fd ps sp) (hr:Xq k X.A) (hg:Gl X x) (hm:X.mg x=some (.ref f)) (hk:keepIn X.K (.ref f)=true) (hb:Binds X.K fd ps []) (hx:Xa X XE)
  (ha:QA X (e::es) t) (hst:autoParam (Yb (e::es)=true) auR) (hdb:autoParam ((x == ("__debug__" : Str))=false) auD):QE X (.Call (.Name x p) (e::es) [] pos) (Js sp XE t):=by
 have h:=hst
 unfold Yb at h
 rw [aF] at h
 exact ⟨xm F hr hg hm hk hb hx ha.get hdb (SG h.1) (TR h.2 pos)⟩
end
section
variable {P:Program}{w:World}{K:aj}{mg:Str->Option Value}{base:Heap}{N:List Str}{qual:Str}{scope:Scope}{f C:Addr}{cdv:Value}{A:Around}{outer:List Env}{s:Shared}{H:Hp}{E:XK}
 {x:Str}{np cpos pos:Pos}{e₀:Expr}{rest:List Expr}{t:TA}
theorem xB (c:DN K C) (hm:mg x=some (.ref C)) (ha:QA (XF (CXE P w) P w K mg base N qual scope f cdv A outer s H E) (e₀::rest) t)
  (hg:autoParam (Gl (XF (CXE P w) P w K mg base N qual scope f cdv A outer s H E) x) auR) (hst:autoParam (Yb (e₀::rest)=true) auR) (hdb:autoParam ((x == ("__debug__" : Str))=false) auD) :
  QS (XF (CXE P w) P w K mg base N qual scope f cdv A outer s H E) (.Raise (some (.Call (.Name x np) (e₀::rest) [] cpos)) none pos) (xn C E t):=by
 have h:=hst
 unfold Yb at h
 rw [aF] at h
 exact ⟨xo c hm ha.get hg hdb (SG h.1) (TR h.2 cpos)⟩
end
section
variable {X:Cx}
end
inductive EqL (R:V->V->Bool->Prop):List V->List V->Bool->Prop
 | nil:EqL R [] [] true
 | left (y:V) (ys:List V):EqL R [] (y::ys) false
 | right (x:V) (xs:List V):EqL R (x::xs) [] false
 | cons {x y:V}{xs ys:List V}{b c:Bool}:R x y b->EqL R xs ys c->EqL R (x::xs) (y::ys) (b && c)
noncomputable def EqN (K:aj) (H:Hp):Nat->V->V->Bool->Prop
 | 0,x,y,b=>(UT x=true/\UT y=true/\b=eqV x y)\/∃ a,x = .ref a/\y = .ref a/\b=true
 | n + 1,x,y,b=>EqN K H n x y b\/∃ a c xs ys,x = .ref a/\y = .ref c/\((SqT K H a xs/\SqT K H c ys)\/(SqL K H a xs/\SqL K H c ys))/\EqL (EqN K H n) xs ys b
theorem EqL.ans {R:V->V->Bool->Prop}{xs ys:List V}{b:Bool}(h:EqL R xs ys b) :
  ∃ e:Nat->Bool,(∀ (j:Nat) x y,xs[j]?=some x->ys[j]?=some y->R x y (e j))/\b=((List.range (min xs.length ys.length)).all e && xs.length == ys.length):=by
 induction h with
 | nil=>exact ⟨fun _=>true,fun j x y e=>by simp at e,rfl⟩
 | left y ys=>exact ⟨fun _=>true,fun j x y e=>by simp at e,by simp⟩
 | right x xs=>exact ⟨fun _=>true,fun j x y _ e=>by simp at e,by simp⟩
 | @cons x y xs ys b c hr _ ih =>
  obtain ⟨e,h1,h2⟩:=ih
  refine ⟨fun j=>match j with | 0=>b | j + 1=>e j,fun j x' y' ex ey=>?_,?_⟩
  ·cases j with
   | zero =>
    have e1:x=x':=by simpa using ex
    have e2:y=y':=by simpa using ey
    subst e1 e2
    exact hr
   | succ j=>exact h1 j x' y' (by simpa using ex) (by simpa using ey)
  ·have e1:min (x::xs).length (y::ys).length=min xs.length ys.length + 1:=by simp [Nat.min_def];split <;> rfl
   have e3:((x::xs).length == (y::ys).length)=(xs.length == ys.length):=by simp
   rw [e1,e3,List.range_succ_eq_map,all_cons,all_map,h2,Bool.and_assoc]
   rfl
section
variable {X:Cx}{pins:List (Addr × Obj)}{σ:St}{H:Hp}{s:Shared}
theorem xC (I:Inv X pins σ H s):∀ (n:Nat) {A:Around}{x y:V}{u v:Value}{b:Bool},EqN X.K H n x y b->RelV x u->RelV y v->A.units + n < cLine->SeqAt.EqAt A s u v b:=by
 intro n
 induction n with
 | zero =>
  intro A x y u v b h ru rv _
  rcases h with ⟨fx,fy,rfl⟩ | ⟨a,rfl,rfl,rfl⟩
  ·exact yW ru rv fx fy
  ·cases ru
   cases rv
   exact SeqAt.EqAt.same _
 | succ n ih =>
  intro A x y u v b h ru rv hu
  rcases h with h | ⟨a,c,xs,ys,rfl,rfl,hq,hl⟩
  ·exact ih h ru rv (by omega)
  ·cases ru
   cases rv
   by_cases hac:a=c
   ·subst hac
    have hb:b=true:=by
     have key:∀ {zs ws:List V}{b:Bool},zs=ws->EqL (EqN X.K H n) zs ws b->(∀ (j:Nat) z,zs[j]?=some z->∀ b',EqN X.K H n z z b'->b'=true)->b=true:=by
      intro zs ws b e hl hz
      induction hl with
      | nil=>rfl
      | left=>cases e
      | right=>cases e
      | cons h1 _ ih2 =>
       cases e
       rw [hz 0 _ rfl _ h1,ih2 rfl fun j z hj b' hb=>hz (j + 1) z (by simpa using hj) b' hb]
       rfl
     have refl_true:∀ (n:Nat) (z:V) (b':Bool),EqN X.K H n z z b'->b'=true:=by
      intro n
      induction n with
      | zero =>
       intro z b' h
       rcases h with ⟨f,_,rfl⟩ | ⟨_,_,_,rfl⟩
       ·exact xh f
       ·rfl
      | succ n ihn =>
       intro z b' h
       rcases h with h | ⟨a,c,xs,ys,rfl,e,hq,hl⟩
       ·exact ihn z b' h
       ·cases e
        have exy:xs=ys:=by
         rcases hq with ⟨h1,h2⟩ | ⟨h1,h2⟩
         ·exact I.QK h1 h2
         ·exact I.Ni h1 h2
        have key2:∀ {zs ws:List V}{b:Bool},zs=ws->EqL (EqN X.K H n) zs ws b->b=true:=by
         intro zs ws b e hl
         induction hl with
         | nil=>rfl
         | left=>cases e
         | right=>cases e
         | cons h1 _ ih2 =>
          cases e
          rw [ihn _ _ h1,ih2 rfl]
          rfl
        exact key2 exy hl
     have exy:xs=ys:=by
      rcases hq with ⟨h1,h2⟩ | ⟨h1,h2⟩
      ·exact I.QK h1 h2
      ·exact I.Ni h1 h2
     exact key exy hl fun j z hj b' hb=>refl_true n z b' hb
    subst hb
    exact SeqAt.EqAt.same _
   ·obtain ⟨e,he,rfl⟩:=hl.ans
    refine SeqAt.EqAt.of_refs hac ?_
    rcases hq with ⟨h1,h2⟩ | ⟨h1,h2⟩
    ·obtain ⟨us,r1,p1,_⟩:=I.tuple h1
     obtain ⟨ws,r2,p2,_⟩:=I.tuple h2
     have l1:=r1.length
     have l2:=r2.length
     have z:=SeqAt.RcAt.tuples (A:=A) (e:=e) (show s.heap.IsTuple a us.toArray from p1) (show s.heap.IsTuple c ws.toArray from p2) (by omega) (fun j j1 j2=>?_)
     ·rw [size_toArray,size_toArray,<-l1,<-l2] at z
      exact z
     ·simp only [size_toArray] at j1 j2
      obtain ⟨u,hu',ru⟩:=r1.get (aC (show j < xs.length by omega))
      obtain ⟨v,hv',rv⟩:=r2.get (aC (show j < ys.length by omega))
      have z1:us[j]=u:=by rw [aC j1] at hu';exact Option.some.inj hu'
      have z2:ws[j]=v:=by rw [aC j2] at hv';exact Option.some.inj hv'
      simp only [List.getElem_toArray]
      rw [z1,z2]
      exact ih (he j _ _ (aC (show j < xs.length by omega)) (aC (show j < ys.length by omega))) ru rv (by show A.units + 1 + n < cLine;omega)
    ·obtain ⟨us,r1,p1,_⟩:=I.list h1
     obtain ⟨ws,r2,p2,_⟩:=I.list h2
     have l1:=r1.length
     have l2:=r2.length
     by_cases hsz:xs.length=ys.length
     ·have z:=SeqAt.RcAt.lists (A:=A) (e:=e) p1.isList p2.isList (by simp only [size_toArray];omega) (by omega) (fun j j1 j2=>?_)
      ·rw [size_toArray,<-l1] at z
       rw [<-hsz,Nat.min_self,beq_self_eq_true,Bool.and_true]
       exact z
      ·simp only [size_toArray] at j1 j2
       obtain ⟨u,hu',ru⟩:=r1.get (aC (show j < xs.length by omega))
       obtain ⟨v,hv',rv⟩:=r2.get (aC (show j < ys.length by omega))
       have z1:us[j]=u:=by rw [aC j1] at hu';exact Option.some.inj hu'
       have z2:ws[j]=v:=by rw [aC j2] at hv';exact Option.some.inj hv'
       simp only [List.getElem_toArray]
       rw [z1,z2]
       exact ih (he j _ _ (aC (show j < xs.length by omega)) (aC (show j < ys.length by omega))) ru rv (by show A.units + 1 + n < cLine;omega)
     ·rw [show (xs.length == ys.length)=false by simpa using hsz,Bool.and_false]
      exact SeqAt.RcAt.lists_lengths p1.isList p2.isList (by simp only [size_toArray,bne_iff_ne,ne_eq];omega) (by omega)
noncomputable def rEqD (K:aj) (neg:Bool):R2:=fun x y H Q=>∃ n a c xs ys b,n<=90/\x = .ref a/\y = .ref c/\((SqT K H a xs/\SqT K H c ys)\/(SqL K H a xs/\SqL K H c ys))/\EqL (EqN K H n) xs ys b/\Q (.bl (if neg then !b else b)) H
theorem QL (I:Inv X pins σ H s) {n:Nat}{A:Around}{xs ys:List V}{us ws:List Value}{e:Nat->Bool}(r1:Vals xs us) (r2:Vals ys ws) (he:∀ (j:Nat) x y,xs[j]?=some x->ys[j]?=some y->EqN X.K H n x y (e j)) (hu:A.units + 1 + n < cLine) :
  ∀ j (h1:j < us.toArray.size) (h2:j < ws.toArray.size),SeqAt.EqAt A.in1 s us.toArray[j] ws.toArray[j] (e j):=by
 intro j j1 j2
 have l1:=r1.length
 have l2:=r2.length
 simp only [size_toArray] at j1 j2
 obtain ⟨u,hu',ru⟩:=r1.get (aC (show j < xs.length by omega))
 obtain ⟨v,hv',rv⟩:=r2.get (aC (show j < ys.length by omega))
 have z1:us[j]=u:=by rw [aC j1] at hu';exact Option.some.inj hu'
 have z2:ws[j]=v:=by rw [aC j2] at hv';exact Option.some.inj hv'
 simp only [List.getElem_toArray]
 rw [z1,z2]
 exact xC I n (he j _ _ (aC (show j < xs.length by omega)) (aC (show j < ys.length by omega))) ru rv hu
end
section
variable {X:Cx}
theorem oy (hu:X.A.units + 100 < cLine):OpR X (compareOp .Eq) (rEqD X.K false):=by
 intro pins s σ H x y v u Q I rx ry h
 obtain ⟨n,a,c,xs,ys,b,hn,rfl,rfl,hq,hl,q⟩:=h
 cases rx
 cases ry
 obtain ⟨e,he,rfl⟩:=hl.ans
 rcases hq with ⟨h1,h2⟩ | ⟨h1,h2⟩
 ·obtain ⟨us,r1,p1,_⟩:=I.tuple h1
  obtain ⟨ws,r2,p2,_⟩:=I.tuple h2
  refine SeqAt.eq_tupleAt (show s.heap.IsTuple a us.toArray from p1) (show s.heap.IsTuple c ws.toArray from p2) (by omega) (QL I r1 r2 he (by omega)) ?_
  rw [size_toArray,size_toArray,<-r1.length,<-r2.length]
  exact ⟨.bl _,H,I,rfl,q⟩
 ·obtain ⟨us,r1,p1,_⟩:=I.list h1
  obtain ⟨ws,r2,p2,_⟩:=I.list h2
  have l1:=r1.length
  have l2:=r2.length
  by_cases hsz:xs.length=ys.length
  ·refine SeqAt.eq_listAt p1.isList p2.isList (by simp only [size_toArray];omega) (by omega) (QL I r1 r2 he (by omega)) ?_
   rw [<-hsz,Nat.min_self,beq_self_eq_true,Bool.and_true] at q
   rw [size_toArray,<-l1]
   exact ⟨.bl _,H,I,rfl,q⟩
  ·rw [show (xs.length == ys.length)=false by simpa using hsz,Bool.and_false] at q
   exact SeqAt.eq_list_lengthsAt p1.isList p2.isList (by simp only [size_toArray,bne_iff_ne,ne_eq];omega) (by omega) ⟨.bl false,H,I,rfl,q⟩
theorem oz (hu:X.A.units + 100 < cLine):OpR X (compareOp .NotEq) (rEqD X.K true):=by
 intro pins s σ H x y v u Q I rx ry h
 obtain ⟨n,a,c,xs,ys,b,hn,rfl,rfl,hq,hl,q⟩:=h
 cases rx
 cases ry
 obtain ⟨e,he,rfl⟩:=hl.ans
 rcases hq with ⟨h1,h2⟩ | ⟨h1,h2⟩
 ·obtain ⟨us,r1,p1,_⟩:=I.tuple h1
  obtain ⟨ws,r2,p2,_⟩:=I.tuple h2
  refine SeqAt.RcNeAt.tuples (show s.heap.IsTuple a us.toArray from p1) (show s.heap.IsTuple c ws.toArray from p2) (by omega) (QL I r1 r2 he (by omega)) _ _ _ _ ?_
  rw [size_toArray,size_toArray,<-r1.length,<-r2.length]
  exact ⟨.bl _,H,I,rfl,q⟩
 ·obtain ⟨us,r1,p1,_⟩:=I.list h1
  obtain ⟨ws,r2,p2,_⟩:=I.list h2
  have l1:=r1.length
  have l2:=r2.length
  by_cases hsz:xs.length=ys.length
  ·refine SeqAt.RcNeAt.lists p1.isList p2.isList (by simp only [size_toArray];omega) (by omega) (QL I r1 r2 he (by omega)) _ _ _ _ ?_
   rw [<-hsz,Nat.min_self,beq_self_eq_true,Bool.and_true] at q
   rw [size_toArray,<-l1]
   exact ⟨.bl _,H,I,rfl,q⟩
  ·rw [show (xs.length == ys.length)=false by simpa using hsz,Bool.and_false] at q
   exact SeqAt.RcNeAt.lists_lengths p1.isList p2.isList (by simp only [size_toArray,bne_iff_ne,ne_eq];omega) (by omega) _ _ _ _ ⟨.bl true,H,I,rfl,q⟩
end
section
variable {X:Cx}{k:Nat}{f C:Addr}{fd:FuncData}{ps:List Str}{sp:Sp}{dvs:List V}{ds:List Value}{XE:St->XK}{x:Str}{p pos:Pos}{e:Expr}{es:List Expr}{t:TA}
noncomputable def oA (C:Addr) (sp:Sp) (dvs:List V) (XE:St->XK) (t:TA):TE:=fun σ H Q=>t σ H fun vs H1=>∀ x dx,H1 x=none->H1 dx=none->dx≠x ->
 sp (.ref x::(vs++dvs)) (upd (upd H1 dx (.own x)) x (.ins C dx [])) (fun v H2=>v = .non/\Q (.ref x) H2) (XE σ)
theorem zb {pins:List (Addr × Obj)}{σ:St}{H:Hp}{s:Shared}{Q:VK}{us:List Value}{vs:List V}(M:Mk X.K C f) (F:ZE X.prog X.w X.K X.mg X.base (CXE X.prog X.w) k f fd ps sp) (hr:Xq (k + 1) X.A) (hb:Binds X.K fd ps ds) (hd:Vals dvs ds)
  (hx:Xa X XE) (I:Inv X pins σ H s) (r:Vals vs us)
  (h:∀ x dx,H x=none->H dx=none->dx≠x->sp (.ref x::(vs++dvs)) (upd (upd H dx (.own x)) x (.ins C dx [])) (fun v H2=>v = .non/\Q (.ref x) H2) (XE σ)) :
  wpAny (model X.prog X.w) X.A (call (.ref C) us) (EP X pins σ Q) X.xe s:=by
 have hq:=h (s.heap.objs.size + 1) s.heap.objs.size (I.hok.fresh (Nat.le_succ _)) (I.hok.fresh (Nat.le_refl _)) (Nat.ne_of_lt (Nat.lt_succ_self _))
 have I2:=Inv.made (C:=C) I
 have r2:Vals (V.ref (s.heap.objs.size + 1)::(vs++dvs)) (Value.ref (s.heap.objs.size + 1)::(us++ds)) := .cons rfl (r.append hd)
 have hl:(Value.ref (s.heap.objs.size + 1)::us++ds).length=ps.length:=by
  have e:=r2.length
  rw [F.len _ _ _ _ hq] at e
  exact e.symm
 refine wpAny_call (yQ (f:=f) I.kIn M.makes M.init (beq_iff_eq.mp M.fn) (codeAny_mono (F.run _ X.stack _ _ ⟨Value.ref (s.heap.objs.size + 1)::us,[]⟩ (Value.ref (s.heap.objs.size + 1)::(us++ds)) _ _ (XE σ) (hr.make C us [])
  (I2.env0.make C us []) (hb _ (Value.ref (s.heap.objs.size + 1)::us) I2.kIn hl) r2 hq) fun r s' hq'=>?_))
 cases r with
 | error e=>exact hx pins σ _ _ e s' I2 hq'
 | ok fl =>
  cases fl with
  | ret u =>
   obtain ⟨v,H',I3,rv,ev,q3⟩:=I2.after hq'
   subst ev
   exact ⟨rv,⟨V.ref (s.heap.objs.size + 1),H',I3,rfl,q3⟩⟩
  | next=>exact False.elim hq'
  | brk=>exact False.elim hq'
  | cont=>exact False.elim hq'
theorem tq (M:Mk X.K C f) (F:ZE X.prog X.w X.K X.mg X.base (CXE X.prog X.w) k f fd ps sp) (hr:Xq (k + 1) X.A) (hg:Gl X x) (hm:X.mg x=some (.ref C)) (hb:Binds X.K fd ps ds) (hd:Vals dvs ds) (hx:Xa X XE)
  (ha:QA X (e::es) t) (hst:autoParam (Yb (e::es)=true) auR) (hdb:autoParam ((x == ("__debug__" : Str))=false) auD):QE X (.Call (.Name x p) (e::es) [] pos) (oA C sp dvs XE t):=by
 have h:=hst
 unfold Yb at h
 rw [aF] at h
 refine ⟨?_⟩
 intro pins s σ H Q I h'
 refine wpAny_Call_Name_kw (Nh I hg hm ?_ hdb)
 refine callWith_K (h₀:=X.base) I.ok.mod.kin M.kp (thn (ha.get pos pins s σ H _ I h') fun us s1 ⟨vs,H1,I1,r,q⟩=>⟨I1.kIn,?_⟩) (SG h.1) (TR h.2 pos)
 exact zb M F hr hb hd hx I1 r q
end
theorem Xq.YW {k:Nat}{A:Around}(r:Xq k A):A.units + 100 < cLine:=by have:=r.un;omega
section
variable {X:Cx}{a b c d:Expr}{ta tb tc td:TE}{pos:Pos}
noncomputable def tB (r r' r2:R2) (ta tb tc td:TE):TE:=fun σ H Q=>ta σ H fun x H1=>tb σ H1 fun y H2=>r x y H2 fun z H3=>∃ k,z = .bl k /\
 (if k=true then tc σ H3 fun w' H4=>r' y w' H4 fun z' H5=>∃ k',z' = .bl k'/\(if k'=true then td σ H5 fun w2 H6=>r2 w' w2 H6 Q else Q (.bl false) H5) else Q (.bl false) H3)
theorem zc {op op' op2:CmpOp}{r r' r2:R2}(ho:OpR X (compareOp op) r) (ho':OpR X (compareOp op') r') (ho2:OpR X (compareOp op2) r2) (ha:PE X a ta) (hb:PE X b tb) (hc:PE X c tc) (hd:PE X d td)
  (hm:lastMarks [op,op',op2] [b,c,d]=false:=by with_unfolding_all rfl):PE X (.Compare a [op,op',op2] [b,c,d] pos) (tB r r' r2 ta tb tc td):=by
 intro pins s σ H Q I h
 refine Compare_chain (thn (ha pins s σ H _ I h) fun v s1 ⟨x,H1,I1,r1,q1⟩=>chain_link (thn (hb pins s1 σ H1 _ I1 q1) fun u s2 ⟨y,H2,I2,r2,q2⟩ =>
  thn (ho pins s2 σ H2 x y v u _ I2 r1 r2 q2) fun d s3 ⟨z,H3,I3,r3,k,e,q3⟩=>?_)) hm
 subst e
 cases r3
 refine wpAny_truthy_bool ?_
 cases k with
 | false=>exact ite_ff ⟨.bl false,H3,I3,rfl,q3⟩
 | true =>
  refine ite_tt (chain_link (thn (hc pins s3 σ H3 _ I3 q3) fun w' s4 ⟨z',H4,I4,r4,q4⟩=>thn (ho' pins s4 σ H4 y z' u w' _ I4 r2 r4 q4) fun d' s5 zq=>?_))
  obtain ⟨z2,H5,I5,r5,k2,e2,q5⟩:=zq
  subst e2
  cases r5
  refine wpAny_truthy_bool ?_
  cases k2 with
  | false=>exact ite_ff ⟨.bl false,H5,I5,rfl,q5⟩
  | true=>exact ite_tt (chain_last (thn (hd pins s5 σ H5 _ I5 q5) fun w2 s6 ⟨z3,H6,I6,r6,q6⟩=>ho2 pins s6 σ H6 z' z3 w' w2 Q I6 r4 r6 q6))
end
theorem PX (x:Str):x.length=x.cps.toList.length:=by
 show x.cps.size=_
 simp
theorem SH (x y:Str):(x++y).cps.toList=x.cps.toList++y.cps.toList:=by
 show (x.cps++y.cps).toList=_
 simp
theorem Gv (c:Nat):(⟨#[c]⟩:Str).cps.toList=[c]:=rfl
theorem HG {x:Str}{j:Int}(h0:0<=j) (h:j<=x.cps.toList.length):(Txt.slice x none (some j)).cps.toList=x.cps.toList.take j.toNat:=by
 have:=eq_of_beq (slice_closes_to (x:=x) (j:=j) ⟨h0,h⟩)
 rw [this]
 simp
theorem sl_ft {x:Str}{i j:Int}(h0:0<=i) (h1:i<=j) (h:j<=x.cps.toList.length):(Txt.slice x (some i) (some j)).cps.toList=(x.cps.toList.drop i.toNat).take (j - i).toNat:=by
 have:=eq_of_beq (slice_closes (x:=x) (i:=i) (j:=j) ⟨h0,h1,h⟩)
 rw [this]
theorem tD (zs:List Str):(Txt.join "" zs).cps.toList=(zs.map fun z=>z.cps.toList).flatten:=by
 show (Builtin.Str.glued "" zs).cps.toList=_
 rw [StrLaws.glued_eq_join]
 induction zs with
 | nil=>rfl
 | cons a l ih =>
  cases l with
  | nil=>simp [Str.join]
  | cons b r =>
   show ((a++("" : Str))++Str.join "" (b::r)).cps.toList=_
   rw [SH,SH,ih]
   rw [show ("" : Str).cps.toList=[] from rfl]
   simp
section
variable {X:Cx}
theorem SJ:MtR X "list.append" Gn:=HC
theorem DX:MtR X "list.extend" Gp:=AU
theorem tE:MtR X "list.pop" rPop:=om
section
variable {K:aj}
end
end
section
variable {prog:Program}{w:World}{A:Around}{s:Shared}{R:Result->Shared->Prop}
variable {I:Addr}{fp wr:List Addr}{n:Nat}{P:Nat->Value->Prop}{St:Nat->Shared->Prop}{G:Array GenState->Array GenState->Prop}
end
section
variable {X:Cx}{e:Expr}{t:TE}{x y:Str}{p p' pos pos':Pos}
end
section
variable {X:Cx}{tg:Expr}
noncomputable def iSeq (K:aj) (tl:TE):TI:=fun σ H R=>tl σ H fun x H1=>∃ a,x = .ref a/\(((∃ xs,SqL K H1 a xs)/\R (Itl K a) H1)\/((∃ xs,SqT K H1 a xs)/\R (Itt K a) H1))
theorem oB {l:Expr}{tl:TE}(hl:PE X l tl):PI X tg l (iSeq X.K tl):=by
 intro pins s σ H R I h
 refine thn (hl pins s σ H _ I h) fun v s1 zq=>?_
 obtain ⟨x,H1,I1,r1,q1⟩:=zq
 obtain ⟨a,e,q⟩:=q1
 subst e
 cases r1
 rcases q with ⟨⟨xs,hq⟩,q⟩ | ⟨⟨xs,hq⟩,q⟩
 ·obtain ⟨its,rv,p,hz⟩:=I1.list hq
  refine wpAny_pyIter_list p.isList ?_
  refine ⟨s1.heap.objs.size,[s1.heap.objs.size],_,_,H1,rfl,I1.kept (t':=s1.toks) fun b o e=>aq _ e,Az a _,⟨_,au _ rfl,rfl,rfl⟩,fun b hb=>?_,q⟩
  have e:b=s1.heap.objs.size:=by simpa using hb
  subst e
  exact I1.yI (Nat.le_refl _) (I1.hok.fresh (Nat.le_refl _))
 ·obtain ⟨its,rv,p,hz⟩:=I1.tuple hq
  refine wpAny_pyIter_tuple (show s1.heap.IsTuple a its.toArray from p) ?_
  refine ⟨s1.heap.objs.size,[s1.heap.objs.size],_,_,H1,rfl,I1.kept (t':=s1.toks) fun b o e=>aq _ e,Dr a _,⟨_,au _ rfl,rfl,rfl⟩,fun b hb=>?_,q⟩
  have e:b=s1.heap.objs.size:=by simpa using hb
  subst e
  exact I1.yI (Nat.le_refl _) (I1.hok.fresh (Nat.le_refl _))
theorem Ea:∀ {cs:List String}{us:List Value},Vals (cs.map V.ty) us->us=cs.map Value.type
 | [],_,.nil=>rfl
 | _::_,_,.cons r rs=>by rw [map_cons,Ea rs];cases r;rfl
noncomputable def rIsiS (K:aj):List V->Hp->VK->Prop:=fun xs H Q=>∃ (a tp:Addr) (cs:List String) (b:Bool) (T:String),xs=[.ref a,.ref tp]/\(((∃ ys,H a=some (.lst ys))/\T = "list")\/((∃ ys,H a=some (.tup ys))/\T = "tuple")) /\
 H tp=some (.tup (cs.map V.ty))/\kitAny K (.type T) (cs.map Value.type)=some b/\Q (.bl b) H
theorem zf:Xn X (.builtin "isinstance") (rIsiS X.K):=by
 intro pins s σ H xs us Q I r h
 obtain ⟨a,tp,cs,b,T,rfl,ht,hT,e,q⟩:=h
 obtain ⟨u,w',rfl,r1,r2⟩:=vals2 r
 cases r1
 cases r2
 obtain ⟨_,its,rv,ob,ho,hcl,n,hd⟩:=(show YH X.prog X.w H s.heap tp (.tup (cs.map V.ty)) from I.hok tp _ hT)
 have ei:=Ea rv
 subst ei
 obtain ⟨c0,dd,dt,sl⟩:=ob
 dsimp only at hcl hd
 subst hcl hd
 rcases ht with ⟨⟨ys,ea⟩,rfl⟩ | ⟨⟨ys,ea⟩,rfl⟩
 ·obtain ⟨_,_,n',_,h1⟩:=(show YH X.prog X.w H s.heap a (.lst ys) from I.hok a _ ea)
  exact kia_tup kitx_list I.kIn ⟨_,h1,rfl⟩ ho e (fun z=>nomatch z) fun tk=>⟨.bl b,H,I.tok tk,rfl,q⟩
 ·obtain ⟨_,_,_,p⟩:=(show YH X.prog X.w H s.heap a (.tup ys) from I.hok a _ ea)
  obtain ⟨o,h1,h2,_⟩:=p
  exact kia_tup PySem.W.kitx_tuple I.kIn ⟨o,h1,h2⟩ ho e (fun z=>nomatch z) fun tk=>⟨.bl b,H,I.tok tk,rfl,q⟩
end
structure Eb (K:aj) (x qual:Str) (st:Stmt) (f:Addr) (fd:FuncData) (ds:List Value):Prop where
 ex:∃ (oc:Value) (od:Option Addr) (kV doc pm:Value) (an:Option Addr) (cdv ct:Value) (osl:Array (Option Value)) (D:Addr) (o:Obj) (n:Nat),
  fd=PySem.W.fnOf x qual (Xh st) (Yd st) (Zf st) (.ref D) kV doc pm an cdv ct/\K.lookup f=some ⟨oc,od,.func fd,osl⟩/\PySem.W.codeIn K cdv qual=true/\K.lookup D=some o/\o.data = .seq ds.toArray n
 kp:keepIn K (.ref f)=true
section
variable {P:Program}{w:World}{K:aj}{mg:Str->Option Value}{base:Heap}
theorem Eb.okX {x qual:Str}{st:Stmt}{f:Addr}{fd:FuncData}{ds:List Value}{N ps:List Str}{k:Nat}{sp:Sp}(F:Eb K x qual st f fd ds) (S:Zo N ps (Zf st)) (len:∀ vs H Q E,sp vs H Q E->vs.length=ps.length)
  (hbody:∀ (cdv:Value) (A:Around) (outer:List Env) (s:Shared) (H:Hp) (vs:List V) (Q:VK) (E:XK),Xq k (A.deeper (envOfC qual (Zf st) s.heap.objs.size f cdv))->sp vs H Q E ->
   ∃ t,QSs (XF (CXE P w) P w K mg base N qual (Zf st) f cdv A outer s H E) (Yd st) t/\t { nx:=fun _ H'=>Q .non H',rt:=Q } (start N vs) H):ZE P w K mg base (CXE P w) (k + 1) f fd ps sp:=by
 obtain ⟨oc,od,kV,doc,pm,an,cdv,ct,osl,D,o,n,rfl,lk,hcd,_,_⟩:=F.ex
 refine yS lk hcd S len fun A outer s H vs Q E hr hsp=>?_
 obtain ⟨t,h,q⟩:=hbody cdv A outer s H vs Q E hr hsp
 exact ⟨t,h.get,q⟩
theorem Eb.binds {x qual:Str}{st:Stmt}{f:Addr}{fd:FuncData}{ds ds':List Value}{ps:List Str}(F:Eb K x qual st f fd ds)
  (h:∀ (D:Addr) (o:Obj) (n:Nat) (kV doc pm:Value) (an:Option Addr) (cdv ct:Value) (s:Shared) (us:List Value),s.heap.get? D=some o->o.data = .seq ds.toArray n->(us++ds').length=ps.length->BindsTo s (PySem.W.fnOf x qual (Xh st) (Yd st) (Zf st) (.ref D) kV doc pm an cdv ct) ⟨us,[]⟩ (ps.zip (us++ds'))):Binds K fd ps ds':=by
 obtain ⟨oc,od,kV,doc,pm,an,cdv,ct,osl,D,o,n,rfl,lk,hcd,hD,ho⟩:=F.ex
 intro s us KI hl
 exact h D o n kV doc pm an cdv ct s us (KI _ _ hD) ho hl
end
section
variable {X:Cx}
end
end L2
namespace MA
theorem xD (a b:Int):Int.gcd b (a.fmod b)=Int.gcd a b:=by
 rw [Int.fmod_def,Int.gcd_sub_mul_left_right,Int.gcd_comm]
theorem tG (a b:Int) (h:b≠0):(a.fmod b).natAbs < b.natAbs:=by
 rcases Int.lt_or_gt_of_ne h with hn | hp
 ·have h1:(-a).fmod (-b) = -(a.fmod b):=by rw [Int.neg_fmod_neg]
  have h2:=Int.fmod_lt_of_pos (-a) (show 0 < -b by omega)
  have h3:=Int.fmod_nonneg_of_pos (-a) (show 0 < -b by omega)
  omega
 ·have h2:=Int.fmod_lt_of_pos a hp
  have h3:=Int.fmod_nonneg_of_pos a hp
  omega
structure Low (p q:Int):Prop where
 pos:0 < q
 cop:Int.gcd p q=1
theorem Gw {a b:Int}(h:b≠0):(0:Int) < (Int.gcd a b:Int):=by
 have:Int.gcd a b≠0:=fun z=>h (Int.gcd_eq_zero_iff.mp z).2
 omega
theorem oC {a b d:Int}(hb:b≠0) (hd:d=(Int.gcd a b:Int)\/d = -(Int.gcd a b:Int)) (hs:0 < b * d) :
  Low (a.fdiv d) (b.fdiv d)/\a.fdiv d * b=a * b.fdiv d/\(a.fdiv d).natAbs<=a.natAbs/\(b.fdiv d).natAbs<=b.natAbs:=by
 have gp:=Gw (a:=a) hb
 have hd0:d≠0:=by rcases hd with h | h <;> omega
 have na:d.natAbs=Int.gcd a b:=by rcases hd with h | h <;> omega
 have da:d ∣ a:=by
  rcases hd with h | h
  ·rw [h];exact Int.gcd_dvd_left a b
  ·rw [h];exact Int.neg_dvd.mpr (Int.gcd_dvd_left a b)
 have db:d ∣ b:=by
  rcases hd with h | h
  ·rw [h];exact Int.gcd_dvd_right a b
  ·rw [h];exact Int.neg_dvd.mpr (Int.gcd_dvd_right a b)
 have ea:=Int.fdiv_mul_cancel da
 have eb:=Int.fdiv_mul_cancel db
 refine ⟨⟨?_,?_⟩,?_,Int.natAbs_fdiv_le_natAbs a d,Int.natAbs_fdiv_le_natAbs b d⟩
 ·rw [<-eb,Int.mul_assoc] at hs
  have hdd:0 < d * d:=by
   rcases Int.lt_or_gt_of_ne hd0 with h | h
   ·exact Int.mul_pos_of_neg_of_neg h h
   ·exact Int.mul_pos h h
  exact Int.pos_of_mul_pos_left hs hdd
 ·have h:=Int.gcd_mul_right (a.fdiv d) d (b.fdiv d)
  rw [ea,eb,na] at h
  have g0:Int.gcd a b≠0:=by omega
  have h':1 * Int.gcd a b=Int.gcd (a.fdiv d) (b.fdiv d) * Int.gcd a b:=by rw [Nat.one_mul];exact h
  exact (Nat.eq_of_mul_eq_mul_right (by omega) h').symm
 ·have:a.fdiv d * b=a.fdiv d * (b.fdiv d * d):=by rw [eb]
  rw [this]
  have h2:a * b.fdiv d=a.fdiv d * d * b.fdiv d:=by rw [ea]
  rw [h2,Int.mul_assoc,Int.mul_comm d]
theorem Bw {p q r:Int}(h:Int.gcd p q=1) (k:q ∣ p * r):q ∣ r:=by
 have h1:Nat.Coprime q.natAbs p.natAbs:=by
  show Nat.gcd q.natAbs p.natAbs=1
  rw [Nat.gcd_comm]
  exact h
 have k1:q.natAbs ∣ p.natAbs * r.natAbs:=by
  rw [<-Int.natAbs_mul]
  exact Int.natAbs_dvd_natAbs.mpr k
 exact Int.natAbs_dvd_natAbs.mp (h1.dvd_of_dvd_mul_left k1)
theorem Low.uniq {p q p' q':Int}(h:Low p q) (h':Low p' q') (e:p * q'=p' * q):p=p'/\q=q':=by
 have d1:q ∣ q':=Bw h.cop ⟨p',by rw [e,Int.mul_comm]⟩
 have d2:q' ∣ q:=Bw h'.cop ⟨p,by rw [<-e,Int.mul_comm]⟩
 have l1:=Int.le_of_dvd h'.pos d1
 have l2:=Int.le_of_dvd h.pos d2
 have eq:q=q':=by omega
 subst eq
 exact ⟨Int.eq_of_mul_eq_mul_right (by have:=h.pos;omega) e,rfl⟩
theorem Low.same {p q p' q' a b:Int}(h:Low p q) (h':Low p' q') (hb:b≠0) (e:p * b=a * q) (e':p' * b=a * q'):p=p'/\q=q':=by
 refine h.uniq h' (Int.eq_of_mul_eq_mul_right hb ?_)
 rw [Int.mul_assoc,Int.mul_comm q',<-Int.mul_assoc,e,Int.mul_assoc p',Int.mul_comm q b,<-Int.mul_assoc,e',Int.mul_assoc,Int.mul_assoc,Int.mul_comm q]
theorem Low.self {p q:Int}(h:Low p q):p.fdiv (Int.gcd p q:Int)=p/\q.fdiv (Int.gcd p q:Int)=q:=by
 rw [h.cop]
 exact ⟨Int.fdiv_one p,Int.fdiv_one q⟩
end MA
namespace MA
open L2
abbrev Fr:=Int × Int
noncomputable def addF (a b:Fr):Fr:=(a.1 * b.2 + b.1 * a.2,a.2 * b.2)
noncomputable def mulF (a b:Fr):Fr:=(a.1 * b.1,a.2 * b.2)
noncomputable def SD (b:Bool) (x y:Fr):Fr:=if b then mulF x y else addF x y
noncomputable def PosL (ws:List Fr):Prop:=∀ w∈ws,0 < w.2
noncomputable def BdL (k:Nat) (ws:List Fr):Prop:=∀ w∈ws,Bd k w.1/\Bd k w.2
theorem BdL.take {k:Nat}{ws:List Fr}(h:BdL k ws) (i:Nat):BdL k (ws.take i):=fun w hw=>h w (mem_of_mem_take hw)
theorem PosL.take {ws:List Fr}(h:PosL ws) (i:Nat):PosL (ws.take i):=fun w hw=>h w (mem_of_mem_take hw)
end MA
namespace L2
open PySem
end L2
namespace MA
end MA
namespace MA
inductive Rch {α:Type}(R:α->α->Prop):α->α->Prop
 | one {a b:α}:R a b->Rch R a b
 | step {a b c:α}:R a b->Rch R b c->Rch R a c
theorem Rch.trans {α:Type}{R:α->α->Prop}{a b c:α}(h:Rch R a b) (k:Rch R b c):Rch R a c:=by
 induction h with
 | one r=>exact .step r k
 | step r _ ih=>exact .step r (ih k)
theorem Rch.first {α:Type}{R:α->α->Prop}{a c:α}(h:Rch R a c):∃ b,R a b/\(b=c\/Rch R b c):=by
 cases h with
 | one r=>exact ⟨_,r,.inl rfl⟩
 | step r k=>exact ⟨_,r,.inr k⟩
theorem Rch.last {α:Type}{R:α->α->Prop}{a c:α}(h:Rch R a c):∃ b,R b c:=by
 induction h with
 | one r=>exact ⟨_,r⟩
 | step _ _ ih=>exact ih
theorem Rch.inS {α:Type}{R:α->α->Prop}{S:α->Prop}(cl:∀ a b,S a->R a b->S b) {a b:α}(h0:∀ b,R a b->S b) (h:Rch R a b):S b:=by
 obtain ⟨c,r,k⟩:=h.first
 have hc:=h0 c r
 rcases k with rfl | k
 ·exact hc
 ·clear h r h0
  induction k with
  | one r=>exact cl _ _ hc r
  | step r _ ih=>exact ih (cl _ _ hc r)
section
variable {α:Type} [DecidableEq α]
end
end MA
namespace MA
theorem bern (u v:Int) (hu:0<=u) (hv:0<=v) (m:Nat):v ^ m * (((m:Int) + 1) * u - m * v)<=u ^ (m + 1):=by
 induction m with
 | zero=>simp [Int.pow_succ]
 | succ m ih =>
  have h1:u * (v ^ m * (((m:Int) + 1) * u - m * v))<=u * u ^ (m + 1):=Int.mul_le_mul_of_nonneg_left ih hu
  have h2:0<=v ^ m * (((m:Int) + 1) * ((u - v) * (u - v))):=by
   refine Int.mul_nonneg (Int.pow_nonneg hv) (Int.mul_nonneg (by omega) ?_)
   rcases Int.le_total u v with h | h
   ·exact Int.mul_nonneg_of_nonpos_of_nonpos (by omega) (by omega)
   ·exact Int.mul_nonneg (by omega) (by omega)
  have e1:u ^ (m + 1 + 1)=u * u ^ (m + 1):=by rw [Int.pow_succ,Int.mul_comm]
  have e2:v ^ (m + 1)=v ^ m * v:=Int.pow_succ ..
  rw [e1,e2]
  have e3:u * (v ^ m * (((m:Int) + 1) * u - m * v)) - v ^ m * v * ((((m + 1:Nat):Int) + 1) * u - ((m + 1:Nat):Int) * v)=v ^ m * (((m:Int) + 1) * ((u - v) * (u - v))):=by
   rw [show ((m + 1:Nat):Int)=(m:Int) + 1 by omega]
   generalize v ^ m=z
   generalize (m:Int)=k
   grind
  omega
theorem zg (n S a:Nat):(n + 1) ^ (n + 1) * S ^ n * a<=n ^ n * (S + a) ^ (n + 1):=by
 by_cases hn:n=0
 ·subst hn;simp
 have b:=bern ((n * (S + a):Nat):Int) (((n + 1) * S:Nat):Int) (by omega) (by omega) n
 have e:((n:Int) + 1) * ((n * (S + a):Nat):Int) - n * (((n + 1) * S:Nat):Int)=(n * ((n + 1) * a):Nat):=by
  simp only [Int.natCast_mul,Int.natCast_add]
  generalize (n:Int)=k
  generalize (S:Int)=s
  generalize (a:Int)=t
  grind
 rw [e] at b
 have b:((n + 1) * S) ^ n * (n * ((n + 1) * a))<=(n * (S + a)) ^ (n + 1):=by
  have:((((n + 1) * S) ^ n * (n * ((n + 1) * a)):Nat):Int)<=(((n * (S + a)) ^ (n + 1):Nat):Int):=by
   rw [Int.natCast_mul,Int.natCast_pow,Int.natCast_pow]
   exact b
  omega
 rw [Nat.mul_pow,Nat.mul_pow] at b
 have e1:(n + 1) ^ n * S ^ n * (n * ((n + 1) * a))=n * ((n + 1) ^ (n + 1) * S ^ n * a):=by
  rw [Nat.pow_succ]
  generalize (n + 1) ^ n=x
  generalize S ^ n=y
  grind
 have e2:n ^ (n + 1) * (S + a) ^ (n + 1)=n * (n ^ n * (S + a) ^ (n + 1)):=by
  rw [Nat.pow_succ n n]
  generalize n ^ n=x
  grind
 rw [e1,e2] at b
 exact Nat.le_of_mul_le_mul_left b (by omega)
theorem pow_self_pos (n:Nat):0 < n ^ n:=by
 cases n with
 | zero=>decide
 | succ n=>exact Nat.pow_pos (by omega)
noncomputable def Wn (l:List Nat):Nat:=l.foldr (· * ·) 1
theorem amgm (l:List Nat):Wn l * l.length ^ l.length<=l.sum ^ l.length:=by
 induction l with
 | nil=>simp [Wn]
 | cons a l ih =>
  have st:=zg l.length l.sum a
  rw [length_cons,sum_cons,show Wn (a::l)=a * Wn l from rfl]
  have pos:=pow_self_pos l.length
  refine Nat.le_of_mul_le_mul_left ?_ pos
  have e1:l.length ^ l.length * (a * Wn l * (l.length + 1) ^ (l.length + 1))=(l.length + 1) ^ (l.length + 1) * (Wn l * l.length ^ l.length) * a:=by
   generalize l.length ^ l.length=x
   generalize (l.length + 1) ^ (l.length + 1)=y
   generalize Wn l=z
   grind
  have e2:(l.length + 1) ^ (l.length + 1) * (Wn l * l.length ^ l.length) * a<=(l.length + 1) ^ (l.length + 1) * l.sum ^ l.length * a:=Nat.mul_le_mul_right _ (Nat.mul_le_mul_left _ ih)
  rw [e1,Nat.add_comm a l.sum]
  exact Nat.le_trans e2 st
theorem zh (a b:List Nat):Wn (a++b)=Wn a * Wn b:=by
 induction a with
 | nil=>simp [Wn]
 | cons x a ih=>rw [cons_append,show Wn (x::(a++b))=x * Wn (a++b) from rfl,ih,show Wn (x::a)=x * Wn a from rfl,Nat.mul_assoc]
theorem HH (n x:Nat):Wn (replicate n x)=x ^ n:=by
 induction n with
 | zero=>rfl
 | succ n ih=>rw [replicate_succ,show Wn (x::replicate n x)=x * Wn (replicate n x) from rfl,ih,Nat.pow_succ,Nat.mul_comm]
theorem Bx (n x:Nat):(replicate n x).sum=n * x:=by
 induction n with
 | zero=>simp
 | succ n ih=>rw [replicate_succ,sum_cons,ih,Nat.succ_mul,Nat.add_comm]
theorem two (x y a b:Nat):x ^ a * y ^ b * (a + b) ^ (a + b)<=a ^ a * b ^ b * (x + y) ^ (a + b):=by
 by_cases ha:a=0
 ·subst ha
  simp only [Nat.pow_zero,Nat.one_mul,Nat.zero_add]
  rw [Nat.mul_comm]
  exact Nat.mul_le_mul_left _ (Nat.pow_le_pow_left (by omega) _)
 by_cases hb:b=0
 ·subst hb
  simp only [Nat.pow_zero,Nat.mul_one,Nat.add_zero]
  rw [Nat.mul_comm]
  exact Nat.mul_le_mul_left _ (Nat.pow_le_pow_left (by omega) _)
 have g:=amgm (replicate a (x * b)++replicate b (y * a))
 rw [zh,HH,HH,length_append,length_replicate,length_replicate,List.sum_append,Bx,Bx] at g
 have e1:a * (x * b) + b * (y * a)=(a * b) * (x + y):=by grind
 rw [e1,Nat.mul_pow,Nat.mul_pow,Nat.mul_pow (a * b),Nat.mul_pow a b,Nat.pow_add a,Nat.pow_add b] at g
 have pos:0 < b ^ a * a ^ b:=Nat.mul_pos (Nat.pow_pos (by omega)) (Nat.pow_pos (by omega))
 refine Nat.le_of_mul_le_mul_left ?_ pos
 generalize x ^ a=xa at *
 generalize y ^ b=yb at *
 generalize (a + b) ^ (a + b)=nn at *
 generalize (x + y) ^ (a + b)=ss at *
 generalize a ^ a=aa at *
 generalize a ^ b=ab at *
 generalize b ^ a=ba at *
 generalize b ^ b=bb at *
 have l:ba * ab * (xa * yb * nn)=xa * ba * (yb * ab) * nn:=by grind
 have r:ba * ab * (aa * bb * ss)=aa * ab * (ba * bb) * ss:=by grind
 rw [l,r]
 exact g
section
variable {κ:Type} [DecidableEq κ]
end
end MA
namespace L2
open PySem PySem.Spec PyProof.Rows
inductive D where
 | non | bl (b:Bool) | int (i:Int) | str (x:Str) | ty (n:String) | rf (a:Addr)
 | tup (xs:List D) | lst (xs:List D) | scr (xs:List D) | obj (C:Addr) (fs:List (Str × D)) | dic (kvs:List (Key × D)) | exc (C:Addr)
 deriving Inhabited
mutual
noncomputable def Rp (K:aj) (H:Hp):D->V->Prop
 | .non,v=>v = .non
 | .bl b,v=>v = .bl b
 | .int i,v=>v = .int i
 | .str x,v=>v = .str x
 | .ty n,v=>v = .ty n
 | .rf a,v=>v = .ref a
 | .tup xs,v=>∃ a vs,v = .ref a/\H a=some (.tup vs)/\Rps K H xs vs
 | .lst xs,v=>∃ a vs,v = .ref a/\H a=some (.lst vs)/\Rps K H xs vs
 | .scr xs,v=>∃ a vs,v = .ref a/\SqL K H a vs/\Rps K H xs vs
 | .obj C gs,v=>∃ a dx fs,v = .ref a/\H a=some (.ins C dx fs)/\Rfs K H gs fs
 | .dic gs,v=>∃ a kvs,v = .ref a/\H a=some (.dK kvs)/\Rks K H gs kvs
 | .exc C,v=>∃ a,v = .ref a/\H a=some (ExcO a C)
noncomputable def Rps (K:aj) (H:Hp):List D->List V->Prop
 | [],vs=>vs=[]
 | d::ds,vs=>∃ v us,vs=v::us/\Rp K H d v/\Rps K H ds us
noncomputable def Rfs (K:aj) (H:Hp):List (Str × D)->List (Str × V)->Prop
 | [],fs=>fs=[]
 | (k,d)::gs,fs=>∃ v us,fs=(k,v)::us/\Rp K H d v/\Rfs K H gs us
noncomputable def Rks (K:aj) (H:Hp):List (Key × D)->List (Key × V)->Prop
 | [],fs=>fs=[]
 | (k,d)::gs,fs=>∃ v us,fs=(k,v)::us/\Rp K H d v/\Rks K H gs us
end
theorem Rd.same {H H':Hp}{a:Addr}{o:HO}(e:Zw H H') (h:Rd H a o):Rd H' a o:=h.elim (fun z => .inl (e _ _ z)) (fun ⟨u,z⟩ => .inr ⟨u,e _ _ z⟩)
theorem SqT.same {K:aj}{H H':Hp}{a:Addr}{xs:List V}(e:Zw H H') (h:SqT K H a xs):SqT K H' a xs:=by
 rcases h with (h | ⟨o,h⟩) | h
 ·exact .inl (.inl (e _ _ h))
 ·exact .inl (.inr ⟨o,e _ _ h⟩)
 ·exact .inr h
section
variable {K:aj}{H H':Hp}
mutual
theorem Rp.same (s:Zw H H'):∀ (d:D) {v:V},Rp K H d v->Rp K H' d v
 | .non,_,h=>h
 | .bl _,_,h=>h
 | .int _,_,h=>h
 | .str _,_,h=>h
 | .ty _,_,h=>h
 | .rf _,_,h=>h
 | .tup xs,_,⟨a,vs,e,h1,h2⟩=>⟨a,vs,e,s _ _ h1,Rps.same s xs h2⟩
 | .lst xs,_,⟨a,vs,e,h1,h2⟩=>⟨a,vs,e,s _ _ h1,Rps.same s xs h2⟩
 | .scr xs,_,⟨a,vs,e,h1,h2⟩=>⟨a,vs,e,s.seq h1,Rps.same s xs h2⟩
 | .obj _ gs,_,⟨a,dx,fs,e,h1,h2⟩=>⟨a,dx,fs,e,s _ _ h1,Rfs.same s gs h2⟩
 | .dic gs,_,⟨a,fs,e,h1,h2⟩=>⟨a,fs,e,s _ _ h1,Rks.same s gs h2⟩
 | .exc _,_,⟨a,e,h1⟩=>⟨a,e,s _ _ h1⟩
theorem Rps.same (s:Zw H H'):∀ (ds:List D) {vs:List V},Rps K H ds vs->Rps K H' ds vs
 | [],_,h=>h
 | d::ds,_,⟨v,us,e,h1,h2⟩=>⟨v,us,e,Rp.same s d h1,Rps.same s ds h2⟩
theorem Rfs.same (s:Zw H H'):∀ (ds:List (Str × D)) {vs:List (Str × V)},Rfs K H ds vs->Rfs K H' ds vs
 | [],_,h=>h
 | (k,d)::ds,_,⟨v,us,e,h1,h2⟩=>⟨v,us,e,Rp.same s d h1,Rfs.same s ds h2⟩
theorem Rks.same (s:Zw H H'):∀ (ds:List (Key × D)) {vs:List (Key × V)},Rks K H ds vs->Rks K H' ds vs
 | [],_,h=>h
 | (k,d)::ds,_,⟨v,us,e,h1,h2⟩=>⟨v,us,e,Rp.same s d h1,Rks.same s ds h2⟩
end
end
structure Ext (H0 H H0' H':Hp):Prop where
 s:Zw H H'
 s0:Zw H0 H0'
 sub:Zw H0' H'
 new:∀ b,H0 b=none->H b≠none->H0' b=none
theorem Ext.refl {H0 H:Hp}(h:Zw H0 H):Ext H0 H H0 H:=⟨.refl _,.refl _,h,fun _ z _=>z⟩
theorem Ext.trans {H0 H H1 H2 H3 H4:Hp}(a:Ext H0 H H1 H2) (b:Ext H1 H2 H3 H4):Ext H0 H H3 H4 :=
 ⟨a.s.trans b.s,a.s0.trans b.s0,b.sub,fun c z n=>b.new c (a.new c z n) (fun q=>n (a.s.free q))⟩
theorem Ext.grow {H0 H H':Hp}(h:Zw H0 H) (s:Zw H H'):Ext H0 H H0 H':=⟨s,.refl _,h.trans s,fun _ z _=>z⟩
theorem Ext.put {H0 H:Hp}{p:Addr}{o:HO}(h:Zw H0 H) (hp:H p=none):Ext H0 H (upd H0 p o) (upd H p o):=by
 refine ⟨Zw.upd hp,Zw.upd (h.free hp),fun b u e=>?_,fun b z n=>?_⟩
 ·by_cases hb:b=p
  ·subst hb;rw [Zy] at e ⊢;exact e
  ·rw [Zq hb] at e ⊢;exact h _ _ e
 ·rw [Zq (fun y=>n (by rw [y];exact hp))];exact z
inductive MO where
 | lst (xs:List D) | dic (kvs:List (Key × D)) | ins (C dx:Addr) (fs:List (Str × D))
abbrev Mu:=List (Addr × MO)
noncomputable def Ec (K:aj) (H0:Hp):MO->HO->Prop
 | .lst xs,o=>∃ vs,o = .lst vs/\Rps K H0 xs vs
 | .dic gs,o=>∃ kvs,o = .dK kvs/\Rks K H0 gs kvs
 | .ins C dx gs,o=>∃ fs,o = .ins C dx fs/\Rfs K H0 gs fs
theorem Ec.same {K:aj}{H0 H0':Hp}(s:Zw H0 H0') {m:MO}{o:HO}(h:Ec K H0 m o):Ec K H0' m o:=by
 cases m with
 | lst xs=>obtain ⟨vs,e,r⟩:=h;exact ⟨vs,e,r.same s⟩
 | dic xs=>obtain ⟨vs,e,r⟩:=h;exact ⟨vs,e,r.same s⟩
 | ins C dx xs=>obtain ⟨vs,e,r⟩:=h;exact ⟨vs,e,r.same s⟩
inductive Slot where
 | un | v (d:D) | own (xs:List D) | ob (a dx C:Addr) (fs:List (Str × D)) | od (kvs:List (Key × D)) | st (a:Addr) (μ:Mu)
abbrev DSt:=List Slot
noncomputable def Slot.isOwn:Slot->Bool
 | .own _=>true
 | .ob _ _ _ _=>true
 | .od _=>true
 | .st _ _=>true
 | _=>false
noncomputable def Slot.foot:Slot->Option V->Addr->Prop
 | .own _,o,b=>o=some (.ref b)
 | .ob _ _ _ _,o,b=>o=some (.ref b)
 | .od _,o,b=>o=some (.ref b)
 | .st _ μ,_,b=>∃ m,μ.lookup b=some m
 | _,_,_=>False
theorem Slot.YQ {s:Slot}{o:Option V}{b:Addr}(h:s.foot o b):s.isOwn=true:=by
 cases s with
 | un=>exact h.elim
 | v d=>exact h.elim
 | _=>rfl
noncomputable def PY (K:aj) (H0 H:Hp):Slot->Option V->Prop
 | .un,_=>True
 | .v d,o=>∃ v,o=some v/\Rp K H0 d v
 | .own xs,o=>∃ a vs,o=some (.ref a)/\H0 a=none/\H a=some (.lst vs)/\Rps K H0 xs vs
 | .ob a dx C gs,o=>∃ fs,o=some (.ref a)/\H0 a=none/\H a=some (.ins C dx fs)/\Rfs K H0 gs fs
 | .od gs,o=>∃ a kvs,o=some (.ref a)/\H0 a=none/\H a=some (.dK kvs)/\Rks K H0 gs kvs
 | .st a μ,o=>o=some (.ref a)/\∀ b m,μ.lookup b=some m->H0 b=none/\∃ u,H b=some u/\Ec K H0 m u
structure Cfg (K:aj) (B0 B H0 H:Hp) (σ:St) (ds:DSt):Prop where
 ext:Ext B0 B H0 H
 slot:∀ (i:Nat) s,ds[i]?=some s->PY K H0 H s ((σ[i]?).getD none)
 young:∀ (i:Nat) s a,ds[i]?=some s->s.foot ((σ[i]?).getD none) a->B a=none
 sep:∀ (i j:Nat) s t a,i≠j->ds[i]?=some s->ds[j]?=some t->s.foot ((σ[i]?).getD none) a->t.foot ((σ[j]?).getD none) a->False
 len:σ.length=ds.length
section
variable {K:aj}{B0 B H0 H H0' H':Hp}{σ:St}{ds:DSt}
theorem PY.ext {s:Slot}{o:Option V}(h:PY K H0 H s o) (e:Ext H0 H H0' H'):PY K H0' H' s o:=by
 cases s with
 | un=>trivial
 | v d=>obtain ⟨v,e1,h1⟩:=h;exact ⟨v,e1,h1.same e.s0⟩
 | own xs =>
  obtain ⟨a,vs,e1,h1,h2,h3⟩:=h
  exact ⟨a,vs,e1,e.new a h1 (by rw [h2];simp),e.s _ _ h2,h3.same e.s0⟩
 | ob a dx C gs =>
  obtain ⟨fs,e1,h1,h2,h3⟩:=h
  exact ⟨fs,e1,e.new a h1 (by rw [h2];simp),e.s _ _ h2,h3.same e.s0⟩
 | od gs =>
  obtain ⟨a,fs,e1,h1,h2,h3⟩:=h
  exact ⟨a,fs,e1,e.new a h1 (by rw [h2];simp),e.s _ _ h2,h3.same e.s0⟩
 | st a μ =>
  refine ⟨h.1,fun b m l=>?_⟩
  obtain ⟨h1,u,h2,h3⟩:=h.2 b m l
  exact ⟨e.new b h1 (by rw [h2];simp),u,e.s _ _ h2,h3.same e.s0⟩
theorem Cfg.sub (c:Cfg K B0 B H0 H σ ds):Zw H0 H:=c.ext.sub
theorem Cfg.go (c:Cfg K B0 B H0 H σ ds) (e:Ext H0 H H0' H'):Cfg K B0 B H0' H' σ ds :=
 ⟨c.ext.trans e,fun i s q=>(c.slot i s q).ext e,c.young,c.sep,c.len⟩
theorem Jw {σ:St}{i:Nat}{o:Option V}(h:i < σ.length) (j:Nat):((σ.set i o)[j]?).getD none=if j=i then o else (σ[j]?).getD none:=by
 by_cases e:j=i
 ·subst e;rw [if_pos rfl,List.getElem?_set_self h];rfl
 ·rw [if_neg e,getElem?_set_ne (fun z=>e z.symm)]
theorem XO {ds:DSt}{i:Nat}{s:Slot}(h:i < ds.length) (j:Nat):(ds.set i s)[j]?=if j=i then some s else ds[j]?:=by
 by_cases e:j=i
 ·subst e;rw [if_pos rfl,List.getElem?_set_self h]
 ·rw [if_neg e,getElem?_set_ne (fun z=>e z.symm)]
theorem Gx {α:Type}{l:List α}{i:Nat}{a:α}(h:¬ i < l.length):l.set i a=l:=List.set_eq_of_length_le (by omega)
theorem Cfg.SK (c:Cfg K B0 B H0 H σ ds) {i:Nat}{s:Slot}{a:Addr}(q:ds[i]?=some s) (f:s.foot ((σ[i]?).getD none) a):H0 a=none/\H a≠none:=by
 have h:=c.slot i s q
 cases s with
 | own xs =>
  obtain ⟨b,vs,e1,h1,h2,h3⟩:=h
  have f:_=_:=f
  rw [e1] at f
  cases f
  exact ⟨h1,by rw [h2];simp⟩
 | ob b dx C gs =>
  obtain ⟨fs,e1,h1,h2,h3⟩:=h
  have f:_=_:=f
  rw [e1] at f
  cases f
  exact ⟨h1,by rw [h2];simp⟩
 | od gs =>
  obtain ⟨b,fs,e1,h1,h2,h3⟩:=h
  have f:_=_:=f
  rw [e1] at f
  cases f
  exact ⟨h1,by rw [h2];simp⟩
 | st b μ =>
  obtain ⟨m,l⟩:=f
  obtain ⟨h1,u,h2,h3⟩:=h.2 _ _ l
  exact ⟨h1,by rw [h2];simp⟩
 | un=>exact f.elim
 | v d=>exact f.elim
theorem Cfg.lay (c:Cfg K B0 B H0 H σ ds) (i:Nat) {s:Slot}{o:Option V}(h:PY K H0 H s o) (hy:∀ a,s.foot o a->B a=none) (hn:∀ a (j:Nat) t,j≠i->ds[j]?=some t->s.foot o a->t.foot ((σ[j]?).getD none) a->False):Cfg K B0 B H0 H (σ.set i o) (ds.set i s):=by
 by_cases hi:i < ds.length
 case neg =>
  rw [Gx hi,Gx (by rw [c.len];exact hi)]
  exact c
 have hi':i < σ.length:=by rw [c.len];exact hi
 refine ⟨c.ext,fun j t q=>?_,fun j t a q w=>?_,fun j k t u a ne q r w x=>?_,by rw [length_set,length_set];exact c.len⟩
 ·rw [XO hi] at q
  rw [Jw hi']
  split at q
  ·cases q
   rw [if_pos (by assumption)]
   exact h
  ·rw [if_neg (by assumption)]
   exact c.slot j t q
 ·rw [XO hi] at q
  rw [Jw hi'] at w
  split at q
  ·cases q
   rw [if_pos (by assumption)] at w
   exact hy a w
  ·rw [if_neg (by assumption)] at w
   exact c.young j t a q w
 ·rw [XO hi] at q r
  rw [Jw hi'] at w x
  split at q
  ·rename_i z
   cases q
   rw [if_pos z] at w
   have kn:k≠i:=fun y=>ne (z.trans y.symm)
   rw [if_neg kn] at r x
   exact hn a k u kn r w x
  ·rename_i z
   rw [if_neg z] at w
   split at r
   ·rename_i y
    cases r
    rw [if_pos y] at x
    exact hn a j t z q x w
   ·rename_i y
    rw [if_neg y] at x
    exact c.sep j k t u a ne q r w x
theorem Cfg.setN (c:Cfg K B0 B H0 H σ ds) (i:Nat) {s:Slot}{o:Option V}(hs:s.isOwn=false) (h:PY K H0 H s o):Cfg K B0 B H0 H (σ.set i o) (ds.set i s) :=
 c.lay i h (fun a f=>by rw [Slot.YQ f] at hs;cases hs) fun a j t _ _ f=>by rw [Slot.YQ f] at hs;cases hs
theorem Cfg.setV (c:Cfg K B0 B H0 H σ ds) (i:Nat) {d:D}{v:V}(h:Rp K H0 d v):Cfg K B0 B H0 H (σ.set i (some v)) (ds.set i (.v d)):=c.setN i rfl ⟨v,rfl,h⟩
theorem Cfg.newO (c:Cfg K B0 B H0 H σ ds) (i:Nat) {a:Addr}{vs:List V}{xs:List D}(e:Ext H0 H H0' H') (n:H a=none) (n0:H0' a=none) (h:H' a=some (.lst vs)) (r:Rps K H0' xs vs):Cfg K B0 B H0' H' (σ.set i (some (.ref a))) (ds.set i (.own xs)):=by
 refine (c.go e).lay i (s := .own xs) ⟨a,vs,rfl,n0,h,r⟩ (fun b f=>?_) fun b j t _ q f g=>?_
 ·have f:some (V.ref a)=some (V.ref b):=f
  cases f
  exact c.ext.s.free n
 ·have f:some (V.ref a)=some (V.ref b):=f
  cases f
  exact (c.SK q g).2 n
theorem Cfg.write (c:Cfg K B0 B H0 H σ ds) {i:Nat}{s s':Slot}{a:Addr}{o:HO}(q:ds[i]?=some s) (f:s.foot ((σ[i]?).getD none) a) (hf:∀ b,s'.foot ((σ[i]?).getD none) b->s.foot ((σ[i]?).getD none) b)
  (h:PY K H0 (upd H a o) s' ((σ[i]?).getD none)):Cfg K B0 B H0 (upd H a o) σ (ds.set i s'):=by
 have hi:i < ds.length:=(List.getElem?_eq_some_iff.mp q).1
 obtain ⟨h0,hn⟩:=c.SK q f
 have hB:=c.young i s a q f
 refine ⟨⟨fun b u z=>?_,c.ext.s0,fun b u z=>?_,c.ext.new⟩,fun j t r=>?_,fun j t b r x=>?_,fun j k t u b nj r y x z=>?_,by rw [length_set];exact c.len⟩
 ·rw [Zq (fun y=>by rw [y,hB] at z;cases z)]
  exact c.ext.s _ _ z
 ·rw [Zq (fun y=>by rw [y,h0] at z;cases z)]
  exact c.sub _ _ z
 ·rw [XO hi] at r
  split at r
  ·cases r
   rename_i z
   rw [z]
   exact h
  ·rename_i z
   have old:=c.slot j t r
   have na:∀ b,t.foot ((σ[j]?).getD none) b->b≠a:=fun b x y=>c.sep j i t s a z r q (y ▸ x) f
   cases t with
   | un=>trivial
   | v d=>exact old
   | own xs =>
    obtain ⟨b,vs,e1,h1,h2,h3⟩:=old
    exact ⟨b,vs,e1,h1,by rw [Zq (na b e1)];exact h2,h3⟩
   | ob b dx C gs =>
    obtain ⟨vs,e1,h1,h2,h3⟩:=old
    exact ⟨vs,e1,h1,by rw [Zq (na b e1)];exact h2,h3⟩
   | od gs =>
    obtain ⟨b,vs,e1,h1,h2,h3⟩:=old
    exact ⟨b,vs,e1,h1,by rw [Zq (na b e1)];exact h2,h3⟩
   | st b μ =>
    refine ⟨old.1,fun b' m l=>?_⟩
    obtain ⟨h1,u,h2,h3⟩:=old.2 b' m l
    exact ⟨h1,u,by rw [Zq (na b' ⟨m,l⟩)];exact h2,h3⟩
 ·rw [XO hi] at r
  split at r
  ·rename_i z
   cases r
   rw [z] at x
   exact c.young i s b q (hf b x)
  ·exact c.young j t b r x
 ·rw [XO hi] at r y
  split at r
  ·rename_i jz
   cases r
   rw [if_neg (fun kz=>nj (jz.trans kz.symm))] at y
   rw [jz] at x
   exact c.sep i k s u b (jz ▸ nj) q y (hf b x) z
  ·split at y
   ·rename_i kz
    cases y
    rw [kz] at z
    exact c.sep j i t s b (kz ▸ nj) r q x (hf b z)
   ·exact c.sep j k t u b nj r y x z
theorem Cfg.push (c:Cfg K B0 B H0 H σ ds) {i:Nat}{xs ys:List D}(q:ds[i]?=some (.own xs)):∃ a vs,(σ[i]?).getD none=some (.ref a)/\H a=some (.lst vs)/\Rps K H0 xs vs /\
  ∀ H0' H' us,Ext H0 H H0' H'->Rps K H0' ys us->Cfg K B0 B H0' (upd H' a (.lst us)) σ (ds.set i (.own ys)):=by
 obtain ⟨a,vs,e1,h1,h2,h3⟩:=c.slot i _ q
 refine ⟨a,vs,e1,h2,h3,fun H0' H' us e r=>?_⟩
 exact (c.go e).write q e1 (fun b f=>f) ⟨a,us,e1,e.new a h1 (by rw [h2];simp),Zy,r⟩
end
noncomputable def Slot.peek:Slot->Slot
 | .own xs => .v (.lst xs)
 | .od kvs => .v (.dic kvs)
 | s=>s
mutual
noncomputable def D.imm:D->Bool
 | .tup xs=>D.Pm xs
 | .obj _ fs=>D.immf fs
 | .lst _=>false
 | .scr _=>false
 | .dic _=>false
 | _=>true
noncomputable def D.Pm:List D->Bool
 | []=>true
 | d::ds=>d.imm && D.Pm ds
noncomputable def D.immf:List (Str × D)->Bool
 | []=>true
 | (_,d)::ds=>d.imm && D.immf ds
end
section
variable {K:aj}{H0 H1:Hp}
noncomputable def Gy (H0 H1:Hp):Prop:=∀ b o,H1 b=some o->H0 b=some o\/(H0 b=none/\((∃ vs,o = .lst vs)\/∃ kvs,o = .dK kvs))
mutual
theorem Rp.less (l:Gy H0 H1):∀ (d:D) {v:V},d.imm=true->Rp K H1 d v->Rp K H0 d v
 | .non,_,_,h=>h
 | .bl _,_,_,h=>h
 | .int _,_,_,h=>h
 | .str _,_,_,h=>h
 | .ty _,_,_,h=>h
 | .rf _,_,_,h=>h
 | .tup xs,_,z,⟨a,vs,e,h1,h2⟩=>⟨a,vs,e,(by
   rcases l _ _ h1 with y | ⟨_,⟨us,y⟩ | ⟨us,y⟩⟩
   ·exact y
   ·cases y
   ·cases y),Rps.less l xs (by unfold D.imm at z;exact z) h2⟩
 | .lst xs,_,z,_=>by unfold D.imm at z;cases z
 | .scr xs,_,z,_=>by unfold D.imm at z;cases z
 | .obj _ gs,_,z,⟨a,dx,fs,e,h1,h2⟩=>⟨a,dx,fs,e,(by
   rcases l _ _ h1 with y | ⟨_,⟨us,y⟩ | ⟨us,y⟩⟩
   ·exact y
   ·cases y
   ·cases y),Rfs.less l gs (by unfold D.imm at z;exact z) h2⟩
 | .dic gs,_,z,_=>by unfold D.imm at z;cases z
 | .exc _,_,_,⟨a,e,h1⟩=>⟨a,e,by
   rcases l _ _ h1 with y | ⟨_,⟨us,y⟩ | ⟨us,y⟩⟩
   ·exact y
   ·cases y
   ·cases y⟩
theorem Rps.less (l:Gy H0 H1):∀ (ds:List D) {vs:List V},D.Pm ds=true->Rps K H1 ds vs->Rps K H0 ds vs
 | [],_,_,h=>h
 | d::ds,_,z,⟨v,us,e,h1,h2⟩=>by
  unfold D.Pm at z
  rw [aF] at z
  exact ⟨v,us,e,Rp.less l d z.1 h1,Rps.less l ds z.2 h2⟩
theorem Rfs.less (l:Gy H0 H1):∀ (ds:List (Str × D)) {vs:List (Str × V)},D.immf ds=true->Rfs K H1 ds vs->Rfs K H0 ds vs
 | [],_,_,h=>h
 | (k,d)::ds,_,z,⟨v,us,e,h1,h2⟩=>by
  unfold D.immf at z
  rw [aF] at z
  exact ⟨v,us,e,Rp.less l d z.1 h1,Rfs.less l ds z.2 h2⟩
end
end
noncomputable def peekAt (pk:List Nat) (ds:DSt):DSt:=pk.foldl (fun ds i=>ds.modify i Slot.peek) ds
section
variable {K:aj}{B0 B H0 H H0' H':Hp}{σ:St}{ds:DSt}
theorem Cfg.frz (c:Cfg K B0 B H0 H σ ds) {i:Nat}{s:Slot}{a:Addr}{o:HO}{d:D}(q:ds[i]?=some s) (e1:(σ[i]?).getD none=some (.ref a)) (f:s.foot ((σ[i]?).getD none) a) (h2:H a=some o) (hr:Rp K (upd H0 a o) d (.ref a)) :
  Cfg K B0 B (upd H0 a o) H σ (ds.set i (.v d))/\Zw H0 (upd H0 a o):=by
 have hi:i < ds.length:=(List.getElem?_eq_some_iff.mp q).1
 obtain ⟨h1,hn⟩:=c.SK q f
 have s01:Zw H0 (upd H0 a o):=Zw.upd h1
 have hB:=c.young i _ a q f
 have sub1:Zw (upd H0 a o) H:=fun b o' z=>by
  by_cases hb:b=a
  ·subst hb;rw [Zy] at z;rw [h2];exact z
  ·rw [Zq hb] at z;exact c.sub _ _ z
 refine ⟨⟨⟨c.ext.s,c.ext.s0.trans s01,sub1,fun b z n=>?_⟩,fun j t r=>?_,fun j t b r x=>?_,fun j k t u b nj r y x z=>?_,by rw [length_set];exact c.len⟩,s01⟩
 ·rw [Zq (fun y=>n (by rw [y];exact hB))]
  exact c.ext.new b z n
 ·rw [XO hi] at r
  split at r
  ·rename_i z
   cases r
   rw [z,e1]
   exact ⟨.ref a,rfl,hr⟩
  ·rename_i z
   have old:=c.slot j t r
   have na:∀ b,t.foot ((σ[j]?).getD none) b->b≠a:=fun b x y=>c.sep j i t _ a z r q (y ▸ x) f
   cases t with
   | un=>trivial
   | v d=>obtain ⟨v,z1,z2⟩:=old;exact ⟨v,z1,z2.same s01⟩
   | own ys =>
    obtain ⟨b,us,f1,f2,f3,f4⟩:=old
    exact ⟨b,us,f1,by rw [Zq (na b f1)];exact f2,f3,f4.same s01⟩
   | ob b dx C gs =>
    obtain ⟨us,f1,f2,f3,f4⟩:=old
    exact ⟨us,f1,by rw [Zq (na b f1)];exact f2,f3,f4.same s01⟩
   | od gs =>
    obtain ⟨b,us,f1,f2,f3,f4⟩:=old
    exact ⟨b,us,f1,by rw [Zq (na b f1)];exact f2,f3,f4.same s01⟩
   | st b μ =>
    refine ⟨old.1,fun b' m l=>?_⟩
    obtain ⟨g1,u,g2,g3⟩:=old.2 b' m l
    exact ⟨by rw [Zq (na b' ⟨m,l⟩)];exact g1,u,g2,g3.same s01⟩
 ·rw [XO hi] at r
  split at r
  ·cases r
   exact x.elim
  ·exact c.young j t b r x
 ·rw [XO hi] at r y
  split at r
  ·cases r
   exact x.elim
  ·split at y
   ·cases y
    exact z.elim
   ·exact c.sep j k t u b nj r y x z
theorem Cfg.peek1 (c:Cfg K B0 B H0 H σ ds) (i:Nat):∃ H1,Cfg K B0 B H1 H σ (ds.modify i Slot.peek)/\Zw H0 H1/\Gy H0 H1/\∀ b,H1 b≠none->H0 b=none->H b≠none:=by
 have triv:ds.modify i Slot.peek=ds->∃ H1,Cfg K B0 B H1 H σ (ds.modify i Slot.peek)/\Zw H0 H1/\Gy H0 H1/\∀ b,H1 b≠none->H0 b=none->H b≠none:=fun e =>
  ⟨H0,by rw [e];exact c,.refl _,fun b o z => .inl z,fun b z y=>absurd y z⟩
 cases q:ds[i]? with
 | none=>exact triv (List.modify_eq_self (List.getElem?_eq_none_iff.mp q))
 | some s =>
  have em:ds.modify i Slot.peek=ds.set i s.peek:=by
   refine List.ext_getElem? fun j=>?_
   rw [List.getElem?_modify,List.getElem?_set]
   have hi:i < ds.length:=(List.getElem?_eq_some_iff.mp q).1
   by_cases z:i=j
   ·subst z;simp [hi,(List.getElem?_eq_some_iff.mp q).2]
   ·simp [z]
  have hi:i < ds.length:=(List.getElem?_eq_some_iff.mp q).1
  have same:s.peek=s->ds.modify i Slot.peek=ds:=fun e=>by
   rw [em,e]
   refine List.ext_getElem? fun j=>?_
   rw [XO hi]
   split
   ·rename_i z;rw [z,q]
   ·rfl
  have fin:∀ {a:Addr}{o:HO},H a=some o->H0 a=none->((∃ vs,o = .lst vs)\/∃ kvs,o = .dK kvs)->Gy H0 (upd H0 a o)/\∀ b,(upd H0 a o) b≠none->H0 b=none->H b≠none:=by
   intro a o h2 h1 ho
   refine ⟨fun b u z=>?_,fun b z y=>?_⟩
   ·by_cases hb:b=a
    ·subst hb
     rw [Zy] at z
     cases z
     exact .inr ⟨h1,ho⟩
    ·rw [Zq hb] at z
     exact .inl z
   ·by_cases hb:b=a
    ·subst hb
     rw [h2]
     simp
    ·rw [Zq hb] at z
     exact absurd y z
  cases s with
  | un=>exact triv (same rfl)
  | v d=>exact triv (same rfl)
  | ob a dx C gs=>exact triv (same rfl)
  | st a μ=>exact triv (same rfl)
  | own xs =>
   obtain ⟨a,vs,e1,h1,h2,h3⟩:=c.slot i _ q
   obtain ⟨c1,s1⟩:=c.frz (d := .lst xs) q e1 e1 h2 ⟨a,vs,rfl,Zy,h3.same (Zw.upd h1)⟩
   obtain ⟨l1,n1⟩:=fin h2 h1 (.inl ⟨_,rfl⟩)
   exact ⟨_,by rw [em];exact c1,s1,l1,n1⟩
  | od xs =>
   obtain ⟨a,vs,e1,h1,h2,h3⟩:=c.slot i _ q
   obtain ⟨c1,s1⟩:=c.frz (d := .dic xs) q e1 e1 h2 ⟨a,vs,rfl,Zy,h3.same (Zw.upd h1)⟩
   obtain ⟨l1,n1⟩:=fin h2 h1 (.inr ⟨_,rfl⟩)
   exact ⟨_,by rw [em];exact c1,s1,l1,n1⟩
theorem Cfg.peekAt (c:Cfg K B0 B H0 H σ ds) (pk:List Nat):∃ H1,Cfg K B0 B H1 H σ (peekAt pk ds)/\Zw H0 H1/\Gy H0 H1/\∀ b,H1 b≠none->H0 b=none->H b≠none:=by
 induction pk generalizing H0 ds with
 | nil=>exact ⟨H0,c,.refl _,fun b o z => .inl z,fun b z y=>absurd y z⟩
 | cons i pk ih =>
  obtain ⟨H1,c1,s1,l1,n1⟩:=c.peek1 i
  obtain ⟨H2,c2,s2,l2,n2⟩:=ih c1
  refine ⟨H2,c2,s1.trans s2,fun b o z=>?_,fun b z y=>?_⟩
  ·rcases l2 b o z with y | ⟨y,e⟩
   ·exact l1 b o y
   ·exact .inr ⟨s1.free y,e⟩
  ·by_cases q:H1 b=none
   ·exact n2 b z q
   ·exact n1 b q y
theorem Ext.Ee {H1:Hp}(e:Ext H1 H H0' H') (s:Zw H0 H1) (sub:Zw H0 H) (l:Gy H0 H1) (n:∀ b,H1 b≠none->H0 b=none->H b≠none):∃ H0'',Ext H0 H H0'' H'/\Gy H0'' H0'/\Zw H0'' H0':=by
 classical
 refine ⟨fun b=>if H0 b=none/\H1 b≠none then none else H0' b,⟨e.s,fun b o z=>?_,fun b o z=>?_,fun b z y=>?_⟩,fun b o z=>?_,fun b o z=>?_⟩
 ·show (if _ then none else H0' b)=_
  rw [if_neg (fun y=>by rw [z] at y;cases y.1)]
  exact e.s0 _ _ (s _ _ z)
 ·have z:(if H0 b=none/\H1 b≠none then none else H0' b)=some o:=z
  split at z
  ·cases z
  ·exact e.sub _ _ z
 ·show (if _ then none else H0' b)=_
  split
  ·rfl
  ·rename_i q
   refine e.new b ?_ y
   cases r:H1 b with
   | none=>rfl
   | some o=>exact absurd ⟨z,by rw [r];simp⟩ q
 ·show (if _ then none else H0' b)=_\/(if _ then none else H0' b)=_/\_
  split
  ·rename_i q
   right
   refine ⟨rfl,?_⟩
   cases r:H1 b with
   | none=>exact absurd r q.2
   | some u =>
    rcases l b u r with y | ⟨_,y⟩
    ·rw [q.1] at y;cases y
    ·have:=e.s0 _ _ r
     rw [z] at this
     cases this
     exact y
  ·exact .inl z
 ·have z:(if H0 b=none/\H1 b≠none then none else H0' b)=some o:=z
  split at z
  ·cases z
  ·exact z
end
abbrev DE:=DSt->(D->Prop)->(Addr->Prop)->Prop
abbrev DT:=DSt->(Bool->Prop)->(Addr->Prop)->Prop
abbrev DA:=DSt->(List D->Prop)->(Addr->Prop)->Prop
abbrev DO:=DSt->(Option Int->Prop)->(Addr->Prop)->Prop
abbrev KE (K:aj) (H0 H:Hp) (q:D->Prop) (Q:VK):Prop:=∀ v d H0' H',Ext H0 H H0' H'->Rp K H0' d v->q d->Q v H'
abbrev KX (XE:St->XK) (σ:St) (H:Hp) (x:Addr->Prop):Prop:=∀ C H',Zw H H'->x C->XE σ (.ref C) none H'
theorem KX.go {XE:St->XK}{σ:St}{H H1:Hp}{x:Addr->Prop}(k:KX XE σ H x) (s:Zw H H1):KX XE σ H1 x:=fun C H' s' h=>k C H' (s.trans s') h
theorem KE.go {K:aj}{H0 H H1 H2:Hp}{q:D->Prop}{Q:VK}(k:KE K H0 H q Q) (e:Ext H0 H H1 H2):KE K H1 H2 q Q:=fun v d H0' H' e' r h=>k v d H0' H' (e.trans e') r h
noncomputable def Den (K:aj) (XE:St->XK) (te:TE) (de:DE):Prop:=∀ {B0 B H0 H:Hp}{σ:St}{ds:DSt}{q:D->Prop}{x:Addr->Prop}{Q:VK},Cfg K B0 B H0 H σ ds->de ds q x->KE K H0 H q Q->KX XE σ H x->te σ H Q
noncomputable def zi (K:aj) (XE:St->XK) (te:TT) (de:DT):Prop:=∀ {B0 B H0 H:Hp}{σ:St}{ds:DSt}{q:Bool->Prop}{x:Addr->Prop}{Q:Bool->Hp->Prop},Cfg K B0 B H0 H σ ds->de ds q x->(∀ b H0' H',Ext H0 H H0' H'->q b->Q b H')->KX XE σ H x->te σ H Q
noncomputable def xE (K:aj) (XE:St->XK) (te:TA) (de:DA):Prop:=∀ {B0 B H0 H:Hp}{σ:St}{ds:DSt}{q:List D->Prop}{x:Addr->Prop}{Q:List V->Hp->Prop},Cfg K B0 B H0 H σ ds->de ds q x->(∀ vs xs H0' H',Ext H0 H H0' H'->Rps K H0' xs vs->q xs->Q vs H')->KX XE σ H x->te σ H Q
noncomputable def DenO (K:aj) (XE:St->XK) (te:TO) (de:DO):Prop:=∀ {B0 B H0 H:Hp}{σ:St}{ds:DSt}{q:Option Int->Prop}{x:Addr->Prop}{Q:Option Int->Hp->Prop},Cfg K B0 B H0 H σ ds->de ds q x->(∀ i H0' H',Ext H0 H H0' H'->q i->Q i H')->KX XE σ H x->te σ H Q
structure JE (X:Cx) (XE:St->XK) (e:Expr) (de:DE):Prop where
 ex:∃ te,PE X e te/\Den X.K XE te de
structure JT (X:Cx) (XE:St->XK) (e:Expr) (de:DT):Prop where
 ex:∃ te,PT X e te/\zi X.K XE te de
structure JW (X:Cx) (XE:St->XK) (e:Expr) (de:DT):Prop where
 ex:∃ te,PW X e te/\zi X.K XE te de
structure JAs (X:Cx) (XE:St->XK) (es:List Expr) (de:DA):Prop where
 ex:∃ te,PA X es te/\xE X.K XE te de
structure JO (X:Cx) (XE:St->XK) (e:Option Expr) (de:DO):Prop where
 ex:∃ te,PO X e te/\DenO X.K XE te de
section
variable {X:Cx}{XE:St->XK}
noncomputable def sV:Option Slot->(D->Prop)->Prop
 | some (.v d),q=>q d
 | _,_=>False
theorem sV_ex {s:Option Slot}{q:D->Prop}(h:sV s q):∃ d,s=some (.v d)/\q d:=by
 unfold sV at h;split at h
 ·exact ⟨_,rfl,h⟩
 ·exact h.elim
noncomputable def sO:Option Slot->(List D->Prop)->Prop
 | some (.own d),q=>q d
 | _,_=>False
theorem qw {s:Option Slot}{q:List D->Prop}(h:sO s q):∃ d,s=some (.own d)/\q d:=by
 unfold sO at h;split at h
 ·exact ⟨_,rfl,h⟩
 ·exact h.elim
noncomputable def sS:Option Slot->(Addr->Mu->Prop)->Prop
 | some (.st a μ),q=>q a μ
 | _,_=>False
theorem Bz {s:Option Slot}{q:Addr->Mu->Prop}(h:sS s q):∃ a μ,s=some (.st a μ)/\q a μ:=by
 unfold sS at h;split at h
 ·exact ⟨_,_,rfl,h⟩
 ·exact h.elim
noncomputable def aB:D->(Bool->Prop)->Prop
 | .bl b,q=>q b
 | _,_=>False
theorem Ef {d:D}{q:Bool->Prop}(h:aB d q):∃ b,d = .bl b/\q b:=by
 unfold aB at h;split at h
 ·exact ⟨_,rfl,h⟩
 ·exact h.elim
noncomputable def aI:D->(Int->Prop)->Prop
 | .int b,q=>q b
 | _,_=>False
theorem qx {d:D}{q:Int->Prop}(h:aI d q):∃ b,d = .int b/\q b:=by
 unfold aI at h;split at h
 ·exact ⟨_,rfl,h⟩
 ·exact h.elim
noncomputable def aT:D->(List D->Prop)->Prop
 | .tup b,q=>q b
 | _,_=>False
theorem aT_ex {d:D}{q:List D->Prop}(h:aT d q):∃ b,d = .tup b/\q b:=by
 unfold aT at h;split at h
 ·exact ⟨_,rfl,h⟩
 ·exact h.elim
noncomputable def lC:List D->(D->List D->Prop)->Prop
 | d::ds,q=>q d ds
 | _,_=>False
theorem lC_ex {d:List D}{q:D->List D->Prop}(h:lC d q):∃ a as,d=a::as/\q a as:=by
 unfold lC at h;split at h
 ·exact ⟨_,_,rfl,h⟩
 ·exact h.elim
noncomputable def lz:Nat->List D->Prop->Prop
 | 0,[],p=>p
 | n + 1,_::xs,p=>lz n xs p
 | _,_,_=>False
theorem BA:∀ {n:Nat}{xs:List D}{p:Prop},lz n xs p->xs.length=n/\p
 | 0,[],_,h=>⟨rfl,h⟩
 | n + 1,_::xs,_,h=>⟨congrArg (· + 1) (BA (n:=n) (xs:=xs) h).1,(BA (n:=n) (xs:=xs) h).2⟩
 | 0,_::_,_,h=>h.elim
 | _ + 1,[],_,h=>h.elim
noncomputable def pkO:List Nat->D->Prop->Prop
 | [],_,p=>p
 | _,d,p=>d.imm=true/\p
theorem Jx {pk:List Nat}{d:D}{p:Prop}(h:pkO pk d p):(pk=[]\/d.imm=true)/\p:=by
 cases pk with
 | nil=>exact ⟨.inl rfl,h⟩
 | cons a as=>exact ⟨.inr h.1,h.2⟩
theorem z_sV {d:D}{q:D->Prop}:sV (some (.v d)) q=q d:=rfl
theorem z_sO {d:List D}{q:List D->Prop}:sO (some (.own d)) q=q d:=rfl
theorem z_sS {a:Addr}{μ:Mu}{q:Addr->Mu->Prop}:sS (some (.st a μ)) q=q a μ:=rfl
theorem z_aB {b:Bool}{q:Bool->Prop}:aB (.bl b) q=q b:=rfl
theorem z_aI {b:Int}{q:Int->Prop}:aI (.int b) q=q b:=rfl
theorem z_aT {b:List D}{q:List D->Prop}:aT (.tup b) q=q b:=rfl
theorem z_lC {d:D}{ds:List D}{q:D->List D->Prop}:lC (d::ds) q=q d ds:=rfl
theorem z_lz {p:Prop}:lz 0 [] p=p:=rfl
theorem z_lzS {n:Nat}{d:D}{xs:List D}{p:Prop}:lz (n + 1) (d::xs) p=lz n xs p:=rfl
theorem z_pk {d:D}{p:Prop}:pkO [] d p=p:=rfl
theorem z_pkS {a:Nat}{as:List Nat}{d:D}{p:Prop}:pkO (a::as) d p=(d.imm=true/\p):=rfl
noncomputable def dVar (i:Nat):DE:=fun ds q _=>sV ds[i]? q
noncomputable def dC (d:D):DE:=fun _ q _=>q d
theorem VG {o:Option (Option V)}{v:V}(h:o.getD none=some v):o=some (some v):=by
 cases o with
 | none=>cases h
 | some o=>exact congrArg some h
theorem jv (i:Nat) {x:Str}{pos:Pos}(hN:autoParam (X.N[i]?=some x) auR) (hv:Vis X.env.scope x:=by first | exact Or.inl rfl | exact Or.inr (Or.inl rfl) | exact Or.inr (Or.inr rfl)) (hd:autoParam ((x == ("__debug__" : Str))=false) auD)
  (hcd:autoParam ((x == ("__classdict__" : Str))=false) auD):JE X XE (.Name x pos) (dVar i) :=
 ⟨_,pv i hN hv hd hcd,fun c h k _=>by
  obtain ⟨d,e,h⟩:=sV_ex h
  obtain ⟨v,e1,r⟩:=c.slot i _ e
  exact ⟨v,VG e1,k v d _ _ (.refl c.sub) r h⟩⟩
theorem Zd {i j pos}:JE X XE (.Constant (.int i) j pos) (dC (.int i)):=⟨_,pF,fun c h k _=>k _ (.int i) _ _ (.refl c.sub) rfl h⟩
theorem Eg {b j pos}:JE X XE (.Constant (.bool b) j pos) (dC (.bl b)):=⟨_,pe_bl,fun c h k _=>k _ (.bl b) _ _ (.refl c.sub) rfl h⟩
theorem ZQ {x:Str}{j pos}:JE X XE (.Constant (.str x) j pos) (dC (.str x)):=⟨_,pH,fun c h k _=>k _ (.str x) _ _ (.refl c.sub) rfl h⟩
theorem LY {j pos}:JE X XE (.Constant .none j pos) (dC .non):=⟨_,pG,fun c h k _=>k _ .non _ _ (.refl c.sub) rfl h⟩
theorem PZ {x:Str}{v:V}{u:Value}{pos:Pos}(d:D) (hg:Gl X x) (hm:X.mg x=some u) (r:RelV v u) (hr:∀ K H,Rp K H d v) (hd:autoParam ((x == ("__debug__" : Str))=false) auD):JE X XE (.Name x pos) (dC d) :=
 ⟨_,uD hg hm r hd,fun c h k _=>k _ _ _ _ (.refl c.sub) (hr _ _) h⟩
theorem Xu {x:Str}{n:String}{pos:Pos}(hg:Gl X x) (hm:X.mg x=none) (hv:bootBuiltins x=some (.type n)) (hn:autoParam (x≠("__name__" : Str)) auD) (hd:autoParam ((x == ("__debug__" : Str))=false) auD):JE X XE (.Name x pos) (dC (.ty n)) :=
 ⟨_,uE (v := .ty n) hg hm hv rfl hn hd,fun c h k _=>k _ (.ty n) _ _ (.refl c.sub) rfl h⟩
noncomputable def xF:DA:=fun _ q _=>q []
noncomputable def BC (da:DE) (dr:DA):DA:=fun ds q x=>da ds (fun a=>dr ds (fun as=>q (a::as)) x) x
theorem Zb:JAs X XE [] xF:=⟨_,Ua,fun c h k _=>k _ [] _ _ (.refl c.sub) rfl h⟩
theorem Zc {e:Expr}{es:List Expr}{da:DE}{dr:DA}(ha:JE X XE e da) (hr:JAs X XE es dr) (h:autoParam (noStar e=true) auR):JAs X XE (e::es) (BC da dr):=by
 obtain ⟨ta,p1,d1⟩:=ha.ex
 obtain ⟨tr,p2,d2⟩:=hr.ex
 refine ⟨_,Ma p1 p2 h,fun c h k kx=>?_⟩
 refine d1 c h (fun v a H1 H2 e r h=>?_) kx
 exact d2 (c.go e) h (fun vs as H3 H4 e' r' h'=>k _ (a::as) _ _ (e.trans e') ⟨v,vs,rfl,r.same e'.s0,r'⟩ h') (kx.go e.s)
noncomputable def Eh (K:aj) (r:R2) (g:D->D->(D->Prop)->Prop):Prop:=∀ {H0 H:Hp}{x y:V}{a b:D}{q:D->Prop}{Q:VK},Zw H0 H->Rp K H0 a x->Rp K H0 b y->g a b q->KE K H0 H q Q->r x y H Q
structure JOp (X:Cx) (f:Value->Value->Sem Value) (g:D->D->(D->Prop)->Prop):Prop where
 ex:∃ r,OpR X f r/\Eh X.K r g
noncomputable def dOp (g:D->D->(D->Prop)->Prop) (da db:DE):DE:=fun ds q x=>da ds (fun a=>db ds (fun b=>g a b q) x) x
theorem Gz {K:aj}{ta tb:TE}{da db:DE}{r:R2}{g:D->D->(D->Prop)->Prop}(d1:Den K XE ta da) (d2:Den K XE tb db) (l:Eh K r g):Den K XE (tOp r ta tb) (dOp g da db):=fun c h k kx =>
 d1 c h (fun v a H1 H2 e r1 h=>d2 (c.go e) h (fun u b H3 H4 e' r2 h'=>l (c.go (e.trans e')).sub (r1.same e'.s0) r2 h' (k.go (e.trans e'))) (kx.go e.s)) kx
theorem Zm {a b:Expr}{da db:DE}{op:Operator}{pos:Pos}{g:D->D->(D->Prop)->Prop}(ho:JOp X (binaryOp op) g) (ha:JE X XE a da) (hb:JE X XE b db):JE X XE (.BinOp a op b pos) (dOp g da db):=by
 obtain ⟨r,o,l⟩:=ho.ex
 obtain ⟨ta,p1,d1⟩:=ha.ex
 obtain ⟨tb,p2,d2⟩:=hb.ex
 exact ⟨_,pe_op o p1 p2,Gz d1 d2 l⟩
theorem WD {a b:Expr}{da db:DE}{op:CmpOp}{pos:Pos}{g:D->D->(D->Prop)->Prop}(ho:JOp X (compareOp op) g) (ha:JE X XE a da) (hb:JE X XE b db) (hm:behindInMarks op b=false):JE X XE (.Compare a [op] [b] pos) (dOp g da db):=by
 obtain ⟨r,o,l⟩:=ho.ex
 obtain ⟨ta,p1,d1⟩:=ha.ex
 obtain ⟨tb,p2,d2⟩:=hb.ex
 exact ⟨_,uL o p1 p2 hm,Gz d1 d2 l⟩
noncomputable def xG (g g':D->D->(D->Prop)->Prop) (da db dc:DE):DE:=fun ds q x=>da ds (fun a=>db ds (fun b=>g a b fun z=>aB z fun k=>if k=true then dc ds (fun c=>g' b c q) x else q (.bl false)) x) x
noncomputable def dB (de:DE):DT:=fun ds q x=>de ds (fun d=>aB d q) x
theorem Ei {K:aj}{te:TE}{de:DE}(d:Den K XE te de):zi K XE (yL te) (dB de):=fun c h k kx =>
 d c h (fun v a H1 H2 e r zq=>by obtain ⟨b,z,hb⟩:=Ef zq;subst z;exact ⟨b,r,k b _ _ e hb⟩) kx
theorem Zv {a b:Expr}{da db:DE}{op:CmpOp}{pos:Pos}{g:D->D->(D->Prop)->Prop}(ho:JOp X (compareOp op) g) (ha:JE X XE a da) (hb:JE X XE b db) (hm:behindInMarks op b=false):JT X XE (.Compare a [op] [b] pos) (dB (dOp g da db)):=by
 obtain ⟨r,o,l⟩:=ho.ex
 obtain ⟨ta,p1,d1⟩:=ha.ex
 obtain ⟨tb,p2,d2⟩:=hb.ex
 exact ⟨_,uM o p1 p2 hm,Ei (Gz d1 d2 l)⟩
theorem TU {a b c:Expr}{da db dc:DE}{op op':CmpOp}{pos:Pos}{g g':D->D->(D->Prop)->Prop}(ho:JOp X (compareOp op) g) (ho':JOp X (compareOp op') g') (ha:JE X XE a da) (hb:JE X XE b db) (hc:JE X XE c dc)
  (hm:lastMarks [op,op'] [b,c]=false:=by with_unfolding_all rfl):JT X XE (.Compare a [op,op'] [b,c] pos) (dB (xG g g' da db dc)):=by
 obtain ⟨r,o,l⟩:=ho.ex
 obtain ⟨r',o',l'⟩:=ho'.ex
 obtain ⟨ta,p1,d1⟩:=ha.ex
 obtain ⟨tb,p2,d2⟩:=hb.ex
 obtain ⟨tc,p3,d3⟩:=hc.ex
 refine ⟨_,yM o o' p1 p2 p3 hm,Ei fun c h k kx=>?_⟩
 refine d1 c h (fun v a H1 H2 e r1 h=>d2 (c.go e) h (fun u b H3 H4 e' r2 h'=>?_) (kx.go e.s)) kx
 refine l (c.go (e.trans e')).sub (r1.same e'.s0) r2 h' fun z d H5 H6 e2 r3 zq=>?_
 obtain ⟨kk,ek,hk⟩:=Ef zq
 subst ek
 refine ⟨kk,r3,?_⟩
 have e3:=(e.trans e').trans e2
 cases kk with
 | true =>
  rw [if_pos rfl] at hk ⊢
  exact d3 (c.go e3) hk (fun w' cc H7 H8 e4 r4 h4=>l' (c.go (e3.trans e4)).sub (r2.same (e2.trans e4).s0) r4 h4 (k.go (e3.trans e4))) (kx.go e3.s)
 | false =>
  rw [if_neg aD] at hk ⊢
  exact k _ (.bl false) _ _ e3 rfl hk
noncomputable def D.tru:D->(Bool->Prop)->Prop
 | .non,q=>q false
 | .bl b,q=>q b
 | .int i,q=>q (i != 0)
 | .str y,q=>y.length<=aA/\q ((y.length:Int) != 0)
 | .lst xs,q=>q (!xs.isEmpty)
 | .scr xs,q=>q (!xs.isEmpty)
 | .tup xs,q=>q (!xs.isEmpty)
 | _,_=>False
theorem Rps.empty {K:aj}{H:Hp}{xs:List D}{vs:List V}(h:Rps K H xs vs):vs.isEmpty=xs.isEmpty:=by
 cases xs with
 | nil=>rw [show vs=[] from h];rfl
 | cons d ds=>obtain ⟨v,us,rfl,_⟩:=h;rfl
theorem Rps.length {K:aj}{H:Hp}:∀ {xs:List D}{vs:List V},Rps K H xs vs->vs.length=xs.length
 | [],_,h=>by rw [show _=[] from h];rfl
 | d::ds,_,⟨v,us,e,_,h⟩=>by rw [e,length_cons,length_cons,Rps.length h]
noncomputable def dTru (de:DE):DT:=fun ds q x=>de ds (fun d=>d.tru q) x
theorem xH {K:aj}{H0 H:Hp}{d:D}{v:V}{q:Bool->Prop}(s:Zw H0 H) (r:Rp K H0 d v) (h:d.tru q):∃ b,TruV K v H b/\q b:=by
 cases d with
 | non=>rw [show v = .non from r];exact ⟨false,rfl,h⟩
 | bl b=>rw [show v = .bl b from r];exact ⟨b,rfl,h⟩
 | int i=>rw [show v = .int i from r];exact ⟨_,rfl,h⟩
 | str y=>rw [show v = .str y from r];exact ⟨_,⟨h.1,rfl⟩,h.2⟩
 | lst xs =>
  obtain ⟨a,vs,rfl,h1,h2⟩:=r
  exact ⟨_,.inl ⟨vs,SqL.of (s _ _ h1),rfl⟩,by rw [h2.empty];exact h⟩
 | scr xs =>
  obtain ⟨a,vs,rfl,h1,h2⟩:=r
  exact ⟨_,.inl ⟨vs,s.seq h1,rfl⟩,by rw [h2.empty];exact h⟩
 | tup xs =>
  obtain ⟨a,vs,rfl,h1,h2⟩:=r
  exact ⟨_,.inr (.inl ⟨vs,SqT.of (s _ _ h1),rfl⟩),by rw [h2.empty];exact h⟩
 | _=>exact h.elim
end
section
variable {X:Cx}{XE:St->XK}
theorem ZU {e:Expr}{de:DE}(h:JE X XE e de) (he:∀ whole,isTrue e X.env whole=(do let v <- whole;standAt e.pos;holding [v] (truthy v)):=by intro _;rfl):JT X XE e (dTru de):=by
 obtain ⟨te,p,d⟩:=h.ex
 refine ⟨_,yN p he,fun c h k kx=>d c h (fun v a H1 H2 e r h=>?_) kx⟩
 obtain ⟨b,h1,h2⟩:=xH (c.go e).sub r h
 exact ⟨b,h1,k b _ _ e h2⟩
noncomputable def dNot (d:DT):DT:=fun ds q x=>d ds (fun b=>q (!b)) x
noncomputable def dAnd (d e:DT):DT:=fun ds q x=>d ds (fun b=>if b=true then e ds q x else q false) x
noncomputable def dOr (d e:DT):DT:=fun ds q x=>d ds (fun b=>if b=true then q true else e ds q x) x
theorem Yj {a:Expr}{pos:Pos}{d:DT}(h:JT X XE a d):JT X XE (.UnaryOp .Not a pos) (dNot d):=by
 obtain ⟨te,p,d⟩:=h.ex
 exact ⟨_,pI p,fun c h k kx=>d c h (fun b H1 H2 e hb=>k _ _ _ e hb) kx⟩
theorem SL {a:Expr}{pos:Pos}{d:DT}(h:JT X XE a d):JW X XE (.BoolOp .And [a] pos) d:=by
 obtain ⟨te,p,d⟩:=h.ex
 exact ⟨_,pw_and1 p,d⟩
theorem Uc {a:Expr}{pos:Pos}{d:DT}(h:JT X XE a d):JW X XE (.BoolOp .Or [a] pos) d:=by
 obtain ⟨te,p,d⟩:=h.ex
 exact ⟨_,pw_or1 p,d⟩
theorem Oa {a b:Expr}{rest:List Expr}{pos:Pos}{d e:DT}(ha:JT X XE a d) (hb:JW X XE (.BoolOp .And (b::rest) pos) e):JW X XE (.BoolOp .And (a::b::rest) pos) (dAnd d e):=by
 obtain ⟨ta,p1,d1⟩:=ha.ex
 obtain ⟨tb,p2,d2⟩:=hb.ex
 refine ⟨_,pw_and p1 p2,fun c h k kx=>d1 c h (fun b H1 H2 e hb=>?_) kx⟩
 cases b with
 | true =>
  rw [if_pos rfl] at hb ⊢
  exact d2 (c.go e) hb (fun b' H3 H4 e' h'=>k _ _ _ (e.trans e') h') (kx.go e.s)
 | false =>
  rw [if_neg aD] at hb ⊢
  exact k _ _ _ e hb
theorem UU {a b:Expr}{rest:List Expr}{pos:Pos}{d e:DT}(ha:JT X XE a d) (hb:JW X XE (.BoolOp .Or (b::rest) pos) e):JW X XE (.BoolOp .Or (a::b::rest) pos) (dOr d e):=by
 obtain ⟨ta,p1,d1⟩:=ha.ex
 obtain ⟨tb,p2,d2⟩:=hb.ex
 refine ⟨_,pw_or p1 p2,fun c h k kx=>d1 c h (fun b H1 H2 e hb=>?_) kx⟩
 cases b with
 | true =>
  rw [if_pos rfl] at hb ⊢
  exact k _ _ _ e hb
 | false =>
  rw [if_neg aD] at hb ⊢
  exact d2 (c.go e) hb (fun b' H3 H4 e' h'=>k _ _ _ (e.trans e') h') (kx.go e.s)
theorem RX {e:Expr}{d:DT}(h:JW X XE e d):JT X XE e d:=by
 obtain ⟨te,p,d⟩:=h.ex
 exact ⟨_,p.pt,d⟩
noncomputable def qy (da db:DE):DE:=fun ds q x=>da ds (fun a=>aB a fun k=>if k=true then db ds q x else q (.bl false)) x
noncomputable def dOrV (da db:DE):DE:=fun ds q x=>da ds (fun a=>aB a fun k=>if k=true then q (.bl true) else db ds q x) x
noncomputable def qz (da:DE):DE:=fun ds q x=>da ds (fun a=>aB a fun k=>q (.bl (!k))) x
theorem SM {a:Expr}{pos:Pos}{op:BoolOp}{d:DE}(h:JE X XE a d):JE X XE (.BoolOp op [a] pos) d:=by
 obtain ⟨te,p,d⟩:=h.ex
 exact ⟨_,pJ p,d⟩
theorem Ob {a b:Expr}{rest:List Expr}{pos:Pos}{da db:DE}(ha:JE X XE a da) (hb:JE X XE (.BoolOp .And (b::rest) pos) db):JE X XE (.BoolOp .And (a::b::rest) pos) (qy da db):=by
 obtain ⟨ta,p1,d1⟩:=ha.ex
 obtain ⟨tb,p2,d2⟩:=hb.ex
 refine ⟨_,pK p1 p2,fun c h k kx=>d1 c h (fun v a H1 H2 e r zq=>?_) kx⟩
 obtain ⟨b,z,hb⟩:=Ef zq
 subst z
 refine ⟨b,r,?_⟩
 cases b with
 | true =>
  rw [if_pos rfl] at hb ⊢
  exact d2 (c.go e) hb (k.go e) (kx.go e.s)
 | false =>
  rw [if_neg aD] at hb ⊢
  exact k _ (.bl false) _ _ e rfl hb
theorem xI {a b:Expr}{rest:List Expr}{pos:Pos}{da db:DE}(ha:JE X XE a da) (hb:JE X XE (.BoolOp .Or (b::rest) pos) db):JE X XE (.BoolOp .Or (a::b::rest) pos) (dOrV da db):=by
 obtain ⟨ta,p1,d1⟩:=ha.ex
 obtain ⟨tb,p2,d2⟩:=hb.ex
 refine ⟨_,pe_or p1 p2,fun c h k kx=>d1 c h (fun v a H1 H2 e r zq=>?_) kx⟩
 obtain ⟨b,z,hb⟩:=Ef zq
 subst z
 refine ⟨b,r,?_⟩
 cases b with
 | true =>
  rw [if_pos rfl] at hb ⊢
  exact k _ (.bl true) _ _ e rfl hb
 | false =>
  rw [if_neg aD] at hb ⊢
  exact d2 (c.go e) hb (k.go e) (kx.go e.s)
theorem oE {a:Expr}{pos:Pos}{da:DE}(ha:JE X XE a da):JE X XE (.UnaryOp .Not a pos) (qz da):=by
 obtain ⟨ta,p1,d1⟩:=ha.ex
 refine ⟨_,pL p1,fun c h k kx=>d1 c h (fun v a H1 H2 e r zq=>?_) kx⟩
 obtain ⟨b,z,hb⟩:=Ef zq
 subst z
 exact ⟨b,r,k _ (.bl (!b)) _ _ e rfl hb⟩
noncomputable def dIfE (c:DT) (da db:DE):DE:=fun ds q x=>c ds (fun b=>if b=true then da ds q x else db ds q x) x
theorem qA {c a b:Expr}{pos:Pos}{dc:DT}{da db:DE}(hc:JT X XE c dc) (ha:JE X XE a da) (hb:JE X XE b db):JE X XE (.IfExp c a b pos) (dIfE dc da db):=by
 obtain ⟨tc,p0,d0⟩:=hc.ex
 obtain ⟨ta,p1,d1⟩:=ha.ex
 obtain ⟨tb,p2,d2⟩:=hb.ex
 refine ⟨_,yC p0 p1 p2,fun c h k kx=>d0 c h (fun b H1 H2 e hb=>?_) kx⟩
 cases b with
 | true =>
  rw [if_pos rfl] at hb ⊢
  exact d1 (c.go e) hb (k.go e) (kx.go e.s)
 | false =>
  rw [if_neg aD] at hb ⊢
  exact d2 (c.go e) hb (k.go e) (kx.go e.s)
noncomputable def dTup (da:DA):DE:=fun ds q x=>da ds (fun xs=>xs.length<=aA/\q (.tup xs)) x
noncomputable def dLst (da:DA):DE:=fun ds q x=>da ds (fun xs=>xs.length<=aA/\q (.lst xs)) x
theorem Mb {K:aj}{H0:Hp}{p:Addr}{vs:List V}{xs:List D}(r:Rps K H0 xs vs) (h:H0 p=none):Rp K (upd H0 p (.tup vs)) (.tup xs) (.ref p):=⟨p,vs,rfl,Zy,r.same (Zw.upd h)⟩
theorem Vt {K:aj}{H0:Hp}{p:Addr}{vs:List V}{xs:List D}(r:Rps K H0 xs vs) (h:H0 p=none):Rp K (upd H0 p (.lst vs)) (.lst xs) (.ref p):=⟨p,vs,rfl,Zy,r.same (Zw.upd h)⟩
theorem ZL {es:List Expr}{x1}{pos:Pos}{da:DA}(h:JAs X XE es da):JE X XE (.Tuple es x1 pos) (dTup da):=by
 obtain ⟨ta,p1,d1⟩:=h.ex
 refine ⟨_,yR p1,fun c h k kx=>d1 c h (fun vs xs H1 H2 e r hb=>⟨by rw [r.length];exact hb.1,fun p hp=>?_⟩) kx⟩
 exact k _ (.tup xs) _ _ (e.trans (.put e.sub hp)) (Mb r (e.sub.free hp)) hb.2
theorem WH {es:List Expr}{pos:Pos}{da:DA}(h:JAs X XE es da):JE X XE (.List es pos) (dLst da):=by
 obtain ⟨ta,p1,d1⟩:=h.ex
 refine ⟨_,DC p1,fun c h k kx=>d1 c h (fun vs xs H1 H2 e r hb=>⟨by rw [r.length];exact hb.1,fun p hp=>?_⟩) kx⟩
 exact k _ (.lst xs) _ _ (e.trans (.put e.sub hp)) (Vt r (e.sub.free hp)) hb.2
theorem Rps.get {K:aj}{H:Hp}:∀ {xs:List D}{vs:List V}{i:Nat}{d:D},Rps K H xs vs->xs[i]?=some d->∃ v,vs[i]?=some v/\Rp K H d v
 | [],_,_,_,_,e=>by simp at e
 | d::ds,_,0,_,⟨v,us,e,h,_⟩,q=>by
  simp at q
  subst q e
  exact ⟨v,rfl,h⟩
 | d::ds,_,i + 1,_,⟨v,us,e,_,h⟩,q=>by
  subst e
  obtain ⟨w,h1,h2⟩:=Rps.get (i:=i) h (by simpa using q)
  exact ⟨w,by simpa using h1,h2⟩
theorem Rps.app {K:aj}{H:Hp}:∀ {xs ys:List D}{vs us:List V},Rps K H xs vs->Rps K H ys us->Rps K H (xs++ys) (vs++us)
 | [],_,_,_,e,h=>by rw [show _=[] from e];exact h
 | d::ds,_,_,_,⟨v,ws,e,h,h'⟩,k=>by
  subst e
  exact ⟨v,_,rfl,h,Rps.app h' k⟩
theorem Rps.drop {K:aj}{H:Hp}:∀ {xs:List D}{vs:List V}(n:Nat),Rps K H xs vs->Rps K H (xs.drop n) (vs.drop n)
 | _,_,0,h=>h
 | [],_,n + 1,h=>by rw [show _=[] from h];rfl
 | d::ds,_,n + 1,⟨v,ws,e,_,h⟩=>by
  subst e
  exact Rps.drop n h
theorem Rps.take {K:aj}{H:Hp}:∀ {xs:List D}{vs:List V}(n:Nat),Rps K H xs vs->Rps K H (xs.take n) (vs.take n)
 | _,_,0,_=>rfl
 | [],_,n + 1,h=>by rw [show _=[] from h];rfl
 | d::ds,_,n + 1,⟨v,ws,e,h,h'⟩=>by
  subst e
  exact ⟨v,_,rfl,h,Rps.take n h'⟩
theorem Rps.rev {K:aj}{H:Hp}:∀ {xs:List D}{vs:List V},Rps K H xs vs->Rps K H xs.reverse vs.reverse
 | [],_,h=>by rw [show _=[] from h];rfl
 | d::ds,_,⟨v,ws,e,h,h'⟩=>by
  subst e
  rw [List.reverse_cons,List.reverse_cons]
  exact Rps.app (Rps.rev h') ⟨v,[],rfl,h,rfl⟩
theorem Rps.snoc {K:aj}{H:Hp}{xs:List D}{vs:List V}{d:D}{v:V}(h:Rps K H xs vs) (r:Rp K H d v):Rps K H (xs++[d]) (vs++[v]):=h.app ⟨v,[],rfl,r,rfl⟩
noncomputable def D.flat:D->Bool
 | .non=>true
 | .bl _=>true
 | .int _=>true
 | .str _=>true
 | _=>false
noncomputable def D.toV:D->V
 | .bl b => .bl b
 | .int i => .int i
 | .str x => .str x
 | .ty n => .ty n
 | .rf a => .ref a
 | _ => .non
theorem SN {K:aj}{H:Hp}{d:D}{v:V}(f:d.flat=true) (r:Rp K H d v):v=d.toV/\UT v=true:=by
 cases d with
 | non=>rw [show v = .non from r];exact ⟨rfl,rfl⟩
 | bl b=>rw [show v = .bl b from r];exact ⟨rfl,rfl⟩
 | int i=>rw [show v = .int i from r];exact ⟨rfl,rfl⟩
 | str x=>rw [show v = .str x from r];exact ⟨rfl,rfl⟩
 | _=>cases f
theorem Jy {K:aj}{H:Hp}:∀ {xs:List D}{vs:List V},xs.all D.flat=true->Rps K H xs vs->vs=xs.map D.toV/\vs.all UT=true
 | [],_,_,r=>by rw [show _=[] from r];exact ⟨rfl,rfl⟩
 | d::ds,_,f,⟨v,us,e,h,h'⟩=>by
  rw [all_cons,aF] at f
  obtain ⟨e1,f1⟩:=SN f.1 h
  obtain ⟨e2,f2⟩:=Jy f.2 h'
  subst e
  exact ⟨by rw [e2,e1];rfl,by rw [all_cons,f1,f2];rfl⟩
noncomputable def DY:D->D->(D->Prop)->Prop
 | .int i,.int j=>fun q=>q (.int (i + j))
 | .str i,.str j=>fun q=>i.length + j.length<=aA/\q (.str (i++j))
 | .lst xs,.lst ys=>fun q=>xs.length + ys.length<=aA/\q (.lst (xs++ys))
 | .scr xs,.lst ys=>fun q=>xs.length + ys.length<=aA/\q (.lst (xs++ys))
 | .tup xs,.tup ys=>fun q=>xs≠[]/\xs.length + ys.length<=aA/\q (.tup (xs++ys))
 | _,_=>fun _=>False
theorem ZP:JOp X (binaryOp .Add) DY:=by
 refine ⟨_,pP.or (Du.or (uX.or uU)),fun {H0 H x y a b q Q} s ra rb h k=>?_⟩
 unfold DY at h
 split at h
 ·rename_i i j
  rw [show x = .int i from ra,show y = .int j from rb]
  exact .inl ⟨i,j,rfl,rfl,k _ (.int (i + j)) _ _ (.refl s) rfl h⟩
 ·rename_i i j
  rw [show x = .str i from ra,show y = .str j from rb]
  exact .inr (.inl ⟨i,j,rfl,rfl,h.1,k _ (.str (i++j)) _ _ (.refl s) rfl h.2⟩)
 ·obtain ⟨a1,vs,rfl,h1,h2⟩:=ra
  obtain ⟨b1,us,rfl,h3,h4⟩:=rb
  refine .inr (.inr (.inl ⟨a1,b1,vs,us,rfl,rfl,SqL.of (s _ _ h1),SqL.of (s _ _ h3),by rw [h2.length,h4.length];exact h.1,fun p hp=>?_⟩))
  exact k _ (.lst _) _ _ (.put s hp) (Vt (h2.app h4) (s.free hp)) h.2
 ·obtain ⟨a1,vs,rfl,h1,h2⟩:=ra
  obtain ⟨b1,us,rfl,h3,h4⟩:=rb
  refine .inr (.inr (.inl ⟨a1,b1,vs,us,rfl,rfl,s.seq h1,SqL.of (s _ _ h3),by rw [h2.length,h4.length];exact h.1,fun p hp=>?_⟩))
  exact k _ (.lst _) _ _ (.put s hp) (Vt (h2.app h4) (s.free hp)) h.2
 ·obtain ⟨a1,vs,rfl,h1,h2⟩:=ra
  obtain ⟨b1,us,rfl,h3,h4⟩:=rb
  refine .inr (.inr (.inr ⟨a1,b1,vs,us,rfl,rfl,SqT.of (s _ _ h1),SqT.of (s _ _ h3),?_,by rw [h2.length,h4.length];exact h.2.1,fun z=>?_,fun _ p hp=>?_⟩))
  ·intro z
   have:=h2.length
   rw [z] at this
   exact h.1 (List.eq_nil_of_length_eq_zero this.symm)
  ·refine k _ (.tup _) _ _ (.refl s) ⟨a1,vs,rfl,h1,?_⟩ h.2.2
   have:=h2.app h4
   rw [z,append_nil] at this
   exact this
  ·exact k _ (.tup _) _ _ (.put s hp) (Mb (h2.app h4) (s.free hp)) h.2.2
 ·exact h.elim
noncomputable def dII (C:Int->Int->Prop) (g:Int->Int->D):D->D->(D->Prop)->Prop
 | .int i,.int j=>fun q=>C i j/\q (g i j)
 | _,_=>fun _=>False
noncomputable def dI0 (g:Int->Int->D):D->D->(D->Prop)->Prop
 | .int i,.int j=>fun q=>q (g i j)
 | _,_=>fun _=>False
theorem xJ {f:Value->Value->Sem Value}{C C':Int->Int->Prop}{g:Int->Int->V}{g':Int->Int->D}(o:OpR X f (rI C g)) (hC:∀ i j,C' i j->C i j) (hg:∀ K H i j,C' i j->Rp K H (g' i j) (g i j)):JOp X f (dII C' g'):=by
 refine ⟨_,o,fun {H0 H x y a b q Q} s ra rb h k=>?_⟩
 unfold dII at h
 split at h
 ·rename_i i j
  rw [show x = .int i from ra,show y = .int j from rb]
  exact ⟨i,j,rfl,rfl,hC _ _ h.1,k _ (g' i j) _ _ (.refl s) (hg _ _ i j h.1) h.2⟩
 ·exact h.elim
theorem Ej {f:Value->Value->Sem Value}{g:Int->Int->V}{g':Int->Int->D}(o:OpR X f (rI0 g)) (hg:∀ K H i j,Rp K H (g' i j) (g i j)):JOp X f (dI0 g'):=by
 refine ⟨_,o,fun {H0 H x y a b q Q} s ra rb h k=>?_⟩
 unfold dI0 at h
 split at h
 ·rename_i i j
  rw [show x = .int i from ra,show y = .int j from rb]
  exact ⟨i,j,rfl,rfl,k _ (g' i j) _ _ (.refl s) (hg _ _ i j) h⟩
 ·exact h.elim
noncomputable def Ek (i j:Int):Int:=if 0<=j then i / j else i.fdiv j
noncomputable def RY (i j:Int):Int:=if 0<=j then i % j else i.fmod j
theorem GA (i j:Int):Ek i j=i.fdiv j:=by
 unfold Ek
 split
 ·rw [Int.fdiv_eq_ediv_of_nonneg _ (by assumption)]
 ·rfl
theorem BD (i j:Int):RY i j=i.fmod j:=by
 unfold RY
 split
 ·rw [Int.fmod_eq_emod_of_nonneg _ (by assumption)]
 ·rfl
theorem SQ:JOp X (binaryOp .Sub) (dI0 fun i j => .int (i - j)):=Ej pQ fun _ _ _ _=>rfl
noncomputable def Small (j:Int):Prop:=j.natAbs < 1073741824\/Bd 9000 j
theorem Small.bd {j:Int}(h:Small j):Bd 9000 j:=by
 rcases h with h | h
 ·exact Bd.mono (n:=30) (by unfold Bd;exact h) (by decide)
 ·exact h
theorem ZS:JOp X (binaryOp .FloorDiv) (dII (fun _ j=>j≠0/\Small j) fun i j => .int (Ek i j)):=xJ xg (fun i j h=>⟨h.1,h.2.bd⟩) fun _ _ i j _=>by rw [GA];rfl
theorem Zr:JOp X (binaryOp .Mod) (dII (fun _ j=>j≠0) fun i j => .int (RY i j)):=xJ uJ (fun i j h=>h) fun _ _ i j _=>by rw [BD];rfl
theorem GB:JOp X (binaryOp .Pow) (dII CPow fun i j => .int (i ^ j.toNat)):=xJ pR (fun i j h=>h) fun _ _ _ _ _=>rfl
noncomputable def dMul:D->D->(D->Prop)->Prop
 | .int i,.int j=>fun q=>PH i j/\q (.int (i * j))
 | .lst xs,.int k=>fun q => -(2 ^ 63)<=k/\k < 2 ^ 63/\xs.length * k.toNat<=aA/\q (.lst (replicate k.toNat xs).flatten)
 | _,_=>fun _=>False
theorem Rps.flatten {K:aj}{H:Hp}{xs:List D}{vs:List V}(h:Rps K H xs vs):∀ n,Rps K H (replicate n xs).flatten (replicate n vs).flatten
 | 0=>rfl
 | n + 1=>by
  rw [replicate_succ,replicate_succ,flatten_cons,flatten_cons]
  exact h.app (Rps.flatten h n)
theorem Oc:JOp X (binaryOp .Mult) dMul:=by
 refine ⟨_,uY.or oo,fun {H0 H x y a b q Q} s ra rb h k=>?_⟩
 unfold dMul at h
 split at h
 ·rename_i i j
  rw [show x = .int i from ra,show y = .int j from rb]
  exact .inl ⟨i,j,rfl,rfl,h.1,k _ (.int (i * j)) _ _ (.refl s) rfl h.2⟩
 ·rename_i ys j
  obtain ⟨a1,vs,rfl,h1,h2⟩:=ra
  rw [show y = .int j from rb]
  refine .inr ⟨a1,j,vs,rfl,rfl,s _ _ h1,h.1,h.2.1,by rw [h2.length];exact h.2.2.1,fun p hp=>?_⟩
  exact k _ (.lst _) _ _ (.put s hp) (Vt (h2.flatten _) (s.free hp)) h.2.2.2
 ·exact h.elim
noncomputable def dLe:D->D->(D->Prop)->Prop:=dI0 fun i j => .bl (decide (i<=j))
noncomputable def dGt:D->D->(D->Prop)->Prop:=dI0 fun i j => .bl (decide (j < i))
noncomputable def dGe:D->D->(D->Prop)->Prop:=dI0 fun i j => .bl (decide (j<=i))
theorem Qb:JOp X (compareOp .LtE) dLe:=Ej op_le fun _ _ _ _=>rfl
theorem El:JOp X (compareOp .Gt) dGt:=Ej op_gt fun _ _ _ _=>rfl
theorem jo_ge:JOp X (compareOp .GtE) dGe:=Ej op_ge fun _ _ _ _=>rfl
noncomputable def dLt:D->D->(D->Prop)->Prop:=dI0 fun i j => .bl (decide (i < j))
theorem PJ:JOp X (compareOp .Lt) dLt:=Ej op_lt fun _ _ _ _=>rfl
noncomputable def D.VD:D->Bool
 | .non=>true
 | _=>false
noncomputable def dIsN:D->D->(D->Prop)->Prop
 | a,.non=>fun q=>q (.bl a.VD)
 | _,_=>fun _=>False
noncomputable def xK:D->D->(D->Prop)->Prop
 | a,.non=>fun q=>q (.bl (!a.VD))
 | _,_=>fun _=>False
theorem xM {K:aj}{H:Hp}{d:D}{v:V}(r:Rp K H d v):decide (v = .non)=d.VD:=by
 cases d with
 | non=>rw [show v = .non from r];rfl
 | bl b=>rw [show v = .bl b from r];rfl
 | int i=>rw [show v = .int i from r];rfl
 | str i=>rw [show v = .str i from r];rfl
 | ty i=>rw [show v = .ty i from r];rfl
 | rf i=>rw [show v = .ref i from r];rfl
 | tup xs=>obtain ⟨a,vs,rfl,_⟩:=r;rfl
 | lst xs=>obtain ⟨a,vs,rfl,_⟩:=r;rfl
 | obj C xs=>obtain ⟨a,vs,_,rfl,_⟩:=r;rfl
 | dic xs=>obtain ⟨a,vs,rfl,_⟩:=r;rfl
 | exc xs=>obtain ⟨a,rfl,_⟩:=r;rfl
 | scr xs=>obtain ⟨a,vs,rfl,_⟩:=r;rfl
theorem DZ:JOp X (compareOp .Is) dIsN:=by
 refine ⟨_,pT,fun {H0 H x y a b q Q} s ra rb h k=>?_⟩
 unfold dIsN at h
 split at h
 ·refine ⟨rb,?_⟩
  rw [xM ra]
  exact k _ (.bl _) _ _ (.refl s) rfl h
 ·exact h.elim
theorem BE:JOp X (compareOp .IsNot) xK:=by
 refine ⟨_,uK,fun {H0 H x y a b q Q} s ra rb h k=>?_⟩
 unfold xK at h
 split at h
 ·refine ⟨rb,?_⟩
  rw [xM ra]
  exact k _ (.bl _) _ _ (.refl s) rfl h
 ·exact h.elim
noncomputable def D.eqF (a b:D):Bool:=eqV a.toV b.toV
noncomputable def inD (x:D) (xs:List D):Bool:=xs.any fun y=>y.eqF x
noncomputable def inS (i j:Str):Bool := !(Builtin.Str.occurrences j i 0 j.length 1).isEmpty
noncomputable def dIn (neg:Bool):D->D->(D->Prop)->Prop
 | a,.lst xs=>fun q=>a.flat=true/\xs.all D.flat=true/\q (.bl (if neg then !inD a xs else inD a xs))
 | a,.tup xs=>fun q=>a.flat=true/\xs.all D.flat=true/\q (.bl (if neg then !inD a xs else inD a xs))
 | .str i,.str j=>fun q=>q (.bl (if neg then !inS i j else inS i j))
 | _,_=>fun _=>False
theorem BF (a:D) (xs:List D):inV a.toV (xs.map D.toV)=inD a xs:=by
 unfold inV inD D.eqF
 rw [any_map]
 rfl
theorem BH {K:aj}(neg:Bool):Eh K (fun x y H Q=>rIn K neg x y H Q\/∃ i j,x = .str i/\y = .str j/\Q (.bl (if neg then !inS i j else inS i j)) H) (dIn neg):=by
 intro H0 H x y a b q Q s ra rb h k
 unfold dIn at h
 split at h
 ·obtain ⟨p,vs,rfl,h1,h2⟩:=rb
  obtain ⟨e1,f1⟩:=SN h.1 ra
  obtain ⟨e2,f2⟩:=Jy h.2.1 h2
  refine .inl ⟨p,vs,rfl,.inl (SqL.of (s _ _ h1)),f1,f2,?_⟩
  rw [e1,e2,BF]
  exact k _ (.bl _) _ _ (.refl s) rfl h.2.2
 ·obtain ⟨p,vs,rfl,h1,h2⟩:=rb
  obtain ⟨e1,f1⟩:=SN h.1 ra
  obtain ⟨e2,f2⟩:=Jy h.2.1 h2
  refine .inl ⟨p,vs,rfl,.inr (SqT.of (s _ _ h1)),f1,f2,?_⟩
  rw [e1,e2,BF]
  exact k _ (.bl _) _ _ (.refl s) rfl h.2.2
 ·exact .inr ⟨_,_,ra,rb,k _ (.bl _) _ _ (.refl s) rfl h⟩
 ·exact h.elim
theorem RN:JOp X (compareOp .In) (dIn false):=⟨_,AQ.or AD,BH false⟩
theorem Jz:JOp X (compareOp .NotIn) (dIn true):=⟨_,Gj.or Ge,BH true⟩
noncomputable def dIx:D->D->(D->Prop)->Prop
 | .lst xs,.int i=>fun q=>∃ d,atI xs i=some d/\q d
 | .scr xs,.int i=>fun q=>∃ d,atI xs i=some d/\q d
 | .tup xs,.int i=>fun q=>∃ d,atI xs i=some d/\q d
 | .str z,.int i=>fun q=>z.length<=aA/\∃ c,atI z.cps.toList i=some c/\q (.str ⟨#[c]⟩)
 | _,_=>fun _=>False
theorem GC {K:aj}{H:Hp}{xs:List D}{vs:List V}{i:Int}{d:D}(r:Rps K H xs vs) (h:atI xs i=some d):∃ v,atI vs i=some v/\Rp K H d v:=by
 unfold atI at h ⊢
 rw [r.length]
 cases e:ixN xs.length i with
 | none=>rw [e] at h;cases h
 | some j =>
  rw [e] at h
  exact r.get h
theorem tH {K:aj}:Eh K (rIx K) dIx:=by
 intro H0 H x y a b q Q s ra rb h k
 unfold dIx at h
 split at h
 ·obtain ⟨p,vs,rfl,h1,h2⟩:=ra
  obtain ⟨d,e,hq⟩:=h
  obtain ⟨v,e',r⟩:=GC h2 e
  exact .inl ⟨p,vs,_,v,rfl,rb,SqL.of (s _ _ h1),e',k _ d _ _ (.refl s) r hq⟩
 ·obtain ⟨p,vs,rfl,h1,h2⟩:=ra
  obtain ⟨d,e,hq⟩:=h
  obtain ⟨v,e',r⟩:=GC h2 e
  exact .inl ⟨p,vs,_,v,rfl,rb,s.seq h1,e',k _ d _ _ (.refl s) r hq⟩
 ·obtain ⟨p,vs,rfl,h1,h2⟩:=ra
  obtain ⟨d,e,hq⟩:=h
  obtain ⟨v,e',r⟩:=GC h2 e
  exact .inr (.inl ⟨p,vs,_,v,rfl,rb,SqT.of (s _ _ h1),e',k _ d _ _ (.refl s) r hq⟩)
 ·obtain ⟨l,c,e,hq⟩:=h
  exact .inr (.inr ⟨_,_,c,ra,rb,l,e,k _ (.str _) _ _ (.refl s) rfl hq⟩)
 ·exact h.elim
theorem Zi {a b:Expr}{da db:DE}{pos:Pos}(ha:JE X XE a da) (hb:JE X XE b db) (hs:Gh b:=by exact fun _ _=>rfl):JE X XE (.Subscript a b pos) (dOp dIx da db):=by
 obtain ⟨ta,p1,d1⟩:=ha.ex
 obtain ⟨tb,p2,d2⟩:=hb.ex
 exact ⟨_,qu yV p1 p2 hs,Gz d1 d2 tH⟩
noncomputable def cutD (xs:List D) (lo hi:Option Int):List D:=(xs.drop (HT.sIx xs.length 0 lo)).take (HT.sIx xs.length xs.length hi - HT.sIx xs.length 0 lo)
theorem GD {K:aj}{H:Hp}{xs:List D}{vs:List V}{lo hi:Option Int}(r:Rps K H xs vs):Rps K H (cutD xs lo hi) (FT vs lo hi):=by
 unfold cutD FT
 rw [r.length]
 exact (r.drop _).take _
noncomputable def dSl:D->Option Int->Option Int->(D->Prop)->Prop
 | .lst xs,lo,hi=>fun q=>q (.lst (cutD xs lo hi))
 | .scr xs,lo,hi=>fun q=>q (.lst (cutD xs lo hi))
 | .str y,lo,hi=>fun q=>y.length<=aA/\q (.str (Txt.slice y lo hi))
 | _,_,_=>fun _=>False
noncomputable def BI:DO:=fun _ q _=>q none
noncomputable def qB (d:DE):DO:=fun ds q x=>d ds (fun a=>aI a fun i=>q (some i)) x
theorem Vb:JO X XE none BI:=⟨_,uT,fun c h k _=>k none _ _ (.refl c.sub) h⟩
theorem XY {e:Expr}{de:DE}(h:JE X XE e de):JO X XE (some e) (qB de):=by
 obtain ⟨te,p,d⟩:=h.ex
 exact ⟨_,Bp p,fun c h k kx=>d c h (fun v a H1 H2 e r zq=>by obtain ⟨i,z,hb⟩:=qx zq;subst z;exact ⟨i,r,k _ _ _ e hb⟩) kx⟩
noncomputable def xN (de:DE) (dl dh:DO):DE:=fun ds q x=>de ds (fun a=>dl ds (fun lo=>dh ds (fun hi=>dSl a lo hi q) x) x) x
theorem Wo {e:Expr}{de:DE}{lo hi:Option Expr}{dl dh:DO}{pos p2:Pos}(he:JE X XE e de) (hl:JO X XE lo dl) (hh:JO X XE hi dh):JE X XE (.Subscript e (.Slice lo hi none p2) pos) (xN de dl dh):=by
 obtain ⟨ta,p1,d1⟩:=he.ex
 obtain ⟨tl,p3,d3⟩:=hl.ex
 obtain ⟨th,p4,d4⟩:=hh.ex
 refine ⟨_,FR (uW.or ox) p1 p3 p4,fun c h k kx=>d1 c h (fun v a H1 H2 e r h=>d3 (c.go e) h (fun lo H3 H4 e' h'=>d4 (c.go (e.trans e')) h' (fun hi H5 H6 e2 h2=>?_) (kx.go (e.trans e').s)) (kx.go e.s)) kx⟩
 have e3:=(e.trans e').trans e2
 have s3:=(c.go e3).sub
 have r3:=r.same (e'.trans e2).s0
 unfold dSl at h2
 split at h2
 ·obtain ⟨p,vs,rfl,h5,h6⟩:=r3
  refine .inl ⟨p,vs,rfl,SqL.of (s3 _ _ h5),fun l hl=>?_⟩
  exact k _ (.lst _) _ _ (e3.trans (.put s3 hl)) (Vt (GD h6) (s3.free hl)) h2
 ·obtain ⟨p,vs,rfl,h5,h6⟩:=r3
  refine .inl ⟨p,vs,rfl,s3.seq h5,fun l hl=>?_⟩
  exact k _ (.lst _) _ _ (e3.trans (.put s3 hl)) (Vt (GD h6) (s3.free hl)) h2
 ·exact .inr ⟨_,r3,h2.1,k _ (.str _) _ _ e3 rfl h2.2⟩
 ·exact h2.elim
noncomputable def dNeg (de:DE):DE:=fun ds q x=>de ds (fun a=>aI a fun i=>q (.int (-i))) x
theorem Tj {a:Expr}{de:DE}{pos:Pos}(h:JE X XE a de):JE X XE (.UnaryOp .USub a pos) (dNeg de):=by
 obtain ⟨te,p,d⟩:=h.ex
 exact ⟨_,pe_un pS p,fun c h k kx=>d c h (fun v a H1 H2 e r zq=>by obtain ⟨i,z,hb⟩:=qx zq;subst z;exact ⟨i,r,k _ (.int (-i)) _ _ e rfl hb⟩) kx⟩
noncomputable def LiftC (K:aj) (r:List V->Hp->VK->Prop) (g:List D->(D->Prop)->Prop):Prop:=∀ {H0 H:Hp}{vs:List V}{xs:List D}{q:D->Prop}{Q:VK},Zw H0 H->Rps K H0 xs vs->g xs q->KE K H0 H q Q->r vs H Q
structure TV (X:Cx) (f:Value) (g:List D->(D->Prop)->Prop):Prop where
 ex:∃ r,Xn X f r/\LiftC X.K r g
noncomputable def dCB (g:List D->(D->Prop)->Prop) (da:DA):DE:=fun ds q x=>da ds (fun xs=>g xs q) x
theorem Yc {x:Str}{p pos:Pos}{e:Expr}{es:List Expr}{da:DA}{id:String}{g:List D->(D->Prop)->Prop}(hc:TV X (.builtin id) g) (hg:Gl X x) (hm:X.mg x=none) (hv:bootBuiltins x=some (.builtin id)) (ha:JAs X XE (e::es) da)
  (hst:autoParam (Yb (e::es)=true) auR) (hn:autoParam (x≠("__name__" : Str)) auD) (hdb:autoParam ((x == ("__debug__" : Str))=false) auD):JE X XE (.Call (.Name x p) (e::es) [] pos) (dCB g da):=by
 obtain ⟨r,o,l⟩:=hc.ex
 obtain ⟨ta,p1,d1⟩:=ha.ex
 exact ⟨_,pe_b o hg hm hv p1 hst hn hdb,fun c h k kx=>d1 c h (fun vs xs H1 H2 e r h=>l e.sub r h (k.go e)) kx⟩
theorem UW {x:Str}{p pos:Pos}{e:Expr}{es:List Expr}{da:DA}{T:String}{g:List D->(D->Prop)->Prop}(hc:TV X (.type T) g) (hg:Gl X x) (hm:X.mg x=none) (hv:bootBuiltins x=some (.type T)) (ha:JAs X XE (e::es) da)
  (hst:autoParam (Yb (e::es)=true) auR) (hn:autoParam (x≠("__name__" : Str)) auD) (hdb:autoParam ((x == ("__debug__" : Str))=false) auD):JE X XE (.Call (.Name x p) (e::es) [] pos) (dCB g da):=by
 obtain ⟨r,o,l⟩:=hc.ex
 obtain ⟨ta,p1,d1⟩:=ha.ex
 exact ⟨_,xu o hg hm hv p1 hst hn hdb,fun c h k kx=>d1 c h (fun vs xs H1 H2 e r h=>l e.sub r h (k.go e)) kx⟩
theorem Ud {K:aj}{H:Hp}{d:D}{vs:List V}(h:Rps K H [d] vs):∃ v,vs=[v]/\Rp K H d v:=by
 obtain ⟨v,us,rfl,r,e⟩:=h
 exact ⟨v,by rw [show us=[] from e],r⟩
theorem xO {K:aj}{H:Hp}{d e:D}{vs:List V}(h:Rps K H [d,e] vs):∃ v u,vs=[v,u]/\Rp K H d v/\Rp K H e u:=by
 obtain ⟨v,us,rfl,r,h⟩:=h
 obtain ⟨u,rfl,r'⟩:=Ud h
 exact ⟨v,u,rfl,r,r'⟩
noncomputable def zj:List D->(D->Prop)->Prop
 | [.lst xs]=>fun q=>q (.int xs.length)
 | [.scr xs]=>fun q=>q (.int xs.length)
 | [.tup xs]=>fun q=>q (.int xs.length)
 | [.str z]=>fun q=>z.length<=aA/\q (.int z.length)
 | _=>fun _=>False
theorem ZJ:TV X (.builtin "len") zj:=by
 refine ⟨_,Nn.or Gk,fun {H0 H vs xs q Q} s r h k=>?_⟩
 unfold zj at h
 split at h
 ·obtain ⟨v,rfl,p,ws,rfl,h1,h2⟩:=Ud r
  refine .inl ⟨p,ws,rfl,.inl (SqL.of (s _ _ h1)),?_⟩
  rw [h2.length]
  exact k _ (.int _) _ _ (.refl s) rfl h
 ·obtain ⟨v,rfl,p,ws,rfl,h1,h2⟩:=Ud r
  refine .inl ⟨p,ws,rfl,.inl (s.seq h1),?_⟩
  rw [h2.length]
  exact k _ (.int _) _ _ (.refl s) rfl h
 ·obtain ⟨v,rfl,p,ws,rfl,h1,h2⟩:=Ud r
  refine .inl ⟨p,ws,rfl,.inr (SqT.of (s _ _ h1)),?_⟩
  rw [h2.length]
  exact k _ (.int _) _ _ (.refl s) rfl h
 ·obtain ⟨v,rfl,e⟩:=Ud r
  rw [show v = .str _ from e]
  exact .inr ⟨_,rfl,h.1,k _ (.int _) _ _ (.refl s) rfl h.2⟩
 ·exact h.elim
noncomputable def dAbs:List D->(D->Prop)->Prop
 | [.int i]=>fun q=>q (.int (if i < 0 then -i else i))
 | _=>fun _=>False
theorem oG:TV X (.builtin "abs") dAbs:=by
 refine ⟨_,yO,fun {H0 H vs xs q Q} s r h k=>?_⟩
 unfold dAbs at h
 split at h
 ·obtain ⟨v,rfl,e⟩:=Ud r
  rw [show v = .int _ from e]
  exact ⟨_,rfl,k _ (.int _) _ _ (.refl s) rfl h⟩
 ·exact h.elim
noncomputable def dMax2:List D->(D->Prop)->Prop
 | [.int i,.int j]=>fun q=>q (.int (if j > i then j else i))
 | _=>fun _=>False
noncomputable def BJ:List D->(D->Prop)->Prop
 | [.int i]=>fun q=>q (.int i)
 | [.bl b]=>fun q=>q (.int (if b then 1 else 0))
 | _=>fun _=>False
theorem Ca:TV X (.type "int") BJ:=by
 refine ⟨_,AF,fun {H0 H vs xs q Q} s r h k=>?_⟩
 unfold BJ at h
 split at h
 ·obtain ⟨v,rfl,e⟩:=Ud r
  rw [show v = .int _ from e]
  exact .inl ⟨_,rfl,k _ (.int _) _ _ (.refl s) rfl h⟩
 ·obtain ⟨v,rfl,e⟩:=Ud r
  rw [show v = .bl _ from e]
  exact .inr ⟨_,rfl,k _ (.int _) _ _ (.refl s) rfl h⟩
 ·exact h.elim
noncomputable def dStr1:List D->(D->Prop)->Prop
 | [.int i]=>fun q=>i.natAbs.log2 < 1920/\q (.str (toString i))
 | _=>fun _=>False
noncomputable def JA:List D->(D->Prop)->Prop
 | [.lst xs]=>fun q=>q (.lst xs)
 | [.scr xs]=>fun q=>q (.lst xs)
 | [.tup xs]=>fun q=>q (.lst xs)
 | _=>fun _=>False
theorem BK:TV X (.type "list") JA:=by
 refine ⟨_,Gm,fun {H0 H vs xs q Q} s r h k=>?_⟩
 unfold JA at h
 split at h
 ·obtain ⟨v,rfl,p,ws,rfl,h1,h2⟩:=Ud r
  exact ⟨p,ws,rfl,.inl (SqL.of (s _ _ h1)),fun l hl=>k _ (.lst _) _ _ (.put s hl) (Vt h2 (s.free hl)) h⟩
 ·obtain ⟨v,rfl,p,ws,rfl,h1,h2⟩:=Ud r
  exact ⟨p,ws,rfl,.inl (s.seq h1),fun l hl=>k _ (.lst _) _ _ (.put s hl) (Vt h2 (s.free hl)) h⟩
 ·obtain ⟨v,rfl,p,ws,rfl,h1,h2⟩:=Ud r
  exact ⟨p,ws,rfl,.inr (SqT.of (s _ _ h1)),fun l hl=>k _ (.lst _) _ _ (.put s hl) (Vt h2 (s.free hl)) h⟩
 ·exact h.elim
noncomputable def JB:List D->(D->Prop)->Prop
 | [.lst xs]=>fun q=>q (.tup xs)
 | [.tup xs]=>fun q=>q (.tup xs)
 | _=>fun _=>False
theorem Qc:TV X (.type "tuple") JB:=by
 refine ⟨_,IK,fun {H0 H vs xs q Q} s r h k=>?_⟩
 unfold JB at h
 split at h
 ·obtain ⟨v,rfl,p,ws,rfl,h1,h2⟩:=Ud r
  exact ⟨p,ws,rfl,.inl ⟨SqL.of (s _ _ h1),fun l hl=>k _ (.tup _) _ _ (.put s hl) (Mb h2 (s.free hl)) h⟩⟩
 ·obtain ⟨v,rfl,p,ws,rfl,h1,h2⟩:=Ud r
  exact ⟨p,ws,rfl,.inr ⟨SqT.of (s _ _ h1),k _ (.tup _) _ _ (.refl s) ⟨p,ws,rfl,h1,h2⟩ h⟩⟩
 ·exact h.elim
noncomputable def bools:List D->Option (List Bool)
 | []=>some []
 | .bl b::r=>(bools r).map (b :: ·)
 | _::_=>none
theorem HI {K:aj}{H:Hp}:∀ {xs:List D}{bs:List Bool}{vs:List V},bools xs=some bs->Rps K H xs vs->vs=bs.map V.bl
 | [],_,_,e,r=>by cases e;exact r
 | d::ds,bs,_,e,⟨v,us,z,h,h'⟩=>by
  cases d with
  | bl b =>
   unfold bools at e
   cases q:bools ds with
   | none=>rw [q] at e;cases e
   | some cs =>
    rw [q] at e
    cases e
    rw [z,HI q h',show v = .bl b from h]
    rfl
  | _=>cases e
noncomputable def zk:List D->(D->Prop)->Prop
 | [.lst xs]=>fun q=>∃ bs,bools xs=some bs/\q (.bl (bs.all id))
 | _=>fun _=>False
noncomputable def dAny:List D->(D->Prop)->Prop
 | [.lst xs]=>fun q=>∃ bs,bools xs=some bs/\q (.bl (bs.any id))
 | _=>fun _=>False
theorem Md (hc:autoParam (X.calm=true) auR):TV X (.builtin "all") zk:=by
 refine ⟨_,xt hc,fun {H0 H vs xs q Q} s r h k=>?_⟩
 unfold zk at h
 split at h
 ·obtain ⟨v,rfl,p,ws,rfl,h1,h2⟩:=Ud r
  obtain ⟨bs,e,hq⟩:=h
  rw [HI e h2] at h1
  exact ⟨p,bs,rfl,SqL.of (s _ _ h1),k _ (.bl _) _ _ (.refl s) rfl hq⟩
 ·exact h.elim
end
mutual
noncomputable def D.eqb:D->D->Bool
 | .tup xs,.tup ys=>D.Pn xs ys
 | .lst xs,.lst ys=>D.Pn xs ys
 | a,b=>eqV a.toV b.toV
noncomputable def D.Pn:List D->List D->Bool
 | [],[]=>true
 | x::xs,y::ys=>D.eqb x y && D.Pn xs ys
 | _,_=>false
end
noncomputable def Nq (R:D->D->Bool):List D->List D->Bool
 | x::xs,y::ys=>R x y && Nq R xs ys
 | _,_=>true
noncomputable def D.GF:Nat->D->D->Bool
 | 0=>fun a b=>a.flat && b.flat
 | n + 1=>fun a b=>match a,b with
  | .tup xs,.tup ys=>Nq (D.GF n) xs ys
  | .lst xs,.lst ys=>Nq (D.GF n) xs ys
  | a,b=>a.flat && b.flat
theorem xP {a b:D}(h:a.flat=true):D.eqb a b=eqV a.toV b.toV:=by
 cases a with
 | tup _=>cases h
 | lst _=>cases h
 | non=>unfold D.eqb;rfl
 | bl _=>unfold D.eqb;rfl
 | int _=>unfold D.eqb;rfl
 | str _=>unfold D.eqb;rfl
 | _=>cases h
section
variable {K:aj}{H:Hp}
theorem JC {R:D->D->Bool}{R':V->V->Bool->Prop}(h:∀ {a b x y},R a b=true->Rp K H a x->Rp K H b y->R' x y (D.eqb a b)):∀ {xs ys:List D}{vs us:List V},Nq R xs ys=true->Rps K H xs vs->Rps K H ys us->EqL R' vs us (D.Pn xs ys)
 | [],[],_,_,_,r,r'=>by rw [show _=[] from r,show _=[] from r'];unfold D.Pn;exact .nil
 | [],y::ys,_,_,_,r,⟨u,us,e,_,_⟩=>by rw [show _=[] from r,e];unfold D.Pn;exact .left _ _
 | x::xs,[],_,_,_,⟨v,vs,e,_,_⟩,r=>by rw [show _=[] from r,e];unfold D.Pn;exact .right _ _
 | x::xs,y::ys,_,_,o,⟨v,vs,e,r1,r2⟩,⟨u,us,e',r3,r4⟩=>by
  unfold Nq at o
  rw [aF] at o
  rw [e,e']
  unfold D.Pn
  exact .cons (h o.1 r1 r3) (JC h o.2 r2 r4)
theorem xQ:∀ (n:Nat) {a b:D}{x y:V},D.GF n a b=true->Rp K H a x->Rp K H b y->EqN K H n x y (D.eqb a b):=by
 have fl:∀ (n:Nat) {a b:D}{x y:V},(a.flat && b.flat)=true->Rp K H a x->Rp K H b y->EqN K H n x y (D.eqb a b):=by
  intro n a b x y o r r'
  rw [aF] at o
  obtain ⟨e1,f1⟩:=SN o.1 r
  obtain ⟨e2,f2⟩:=SN o.2 r'
  induction n with
  | zero=>exact .inl ⟨f1,f2,by rw [xP o.1,e1,e2]⟩
  | succ n ih=>exact .inl ih
 intro n
 induction n with
 | zero=>intro a b x y o r r';exact fl 0 (by unfold D.GF at o;exact o) r r'
 | succ n ih =>
  intro a b x y o r r'
  unfold D.GF at o
  split at o
  ·obtain ⟨p,vs,rfl,h1,h2⟩:=r
   obtain ⟨p',us,rfl,h3,h4⟩:=r'
   unfold D.eqb
   exact .inr ⟨p,p',vs,us,rfl,rfl,.inl ⟨SqT.of h1,SqT.of h3⟩,JC (fun o r r'=>ih o r r') o h2 h4⟩
  ·obtain ⟨p,vs,rfl,h1,h2⟩:=r
   obtain ⟨p',us,rfl,h3,h4⟩:=r'
   unfold D.eqb
   exact .inr ⟨p,p',vs,us,rfl,rfl,.inr ⟨SqL.of h1,SqL.of h3⟩,JC (fun o r r'=>ih o r r') o h2 h4⟩
  ·exact fl (n + 1) o r r'
end
noncomputable def dEq (neg:Bool):D->D->(D->Prop)->Prop
 | .tup xs,.tup ys=>fun q=>Nq (D.GF 80) xs ys=true/\q (.bl (if neg then !D.Pn xs ys else D.Pn xs ys))
 | .lst xs,.lst ys=>fun q=>Nq (D.GF 80) xs ys=true/\q (.bl (if neg then !D.Pn xs ys else D.Pn xs ys))
 | a,b=>fun q=>a.flat=true/\b.flat=true/\scal a.toV b.toV=true/\q (.bl (if neg then !decide (a.toV=b.toV) else decide (a.toV=b.toV)))
theorem BL {K:aj}(neg:Bool):Eh K (fun x y H Q=>(scal x y=true/\Q (.bl (if neg then !decide (x=y) else decide (x=y))) H)\/rEqD K neg x y H Q) (dEq neg):=by
 intro H0 H x y a b q Q s ra rb h k
 unfold dEq at h
 split at h
 ·obtain ⟨p,vs,rfl,h1,h2⟩:=ra
  obtain ⟨p',us,rfl,h3,h4⟩:=rb
  exact .inr ⟨80,p,p',vs,us,_,by decide,rfl,rfl,.inl ⟨SqT.of (s _ _ h1),SqT.of (s _ _ h3)⟩,JC (fun o r r'=>xQ 80 o r r') h.1 (h2.same s) (h4.same s),k _ (.bl _) _ _ (.refl s) rfl h.2⟩
 ·obtain ⟨p,vs,rfl,h1,h2⟩:=ra
  obtain ⟨p',us,rfl,h3,h4⟩:=rb
  exact .inr ⟨80,p,p',vs,us,_,by decide,rfl,rfl,.inr ⟨SqL.of (s _ _ h1),SqL.of (s _ _ h3)⟩,JC (fun o r r'=>xQ 80 o r r') h.1 (h2.same s) (h4.same s),k _ (.bl _) _ _ (.refl s) rfl h.2⟩
 ·obtain ⟨h1,h2,h3,h4⟩:=h
  obtain ⟨e1,_⟩:=SN h1 ra
  obtain ⟨e2,_⟩:=SN h2 rb
  rw [e1,e2]
  exact .inl ⟨h3,k _ (.bl _) _ _ (.refl s) rfl h4⟩
section
variable {X:Cx}{XE:St->XK}
theorem Xb (hu:X.A.units + 100 < cLine):JOp X (compareOp .Eq) (dEq false):=⟨_,op_eq.or (oy hu),BL false⟩
theorem Ue (hu:X.A.units + 100 < cLine):JOp X (compareOp .NotEq) (dEq true):=⟨_,op_ne.or (oz hu),BL true⟩
noncomputable def D.tyN:D->Option String
 | .non=>some "NoneType"
 | .bl _=>some "bool"
 | .int _=>some "int"
 | .str _=>some "str"
 | .lst _=>some "list"
 | .tup _=>some "tuple"
 | _=>none
noncomputable def xR (t n:String):Bool:=t == n || (t == "bool" && n == "int")
theorem oH {K:aj}{H:Hp}{d:D}{v:V}{t:String}(r:Rp K H d v) (e:d.tyN=some t):PU K H v (.type t):=by
 cases d with
 | non=>cases e;rw [show v = .non from r];exact .non
 | bl b=>cases e;rw [show v = .bl b from r];exact .bl b
 | int b=>cases e;rw [show v = .int b from r];exact .int b
 | str b=>cases e;rw [show v = .str b from r];exact .str b
 | lst xs=>cases e;obtain ⟨a,vs,rfl,h,_⟩:=r;exact .lst h
 | tup xs=>cases e;obtain ⟨a,vs,rfl,h,_⟩:=r;exact .tup h
 | _=>cases e
noncomputable def Mf:List String:=["int", "str", "bool", "list", "tuple"]
theorem zl {K:aj}{d:D}{t n:String}(e:d.tyN=some t) (hn:n∈Mf):kitOne K (.type t) (.type n)=some (xR t n):=by
 unfold Mf at hn
 simp only [mem_cons,not_mem_nil,or_false] at hn
 cases d with
 | non=>cases e;rcases hn with rfl | rfl | rfl | rfl | rfl <;> with_unfolding_all rfl
 | bl b=>cases e;rcases hn with rfl | rfl | rfl | rfl | rfl <;> with_unfolding_all rfl
 | int b=>cases e;rcases hn with rfl | rfl | rfl | rfl | rfl <;> with_unfolding_all rfl
 | str b=>cases e;rcases hn with rfl | rfl | rfl | rfl | rfl <;> with_unfolding_all rfl
 | lst xs=>cases e;rcases hn with rfl | rfl | rfl | rfl | rfl <;> with_unfolding_all rfl
 | tup xs=>cases e;rcases hn with rfl | rfl | rfl | rfl | rfl <;> with_unfolding_all rfl
 | _=>cases e
noncomputable def refs:List D->Option (List Addr)
 | []=>some []
 | .rf a::r=>(refs r).map (a :: ·)
 | _::_=>none
noncomputable def tys:List D->Option (List String)
 | []=>some []
 | .ty a::r=>(tys r).map (a :: ·)
 | _::_=>none
theorem Em {K:aj}{H:Hp}:∀ {xs:List D}{bs:List Addr}{vs:List V},refs xs=some bs->Rps K H xs vs->vs=bs.map V.ref
 | [],_,_,e,r=>by cases e;exact r
 | d::ds,bs,_,e,⟨v,us,z,h,h'⟩=>by
  cases d with
  | rf b =>
   unfold refs at e
   cases q:refs ds with
   | none=>rw [q] at e;cases e
   | some cs =>
    rw [q] at e
    cases e
    rw [z,Em q h',show v = .ref b from h]
    rfl
  | _=>cases e
theorem GH {K:aj}{H:Hp}:∀ {xs:List D}{bs:List String}{vs:List V},tys xs=some bs->Rps K H xs vs->vs=bs.map V.ty
 | [],_,_,e,r=>by cases e;exact r
 | d::ds,bs,_,e,⟨v,us,z,h,h'⟩=>by
  cases d with
  | ty b =>
   unfold tys at e
   cases q:tys ds with
   | none=>rw [q] at e;cases e
   | some cs =>
    rw [q] at e
    cases e
    rw [z,GH q h',show v = .ty b from h]
    rfl
  | _=>cases e
noncomputable def isiT (K:aj) (n:String):D->(D->Prop)->Prop
 | .exc C=>fun q=>∃ b,XTy K C/\kitOne K (.ref C) (.type n)=some b/\q (.bl b)
 | x=>fun q=>∃ t,x.tyN=some t/\n∈Mf/\q (.bl (xR t n))
noncomputable def isiF (K:aj) (B:Addr):D->(D->Prop)->Prop
 | .exc C=>fun q=>∃ b,XTy K C/\kitOne K (.ref C) (.ref B)=some b/\q (.bl b)
 | .obj C _=>fun q=>∃ b,Cls K C/\xl K C/\kitOne K (.ref C) (.ref B)=some b/\q (.bl b)
 | _=>fun _=>False
noncomputable def isiU (K:aj) (cs:List D):D->(D->Prop)->Prop
 | .exc C=>fun q=>∃ as b,refs cs=some as/\XTy K C/\kitAny K (.ref C) (as.map Value.ref)=some b/\q (.bl b)
 | .lst _=>fun q=>∃ as b,tys cs=some as/\kitAny K (.type "list") (as.map Value.type)=some b/\q (.bl b)
 | .tup _=>fun q=>∃ as b,tys cs=some as/\kitAny K (.type "tuple") (as.map Value.type)=some b/\q (.bl b)
 | _=>fun _=>False
noncomputable def isiC (K:aj) (x:D):D->(D->Prop)->Prop
 | .ty n=>isiT K n x
 | .rf B=>isiF K B x
 | .tup cs=>isiU K cs x
 | _=>fun _=>False
noncomputable def TX (K:aj):List D->(D->Prop)->Prop
 | [x,c]=>isiC K x c
 | _=>fun _=>False
theorem tI {K:aj}{n:String}{x:D}{q:D->Prop}(h:isiT K n x q):(∃ C b,x = .exc C/\XTy K C/\kitOne K (.ref C) (.type n)=some b/\q (.bl b))\/∃ t,x.tyN=some t/\n∈Mf/\q (.bl (xR t n)):=by
 cases x
 case exc C=>obtain ⟨b,h⟩:=h;exact .inl ⟨C,b,rfl,h⟩
 all_goals exact .inr h
theorem Wd {K:aj}(hK:X.K=K):TV X (.builtin "isinstance") (TX K):=by
 subst hK
 refine ⟨_,xi.or (AY.or zf),fun {H0 H vs xs q Q} s r h k=>?_⟩
 rcases xs with _ | ⟨x,_ | ⟨c,_ | ⟨z,zs⟩⟩⟩
 ·exact (show False from h).elim
 ·exact (show False from h).elim
 ·obtain ⟨v,u,rfl,h1,h2⟩:=xO r
  cases c
  case ty n =>
   rw [show u = .ty _ from h2]
   rcases tI h with ⟨C,b,rfl,ty,kk,hq⟩ | ⟨t,e,hn,hq⟩
   ·obtain ⟨a,rfl,h1⟩:=h1
    exact .inr (.inl ⟨a,_,rfl,s _ _ h1,ty,.inl ⟨_,_,b,rfl,fun u h=>h,kk,k _ (.bl _) _ _ (.refl s) rfl hq⟩⟩)
   ·exact .inl ⟨_,_,_,_,_,rfl,fun u h=>h,oH (h1.same s) e,zl e hn,k _ (.bl _) _ _ (.refl s) rfl hq⟩
  case rf B =>
   rw [show u = .ref _ from h2]
   cases x
   case exc C =>
    obtain ⟨a,rfl,h1⟩:=h1
    obtain ⟨b,ty,kk,hq⟩:=h
    exact .inr (.inl ⟨a,_,rfl,s _ _ h1,ty,.inl ⟨_,_,b,rfl,fun u h=>h,kk,k _ (.bl _) _ _ (.refl s) rfl hq⟩⟩)
   case obj C fs =>
    obtain ⟨a,dx,fs,rfl,h1,_⟩:=h1
    obtain ⟨b,cl,ty,kk,hq⟩:=h
    exact .inl ⟨_,_,_,_,b,rfl,fun u h=>h,.ins (s _ _ h1) cl ty.ha ty.hn ty.htk ty.hm,kk,k _ (.bl _) _ _ (.refl s) rfl hq⟩
   all_goals exact (show False from h).elim
  case tup cs =>
   obtain ⟨tp,ws,rfl,h2,h3⟩:=h2
   cases x
   case exc C =>
    obtain ⟨a,rfl,h1⟩:=h1
    obtain ⟨as,b,e,ty,kk,hq⟩:=h
    rw [Em e h3] at h2
    exact .inr (.inl ⟨a,_,rfl,s _ _ h1,ty,.inr ⟨tp,as,b,rfl,s _ _ h2,kk,k _ (.bl _) _ _ (.refl s) rfl hq⟩⟩)
   case lst xs =>
    obtain ⟨a,us,rfl,h1,_⟩:=h1
    obtain ⟨as,b,e,kk,hq⟩:=h
    rw [GH e h3] at h2
    exact .inr (.inr ⟨a,tp,as,b, "list",rfl,.inl ⟨⟨_,s _ _ h1⟩,rfl⟩,s _ _ h2,kk,k _ (.bl _) _ _ (.refl s) rfl hq⟩)
   case tup xs =>
    obtain ⟨a,us,rfl,h1,_⟩:=h1
    obtain ⟨as,b,e,kk,hq⟩:=h
    rw [GH e h3] at h2
    exact .inr (.inr ⟨a,tp,as,b, "tuple",rfl,.inr ⟨⟨_,s _ _ h1⟩,rfl⟩,s _ _ h2,kk,k _ (.bl _) _ _ (.refl s) rfl hq⟩)
   all_goals exact (show False from h).elim
  all_goals exact (show False from h).elim
 ·exact (show False from h).elim
noncomputable def LiftM (K:aj) (T:String) (r:V->List V->Hp->VK->Prop) (g:D->List D->(D->Prop)->Prop):Prop:=∀ {H0 H:Hp}{v:V}{vs:List V}{d:D}{xs:List D}{q:D->Prop}{Q:VK},Zw H0 H->Rp K H0 d v->Rps K H0 xs vs->g d xs q->KE K H0 H q Q->r v vs H Q
noncomputable def tyD (T:String):D->Prop
 | .str _=>T = "str"
 | .lst _=>T = "list"
 | .scr _=>T = "list"
 | _=>False
theorem xS {K:aj}{H:Hp}{T:String}{d:D}{v:V}(r:Rp K H d v) (h:tyD T d):tyV K T v H:=by
 cases d with
 | str x=>rw [show v = .str x from r];exact h
 | lst xs=>obtain ⟨a,vs,rfl,e,_⟩:=r;exact .inl ⟨h,vs,SqL.of e⟩
 | scr xs=>obtain ⟨a,vs,rfl,e,_⟩:=r;exact .inl ⟨h,vs,e⟩
 | _=>exact h.elim
structure JMt (X:Cx) (T id:String) (g:D->List D->(D->Prop)->Prop):Prop where
 ex:∃ r,MtR X id r/\LiftM X.K T r g
noncomputable def dBM (T:String) (g:D->List D->(D->Prop)->Prop) (dO:DE) (da:DA):DE:=fun ds q x=>dO ds (fun o=>tyD T o/\da ds (fun xs=>g o xs q) x) x
theorem qC {o e:Expr}{es:List Expr}{dO:DE}{da:DA}{name:Str}{apos cpos:Pos}{T id:String}{g:D->List D->(D->Prop)->Prop}(pa:PlainAttrs T) (slot:PySem.Slot T name id) (hty:typeOf (.builtin id)=pure (.type "method_descriptor")) (hm:JMt X T id g) (ho:JE X XE o dO) (ha:JAs X XE (e::es) da)
  (hbase:autoParam (attributeBase o name X.env (eval o X.env)=eval o X.env) auR)
  (hfew:autoParam (((backTo cpos (starEach (e::es) X.env)).all (fun x => !x.1) && (backToKw cpos (keywordEach [] X.env)).all (fun x=>x.1.isSome)
   && decide ((e::es).length + ([]:List Keyword).length + (if ([]:List Keyword).isEmpty then 0 else 1) < 30))=true) auR)
  (hline:autoParam ((apos.endLine == cpos.line)=true) auR) (hs:autoParam (starEach (e::es) X.env=(false,eval e X.env)::starEach es X.env) auR) (hplain:autoParam ((backTo cpos (starEach es X.env)).any (·.1)=false) auR) :
  JE X XE (.Call (.Attribute o name apos) (e::es) [] cpos) (dBM T g dO da):=by
 obtain ⟨r,m,l⟩:=hm.ex
 obtain ⟨to,p1,d1⟩:=ho.ex
 obtain ⟨ta,p2,d2⟩:=ha.ex
 refine ⟨_,Jp pa slot hty m p1 p2 hbase hfew hline hs hplain,fun c h k kx=>d1 c h (fun v o H1 H2 e r h=>?_) kx⟩
 exact ⟨xS (r.same e.sub) h.1,d2 (c.go e) h.2 (fun vs xs H3 H4 e' r' h'=>l (c.go (e.trans e')).sub (r.same e'.s0) r' h' (k.go (e.trans e'))) (kx.go e.s)⟩
theorem Cb {o:Expr}{dO:DE}{name:Str}{apos cpos:Pos}{T id:String}{g:D->List D->(D->Prop)->Prop}(pa:PlainAttrs T) (slot:PySem.Slot T name id) (hty:typeOf (.builtin id)=pure (.type "method_descriptor")) (hm:JMt X T id g) (ho:JE X XE o dO)
  (hbase:autoParam (attributeBase o name X.env (eval o X.env)=eval o X.env) auR) (hline:autoParam ((apos.endLine == cpos.line)=true) auR) :
  JE X XE (.Call (.Attribute o name apos) [] [] cpos) (dBM T g dO xF):=by
 obtain ⟨r,m,l⟩:=hm.ex
 obtain ⟨to,p1,d1⟩:=ho.ex
 refine ⟨_,yZ pa slot hty m p1 hbase hline,fun c h k kx=>d1 c h (fun v o H1 H2 e r h=>?_) kx⟩
 exact ⟨xS (r.same e.sub) h.1,l (c.go e).sub r (show Rps X.K H1 [] [] from rfl) h.2 (k.go e)⟩
noncomputable def texts:List D->Option (List Str)
 | []=>some []
 | .str a::r=>(texts r).map (a :: ·)
 | _::_=>none
theorem En {K:aj}{H:Hp}:∀ {xs:List D}{bs:List Str}{vs:List V},texts xs=some bs->Rps K H xs vs->vs=bs.map V.str
 | [],_,_,e,r=>by cases e;exact r
 | d::ds,bs,_,e,⟨v,us,z,h,h'⟩=>by
  cases d with
  | str b =>
   unfold texts at e
   cases q:texts ds with
   | none=>rw [q] at e;cases e
   | some cs =>
    rw [q] at e
    cases e
    rw [z,En q h',show v = .str b from h]
    rfl
  | _=>cases e
noncomputable def BM:D->List D->(D->Prop)->Prop
 | .str sep,[.lst xs]=>fun q=>∃ ys,texts xs=some ys/\(ys.map (·.length)).sum + ys.length * sep.length<=16777216/\q (.str (Txt.join sep ys))
 | _,_=>fun _=>False
theorem tJ:JMt X "str" "str.join" BM:=by
 refine ⟨_,tm,fun {H0 H v vs d xs q Q} s r rs h k=>?_⟩
 unfold BM at h
 split at h
 ·obtain ⟨u,rfl,p,ws,rfl,h1,h2⟩:=Ud rs
  obtain ⟨ys,e,l,hq⟩:=h
  rw [En e h2] at h1
  exact ⟨_,p,ys,r,rfl,SqL.of (s _ _ h1),l,k _ (.str _) _ _ (.refl s) rfl hq⟩
 ·exact h.elim
noncomputable def oI:D->List D->(D->Prop)->Prop
 | .str y,[]=>fun q=>y.length<=5592405/\q (.str (Txt.upper y))
 | _,_=>fun _=>False
noncomputable def oJ:D->List D->(D->Prop)->Prop
 | .str y,[]=>fun q=>y.length<=5592405/\q (.str (Txt.lower y))
 | _,_=>fun _=>False
end
structure Wp where
 nx:DSt->Prop
 rt:D->Prop
 xc:DSt->Addr->Prop
 bk:DSt->Prop:=fun _=>False
 ct:DSt->Prop:=fun _=>False
 rb:D->DSt->Prop:=fun _ _=>False
 ro:List D->DSt->Prop:=fun _ _=>False
abbrev DS:=DSt->Wp->Prop
abbrev DG:=D->DSt->(DSt->Prop)->Prop
abbrev DGs:=List D->DSt->(DSt->Prop)->Prop
structure GI (K:aj) (XE:St->XK) (B0 B:Hp) (e:Wp) (T:Ends):Prop where
 nx:∀ H0 H σ ds,Cfg K B0 B H0 H σ ds->e.nx ds->T.nx σ H
 rt:∀ v d H0 H,Ext B0 B H0 H->Rp K H0 d v->e.rt d->T.rt v H
 xc:∀ H0 H σ ds C,Cfg K B0 B H0 H σ ds->e.xc ds C->XE σ (.ref C) none H
 bk:∀ H0 H σ ds,Cfg K B0 B H0 H σ ds->e.bk ds->T.bk σ H
 ct:∀ H0 H σ ds,Cfg K B0 B H0 H σ ds->e.ct ds->T.ct σ H
 rb:∀ v d H0 H σ ds,Cfg K B0 B H0 H σ ds->Rp K H0 d v->e.rb d ds->T.rt v H
 ro:∀ a vs ys H0 H σ ds,Cfg K B0 B H0 H σ ds->B a=none->H0 a=none->H a=some (.lst vs)->Rps K H0 ys vs->(∀ (i:Nat) s,ds[i]?=some s->s.foot ((σ[i]?).getD none) a->False)->e.ro ys ds->T.rt (.ref a) H
theorem GI.kx {K:aj}{XE:St->XK}{B0 B H0 H:Hp}{e:Wp}{T:Ends}{σ:St}{ds:DSt}(o:GI K XE B0 B e T) (c:Cfg K B0 B H0 H σ ds):KX XE σ H (e.xc ds):=fun C H' s h=>o.xc H0 H' σ ds C (c.go (Ext.grow c.sub s)) h
noncomputable def GJ (K:aj) (XE:St->XK) (ts:TS) (s:DS):Prop:=∀ {B0 B H0 H:Hp}{σ:St}{ds:DSt}{e:Wp}{T:Ends},Cfg K B0 B H0 H σ ds->s ds e->GI K XE B0 B e T->ts T σ H
noncomputable def Keeps (ds ds':DSt):Prop:=∀ (i:Nat) s,ds'[i]?=some s->s.isOwn=true->ds[i]?=some s
noncomputable def Eo (K:aj) (g:TG) (dg:DG):Prop:=∀ {B0 B H0 H:Hp}{σ:St}{ds:DSt}{v:V}{d:D}{q:DSt->Prop}{Q:St->Hp->Prop},Cfg K B0 B H0 H σ ds->Rp K H0 d v->dg d ds q->(∀ σ' ds',Cfg K B0 B H0 H σ' ds'->Keeps ds ds'->q ds'->Q σ' H)->g v σ H Q
noncomputable def DenGs (K:aj) (g:TGs) (dg:DGs):Prop:=∀ {B0 B H0 H:Hp}{σ:St}{ds:DSt}{vs:List V}{xs:List D}{q:DSt->Prop}{Q:St->Hp->Prop},Cfg K B0 B H0 H σ ds->Rps K H0 xs vs->dg xs ds q->(∀ σ' ds',Cfg K B0 B H0 H σ' ds'->Keeps ds ds'->q ds'->Q σ' H)->g vs σ H Q
structure JS (X:Cx) (XE:St->XK) (st:Stmt) (s:DS):Prop where
 ex:∃ ts,PS X st ts/\GJ X.K XE ts s
structure JSs (X:Cx) (XE:St->XK) (st:List Stmt) (s:DS):Prop where
 ex:∃ ts,PSs X st ts/\GJ X.K XE ts s
structure JG (X:Cx) (tg:Expr) (g:DG):Prop where
 ex:∃ t,PG X tg t/\Eo X.K t g
structure JGs (X:Cx) (tg:List Expr) (g:DGs):Prop where
 ex:∃ t,PGs X tg t/\DenGs X.K t g
section
variable {X:Cx}{XE:St->XK}
noncomputable def Xv (i:Nat):DG:=fun d ds q=>q (ds.set i (.v d))
noncomputable def BO:DGs:=fun xs ds q=>lz 0 xs (q ds)
noncomputable def Mg (g:DG) (r:DGs):DGs:=fun xs ds q=>lC xs fun d ys=>g d ds fun ds'=>r ys ds' q
noncomputable def BP (n:Nat) (g:DGs):DG:=fun d ds q=>aT d fun xs=>lz n xs (g xs ds q)
theorem zm {ds:DSt}{i:Nat}{d:D}:Keeps ds (ds.set i (.v d)):=fun j s e w=>by
 by_cases hi:i < ds.length
 ·rw [XO hi] at e
  split at e
  ·cases e;cases w
  ·exact e
 ·rw [Gx hi] at e;exact e
theorem Keeps.trans {a b c:DSt}(h:Keeps a b) (k:Keeps b c):Keeps a c:=fun i s e w=>h i s (k i s e w) w
theorem Keeps.refl {a:DSt}:Keeps a a:=fun i s e w=>e
theorem Nr {K:aj}(i:Nat):Eo K (Jk i) (Xv i):=fun c r h k=>k _ _ (c.setV i r) zm h
theorem Zk {i:Nat}{x:Str}{pos:Pos}(hN:X.N.Nodup) (hi:X.N[i]?=some x) (hx:Loc X.env.scope x) (hf:X.fn x=true\/X.env.scope.names.lookup x=some .local:=by first | exact .inl rfl | exact .inr rfl | assumption):JG X (.Name x pos) (Xv i) :=
 ⟨_,uH hN hi hx hf,Nr i⟩
theorem VH:JGs X [] BO:=⟨_,uI,fun c r h k=>by
 obtain ⟨e,h⟩:=BA h
 cases List.eq_nil_of_length_eq_zero e
 exact ⟨r,k _ _ c .refl h⟩⟩
theorem ZM {e:Expr}{es:List Expr}{g:DG}{r:DGs}(h1:JG X e g) (h2:JGs X es r) (hs:autoParam ((assignEach (e::es) X.env).map (·.2)=assign e X.env::(assignEach es X.env).map (·.2)) auR):JGs X (e::es) (Mg g r):=by
 obtain ⟨t1,p1,d1⟩:=h1.ex
 obtain ⟨t2,p2,d2⟩:=h2.ex
 refine ⟨_,yF p1 p2 hs,fun c r h k=>?_⟩
 obtain ⟨d,ys,e,h⟩:=lC_ex h
 subst e
 obtain ⟨v,us,rfl,r1,r2⟩:=r
 exact ⟨v,us,rfl,d1 c r1 h fun σ' ds' c' kp h'=>d2 c' r2 h' fun σ2 ds2 c2 kp2 h2=>k σ2 ds2 c2 (kp.trans kp2) h2⟩
theorem SR {es:List Expr}{k n:Nat}{pos:Pos}{g:DGs}(h:JGs X es g) (hc:autoParam (X.calm=true) auR) (hn:autoParam ((assignEach es X.env).length=n) auR) (hst:autoParam ((assignEach es X.env).findIdx? (·.1)=none) auR):JG X (.Tuple es k pos) (BP n g):=by
 obtain ⟨t1,p1,d1⟩:=h.ex
 refine ⟨_,pM hc p1 hn hst,fun c r h k=>?_⟩
 obtain ⟨xs,e,h0⟩:=aT_ex h
 obtain ⟨l,hq⟩:=BA h0
 subst e
 obtain ⟨a,vs,rfl,h1,h2⟩:=r
 exact ⟨a,vs,rfl,SqT.of (c.sub _ _ h1),by rw [h2.length];exact l,d1 c h2 hq k⟩
noncomputable def qD:DS:=fun ds e=>e.nx ds
noncomputable def dSeq (s t:DS):DS:=fun ds e=>s ds { e with nx:=fun ds'=>t ds' e }
theorem Zn:JSs X XE [] qD:=⟨_,uF,fun c h o=>o.nx _ _ _ _ c h⟩
theorem Ze {st:Stmt}{s:DS}(h:JS X XE st s):JSs X XE [st] s:=by
 obtain ⟨t,p,d⟩:=h.ex
 exact ⟨_,uG p,d⟩
theorem Za {st:Stmt}{rest:List Stmt}{s t:DS}(h:JS X XE st s) (h2:JSs X XE rest t):JSs X XE (st::rest) (dSeq s t):=by
 obtain ⟨t1,p1,d1⟩:=h.ex
 obtain ⟨t2,p2,d2⟩:=h2.ex
 exact ⟨_,yE p1 p2,fun c h o=>d1 c h ⟨fun H0 H σ ds c' h'=>d2 c' h' o,o.rt,o.xc,o.bk,o.ct,o.rb,o.ro⟩⟩
noncomputable def xT (de:DE) (g:DG):DS:=fun ds e=>de ds (fun d=>g d ds e.nx) (e.xc ds)
theorem GK {K:aj}{te:TE}{de:DE}{t:TG}{g:DG}(d:Den K XE te de) (dg:Eo K t g):GJ K XE (Gd te t) (xT de g):=fun c h o =>
 d c h (fun v a H1 H2 e r h=>dg (c.go e) r h fun σ' ds' c' _ h'=>o.nx _ _ _ _ c' h') (o.kx c)
theorem Zj {i:Nat}{x:Str}{e:Expr}{de:DE}{pos pos':Pos}(hN:X.N.Nodup) (hi:X.N[i]?=some x) (hx:Loc X.env.scope x) (he:JE X XE e de) (hs:autoParam (swapsWith e (some (.Name x pos')) pos.line X.env=pure false) auR)
  (hf:X.fn x=true\/X.env.scope.names.lookup x=some .local:=by first | exact .inl rfl | exact .inr rfl | assumption):JS X XE (.Assign [.Name x pos'] e pos) (xT de (Xv i)):=by
 obtain ⟨te,p,d⟩:=he.ex
 exact ⟨_,PQ hN hi hx p hs hf,GK d (Nr i)⟩
theorem JD {tg e:Expr}{de:DE}{g:DG}{pos:Pos}(he:JE X XE e de) (hg:JG X tg g) (hs:autoParam (swapsWithSole [tg] e pos.line X.env=pure false) auR) (hw:autoParam (swappedStores [tg] e X.env=pure none) auR)
  (h1:autoParam ((assignEach [tg] X.env).map (·.2)=[assign tg X.env]) auR):JS X XE (.Assign [tg] e pos) (xT de g):=by
 obtain ⟨te,p,d⟩:=he.ex
 obtain ⟨t,p2,d2⟩:=hg.ex
 exact ⟨_,Jl p p2 hs hw h1,GK d d2⟩
noncomputable def dPar (i j:Nat) (da:DA):DS:=fun ds e=>da ds (fun xs=>lC xs fun a xs=>lC xs fun b xs=>lz 0 xs (e.nx ((ds.set i (.v a)).set j (.v b)))) (e.xc ds)
noncomputable def qE (de:DE):DS:=fun ds e=>de ds (fun _=>e.nx ds) (e.xc ds)
theorem Ja {e:Expr}{de:DE}{pos:Pos}(he:JE X XE e de) (hs:autoParam (swapsWith e none pos.line X.env=pure false) auR):JS X XE (.Expr e pos) (qE de):=by
 obtain ⟨te,p,d⟩:=he.ex
 exact ⟨_,SA p hs,fun c h o=>d c h (fun v a H1 H2 e r h=>o.nx _ _ _ _ (c.go e) h) (o.kx c)⟩
noncomputable def dRet (pk:List Nat) (de:DE):DS:=fun ds e=>de (peekAt pk ds) e.rt (e.xc ds)
theorem Zt (pk:List Nat) {e:Expr}{de:DE}{pos:Pos}(he:JE X XE e de):JS X XE (.Return (some e) pos) (dRet pk de):=by
 obtain ⟨te,p,d⟩:=he.ex
 refine ⟨_,Dq p,fun c h o=>?_⟩
 obtain ⟨H1,c1,_⟩:=c.peekAt pk
 exact d c1 h (fun v a H1 H2 e r h=>o.rt _ _ _ _ (c1.ext.trans e) r h) (o.kx c)
noncomputable def dIf (pk:List Nat) (c:DT) (s t:DS):DS:=fun ds e=>c (peekAt pk ds) (fun b=>if b=true then s ds e else t ds e) (e.xc ds)
theorem Zz (pk:List Nat) {c:Expr}{a b:List Stmt}{pos:Pos}{dc:DT}{s t:DS}(hc:JT X XE c dc) (ha:JSs X XE a s) (hb:JSs X XE b t):JS X XE (.If c a b pos) (dIf pk dc s t):=by
 obtain ⟨tc,p0,d0⟩:=hc.ex
 obtain ⟨t1,p1,d1⟩:=ha.ex
 obtain ⟨t2,p2,d2⟩:=hb.ex
 refine ⟨_,ps_if p0 p1 p2,fun c h o=>?_⟩
 obtain ⟨H1,c1,s1,l1,n1⟩:=c.peekAt pk
 refine d0 c1 h (fun b H2 H3 e h=>?_) (o.kx c)
 obtain ⟨H4,e4,_⟩:=e.Ee s1 c.sub l1 n1
 cases b with
 | true =>
  rw [if_pos rfl] at h ⊢
  exact d1 (c.go e4) h o
 | false =>
  rw [if_neg aD] at h ⊢
  exact d2 (c.go e4) h o
noncomputable def dCut (s:DS):DS:=fun ds e=>∃ M:DSt->Prop,s ds { e with nx:=M }/\∀ ds',M ds'->e.nx ds'
theorem Xr {st:Stmt}{s:DS}(h:JS X XE st s):JS X XE st (dCut s):=by
 obtain ⟨t,p,d⟩:=h.ex
 refine ⟨_,p,fun c h o=>?_⟩
 obtain ⟨M,h,k⟩:=h
 exact d c h ⟨fun H0 H σ ds c' h'=>o.nx _ _ _ _ c' (k ds h'),o.rt,o.xc,o.bk,o.ct,o.rb,o.ro⟩
noncomputable def Walks (K:aj) (J:It) (xs:List D) (W0:Hp):Prop:=∀ (i:Nat) (H0 H:Hp),Zw W0 H0->Zw H0 H ->
 (i < xs.length->J.go i H/\∀ x H',J.yld i H x H'->∃ H0',Ext H0 H H0' H'/\∃ d,xs[i]?=some d/\Rp K H0' d x)/\(xs.length<=i->J.stop i H)
abbrev DI:=DSt->(List D->Prop)->(Addr->Prop)->Prop
noncomputable def DenI (K:aj) (XE:St->XK) (wi:TI) (di:DI):Prop:=∀ {B0 B H0 H:Hp}{σ:St}{ds:DSt}{q:List D->Prop}{x:Addr->Prop}{R:It->Hp->Prop},Cfg K B0 B H0 H σ ds->di ds q x->(∀ J xs H0' H',Ext H0 H H0' H'->Walks K J xs H0'->q xs->R J H')->KX XE σ H x->wi σ H R
structure JI (X:Cx) (XE:St->XK) (tg iter:Expr) (di:DI):Prop where
 ex:∃ wi,PI X tg iter wi/\DenI X.K XE wi di
theorem HJ {K:aj}{W0:Hp}{a:Addr}{vs:List V}{xs:List D}(h:SqL K W0 a vs) (r:Rps K W0 xs vs):Walks K (Itl K a) xs W0:=by
 intro i H0 H s0 s
 have hs:SqL K H a vs:=(s0.trans s).seq h
 refine ⟨fun hi=>?_,fun hi=>⟨vs,hs,by rw [r.length];exact hi⟩⟩
 obtain ⟨v,e,rv⟩:=r.get (aC hi)
 refine ⟨⟨vs,v,hs,e⟩,fun x H' y=>?_⟩
 obtain ⟨rfl,y⟩:=y
 have:=y vs hs
 rw [e] at this
 cases this
 exact ⟨H0,.refl s,_,aC hi,rv.same s0⟩
theorem xU {K:aj}{W0:Hp}{a:Addr}{vs:List V}{xs:List D}(h:SqT K W0 a vs) (r:Rps K W0 xs vs):Walks K (Itt K a) xs W0:=by
 intro i H0 H s0 s
 have hs:SqT K H a vs:=h.same (s0.trans s)
 refine ⟨fun hi=>?_,fun hi=>⟨vs,hs,by rw [r.length];exact hi⟩⟩
 obtain ⟨v,e,rv⟩:=r.get (aC hi)
 refine ⟨⟨vs,v,hs,e⟩,fun x H' y=>?_⟩
 obtain ⟨rfl,y⟩:=y
 have:=y vs hs
 rw [e] at this
 cases this
 exact ⟨H0,.refl s,_,aC hi,rv.same s0⟩
noncomputable def intsFrom (lo:Int) (n:Nat):List D:=(List.range n).map fun i:Nat => .int (lo + i)
theorem Cd {K:aj}{W0:Hp}{lo:Int}{n:Nat}:Walks K (Itr lo n) (intsFrom lo n) W0:=by
 intro i H0 H s0 s
 have hl:(intsFrom lo n).length=n:=by unfold intsFrom;simp
 refine ⟨fun hi=>?_,fun hi=>by rw [hl] at hi;exact hi⟩
 rw [hl] at hi
 refine ⟨hi,fun x H' y=>?_⟩
 obtain ⟨rfl,rfl⟩:=y
 refine ⟨H0,.refl s,.int (lo + i),?_,rfl⟩
 unfold intsFrom
 rw [getElem?_map,List.getElem?_range hi]
 rfl
noncomputable def signs (x:Str):List D:=x.cps.toList.map fun c => .str ⟨#[c]⟩
theorem xV {K:aj}{W0:Hp}{x:Str}:Walks K (Its x) (signs x) W0:=by
 intro i H0 H s0 s
 have hl:(signs x).length=x.cps.size:=by unfold signs;simp
 refine ⟨fun hi=>?_,fun hi=>by rw [hl] at hi;exact hi⟩
 rw [hl] at hi
 refine ⟨hi,fun v H' y=>?_⟩
 obtain ⟨rfl,c,e,rfl⟩:=y
 refine ⟨H0,.refl s,.str ⟨#[c]⟩,?_,rfl⟩
 unfold signs
 rw [getElem?_map,Array.getElem?_toList,e]
 rfl
noncomputable def qF (xs:List D):List D:=xs.mapIdx fun i x => .tup [.int i,x]
theorem oK {tg l:Expr}{de:DE}(h:JE X XE l de):JI X XE tg l (fun ds q x=>de ds (fun d=>match d with | .str y=>q (signs y) | _=>False) x):=by
 obtain ⟨te,p,d⟩:=h.ex
 refine ⟨_,ou p,fun c h k kx=>d c h (fun v a H1 H2 e r h=>?_) kx⟩
 split at h
 ·exact ⟨_,r,k _ _ _ _ e xV h⟩
 ·exact h.elim
noncomputable def qG (de:DE):DI:=fun ds q x=>de ds (fun d=>match d with | .lst xs=>q xs | .scr xs=>q xs | .tup xs=>q xs | _=>False) x
theorem Yk {tg l:Expr}{de:DE}(h:JE X XE l de):JI X XE tg l (qG de):=by
 obtain ⟨te,p,d⟩:=h.ex
 refine ⟨_,oB p,fun c h k kx=>d c h (fun v a H1 H2 e r h=>?_) kx⟩
 split at h
 ·obtain ⟨a,vs,rfl,h1,h2⟩:=r
  exact ⟨a,rfl,.inl ⟨⟨vs,SqL.of (e.sub _ _ h1)⟩,k _ _ _ _ e (HJ (SqL.of h1) h2) h⟩⟩
 ·obtain ⟨a,vs,rfl,h1,h2⟩:=r
  exact ⟨a,rfl,.inl ⟨⟨vs,e.sub.seq h1⟩,k _ _ _ _ e (HJ h1 h2) h⟩⟩
 ·obtain ⟨a,vs,rfl,h1,h2⟩:=r
  exact ⟨a,rfl,.inr ⟨⟨vs,SqT.of (e.sub _ _ h1)⟩,k _ _ _ _ e (xU (SqT.of h1) h2) h⟩⟩
 ·exact h.elim
noncomputable def qH (da:DA):DI:=fun ds q x=>da ds (fun xs=>∃ j:Int,xs=[.int j] /\ -(2 ^ 62)<=j/\j < 2 ^ 62/\q (intsFrom 0 j.toNat)) x
noncomputable def dRng2 (da:DA):DI:=fun ds q x=>da ds (fun xs=>∃ i j:Int,xs=[.int i,.int j]/\(-(2 ^ 62)<=i/\i < 2 ^ 62 /\ -(2 ^ 62)<=j/\j < 2 ^ 62)/\q (intsFrom i (j - i).toNat)) x
theorem YJ {tg a:Expr}{da:DA}{p pos:Pos}(hg:Gl X "range") (hm:X.mg "range" = none) (ha:JAs X XE [a] da) (hs:autoParam (starEach [a] X.env=[(false,eval a X.env)]) auR):JI X XE tg (.Call (.Name "range" p) [a] [] pos) (qH da):=by
 obtain ⟨ta,p,d⟩:=ha.ex
 refine ⟨_,AA hg hm p hs,fun c h k kx=>d c h (fun vs xs H1 H2 e r zq=>?_) kx⟩
 obtain ⟨j,z,h1,h2,h3⟩:=zq
 subst z
 obtain ⟨v,rfl,rv⟩:=Ud r
 exact ⟨j,by rw [show v = .int j from rv],h1,h2,k _ _ _ _ e Cd h3⟩
noncomputable def dEnum (da:DA):DI:=fun ds q x=>da ds (fun xs=>match xs with | [.lst ys]=>q (qF ys) | [.scr ys]=>q (qF ys) | _=>False) x
theorem Ext.SU {B0 B W H0 H:Hp}(e:Ext W B H0 H) (h:Zw B0 W) (n:∀ b,B0 b=none->B b≠none->W b=none):Ext B0 B H0 H:=⟨e.s,h.trans e.s0,e.sub,fun b z y=>e.new b (n b z y) y⟩
theorem Cfg.SU {K:aj}{B0 B W H0 H:Hp}{σ:St}{ds:DSt}(c:Cfg K W B H0 H σ ds) (h:Zw B0 W) (n:∀ b,B0 b=none->B b≠none->W b=none):Cfg K B0 B H0 H σ ds:=⟨c.ext.SU h n,c.slot,c.young,c.sep,c.len⟩
theorem Cfg.rebase {K:aj}{B0 B W H0 H:Hp}{σ:St}{ds:DSt}(c:Cfg K B0 B H0 H σ ds) (h:Zw B0 W) (h2:Zw W H0):Cfg K W B H0 H σ ds :=
 ⟨⟨c.ext.s,h2,c.ext.sub,fun b z y=>c.ext.new b (h.free z) y⟩,c.slot,c.young,c.sep,c.len⟩
noncomputable def Ug (g:DG) (b:DS) (e:Wp):List D->DSt->Prop
 | [],ds=>e.nx ds
 | x::xs,ds=>g x ds fun ds'=>b ds' { e with nx:=Ug g b e xs,ct:=Ug g b e xs,bk:=e.nx }
noncomputable def dFor (di:DI) (g:DG) (b:DS):DS:=fun ds e=>∃ fz:List Nat,di (peekAt fz ds) (fun xs=>Ug g b e xs (peekAt fz ds)) (e.xc ds)
theorem Vu {tg iter:Expr}{body:List Stmt}{di:DI}{g:DG}{b:DS}{pos:Pos}(hp:PassesOwn (model X.prog X.w) X.A X.env X.xe) (hi:JI X XE tg iter di) (hg:JG X tg g) (hb:JSs X XE body b) (hc:autoParam (X.calm=true) auR)
  (hs:∀ x,foldedSetIterable iter X.env x=pure x:=by intro _;rfl):JS X XE (.For tg iter body [] pos) (dFor di g b):=by
 obtain ⟨wi,p0,d0⟩:=hi.ex
 obtain ⟨t,p1,d1⟩:=hg.ex
 obtain ⟨tb,p2,d2⟩:=hb.ex
 refine ⟨_,pO hp hc p0 p1 p2 hs,fun {B0 B H0 H σ ds e T} c h o=>?_⟩
 obtain ⟨fz,h⟩:=h
 obtain ⟨H1,c1,_⟩:=c.peekAt fz
 refine d0 c1 h (fun J xs H2 H3 e1 w h=>?_) (o.kx c)
 have hB2:Zw B0 H2:=c1.ext.s0.trans e1.s0
 have hN2:∀ b,B0 b=none->B b≠none->H2 b=none:=(c1.ext.trans e1).new
 refine ⟨fun i m σ' H'=>m=xs.length - i/\i<=xs.length/\∃ H0' ds',Cfg X.K B0 B H0' H' σ' ds'/\Zw H2 H0'/\Ug g b e (xs.drop i) ds',⟨_,rfl,Nat.zero_le _,H2,_,c1.go e1,.refl _,h⟩,?_⟩
 rintro i m σ' H' ⟨rfl,hi,H0',ds',c',s',hl⟩
 obtain ⟨w1,w2⟩:=w i H0' H' s' c'.sub
 by_cases hi2:i < xs.length
 ·right
  obtain ⟨go,yld⟩:=w1 hi2
  rw [drop_eq_getElem_cons hi2] at hl
  unfold Ug at hl
  refine ⟨go,fun σ2 H4=>∃ H0'' ds2,Cfg X.K B0 B H0'' H4 σ2 ds2/\Zw H2 H0''/\Ug g b e (xs.drop (i + 1)) ds2,fun σ2 H4 ⟨H5,ds2,c2,s2,l2⟩=>⟨_,by omega,rfl,hi2,H5,ds2,c2,s2,l2⟩,fun x H4 y=>?_⟩
  obtain ⟨H5,e5,d,ed,rd⟩:=yld x H4 y
  rw [aC hi2] at ed
  cases ed
  refine d1 (c'.go e5) rd hl fun σ2 ds2 c2 _ h2=>?_
  refine d2 (e:={ e with nx:=fun ds4=>Ug g b e (xs.drop (i + 1)) ds4,ct:=fun ds4=>Ug g b e (xs.drop (i + 1)) ds4,bk:=e.nx }) (c2.rebase hB2 (s'.trans e5.s0)) h2 ⟨fun H6 H7 σ3 ds3 c3 l3=>?_,fun v d' H6 H7 x3=>o.rt v d' H6 H7 (x3.SU hB2 hN2),fun H6 H7 σ3 ds3 C c3=>o.xc H6 H7 σ3 ds3 C (c3.SU hB2 hN2),fun H6 H7 σ3 ds3 c3=>o.nx H6 H7 σ3 ds3 (c3.SU hB2 hN2),fun H6 H7 σ3 ds3 c3 l3=>?_,fun v d' H6 H7 σ3 ds3 c3=>o.rb v d' H6 H7 σ3 ds3 (c3.SU hB2 hN2),fun a vs ys H6 H7 σ3 ds3 c3=>o.ro a vs ys H6 H7 σ3 ds3 (c3.SU hB2 hN2)⟩
  ·exact ⟨H6,ds3,c3.SU hB2 hN2,c3.ext.s0,l3⟩
  ·exact ⟨H6,ds3,c3.SU hB2 hN2,c3.ext.s0,l3⟩
 ·left
  have hx:xs.drop i=[]:=List.drop_eq_nil_of_le (by omega)
  rw [hx] at hl
  exact ⟨w2 (by omega),o.nx _ _ _ _ c' hl⟩
end
section
variable {X:Cx}{XE:St->XK}
noncomputable def Ce (pk:List Nat) (c:DT) (b:DS):DS:=fun ds e=>∃ W:Nat->DSt->Prop,(∃ m,W m ds)/\∀ m ds,W m ds ->
 c (peekAt pk ds) (fun k=>if k=true then b ds { e with nx:=fun ds'=>∃ m',m' < m/\W m' ds',ct:=fun ds'=>∃ m',m' < m/\W m' ds',bk:=e.nx } else e.nx ds) (e.xc ds)
theorem JH (pk:List Nat) {c:Expr}{body:List Stmt}{dc:DT}{b:DS}{pos:Pos}(hp:PassesOwn (model X.prog X.w) X.A X.env X.xe) (hc:JT X XE c dc) (hb:JSs X XE body b):JS X XE (.While c body [] pos) (Ce pk dc b):=by
 obtain ⟨tc,p0,d0⟩:=hc.ex
 obtain ⟨tb,p1,d1⟩:=hb.ex
 refine ⟨_,yH hp p0 p1,fun {B0 B H0 H σ ds e T} c h o=>?_⟩
 obtain ⟨W,⟨m,w⟩,h⟩:=h
 refine ⟨fun m σ' H'=>∃ H0' ds',Cfg X.K B0 B H0' H' σ' ds'/\W m ds',⟨m,H0,ds,c,w⟩,?_⟩
 rintro m σ' H' ⟨H0',ds',c',w'⟩
 obtain ⟨H1,c1,s1,l1,n1⟩:=c'.peekAt pk
 refine d0 c1 (h m ds' w') (fun k H2 H3 e h=>?_) (o.kx c')
 obtain ⟨H4,e4,_⟩:=e.Ee s1 c'.sub l1 n1
 cases k with
 | true =>
  rw [if_pos rfl] at h ⊢
  refine ⟨fun σ2 H5=>∃ m',m' < m/\∃ H6 ds2,Cfg X.K B0 B H6 H5 σ2 ds2/\W m' ds2,fun σ2 H5 z=>z,?_⟩
  exact d1 (c'.go e4) h ⟨fun H6 H7 σ2 ds2 c2 ⟨m',l,w2⟩=>⟨m',l,H6,ds2,c2,w2⟩,o.rt,o.xc,o.nx,fun H6 H7 σ2 ds2 c2 ⟨m',l,w2⟩=>⟨m',l,H6,ds2,c2,w2⟩,o.rb,o.ro⟩
 | false =>
  rw [if_neg aD] at h ⊢
  exact o.nx _ _ _ _ (c'.go e4) h
noncomputable def zo (K:aj) (XE:St->XK) (te:TE) (df:DA):Prop:=∀ {B0 B H0 H:Hp}{σ:St}{ds:DSt}{q:List D->Prop}{x:Addr->Prop}{Q:VK},Cfg K B0 B H0 H σ ds->df ds q x ->
 (∀ a vs xs H0' H',Ext H0 H H0' H'->H a=none->H0' a=none->H' a=some (.lst vs)->Rps K H0' xs vs->q xs->Q (.ref a) H')->KX XE σ H x->te σ H Q
structure JF (X:Cx) (XE:St->XK) (e:Expr) (df:DA):Prop where
 ex:∃ te,PE X e te/\zo X.K XE te df
noncomputable def dFz (df:DA):DE:=fun ds q x=>df ds (fun xs=>q (.lst xs)) x
theorem oM {H0 H H0' H':Hp}{a:Addr}{o:HO}(e:Ext H0 H H0' H') (n:H a=none) (n0:H0' a=none) (h:H' a=some o):Ext H0 H (upd H0' a o) H':=by
 refine ⟨e.s,e.s0.trans (Zw.upd n0),fun b u z=>?_,fun b z y=>?_⟩
 ·by_cases hb:b=a
  ·subst hb;rw [Zy] at z;rw [h];exact z
  ·rw [Zq hb] at z;exact e.sub _ _ z
 ·rw [Zq (fun w=>y (by rw [w];exact n))]
  exact e.new b z y
theorem xW {K:aj}{te:TE}{df:DA}(d:zo K XE te df):Den K XE te (dFz df):=fun c h k kx =>
 d c h (fun a vs xs H0' H' e n n0 ha r hq=>k _ (.lst xs) _ _ (oM e n n0 ha) (Vt r n0) hq) kx
theorem JF.je {e:Expr}{df:DA}(h:JF X XE e df):JE X XE e (dFz df):=by
 obtain ⟨te,p,d⟩:=h.ex
 exact ⟨_,p,xW d⟩
theorem We {es:List Expr}{pos:Pos}{da:DA}(h:JAs X XE es da):JF X XE (.List es pos) (fun ds q x=>da ds (fun xs=>xs.length<=aA/\q xs) x):=by
 obtain ⟨ta,p1,d1⟩:=h.ex
 refine ⟨_,DC p1,fun c h k kx=>d1 c h (fun vs xs H1 H2 e r hb=>⟨by rw [r.length];exact hb.1,fun p hp=>?_⟩) kx⟩
 exact k p vs xs H1 _ (e.trans (.grow e.sub (Zw.upd hp))) (e.s.free hp) (e.sub.free hp) Zy r hb.2
noncomputable def XN:St->XK:=fun _ _ _ _=>False
noncomputable def dpre (n:Nat) (fr:List Nat) (ds:DSt):DSt:=replicate n .un++fr.map fun j=>match ds[j]? with
 | some (.v d) => .v d
 | _ => .un
noncomputable def Vk (g:DG) (f:DT) (e:DE) (q:List D->Prop):List D->DSt->List D->Prop
 | [],_,acc=>q acc
 | x::xs,ds,acc=>g x ds fun ds1=>f ds1 (fun b=>if b=true then e ds1 (fun y=>acc.length < aA/\Vk g f e q xs ds1 (acc++[y])) (fun _=>False) else Vk g f e q xs ds1 acc) (fun _=>False)
noncomputable def HL (n:Nat) (fr:List Nat) (di:DI) (g:DG) (f:DT) (e:DE):DA:=fun ds q x=>di ds (fun xs=>Vk g f e q xs (dpre n fr ds) []) x
noncomputable def zp:DT:=fun _ q _=>q true
noncomputable def TY (ds:DSt):Prop:=∀ (i:Nat) s,ds[i]?=some s->s.isOwn=false
theorem TY.keeps {ds ds':DSt}(h:TY ds) (k:Keeps ds ds'):TY ds':=fun i s e=>by
 cases w:s.isOwn with
 | false=>rfl
 | true=>rw [h i s (k i s e w)] at w;cases w
theorem xX (n:Nat) (fr:List Nat) (σ:St) (i:Nat):((pre n fr σ)[i]?).getD none=if i < n then none else ((fr[i - n]?).map fun j=>(σ[j]?).getD none).getD none:=by
 unfold pre
 by_cases h:i < n
 ·rw [if_pos h,getElem?_append_left (by rw [length_replicate];exact h),getElem?_replicate,if_pos h];rfl
 ·rw [if_neg h,getElem?_append_right (by rw [length_replicate];omega),length_replicate,getElem?_map]
theorem tK {K:aj}{B0 B H0 H H':Hp}{σ:St}{ds:DSt}(c:Cfg K B0 B H0 H σ ds) (s:Zw H H') (n:Nat) (fr:List Nat):Cfg K H0 H H0 H' (pre n fr σ) (dpre n fr ds)/\TY (dpre n fr ds):=by
 have no:TY (dpre n fr ds):=fun i s e=>by
  unfold dpre at e
  by_cases h:i < n
  ·rw [getElem?_append_left (by rw [length_replicate];exact h),getElem?_replicate,if_pos h] at e
   cases e;rfl
  ·rw [getElem?_append_right (by rw [length_replicate];omega),length_replicate,getElem?_map] at e
   cases q:fr[i - n]? with
   | none=>rw [q] at e;cases e
   | some j =>
    rw [q] at e
    cases e
    dsimp only
    split <;> rfl
 refine ⟨⟨.grow c.sub s,fun i t e=>?_,fun i t a e w=>?_,fun i j t u a _ e _ w=>?_,?_⟩,no⟩
 ·rw [xX]
  unfold dpre at e
  by_cases h:i < n
  ·rw [getElem?_append_left (by rw [length_replicate];exact h),getElem?_replicate,if_pos h] at e
   cases e;trivial
  ·rw [if_neg h]
   rw [getElem?_append_right (by rw [length_replicate];omega),length_replicate,getElem?_map] at e
   cases q:fr[i - n]? with
   | none=>rw [q] at e;cases e
   | some j =>
    rw [q] at e
    cases e
    dsimp only [Option.map_some,Option.getD_some]
    split
    ·rename_i d qd
     obtain ⟨v,e1,r⟩:=c.slot j _ qd
     exact ⟨v,e1,r⟩
    ·trivial
 ·have:=no i t e;rw [Slot.YQ w] at this;cases this
 ·have:=no i t e;rw [Slot.YQ w] at this;cases this
 ·unfold pre dpre
  simp
theorem Cfg.aside {K:aj}{B0 B H0 H:Hp}{σ:St}{ds:DSt}{a:Addr}{o:HO}(c:Cfg K B0 B H0 H σ ds) (n:TY ds) (hb:B a=none) (h0:H0 a=none):Cfg K B0 B H0 (upd H a o) σ ds:=by
 refine ⟨⟨fun b u z=>?_,c.ext.s0,fun b u z=>?_,c.ext.new⟩,fun j t r=>?_,c.young,c.sep,c.len⟩
 ·rw [Zq (fun y=>by rw [y,hb] at z;cases z)]
  exact c.ext.s _ _ z
 ·rw [Zq (fun y=>by rw [y,h0] at z;cases z)]
  exact c.sub _ _ z
 ·have old:=c.slot j t r
  have w:=n j t r
  cases t with
  | un=>trivial
  | v d=>exact old
  | own _=>cases w
  | ob _ _ _ _=>cases w
  | od _=>cases w
  | st _ _=>cases w
theorem Ep {K:aj}{wi:TI}{t:TG}{tf:TT}{te:TE}{di:DI}{g:DG}{f:DT}{e:DE}(n:Nat) (fr:List Nat) (d0:DenI K XE wi di) (d1:Eo K t g) (d2:zi K XN tf f) (d3:Den K XN te e):zo K XE (Bu n fr wi t tf te) (HL n fr di g f e):=by
 intro B0 B H0 H σ ds q x Q c h k kx
 refine d0 c h (fun J xs H1 H2 e1 w h=>fun Dd hD=>?_) kx
 obtain ⟨c1,no1⟩:=tK (c.go e1) (Zw.upd (o := .lst []) hD) n fr
 have hD1:H1 Dd=none:=e1.sub.free hD
 refine ⟨fun i m σ' H'=>m=xs.length - i/\i<=xs.length/\∃ H0' ds' acc vs,Cfg K H1 H2 H0' H' σ' ds'/\TY ds'/\H0' Dd=none/\H' Dd=some (.lst vs)/\Rps K H0' acc vs/\Vk g f e q (xs.drop i) ds' acc,⟨_,rfl,Nat.zero_le _,H1,_,[],[],c1,no1,hD1,Zy,rfl,h⟩,?_⟩
 rintro i m σ' H' ⟨rfl,hi,H0',ds',acc,vs,c',no',n',hv,r',hl⟩
 obtain ⟨w1,w2⟩:=w i H0' H' c'.ext.s0 c'.sub
 by_cases hi2:i < xs.length
 ·right
  obtain ⟨go,yld⟩:=w1 hi2
  rw [drop_eq_getElem_cons hi2] at hl
  unfold Vk at hl
  refine ⟨go,fun σ2 H4=>∃ H0'' ds2 acc2 vs2,Cfg K H1 H2 H0'' H4 σ2 ds2/\TY ds2/\H0'' Dd=none/\H4 Dd=some (.lst vs2)/\Rps K H0'' acc2 vs2/\Vk g f e q (xs.drop (i + 1)) ds2 acc2,fun σ2 H4 ⟨a1,a2,a3,a4,a5⟩=>⟨_,by omega,rfl,hi2,a1,a2,a3,a4,a5⟩,fun y H4 z=>?_⟩
  obtain ⟨H5,e5,d,ed,rd⟩:=yld y H4 z
  rw [aC hi2] at ed
  cases ed
  have hne:H' Dd≠none:=by rw [hv];simp
  refine d1 (c'.go e5) rd hl fun σ2 ds2 c2 kp h2=>?_
  have no2:=no'.keeps kp
  have n5:H5 Dd=none:=e5.new Dd n' hne
  have v5:H4 Dd=some (.lst vs):=e5.s _ _ hv
  refine d2 c2 h2 (fun b H6 H7 e6 h6=>?_) (fun _ _ _ h=>h.elim)
  have n6:H6 Dd=none:=e6.new Dd n5 (by rw [v5];simp)
  have v6:H7 Dd=some (.lst vs):=e6.s _ _ v5
  cases b with
  | false =>
   rw [if_neg aD] at h6 ⊢
   exact ⟨H6,ds2,acc,vs,c2.go e6,no2,n6,v6,r'.same (e5.trans e6).s0,h6⟩
  | true =>
   rw [if_pos rfl] at h6 ⊢
   refine d3 (c2.go e6) h6 (fun u y' H8 H9 e8 r8 h8=>?_) (fun _ _ _ h=>h.elim)
   have n8:H8 Dd=none:=e8.new Dd n6 (by rw [v6];simp)
   have v8:H9 Dd=some (.lst vs):=e8.s _ _ v6
   have ra:=r'.same (e5.trans (e6.trans e8)).s0
   refine ⟨vs,v8,by rw [ra.length];exact h8.1,H8,ds2,acc++[y'],vs++[u],((c2.go e6).go e8).aside no2 hD n8,no2,n8,Zy,ra.snoc r8,h8.2⟩
 ·left
  have hx:xs.drop i=[]:=List.drop_eq_nil_of_le (by omega)
  rw [hx] at hl
  refine ⟨w2 (by omega),k Dd vs acc H0' H' (e1.trans c'.ext) (e1.s.free hD) n' hv r' hl⟩
structure JIf (X:Cx) (XE:St->XK) (ifs:List Expr) (d:DT):Prop where
 ex:∃ t,PIf X ifs t/\zi X.K XE t d
theorem Yu:JIf X XE [] zp:=⟨_,xq,fun c h k kx=>k _ _ _ (.refl c.sub) h⟩
theorem Qd {c:Expr}{d:DT}(h:JT X XE c d):JIf X XE [c] d:=by
 obtain ⟨t,p,d⟩:=h.ex
 exact ⟨_,ot p,d⟩
end
theorem xY {σ:St}{H:Hp}{x:Addr->Prop}(k:KX XN σ H x):x=fun _=>False:=funext fun C=>propext ⟨fun h=>k C H (.refl _) h,fun h=>h.elim⟩
theorem qI {ι:Type}{Xf:ι->Cx}{K:aj}{e:Expr}{de:DE}(hK:∀ z,(Xf z).K=K) (h:∀ z,JE (Xf z) XN e de):∃ te,(∀ z,PE (Xf z) e te)/\Den K XN te de:=by
 refine ⟨fun σ H Q=>∃ B0 B H0 ds q,Cfg K B0 B H0 H σ ds/\de ds q (fun _=>False)/\KE K H0 H q Q,fun z=>?_,fun c hd k kx=>?_⟩
 ·intro pins s σ H Q I ⟨B0,B,H0,ds,q,c,hd,k⟩
  obtain ⟨te,p,d⟩:=(h z).ex
  have kk:=hK z
  subst kk
  exact p pins s σ H Q I (d c hd k fun _ _ _ h=>h.elim)
 ·rw [xY kx] at hd
  exact ⟨_,_,_,_,_,c,hd,k⟩
theorem qJ {ι:Type}{Xf:ι->Cx}{K:aj}{ifs:List Expr}{de:DT}(hK:∀ z,(Xf z).K=K) (h:∀ z,JIf (Xf z) XN ifs de):∃ te,(∀ z,PIf (Xf z) ifs te)/\zi K XN te de:=by
 refine ⟨fun σ H Q=>∃ B0 B H0 ds q,Cfg K B0 B H0 H σ ds/\de ds q (fun _=>False)/\∀ b H0' H',Ext H0 H H0' H'->q b->Q b H',fun z=>?_,fun c hd k kx=>?_⟩
 ·intro pins s σ H Q I ⟨B0,B,H0,ds,q,c,hd,k⟩
  obtain ⟨te,p,d⟩:=(h z).ex
  have kk:=hK z
  subst kk
  exact p pins s σ H Q I (d c hd k fun _ _ _ h=>h.elim)
 ·rw [xY kx] at hd
  exact ⟨_,_,_,_,_,c,hd,k⟩
theorem xZ {ι:Type}{Xf:ι->Cx}{K:aj}{tg:Expr}{g:DG}(hK:∀ z,(Xf z).K=K) (h:∀ z,JG (Xf z) tg g):∃ t,(∀ z,PG (Xf z) tg t)/\Eo K t g:=by
 refine ⟨fun v σ H Q=>∃ B0 B H0 ds d q,Cfg K B0 B H0 H σ ds/\Rp K H0 d v/\g d ds q/\∀ σ' ds',Cfg K B0 B H0 H σ' ds'->Keeps ds ds'->q ds'->Q σ' H,fun z=>?_,fun c r hd k=>⟨_,_,_,_,_,_,c,r,hd,k⟩⟩
 intro pins s σ H v u Q I rv ⟨B0,B,H0,ds,d,q,c,r,hd,k⟩
 obtain ⟨te,p,dd⟩:=(h z).ex
 have kk:=hK z
 subst kk
 exact p pins s σ H v u Q I rv (dd c r hd k)
section
variable {X:Cx}{XE:St->XK}
theorem BQ {elt tg iter:Expr}{ifs:List Expr}{own:Scope}{pos:Pos}(ts Nc:List Str) (fr:List Nat) {di:DI}{g:DG}{f:DT}{e:DE}(hi:JI X XE tg iter di)
  (hg:∀ z,JG (Zx X own (ts++Nc) z) tg g) (hf:∀ z,JIf (Zx X own (ts++Nc) z) XN ifs f) (he:∀ z,JE (Zx X own (ts++Nc) z) XN elt e) (hc:autoParam (X.calm=true) auR) (c:autoParam (SE own X.env.scope Nc=true) auR) (hN:autoParam (fr.map (X.N[·]?)=Nc.map some) auR)
  (hs:∀ x,foldedSetIterable iter X.env x=pure x:=by intro _;rfl):JF X XE (.ListComp elt [⟨tg,iter,ifs,0⟩] own pos) (HL ts.length fr di g f e):=by
 obtain ⟨wi,p0,d0⟩:=hi.ex
 obtain ⟨t,p1,d1⟩:=xZ (Xf:=fun z=>Zx X own (ts++Nc) z) (K:=X.K) (fun _=>rfl) hg
 obtain ⟨tf,p2,d2⟩:=qJ (Xf:=fun z=>Zx X own (ts++Nc) z) (K:=X.K) (fun _=>rfl) hf
 obtain ⟨te,p3,d3⟩:=qI (Xf:=fun z=>Zx X own (ts++Nc) z) (K:=X.K) (fun _=>rfl) he
 exact ⟨_,Bv ts Nc fr p0 p1 p2 p3 hc c hN hs,Ep _ fr d0 d1 d2 d3⟩
theorem Yw {elt tg iter:Expr}{ifs:List Expr}{own:Scope}{pos:Pos}(ts Nc:List Str) (fr:List Nat) {di:DI}{g:DG}{f:DT}{e:DE}(hi:JI X XE tg iter di)
  (hg:∀ z,JG (Zx X own (ts++Nc) z) tg g) (hf:∀ z,JIf (Zx X own (ts++Nc) z) XN ifs f) (he:∀ z,JE (Zx X own (ts++Nc) z) XN elt e) (hc:autoParam (X.calm=true) auR) (c:autoParam (SE own X.env.scope Nc=true) auR) (hN:autoParam (fr.map (X.N[·]?)=Nc.map some) auR)
  (hs:∀ x,foldedSetIterable iter X.env x=pure x:=by intro _;rfl):JE X XE (.ListComp elt [⟨tg,iter,ifs,0⟩] own pos) (dFz (HL ts.length fr di g f e)):=(BQ ts Nc fr hi hg hf he hc c hN hs).je
noncomputable def wc (i:Nat) (df:DA):DS:=fun ds e=>df ds (fun xs=>e.nx (ds.set i (.own xs))) (e.xc ds)
theorem we {K:aj}{te:TE}{df:DA}(i:Nat) (d:zo K XE te df):GJ K XE (Gd te (Jk i)) (wc i df):=fun c h o =>
 d c h (fun a vs xs H0' H' e n n0 ha r hq=>o.nx _ _ _ _ (c.newO i e n n0 ha r) hq) (o.kx c)
noncomputable def BR (pk:List Nat) (de:DE) (g:DG):DS:=fun ds e=>de (peekAt pk ds) (fun d=>g d (if d.imm=true then ds else peekAt pk ds) e.nx) (e.xc ds)
theorem Er {K:aj}{te:TE}{de:DE}{t:TG}{g:DG}(pk:List Nat) (d:Den K XE te de) (dg:Eo K t g):GJ K XE (Gd te t) (BR pk de g):=fun c h o=>by
 obtain ⟨H1,c1,s1,l1,n1⟩:=c.peekAt pk
 refine d c1 h (fun v a H2 H3 e r h=>?_) (o.kx c)
 by_cases hi:a.imm=true
 ·rw [if_pos hi] at h
  obtain ⟨H4,e4,l4,_⟩:=e.Ee s1 c.sub l1 n1
  exact dg (c.go e4) (Rp.less l4 a hi r) h fun σ' ds' c' _ h'=>o.nx _ _ _ _ c' h'
 ·rw [if_neg hi] at h
  exact dg (c1.go e) r h fun σ' ds' c' _ h'=>o.nx _ _ _ _ c' h'
theorem XZ {i:Nat}{x:Str}{e:Expr}{df:DA}{pos pos':Pos}(hN:X.N.Nodup) (hi:X.N[i]?=some x) (hx:Loc X.env.scope x) (he:JF X XE e df) (hs:autoParam (swapsWith e (some (.Name x pos')) pos.line X.env=pure false) auR)
  (hf:X.fn x=true\/X.env.scope.names.lookup x=some .local:=by first | exact .inl rfl | exact .inr rfl | assumption):JS X XE (.Assign [.Name x pos'] e pos) (wc i df):=by
 obtain ⟨te,p,d⟩:=he.ex
 exact ⟨_,PQ hN hi hx p hs hf,we i d⟩
theorem BU (pk:List Nat) {i:Nat}{x:Str}{e:Expr}{de:DE}{pos pos':Pos}(hN:X.N.Nodup) (hi:X.N[i]?=some x) (hx:Loc X.env.scope x) (he:JE X XE e de) (hs:autoParam (swapsWith e (some (.Name x pos')) pos.line X.env=pure false) auR)
  (hf:X.fn x=true\/X.env.scope.names.lookup x=some .local:=by first | exact .inl rfl | exact .inr rfl | assumption):JS X XE (.Assign [.Name x pos'] e pos) (BR pk de (Xv i)):=by
 obtain ⟨te,p,d⟩:=he.ex
 exact ⟨_,PQ hN hi hx p hs hf,Er pk d (Nr i)⟩
theorem tL (pk:List Nat) {tg e:Expr}{de:DE}{g:DG}{pos:Pos}(he:JE X XE e de) (hg:JG X tg g) (hs:autoParam (swapsWithSole [tg] e pos.line X.env=pure false) auR) (hw:autoParam (swappedStores [tg] e X.env=pure none) auR)
  (h1:autoParam ((assignEach [tg] X.env).map (·.2)=[assign tg X.env]) auR):JS X XE (.Assign [tg] e pos) (BR pk de g):=by
 obtain ⟨te,p,d⟩:=he.ex
 obtain ⟨t,p2,d2⟩:=hg.ex
 exact ⟨_,Jl p p2 hs hw h1,Er pk d d2⟩
noncomputable def Cg (pk:List Nat) (i:Nat) (df:DA):DS:=fun ds e=>df (peekAt pk ds) (fun xs=>e.nx ((if D.Pm xs=true then ds else peekAt pk ds).set i (.own xs))) (e.xc ds)
theorem zr {K:aj}{te:TE}{df:DA}(pk:List Nat) (i:Nat) (d:zo K XE te df):GJ K XE (Gd te (Jk i)) (Cg pk i df):=fun {B0 B H0 H σ ds e T} c h o=>by
 obtain ⟨H1,c1,s1,l1,n1⟩:=c.peekAt pk
 refine d c1 h (fun a vs xs H2 H3 ee n n0 ha r hq=>?_) (o.kx c)
 by_cases hi:D.Pm xs=true
 ·rw [if_pos hi] at hq
  obtain ⟨H4,e4,l4,s4⟩:=ee.Ee s1 c.sub l1 n1
  exact o.nx _ _ _ _ (c.newO i e4 n (s4.free n0) ha (Rps.less l4 xs hi r)) hq
 ·rw [if_neg hi] at hq
  exact o.nx _ _ _ _ (c1.newO i ee n n0 ha r) hq
theorem wg (pk:List Nat) {i:Nat}{x:Str}{e:Expr}{df:DA}{pos pos':Pos}(hN:X.N.Nodup) (hi:X.N[i]?=some x) (hx:Loc X.env.scope x) (he:JF X XE e df) (hs:autoParam (swapsWith e (some (.Name x pos')) pos.line X.env=pure false) auR)
  (hf:X.fn x=true\/X.env.scope.names.lookup x=some .local:=by first | exact .inl rfl | exact .inr rfl | assumption):JS X XE (.Assign [.Name x pos'] e pos) (Cg pk i df):=by
 obtain ⟨te,p,d⟩:=he.ex
 exact ⟨_,PQ hN hi hx p hs hf,zr pk i d⟩
theorem wj {elt tg iter:Expr}{ifs:List Expr}{own:Scope}{pos:Pos}{i:Nat}{x:Str}{px spos:Pos}{S:DS}(ts Nc:List Str) (fr:List Nat) {di:DI}{g:DG}{f:DT}{e:DE}(hnd:X.N.Nodup) (hix:X.N[i]?=some x) (hx:Loc X.env.scope x) (hi:JI X XE tg iter di)
  (hg:∀ z,JG (Zx X own (ts++Nc) z) tg g) (hf:∀ z,JIf (Zx X own (ts++Nc) z) XN ifs f) (he:∀ z,JE (Zx X own (ts++Nc) z) XN elt e) (hsw:swapsWith (.ListComp elt [⟨tg,iter,ifs,0⟩] own pos) (some (.Name x px)) spos.line X.env=pure true)
  (hc:X.calm=true) (c:SE own X.env.scope Nc=true) (hN:fr.map (X.N[·]?)=Nc.map some)
  (hs:∀ x,foldedSetIterable iter X.env x=pure x) (hfn:X.fn x=true\/X.env.scope.names.lookup x=some .local)
  (hS:∀ te,zo X.K XE te (HL ts.length fr di g f e)->GJ X.K XE (Gd te (Jk i)) S) :
  JS X XE (.Assign [.Name x px] (.ListComp elt [⟨tg,iter,ifs,0⟩] own pos) spos) S:=by
 obtain ⟨wi,p0,d0⟩:=hi.ex
 obtain ⟨t,p1,d1⟩:=xZ (Xf:=fun z=>Zx X own (ts++Nc) z) (K:=X.K) (fun _=>rfl) hg
 obtain ⟨tf,p2,d2⟩:=qJ (Xf:=fun z=>Zx X own (ts++Nc) z) (K:=X.K) (fun _=>rfl) hf
 obtain ⟨te,p3,d3⟩:=qI (Xf:=fun z=>Zx X own (ts++Nc) z) (K:=X.K) (fun _=>rfl) he
 exact ⟨_,tj ts Nc fr hnd hix hx p0 p1 p2 p3 hsw hc c hN hs hfn,hS _ (Ep _ fr d0 d1 d2 d3)⟩
theorem UX {elt tg iter:Expr}{ifs:List Expr}{own:Scope}{pos:Pos}{i:Nat}{x:Str}{px spos:Pos}(ts Nc:List Str) (fr:List Nat) {di:DI}{g:DG}{f:DT}{e:DE}(hnd:X.N.Nodup) (hix:X.N[i]?=some x) (hx:Loc X.env.scope x) (hi:JI X XE tg iter di)
  (hg:∀ z,JG (Zx X own (ts++Nc) z) tg g) (hf:∀ z,JIf (Zx X own (ts++Nc) z) XN ifs f) (he:∀ z,JE (Zx X own (ts++Nc) z) XN elt e) (hsw:autoParam (swapsWith (.ListComp elt [⟨tg,iter,ifs,0⟩] own pos) (some (.Name x px)) spos.line X.env=pure true) auR)
  (hc:autoParam (X.calm=true) auR) (c:autoParam (SE own X.env.scope Nc=true) auR) (hN:autoParam (fr.map (X.N[·]?)=Nc.map some) auR)
  (hs:∀ x,foldedSetIterable iter X.env x=pure x:=by intro _;rfl) (hfn:X.fn x=true\/X.env.scope.names.lookup x=some .local:=by first | exact .inl rfl | exact .inr rfl | assumption) :
  JS X XE (.Assign [.Name x px] (.ListComp elt [⟨tg,iter,ifs,0⟩] own pos) spos) (xT (dFz (HL ts.length fr di g f e)) (Xv i)) :=
 wj ts Nc fr hnd hix hx hi hg hf he hsw hc c hN hs hfn fun te d=>GK (xW d) (Nr i)
end
section
variable {X:Cx}{XE:St->XK}
noncomputable def dPut (pk:List Nat) (i:Nat) (de:DE) (w:List D->D->(List D->Prop)->Prop):DS:=fun ds e=>sO ds[i]? fun xs=>de (peekAt pk ds) (fun d=>pkO pk d (w xs d fun ys=>e.nx (ds.set i (.own ys)))) (e.xc ds)
theorem BV {K:aj}{te:TE}{de:DE}{w:List D->D->(List D->Prop)->Prop}{ts:TS}{R:Ends->St->Addr->VK}(pk:List Nat) (i:Nat) (d:Den K XE te de)
  (hr:∀ {σ:St}{T:Ends}{l:Addr}{us:List V}{H0 H2:Hp}{xs:List D}{a:D}{y:V}{q:List D->Prop},H2 l=some (.lst us)->Zw H0 H2->Rps K H0 xs us->Rp K H0 a y->w xs a q->(∀ ys vs,Rps K H0 ys vs->q ys->T.nx σ (upd H2 l (.lst vs)))->R T σ l y H2)
  (hw:∀ {σ:St}{H:Hp}{T:Ends}{l:Addr}{us:List V},σ[i]?=some (some (.ref l))->H l=some (.lst us)->te σ H (R T σ l)->ts T σ H):GJ K XE ts (dPut pk i de w):=by
 intro B0 B H0 H σ ds e T c h o
 obtain ⟨xs,hi,h⟩:=qw h
 obtain ⟨l,us,e1,h1,h2,h3⟩:=c.slot i _ hi
 refine hw (VG e1) h2 ?_
 by_cases hpk:pk=[]
 ·subst hpk
  refine d c h (fun v a H1 H2 e' r h=>?_) (o.kx c)
  refine hr (e'.s _ _ h2) e'.sub (h3.same e'.s0) r (Jx h).2 fun ys vs rv hq=>?_
  obtain ⟨a',us',f1,f2,f3,f4⟩:=c.push (ys:=ys) hi
  rw [e1] at f1
  cases f1
  exact o.nx _ _ _ _ (f4 H1 H2 vs e' rv) hq
 ·obtain ⟨H1,c1,s1,l1,n1⟩:=c.peekAt pk
  refine d c1 h (fun v a H2 H3 e' r h=>?_) (o.kx c)
  obtain ⟨H4,e4,l4,_⟩:=e'.Ee s1 c.sub l1 n1
  have h:=Jx h
  have im:a.imm=true:=h.1.resolve_left hpk
  refine hr (e4.s _ _ h2) e4.sub (h3.same e4.s0) (Rp.less l4 a im r) h.2 fun ys vs rv hq=>?_
  obtain ⟨a',us',f1,f2,f3,f4⟩:=c.push (ys:=ys) hi
  rw [e1] at f1
  cases f1
  exact o.nx _ _ _ _ (f4 H4 H3 vs e4 rv) hq
noncomputable def wApp:List D->D->(List D->Prop)->Prop:=fun xs d q=>xs.length < aA/\q (xs++[d])
noncomputable def wExt:List D->D->(List D->Prop)->Prop:=fun xs d q=>match d with
 | .lst ys=>xs.length + ys.length<=aA/\q (xs++ys)
 | _=>False
theorem Qe (pk:List Nat) (i:Nat) {x:Str}{p apos cpos pos:Pos}{e:Expr}{de:DE}(he:JE X XE e de) (hN:autoParam (X.N[i]?=some x) auR) (hv:Vis X.env.scope x:=by first | exact Or.inl rfl | exact Or.inr (Or.inl rfl) | exact Or.inr (Or.inr rfl))
  (hst:autoParam (noStar e=true) auR) (hbase:autoParam (attributeBase (.Name x p) "append" X.env (eval (.Name x p) X.env)=eval (.Name x p) X.env) auR)
  (hfew:autoParam (((backTo cpos (starEach [e] X.env)).all (fun x => !x.1) && (backToKw cpos (keywordEach [] X.env)).all (fun x=>x.1.isSome)
   && decide ([e].length + ([]:List Keyword).length + (if ([]:List Keyword).isEmpty then 0 else 1) < 30))=true) auR)
  (hline:autoParam ((apos.endLine == cpos.line)=true) auR) (hs:autoParam (starEach [e] X.env=(false,eval e X.env)::starEach [] X.env) auR) (hplain:autoParam ((backTo cpos (starEach [] X.env)).any (·.1)=false) auR)
  (hsw:autoParam (swapsWith (.Call (.Attribute (.Name x p) "append" apos) [e] [] cpos) none pos.line X.env=pure false) auR) (hd:autoParam ((x == ("__debug__" : Str))=false) auD) (hcd:autoParam ((x == ("__classdict__" : Str))=false) auD) :
  JS X XE (.Expr (.Call (.Attribute (.Name x p) "append" apos) [e] [] cpos) pos) (dPut pk i de wApp):=by
 obtain ⟨te,p1,d1⟩:=he.ex
 refine ⟨_,SA (Jp PySem.F.plainAttrs_list PySem.F.slot_list_append PySem.F.type_list_append SJ (pv i hN hv hd hcd) (Ma p1 Ua hst) hbase hfew hline hs hplain) hsw,BV (R:=fun T σ l y H2=>Gn (.ref l) [y] H2 fun _ H3=>T.nx σ H3) pk i d1 ?_ ?_⟩
 ·intro σ T l us H0 H2 xs a y q h1 s r ra hq k
  exact ⟨l,us,y,rfl,rfl,h1,by rw [r.length];exact hq.1,k _ _ (r.snoc ra) hq.2⟩
 ·intro σ H T l us hl hH h
  exact ⟨.ref l,hl,.inl ⟨rfl,us,SqL.of hH⟩,h⟩
theorem wm (pk:List Nat) (i:Nat) {x:Str}{p apos cpos pos:Pos}{e:Expr}{de:DE}(he:JE X XE e de) (hN:autoParam (X.N[i]?=some x) auR) (hv:Vis X.env.scope x:=by first | exact Or.inl rfl | exact Or.inr (Or.inl rfl) | exact Or.inr (Or.inr rfl))
  (hst:autoParam (noStar e=true) auR) (hbase:autoParam (attributeBase (.Name x p) "extend" X.env (eval (.Name x p) X.env)=eval (.Name x p) X.env) auR)
  (hfew:autoParam (((backTo cpos (starEach [e] X.env)).all (fun x => !x.1) && (backToKw cpos (keywordEach [] X.env)).all (fun x=>x.1.isSome)
   && decide ([e].length + ([]:List Keyword).length + (if ([]:List Keyword).isEmpty then 0 else 1) < 30))=true) auR)
  (hline:autoParam ((apos.endLine == cpos.line)=true) auR) (hs:autoParam (starEach [e] X.env=(false,eval e X.env)::starEach [] X.env) auR) (hplain:autoParam ((backTo cpos (starEach [] X.env)).any (·.1)=false) auR)
  (hsw:autoParam (swapsWith (.Call (.Attribute (.Name x p) "extend" apos) [e] [] cpos) none pos.line X.env=pure false) auR) (hd:autoParam ((x == ("__debug__" : Str))=false) auD) (hcd:autoParam ((x == ("__classdict__" : Str))=false) auD) :
  JS X XE (.Expr (.Call (.Attribute (.Name x p) "extend" apos) [e] [] cpos) pos) (dPut pk i de wExt):=by
 obtain ⟨te,p1,d1⟩:=he.ex
 refine ⟨_,SA (Jp PySem.F.plainAttrs_list PySem.F.slot_list_extend PySem.F.type_list_extend DX (pv i hN hv hd hcd) (Ma p1 Ua hst) hbase hfew hline hs hplain) hsw,BV (R:=fun T σ l y H2=>Gp (.ref l) [y] H2 fun _ H3=>T.nx σ H3) pk i d1 ?_ ?_⟩
 ·intro σ T l us H0 H2 xs a y q h1 s r ra hq k
  unfold wExt at hq
  split at hq
  ·obtain ⟨b,vs,rfl,h2,h3⟩:=ra
   exact ⟨l,b,us,vs,rfl,rfl,h1,s _ _ h2,by rw [r.length,h3.length];exact hq.1,k _ _ (r.app h3) hq.2⟩
  ·exact hq.elim
 ·intro σ H T l us hl hH h
  exact ⟨.ref l,hl,.inl ⟨rfl,us,SqL.of hH⟩,h⟩
theorem Rps.set {K:aj}{H:Hp}{d:D}{v:V}(r:Rp K H d v):∀ {xs:List D}{vs:List V}(j:Nat),Rps K H xs vs->Rps K H (xs.set j d) (vs.set j v)
 | [],_,_,h=>by rw [show _=[] from h];rfl
 | x::xs,_,0,⟨u,us,e,_,h⟩=>by subst e;exact ⟨v,us,rfl,r,h⟩
 | x::xs,_,j + 1,⟨u,us,e,h1,h⟩=>by subst e;exact ⟨u,_,rfl,h1,Rps.set r j h⟩
noncomputable def dPop (i:Nat) (g:DG):DS:=fun ds e=>sO ds[i]? fun zs=>∃ xs d,zs=xs++[d]/\g d (ds.set i (.own xs)) e.nx
theorem Es {K:aj}{H:Hp}:∀ {xs:List D}{d:D}{vs:List V},Rps K H (xs++[d]) vs->∃ us v,vs=us++[v]/\Rps K H xs us/\Rp K H d v
 | [],_,_,h=>by
  obtain ⟨v,rfl,r⟩:=Ud h
  exact ⟨[],v,rfl,rfl,r⟩
 | x::xs,d,_,⟨u,us,e,h1,h⟩=>by
  subst e
  obtain ⟨ws,v,rfl,r1,r2⟩:=Es h
  exact ⟨u::ws,v,rfl,⟨u,ws,rfl,h1,r1⟩,r2⟩
theorem tM {K:aj}{t:TG}{g:DG}(i:Nat) (dg:Eo K t g):GJ K XE (Gd (tBM0 K "list" rPop (tVar i)) t) (dPop i g):=fun {B0 B H0 H σ ds e T} c h o=>by
 obtain ⟨zs,hi,xs,d,rfl,h⟩:=qw h
 obtain ⟨l,vs,e1,f1,f2,f3⟩:=c.slot i _ hi
 obtain ⟨us,v,rfl,r1,r2⟩:=Es f3
 refine ⟨.ref l,VG e1,.inl ⟨rfl,_,SqL.of f2⟩,l,us++[v],v,rfl,rfl,f2,by simp,?_⟩
 rw [List.dropLast_concat]
 obtain ⟨a',us',g1,g2,g3,g4⟩:=c.push (ys:=xs) hi
 rw [e1] at g1
 cases g1
 exact dg (g4 H0 H us (.refl c.sub) r1) r2 h fun σ' ds' c' _ h'=>o.nx _ _ _ _ c' h'
theorem oO (i:Nat) {x:Str}{tg:Expr}{p apos cpos pos:Pos}{g:DG}(hg:JG X tg g) (hN:autoParam (X.N[i]?=some x) auR) (hv:Vis X.env.scope x:=by first | exact Or.inl rfl | exact Or.inr (Or.inl rfl) | exact Or.inr (Or.inr rfl))
  (hbase:autoParam (attributeBase (.Name x p) "pop" X.env (eval (.Name x p) X.env)=eval (.Name x p) X.env) auR) (hline:autoParam ((apos.endLine == cpos.line)=true) auR)
  (hs:autoParam (swapsWithSole [tg] (.Call (.Attribute (.Name x p) "pop" apos) [] [] cpos) pos.line X.env=pure false) auR) (hw:autoParam (swappedStores [tg] (.Call (.Attribute (.Name x p) "pop" apos) [] [] cpos) X.env=pure none) auR)
  (h1:autoParam ((assignEach [tg] X.env).map (·.2)=[assign tg X.env]) auR) (hd:autoParam ((x == ("__debug__" : Str))=false) auD) (hcd:autoParam ((x == ("__classdict__" : Str))=false) auD) :
  JS X XE (.Assign [tg] (.Call (.Attribute (.Name x p) "pop" apos) [] [] cpos) pos) (dPop i g):=by
 obtain ⟨t,p2,d2⟩:=hg.ex
 exact ⟨_,Jl (yZ PySem.F.plainAttrs_list PySem.F.slot_list_pop PySem.F.type_list_pop tE (pv i hN hv hd hcd) hbase hline) p2 hs hw h1,tM i d2⟩
theorem Rfs.lookup {K:aj}{H:Hp}{f:Str}{d:D}:∀ {gs:List (Str × D)}{fs:List (Str × V)},Rfs K H gs fs->gs.lookup f=some d->∃ v,fs.lookup f=some v/\Rp K H d v
 | [],_,_,e=>by cases e
 | (k,d')::gs,_,⟨v,us,e,r,h⟩,q=>by
  subst e
  rw [lookup_cons] at q ⊢
  cases z:f == k with
  | true=>rw [z] at q;cases q;exact ⟨v,rfl,r⟩
  | false=>rw [z] at q;exact Rfs.lookup h q
theorem Rfs.BW {K:aj}{H:Hp}{f:Str}:∀ {gs:List (Str × D)}{fs:List (Str × V)},Rfs K H gs fs->gs.lookup f=none->fs.lookup f=none
 | [],_,h,_=>by rw [show _=[] from h];rfl
 | (k,d')::gs,_,⟨v,us,e,r,h⟩,q=>by
  subst e
  rw [lookup_cons] at q ⊢
  cases z:f == k with
  | true=>rw [z] at q;cases q
  | false=>rw [z] at q;exact Rfs.BW h q
noncomputable def dFld (K:aj) (f:Str) (de:DE):DE:=fun ds q x=>de ds (fun d=>∃ C gs v,d = .obj C gs/\Cls K C/\YV K C f/\gs.lookup f=some v/\q v) x
theorem ZX {K:aj}{e:Expr}{f:Str}{pos:Pos}{de:DE}(hK:X.K=K) (h:JE X XE e de) (hb:autoParam (attributeBase e f X.env (eval e X.env)=eval e X.env) auR):JE X XE (.Attribute e f pos) (dFld K f de):=by
 subst hK
 obtain ⟨te,p,d⟩:=h.ex
 refine ⟨_,pW p hb,fun c h k kx=>d c h (fun v a H1 H2 e r zq=>?_) kx⟩
 obtain ⟨C,gs,w,z,h1,h2,h3,h4⟩:=zq
 subst z
 obtain ⟨a,dx,fs,rfl,h5,h6⟩:=r
 obtain ⟨u,h7,h8⟩:=h6.lookup h3
 exact ⟨a,C,dx,fs,u,rfl,e.sub _ _ h5,h1,h2,h7,k _ w _ _ e h8 h4⟩
noncomputable def putD (f:Str) (v:D):List (Str × D)->List (Str × D)
 | []=>[(f,v)]
 | (g,w)::r=>if g=f then (g,v)::r else (g,w)::putD f v r
end
abbrev DSp:=List D->(D->Prop)->(Addr->Prop)->Prop
noncomputable def spD (K:aj) (g:DSp):Sp:=fun vs H Q E=>∃ H0 xs q x,Zw H0 H/\Rps K H0 xs vs/\g xs q x/\KE K H0 H q Q/\∀ C H',Zw H H'->x C->E (.ref C) none H'
theorem Vc {X:Cx}:Xa X XN:=xA
section
variable {X:Cx}{XE:St->XK}
noncomputable def dCall (g:DSp) (da:DA):DE:=fun ds q x=>da ds (fun xs=>g xs q x) x
theorem tN {k:Nat}{f:Addr}{fd:FuncData}{ps:List Str}{g:DSp}{x:Str}{p pos:Pos}{e:Expr}{es:List Expr}{da:DA}(F:ZE X.prog X.w X.K X.mg X.base (CXE X.prog X.w) k f fd ps (spD X.K g)) (hr:Xq k X.A) (hg:Gl X x) (hm:X.mg x=some (.ref f)) (hk:keepIn X.K (.ref f)=true) (hb:Binds X.K fd ps []) (hx:Xa X XE)
  (ha:JAs X XE (e::es) da) (hst:autoParam (Yb (e::es)=true) auR) (hdb:autoParam ((x == ("__debug__" : Str))=false) auD):JE X XE (.Call (.Name x p) (e::es) [] pos) (dCall g da):=by
 obtain ⟨ta,p1,d1⟩:=ha.ex
 refine ⟨_,(KZ F hr hg hm hk hb hx ⟨p1⟩ hst hdb).get,fun c h k kx=>d1 c h (fun vs xs H1 H2 e r h=>?_) kx⟩
 exact ⟨H1,xs,_,_,e.sub,r,h,k.go e,(kx.go e.s)⟩
structure MOkD (P:Program) (w:World) (K:aj) (mg:Str->Option Value) (base:Heap) (k:Nat) (C:Addr) (m:Str) (g:DSp):Prop where
 cl:Cls K C
 ok:∃ f fd ps,Meth K C m f/\ZE P w K mg base (CXE P w) k f fd ps (spD K g)/\Binds K fd ps []
noncomputable def wo (P:Program) (w:World) (K:aj) (mg:Str->Option Value) (base:Heap) (k:Nat) (m:Str) (dO:DE) (da:DA):DE:=fun ds q x=>dO ds (fun o=>∃ C gs g,o = .obj C gs/\MOkD P w K mg base k C m g/\gs.lookup m=none/\da ds (fun xs=>g (o::xs) q x) x) x
noncomputable def wq (X:Cx) (XE:St->XK) (k:Nat) (m:Str) (ta:TE) (t:TA):TE:=fun σ H Q=>ta σ H fun x H1=>∃ a C dx fs sp,x = .ref a/\H1 a=some (.ins C dx fs)/\(Cls X.K C/\∃ f fd ps,Meth X.K C m f/\ZE X.prog X.w X.K X.mg X.base (CXE X.prog X.w) k f fd ps sp/\Binds X.K fd ps [])/\fs.lookup m=none /\
 t σ H1 fun vs H2=>sp (x::vs) H2 Q (XE σ)
theorem wu {k:Nat}{m:Str}{pos apos:Pos}{e o:Expr}{es:List Expr}{ta:TE}{t:TA}{pl:Sem Bool}(hr:Xq k X.A) (hx:Xa X XE) (he:PE X o ta) (ha:PA X (e::es) t)
  (hst:starEach (e::es) X.env=(false,eval e X.env)::starEach es X.env) (hpl:(backTo pos (starEach es X.env)).any (·.1)=false)
  (ht:eval (.Call (.Attribute o m apos) (e::es) [] pos) X.env=(do
   let ov <- eval o X.env
   standAt apos.atName
   let (f,first) <- holding [ov] (getMethod ov m pl)
   callWith pos f first (backTo pos (starEach (e::es) X.env)) (backToKw pos (keywordEach [] X.env)))) :
  PE X (.Call (.Attribute o m apos) (e::es) [] pos) (wq X XE k m ta t):=by
 intro pins s σ H Q I h
 refine PySem.W.methodCall_KW (pl:=pl) (thn (he pins s σ H _ I h) fun u s1 zq=>?_) ht
 obtain ⟨x,H1,I1,rx,a,C,dx,fs,sp,ex,ea,mo,l,q⟩:=zq
 obtain ⟨c,f,fd,ps,hm,F,hb⟩:=mo
 subst ex
 obtain rfl:u=Value.ref a:=rx
 refine Dx I1 ea c hm l ?_
 refine callWith_K (first:=[.ref a]) (h₀:=X.base) I.ok.mod.kin hm.kp (thn (ha pos pins s1 σ H1 _ I1 q) fun us s2 ⟨vs,H2,I2,r,q2⟩=>⟨I2.kIn,?_⟩) hst hpl
 exact Bt (us := .ref a::us) (vs := .ref a::vs) F hr hb hx I2 (.cons rfl r) q2
theorem wx {ta:TE}{dO:DE}{t:TA}{da:DA}{k:Nat}{m:Str}{P:Program}{w:World}{K:aj}{mg:Str->Option Value}{base:Heap}(e1:X.prog=P) (e2:X.w=w) (e3:X.K=K) (e4:X.mg=mg) (e5:X.base=base) (d1:Den X.K XE ta dO) (d2:xE X.K XE t da):Den X.K XE (wq X XE k m ta t) (wo P w K mg base k m dO da):=by
 subst e1 e2 e3 e4 e5
 intro B0 B H0 H σ ds q x Q c h kq kx
 refine d1 c h (fun v o H1 H2 e r zq=>?_) kx
 obtain ⟨C,gs,g,z,mo,l,h⟩:=zq
 subst z
 obtain ⟨a,dx,fs,rfl,h1,h2⟩:=r
 obtain ⟨cl,f,fd,ps,hm,F,hb⟩:=mo
 refine ⟨a,C,dx,fs,_,rfl,e.sub _ _ h1,⟨cl,f,fd,ps,hm,F,hb⟩,h2.BW l,d2 (c.go e) h (fun vs xs H3 H4 e' r' h'=>?_) (kx.go e.s)⟩
 exact ⟨H3,.obj C gs::xs,_,_,(e.trans e').sub,⟨_,vs,rfl,⟨a,dx,fs,rfl,e'.s0 _ _ h1,h2.same e'.s0⟩,r'⟩,h',kq.go (e.trans e'),kx.go (e.trans e').s⟩
theorem tP {P:Program}{w:World}{K:aj}{mg:Str->Option Value}{base:Heap}{k:Nat}{m:Str}{pos apos:Pos}{e o:Expr}{es:List Expr}{dO:DE}{da:DA}{pl:Sem Bool}(hr:Xq k X.A) (hx:Xa X XE) (ho:JE X XE o dO) (ha:JAs X XE (e::es) da)
  (e1:autoParam (X.prog=P) auR) (e2:autoParam (X.w=w) auR) (e3:autoParam (X.K=K) auR) (e4:autoParam (X.mg=mg) auR) (e5:autoParam (X.base=base) auR)
  (hst:autoParam (starEach (e::es) X.env=(false,eval e X.env)::starEach es X.env) auR) (hpl:autoParam ((backTo pos (starEach es X.env)).any (·.1)=false) auR)
  (ht:autoParam (eval (.Call (.Attribute o m apos) (e::es) [] pos) X.env=(do
   let ov <- eval o X.env
   standAt apos.atName
   let (f,first) <- holding [ov] (getMethod ov m pl)
   callWith pos f first (backTo pos (starEach (e::es) X.env)) (backToKw pos (keywordEach [] X.env)))) auR):JE X XE (.Call (.Attribute o m apos) (e::es) [] pos) (wo P w K mg base k m dO da):=by
 obtain ⟨to,p1,d1⟩:=ho.ex
 obtain ⟨ta,p2,d2⟩:=ha.ex
 exact ⟨_,wu (pl:=pl) hr hx p1 p2 hst hpl ht,wx e1 e2 e3 e4 e5 d1 d2⟩
theorem Et {C:Addr}{x:Str}{p pos:Pos}(M:MkP X.K C) (hg:Gl X x) (hm:X.mg x=some (.ref C)) (hdb:autoParam ((x == ("__debug__" : Str))=false) auD):JE X XE (.Call (.Name x p) [] [] pos) (dC (.obj C [])) :=
 ⟨_,xj M hg hm hdb,fun {B0 B H0 H σ ds q x Q} c h k kx=>fun a dx ha hd ne=>by
  have s0:=c.sub
  have e1:Ext H0 H H0 (upd H dx (.own a)) := .grow s0 (Zw.upd hd)
  have ha2:upd H dx (.own a) a=none:=by rw [Zq ne.symm];exact ha
  exact k _ (.obj C []) _ _ (e1.trans (.put e1.sub ha2)) ⟨a,dx,[],rfl,Zy,rfl⟩ h⟩
abbrev GM:=List D->(List (Str × D)->Prop)->(Addr->Prop)->Prop
noncomputable def wy (a:Addr) (H H':Hp):Prop:=∀ b o,b≠a->H b=some o->H' b=some o
noncomputable def spI (K:aj) (C:Addr) (g:GM):Sp:=fun vs H Q E=>∃ a dx us H0 xs q x,vs = .ref a::us/\H a=some (.ins C dx [])/\H0 a=none/\Zw H0 H/\Rps K H0 xs us/\g xs q x /\
 (∀ gs fs H0' H',wy a H H'->Zw H0 H0'->Zw H0' H'->(∀ b,H0 b=none->H b≠none->H0' b=none)->H' a=some (.ins C dx fs)->Rfs K H0' gs fs->q gs->Q .non H')/\∀ C' H',wy a H H'->x C'->E (.ref C') none H'
noncomputable def qK (C:Addr) (g:GM) (dvs:List D) (da:DA):DE:=fun ds q x=>da ds (fun xs=>g (xs++dvs) (fun gs=>q (.obj C gs)) x) x
theorem GN {k:Nat}{f C:Addr}{fd:FuncData}{ps:List Str}{g:GM}{dvs:List V}{dds:List D}{ds:List Value}{x:Str}{p pos:Pos}{e:Expr}{es:List Expr}{da:DA}(M:Mk X.K C f) (F:ZE X.prog X.w X.K X.mg X.base (CXE X.prog X.w) k f fd ps (spI X.K C g)) (hr:Xq (k + 1) X.A) (hg:Gl X x) (hm:X.mg x=some (.ref C)) (hb:Binds X.K fd ps ds) (hd:Vals dvs ds) (hdd:∀ H,Rps X.K H dds dvs) (hx:Xa X XE)
  (ha:JAs X XE (e::es) da) (hst:autoParam (Yb (e::es)=true) auR) (hdb:autoParam ((x == ("__debug__" : Str))=false) auD):JE X XE (.Call (.Name x p) (e::es) [] pos) (qK C g dds da):=by
 obtain ⟨ta,p1,d1⟩:=ha.ex
 refine ⟨_,(tq M F hr hg hm hb hd hx ⟨p1⟩ hst hdb).get,fun {B0 B H0 H σ ds q x Q} c h kq kx=>d1 c h (fun vs xs H1 H2 ee r h=>fun a dx hna hnd ne=>?_) kx⟩
 have s2:Zw H1 H2:=ee.sub
 have na2:upd H2 dx (.own a) a=none:=by rw [Zq ne.symm];exact hna
 have s3:Zw H2 (upd (upd H2 dx (.own a)) a (.ins C dx [])):=(Zw.upd hnd).trans (Zw.upd na2)
 have h1a:H1 a=none:=s2.free hna
 have h1d:H1 dx=none:=s2.free hnd
 refine ⟨a,dx,vs++dvs,H1,xs++dds,fun gs=>q (.obj C gs),x,rfl,Zy,h1a,s2.trans s3,r.app (hdd H1),h,fun gs fs H0' H' so s0 sub nw hfa rf hq=>⟨rfl,?_⟩,fun C' H' so hx'=>?_⟩
 ·have up:Zw H2 H':=fun b o z=>so b o (fun y=>by rw [y,hna] at z;cases z) (s3 _ _ z)
  have n0a:H0' a=none:=nw a h1a (by rw [Zy];simp)
  have ext:Ext H1 H2 (upd H0' a (.ins C dx fs)) H':=by
   refine ⟨up,s0.trans (Zw.upd n0a),fun b o z=>?_,fun b z y=>?_⟩
   ·by_cases hb:b=a
    ·subst hb;rw [Zy] at z;rw [hfa];exact z
    ·rw [Zq hb] at z;exact sub _ _ z
   ·rw [Zq (fun w=>y (by rw [w];exact hna))]
    refine nw b z fun w=>y ?_
    exact s3.free w
  exact kq _ (.obj C gs) _ _ (ee.trans ext) ⟨a,dx,fs,rfl,Zy,rf.same (Zw.upd n0a)⟩ hq
 ·refine kx C' H' (ee.s.trans fun b o z=>so b o (fun y=>by rw [y,hna] at z;cases z) (s3 _ _ z)) hx'
theorem Rfs.put {K:aj}{H:Hp}{f:Str}{d:D}{v:V}(r:Rp K H d v):∀ {gs:List (Str × D)}{fs:List (Str × V)},Rfs K H gs fs->Rfs K H (putD f d gs) (SD f v fs)
 | [],_,h=>by rw [show _=[] from h];exact ⟨v,[],rfl,r,rfl⟩
 | (k,d')::gs,_,⟨u,us,e,r',h⟩=>by
  subst e
  unfold putD SD
  split
  ·exact ⟨v,us,rfl,r,h⟩
  ·exact ⟨u,_,rfl,r',Rfs.put r h⟩
theorem Rfs.length {K:aj}{H:Hp}:∀ {gs:List (Str × D)}{fs:List (Str × V)},Rfs K H gs fs->fs.length=gs.length
 | [],_,h=>by rw [show _=[] from h];rfl
 | (k,d')::gs,_,⟨u,us,e,r',h⟩=>by subst e;rw [length_cons,length_cons,Rfs.length h]
noncomputable def qL (K:aj) (pk:List Nat) (i:Nat) (f:Str) (de:DE):DS:=fun ds e=>∃ a dx C gs,ds[i]?=some (.ob a dx C gs)/\Cls K C/\YV K C f/\gs.length < 1000/\de (peekAt pk ds) (fun d=>e.nx ((peekAt pk ds).set i (.ob a dx C (putD f d gs)))) (e.xc ds)
theorem tQ {pk:List Nat}{ds:DSt}{i:Nat}{a dx C:Addr}{gs:List (Str × D)}(h:ds[i]?=some (.ob a dx C gs)):(peekAt pk ds)[i]?=some (.ob a dx C gs):=by
 unfold peekAt
 induction pk generalizing ds with
 | nil=>exact h
 | cons j pk ih =>
  refine ih ?_
  rw [List.getElem?_modify,h]
  by_cases z:j=i
  ·simp [z,Slot.peek]
  ·simp [z]
theorem Uh {K:aj}(pk:List Nat) (i:Nat) {x f:Str}{p apos pos:Pos}{e:Expr}{de:DE}(hK:X.K=K) (he:JE X XE e de) (hN:autoParam (X.N[i]?=some x) auR) (hv:Vis X.env.scope x:=by first | exact Or.inl rfl | exact Or.inr (Or.inl rfl) | exact Or.inr (Or.inr rfl))
  (hs:autoParam (swapsWith e (some (.Attribute (.Name x p) f apos)) pos.line X.env=pure false) auR) (hd:autoParam ((x == ("__debug__" : Str))=false) auD) (hcd:autoParam ((x == ("__classdict__" : Str))=false) auD):JS X XE (.Assign [.Attribute (.Name x p) f apos] e pos) (qL K pk i f de):=by
 subst hK
 obtain ⟨te,p1,d1⟩:=he.ex
 refine ⟨_,pX (pv i hN hv hd hcd) p1 hs,fun {B0 B H0 H σ ds e T} c h o=>?_⟩
 obtain ⟨a,dx,C,gs,hi,h1,h2,h3,h⟩:=h
 obtain ⟨Hp,cp,_⟩:=c.peekAt pk
 have hip:=tQ (pk:=pk) hi
 obtain ⟨fs,e1,f1,f2,f3⟩:=cp.slot i _ hip
 refine d1 cp h (fun v d H1 H2 ee r hq=>⟨.ref a,VG e1,a,C,dx,fs,rfl,ee.s _ _ f2,h1,h2,by rw [f3.length];exact h3,?_⟩) (o.kx c)
 have c':=cp.go ee
 refine o.nx _ _ _ _ (c'.write hip e1 (fun b z=>z) (s' := .ob a dx C (putD f d gs)) ⟨_,e1,ee.new a f1 (by rw [f2];simp),Zy,(f3.same ee.s0).put r⟩) hq
end
section
variable {P:Program}{w:World}{K:aj}{mg:Str->Option Value}{base:Heap}{N:List Str}{qual:Str}{scope:Scope}{f C:Addr}{cdv:Value}{A:Around}{outer:List Env}{s:Shared}{H:Hp}{E:XK}
 {x:Str}{np cpos pos:Pos}{e₀:Expr}{rest:List Expr}{da:DA}
noncomputable def wz (C:Addr) (pk:List Nat) (da:DA):DS:=fun ds e=>da (peekAt pk ds) (fun xs=>xs.length<=aA/\e.xc ds C) (e.xc ds)
theorem Xo (pk:List Nat) (c:DN K C) (hm:mg x=some (.ref C)) (ha:JAs (XF (CXE P w) P w K mg base N qual scope f cdv A outer s H E) (fun _=>E) (e₀::rest) da)
  (hg:autoParam (Gl (XF (CXE P w) P w K mg base N qual scope f cdv A outer s H E) x) auR) (hst:autoParam (Yb (e₀::rest)=true) auR) (hdb:autoParam ((x == ("__debug__" : Str))=false) auD) :
  JS (XF (CXE P w) P w K mg base N qual scope f cdv A outer s H E) (fun _=>E) (.Raise (some (.Call (.Name x np) (e₀::rest) [] cpos)) none pos) (wz C pk da):=by
 obtain ⟨ta,p1,d1⟩:=ha.ex
 refine ⟨_,(xB c hm ⟨p1⟩ hg hst hdb).get,fun {B0 B H0 H σ ds e T} c h o=>?_⟩
 obtain ⟨H1,c1,_⟩:=c.peekAt pk
 exact d1 c1 h (fun vs xs H2 H3 ee r hb=>⟨by rw [r.length];exact hb.1,o.kx c C H3 ee.s hb.2⟩) (o.kx c)
end
section
variable {X:Cx}{XE:St->XK}
end
section
variable {P:Program}{w:World}{K:aj}{mg:Str->Option Value}{base:Heap}
noncomputable def Vv (N:List Str) (xs:List D):DSt:=xs.map .v++replicate (N.length - xs.length) .un
theorem Rps.at {K:aj}{H:Hp}:∀ {xs:List D}{vs:List V}{i:Nat}{d:D},Rps K H xs vs->xs[i]?=some d->∃ v,vs[i]?=some v/\Rp K H d v:=fun h e=>h.get e
theorem HM {H0 H:Hp}{N:List Str}{xs:List D}{vs:List V}(s:Zw H0 H) (r:Rps K H0 xs vs) (hl:xs.length<=N.length):Cfg K H0 H H0 H (start N vs) (Vv N xs):=by
 have no:∀ (i:Nat) t,(Vv N xs)[i]?=some t->t.isOwn=false:=fun i t e=>by
  unfold Vv at e
  by_cases h:i < xs.length
  ·rw [getElem?_append_left (by rw [length_map];exact h),getElem?_map,aC h] at e
   cases e;rfl
  ·rw [getElem?_append_right (by rw [length_map];omega),length_map,getElem?_replicate] at e
   split at e
   ·cases e;rfl
   ·cases e
 refine ⟨.refl s,fun i t e=>?_,fun i t a e q=>?_,fun i j t u a _ e _ q=>?_,?_⟩
 ·unfold Vv at e
  unfold start
  by_cases h:i < xs.length
  ·rw [getElem?_append_left (by rw [length_map];exact h),getElem?_map,aC h] at e
   cases e
   obtain ⟨v,e1,r1⟩:=r.get (aC h)
   rw [getElem?_append_left (by rw [length_map,r.length];exact h),getElem?_map,e1]
   exact ⟨v,rfl,r1⟩
  ·rw [getElem?_append_right (by rw [length_map];omega),length_map,getElem?_replicate] at e
   split at e
   ·cases e;trivial
   ·cases e
 ·have:=no i t e;rw [Slot.YQ q] at this;cases this
 ·have:=no i t e;rw [Slot.YQ q] at this;cases this
 ·unfold start Vv
  simp only [length_append,length_map,length_replicate,r.length]
theorem Fun.okJ {x qual:Str}{st:Stmt}{f:Addr}{fd:FuncData}{N ps:List Str}{k:Nat}{g:DSp}(F:Fun K x qual st f fd) (S:Zo N ps (Zf st)) (len:∀ xs q x,g xs q x->xs.length=ps.length)
  (hbody:∀ (cdv:Value) (A:Around) (outer:List Env) (s:Shared) (H:Hp) (E:XK),Xq k (A.deeper (envOfC qual (Zf st) s.heap.objs.size f cdv)) ->
   ∃ b,JSs (XF (CXE P w) P w K mg base N qual (Zf st) f cdv A outer s H E) (fun _=>E) (Yd st) b/\∀ xs q x,g xs q x->b (Vv N xs) { nx:=fun _=>q .non,rt:=q,xc:=fun _=>x }):ZE P w K mg base (CXE P w) (k + 1) f fd ps (spD K g):=by
 have hpl:ps.length<=N.length:=by have:=congrArg length S.pre;rw [length_take] at this;omega
 refine F.okX S (fun vs H Q E zq=>by obtain ⟨H0,xs,q,x,s,r,h,_⟩:=zq;rw [r.length];exact len xs q x h) fun cdv A outer s H vs Q E hr hsp=>?_
 obtain ⟨H0,xs,q,x,s0,r,h,kq,kx⟩:=hsp
 obtain ⟨b,j,hb⟩:=hbody cdv A outer s H E hr
 obtain ⟨t,p,d⟩:=j.ex
 refine ⟨t,⟨p⟩,d (HM s0 r (by rw [len xs q x h];exact hpl)) (hb xs q x h) ⟨fun H0' H' σ ds c hq=>kq _ .non _ _ c.ext rfl hq,fun v d H0' H' e rv hq=>kq _ _ _ _ e rv hq,fun H0' H' σ ds C c hx=>kx C H' c.ext.s hx,fun _ _ _ _ _ h=>h.elim,fun _ _ _ _ _ h=>h.elim,fun _ _ _ _ _ _ _ _ h=>h.elim,fun _ _ _ _ _ _ _ _ _ _ _ _ _ h=>h.elim⟩⟩
theorem BX {qual:Str}{st:Stmt}{f C:Addr}{N ps:List Str}{g:GM}{cdv:Value}{A:Around}{outer:List Env}{s:Shared}{H:Hp}{vs:List V}{Q:VK}{E:XK}(hpl:ps.length<=N.length) (len:∀ xs q x,g xs q x->xs.length + 1=ps.length)
  (hbody:∃ b,JSs (XF (CXE P w) P w K mg base N qual (Zf st) f cdv A outer s H E) (fun _=>E) (Yd st) b/\∀ a dx xs q x,g xs q x->b (.ob a dx C []::(xs.map .v++replicate (N.length - (xs.length + 1)) .un)) { nx:=fun ds=>∃ gs,ds[0]?=some (.ob a dx C gs)/\q gs,rt:=fun _=>False,xc:=fun _=>x })
  (hsp:spI K C g vs H Q E):∃ t,QSs (XF (CXE P w) P w K mg base N qual (Zf st) f cdv A outer s H E) (Yd st) t/\t { nx:=fun _ H'=>Q .non H',rt:=Q } (start N vs) H:=by
 classical
 obtain ⟨a,dx,us,H0,xs,q,x,rfl,ha,h0,s0,r,h,kq,kx⟩:=hsp
 obtain ⟨b,j,hb⟩:=hbody
 obtain ⟨t,p,d⟩:=j.ex
 have hl:=len xs q x h
 -- the heap without the new object
 let B:Hp:=fun c=>if c=a then none else H c
 have sB:Zw H0 B:=fun c o z=>by
  show (if c=a then none else H c)=_
  rw [if_neg (fun y=>by rw [y,h0] at z;cases z)]
  exact s0 _ _ z
 have sBH:Zw B H:=fun c o z=>by
  have z:(if c=a then none else H c)=some o:=z
  split at z
  ·cases z
  ·exact z
 have hBa:B a=none:=if_pos rfl
 have len1:(start N (.ref a::us)).length=(Slot.ob a dx C []::(xs.map Slot.v++replicate (N.length - (xs.length + 1)) Slot.un)).length:=by
  unfold start
  simp only [length_append,length_map,length_replicate,length_cons,r.length]
  omega
 have at0:∀ i,(start N (.ref a::us))[i + 1]?=(us.map some++replicate (N.length - (us.length + 1)) none)[i]?:=fun i=>by
  unfold start
  rw [map_cons,cons_append,List.getElem?_cons_succ,length_cons]
 have own0:∀ (i:Nat) t,(Slot.ob a dx C []::(xs.map Slot.v++replicate (N.length - (xs.length + 1)) Slot.un))[i]?=some t->t.isOwn=true->i=0:=fun i t e w=>by
  cases i with
  | zero=>rfl
  | succ i =>
   rw [List.getElem?_cons_succ] at e
   by_cases hi:i < xs.length
   ·rw [getElem?_append_left (by rw [length_map];exact hi),getElem?_map,aC hi] at e
    cases e;cases w
   ·rw [getElem?_append_right (by rw [length_map];omega),length_map,getElem?_replicate] at e
    split at e
    ·cases e;cases w
    ·cases e
 have c:Cfg K H0 B H0 H (start N (.ref a::us)) (.ob a dx C []::(xs.map .v++replicate (N.length - (xs.length + 1)) .un)):=by
  refine ⟨⟨sBH,.refl _,s0,fun b z _=>z⟩,fun i t e=>?_,fun i t b e w=>?_,fun i j t u b ne e e' w w'=>ne ((own0 i t e (Slot.YQ w)).trans (own0 j u e' (Slot.YQ w')).symm),len1⟩
  ·cases i with
   | zero =>
    cases e
    exact ⟨[],rfl,h0,ha,rfl⟩
   | succ i =>
    rw [List.getElem?_cons_succ] at e
    rw [at0]
    by_cases hi:i < xs.length
    ·rw [getElem?_append_left (by rw [length_map];exact hi),getElem?_map,aC hi] at e
     cases e
     obtain ⟨v,e1,r1⟩:=r.get (aC hi)
     rw [getElem?_append_left (by rw [length_map,r.length];exact hi),getElem?_map,e1]
     exact ⟨v,rfl,r1⟩
    ·rw [getElem?_append_right (by rw [length_map];omega),length_map,getElem?_replicate] at e
     split at e
     ·cases e;trivial
     ·cases e
  ·have:=own0 i t e (Slot.YQ w)
   subst this
   cases e
   have z:some (V.ref a)=some (V.ref b):=w
   cases z
   exact hBa
 have so:∀ {H':Hp},Zw B H'->wy a H H':=fun sh b o ne z=>sh b o (by show (if b=a then none else H b)=_;rw [if_neg ne];exact z)
 refine ⟨t,⟨p⟩,d c (hb a dx xs q x h) ⟨fun H0' H' σ ds c' ⟨gs,e,hq⟩=>?_,fun _ _ _ _ _ _ h=>h.elim,fun H0' H' σ ds C' c' hx=>kx C' H' (so c'.ext.s) hx,fun _ _ _ _ _ h=>h.elim,fun _ _ _ _ _ h=>h.elim,fun _ _ _ _ _ _ _ _ h=>h.elim,fun _ _ _ _ _ _ _ _ _ _ _ _ _ h=>h.elim⟩⟩
 obtain ⟨fs,f0,f1,f2,f3⟩:=c'.slot 0 _ e
 refine kq gs fs H0' H' (so c'.ext.s) c'.ext.s0 c'.sub (fun b z y=>?_) f2 f3 hq
 by_cases hb:b=a
 ·rw [hb];exact f1
 ·refine c'.ext.new b z ?_
  show (if b=a then none else H b)≠none
  rw [if_neg hb]
  exact y
theorem Fun.okI {x qual:Str}{st:Stmt}{f C:Addr}{fd:FuncData}{N ps:List Str}{k:Nat}{g:GM}(F:Fun K x qual st f fd) (S:Zo N ps (Zf st)) (len:∀ xs q x,g xs q x->xs.length + 1=ps.length)
  (hbody:∀ (cdv:Value) (A:Around) (outer:List Env) (s:Shared) (H:Hp) (E:XK),Xq k (A.deeper (envOfC qual (Zf st) s.heap.objs.size f cdv)) ->
   ∃ b,JSs (XF (CXE P w) P w K mg base N qual (Zf st) f cdv A outer s H E) (fun _=>E) (Yd st) b/\∀ a dx xs q x,g xs q x->b (.ob a dx C []::(xs.map .v++replicate (N.length - (xs.length + 1)) .un)) { nx:=fun ds=>∃ gs,ds[0]?=some (.ob a dx C gs)/\q gs,rt:=fun _=>False,xc:=fun _=>x }):ZE P w K mg base (CXE P w) (k + 1) f fd ps (spI K C g):=by
 have hpl:ps.length<=N.length:=by have:=congrArg length S.pre;rw [length_take] at this;omega
 refine F.okX S (fun vs H Q E zq=>by obtain ⟨a,dx,us,H0,xs,q,x,e,_,_,_,r,h,_⟩:=zq;rw [e,length_cons,r.length];exact len xs q x h) fun cdv A outer s H vs Q E hr hsp=>?_
 exact BX hpl len (hbody cdv A outer s H E hr) hsp
theorem Eb.okI {x qual:Str}{st:Stmt}{f C:Addr}{fd:FuncData}{ds:List Value}{N ps:List Str}{k:Nat}{g:GM}(F:Eb K x qual st f fd ds) (S:Zo N ps (Zf st)) (len:∀ xs q x,g xs q x->xs.length + 1=ps.length)
  (hbody:∀ (cdv:Value) (A:Around) (outer:List Env) (s:Shared) (H:Hp) (E:XK),Xq k (A.deeper (envOfC qual (Zf st) s.heap.objs.size f cdv)) ->
   ∃ b,JSs (XF (CXE P w) P w K mg base N qual (Zf st) f cdv A outer s H E) (fun _=>E) (Yd st) b/\∀ a dx xs q x,g xs q x->b (.ob a dx C []::(xs.map .v++replicate (N.length - (xs.length + 1)) .un)) { nx:=fun ds=>∃ gs,ds[0]?=some (.ob a dx C gs)/\q gs,rt:=fun _=>False,xc:=fun _=>x }):ZE P w K mg base (CXE P w) (k + 1) f fd ps (spI K C g):=by
 have hpl:ps.length<=N.length:=by have:=congrArg length S.pre;rw [length_take] at this;omega
 refine F.okX S (fun vs H Q E zq=>by obtain ⟨a,dx,us,H0,xs,q,x,e,_,_,_,r,h,_⟩:=zq;rw [e,length_cons,r.length];exact len xs q x h) fun cdv A outer s H vs Q E hr hsp=>?_
 exact BX hpl len (hbody cdv A outer s H E hr) hsp
end
section
variable {X:Cx}{XE:St->XK}
noncomputable def dAug (i:Nat) (de:DE) (g:Int->Int->Int):DS:=fun ds e=>sV ds[i]? fun z=>aI z fun a=>de ds (fun d=>aI d fun b=>e.nx (ds.set i (.v (.int (g a b))))) (e.xc ds)
end
theorem ZE.noX {P:Program}{w:World}{K:aj}{mg:Str->Option Value}{base:Heap}{k:Nat}{f:Addr}{fd:FuncData}{ps:List Str}{sp sp':Sp}(F:ZE P w K mg base (CXE P w) k f fd ps sp)
  (h:∀ vs H Q E,sp' vs H Q E->sp vs H Q (fun _ _ _=>False)):ZE P w K mg base CX0 k f fd ps sp':=by
 refine ⟨fun vs H Q E q=>F.len vs H Q _ (h _ _ _ _ q),fun A outer s H args us vs Q E hr he hb hv hs=>?_⟩
 refine codeAny_mono (F.run A outer s H args us vs Q _ hr he hb hv (h _ _ _ _ hs)) fun r s' hq=>?_
 cases r with
 | ok fl=>cases fl <;> exact hq
 | error e =>
  obtain ⟨_,_,_,_,_,_,_,_,_,_,_,_,_,_,z⟩:=hq
  exact z.elim
noncomputable def BZ (K:aj):Sp:=fun vs H Q _=>∃ (a:Addr) (ns:List Int),vs=[.ref a]/\SqL K H a (ns.map V.int)/\ns.length<=63/\∀ H',Q (.bl true) H'
noncomputable def gLaw:DSp:=fun xs q _=>∃ ns:List Int,xs=[.scr (ns.map .int)]/\ns.length<=63/\q (.bl true)
theorem Eu {K:aj}{H:Hp}:∀ ns:List Int,Rps K H (ns.map .int) (ns.map V.int)
 | []=>rfl
 | n::ns=>⟨.int n,_,rfl,rfl,Eu ns⟩
theorem ZE.law {P:Program}{w:World}{K:aj}{mg:Str->Option Value}{base:Heap}{k:Nat}{f:Addr}{fd:FuncData}{ps:List Str}(F:ZE P w K mg base (CXE P w) k f fd ps (spD K gLaw)):ZE P w K mg base CX0 k f fd ps (BZ K) :=
 F.noX fun vs H Q E ⟨a,ns,e,hS,hl,kq⟩=>⟨H,[.scr (ns.map .int)],fun d=>d = .bl true,fun _=>False,.refl _,by subst e;exact ⟨_,[],rfl,⟨a,_,rfl,hS,Eu ns⟩,rfl⟩,⟨ns,rfl,hl,rfl⟩,fun v d H0' H' e r z=>by subst z;rw [show v = .bl true from r];exact kq H',fun _ _ _ h=>h.elim⟩
section
variable {q:D->Prop}{x:Addr->Prop}
theorem tR {i j:Int}:DY (.int i) (.int j) q=q (.int (i + j)):=rfl
theorem tS {i j:Str}:DY (.str i) (.str j) q=(i.length + j.length<=aA/\q (.str (i++j))):=rfl
theorem tT {i j:List D}:DY (.lst i) (.lst j) q=(i.length + j.length<=aA/\q (.lst (i++j))):=rfl
theorem tU {i j:List D}:DY (.scr i) (.lst j) q=(i.length + j.length<=aA/\q (.lst (i++j))):=rfl
theorem tV {i j:List D}:DY (.tup i) (.tup j) q=(i≠[]/\i.length + j.length<=aA/\q (.tup (i++j))):=rfl
theorem z_ii {C:Int->Int->Prop}{g:Int->Int->D}{i j:Int}:dII C g (.int i) (.int j) q=(C i j/\q (g i j)):=rfl
theorem z_i0 {g:Int->Int->D}{i j:Int}:dI0 g (.int i) (.int j) q=q (g i j):=rfl
theorem z_mul {i j:Int}:dMul (.int i) (.int j) q=(PH i j/\q (.int (i * j))):=rfl
theorem z_rep {xs:List D}{k:Int}:dMul (.lst xs) (.int k) q=(-(2 ^ 63)<=k/\k < 2 ^ 63/\xs.length * k.toNat<=aA/\q (.lst (replicate k.toNat xs).flatten)):=rfl
theorem z_lt {i j:Int}:dLt (.int i) (.int j) q=q (.bl (decide (i < j))):=rfl
theorem z_le {i j:Int}:dLe (.int i) (.int j) q=q (.bl (decide (i<=j))):=rfl
theorem z_gt {i j:Int}:dGt (.int i) (.int j) q=q (.bl (decide (j < i))):=rfl
theorem z_ge {i j:Int}:dGe (.int i) (.int j) q=q (.bl (decide (j<=i))):=rfl
theorem z_isN {a:D}:dIsN a .non q=q (.bl a.VD):=rfl
theorem oP {a:D}:xK a .non q=q (.bl (!a.VD)):=rfl
theorem oQ {xs:List D}{i:Int}:dIx (.lst xs) (.int i) q=∃ d,atI xs i=some d/\q d:=rfl
theorem oS {xs:List D}{i:Int}:dIx (.scr xs) (.int i) q=∃ d,atI xs i=some d/\q d:=rfl
theorem oT {xs:List D}{i:Int}:dIx (.tup xs) (.int i) q=∃ d,atI xs i=some d/\q d:=rfl
theorem oU {z:Str}{i:Int}:dIx (.str z) (.int i) q=(z.length<=aA/\∃ c,atI z.cps.toList i=some c/\q (.str ⟨#[c]⟩)):=rfl
theorem oV {xs:List D}{lo hi:Option Int}:dSl (.lst xs) lo hi q=q (.lst (cutD xs lo hi)):=rfl
theorem oW {xs:List D}{lo hi:Option Int}:dSl (.scr xs) lo hi q=q (.lst (cutD xs lo hi)):=rfl
theorem oX {y:Str}{lo hi:Option Int}:dSl (.str y) lo hi q=(y.length<=aA/\q (.str (Txt.slice y lo hi))):=rfl
theorem tW {xs:List D}:zj [.lst xs] q=q (.int xs.length):=rfl
theorem tX {xs:List D}:zj [.scr xs] q=q (.int xs.length):=rfl
theorem tY {xs:List D}:zj [.tup xs] q=q (.int xs.length):=rfl
theorem tZ {z:Str}:zj [.str z] q=(z.length<=aA/\q (.int z.length)):=rfl
theorem Ew {i:Int}:dAbs [.int i] q=q (.int (if i < 0 then -i else i)):=rfl
theorem Ex {i j:Int}:dMax2 [.int i,.int j] q=q (.int (if j > i then j else i)):=rfl
theorem Ey {i:Int}:BJ [.int i] q=q (.int i):=rfl
theorem sd {b:Bool}:BJ [.bl b] q=q (.int (if b then 1 else 0)):=rfl
theorem Ez {i:Int}:dStr1 [.int i] q=(i.natAbs.log2 < 1920/\q (.str (toString i))):=rfl
theorem wA {xs:List D}:JA [.lst xs] q=q (.lst xs):=rfl
theorem wC {xs:List D}:JA [.scr xs] q=q (.lst xs):=rfl
theorem wF {xs:List D}:JA [.tup xs] q=q (.lst xs):=rfl
theorem se {xs:List D}:JB [.lst xs] q=q (.tup xs):=rfl
theorem sf {xs:List D}:JB [.tup xs] q=q (.tup xs):=rfl
theorem oY {b:Bool}{i j:Int}:dEq b (.int i) (.int j) q=q (.bl (if b then !decide (i=j) else decide (i=j))):=by
 show (true=true/\true=true/\true=true/\_)=_
 simp only [D.toV,true_and,V.int.injEq]
theorem oZ {b:Bool}{i j:Str}:dEq b (.str i) (.str j) q=q (.bl (if b then !decide (i=j) else decide (i=j))):=by
 show (true=true/\true=true/\true=true/\_)=_
 simp only [D.toV,true_and,V.str.injEq]
theorem nc {b:Bool}{i j:Bool}:dEq b (.bl i) (.bl j) q=q (.bl (if b then !decide (i=j) else decide (i=j))):=by
 show (true=true/\true=true/\true=true/\_)=_
 simp only [D.toV,true_and,V.bl.injEq]
theorem ng {b:Bool}{xs ys:List D}:dEq b (.tup xs) (.tup ys) q=(Nq (D.GF 80) xs ys=true/\q (.bl (if b then !D.Pn xs ys else D.Pn xs ys))):=rfl
theorem nh {b:Bool}{xs ys:List D}:dEq b (.lst xs) (.lst ys) q=(Nq (D.GF 80) xs ys=true/\q (.bl (if b then !D.Pn xs ys else D.Pn xs ys))):=rfl
theorem nq {b:Bool}{i j:Str}:dIn b (.str i) (.str j) q=q (.bl (if b then !inS i j else inS i j)):=rfl
theorem HN (zs:List Str):(zs.map D.str).all D.flat=true:=by rw [all_map,all_eq_true];intro _ _;rfl
theorem zt (zs:List Int):(zs.map D.int).all D.flat=true:=by rw [all_map,all_eq_true];intro _ _;rfl
theorem EA (a:Str) (zs:List Str):inD (.str a) (zs.map .str)=decide (a∈zs):=by
 unfold inD
 rw [any_map]
 induction zs with
 | nil=>rfl
 | cons z zs ih =>
  rw [any_cons,ih]
  have:((fun y=>D.eqF y (.str a)) ∘ D.str) z=decide (z=a):=by
   show (z == a)=_
   rw [Bool.eq_iff_iff];simp only [beq_iff_eq,decide_eq_true_eq]
  rw [this,Bool.eq_iff_iff]
  simp only [Bool.or_eq_true,decide_eq_true_eq,mem_cons]
  exact or_congr eq_comm Iff.rfl
theorem wG (a:Int) (zs:List Int):inD (.int a) (zs.map .int)=decide (a∈zs):=by
 unfold inD
 rw [any_map]
 induction zs with
 | nil=>rfl
 | cons z zs ih =>
  rw [any_cons,ih]
  have:((fun y=>D.eqF y (.int a)) ∘ D.int) z=decide (z=a):=by
   show (z == a)=_
   rw [Bool.eq_iff_iff];simp only [beq_iff_eq,decide_eq_true_eq]
  rw [this,Bool.eq_iff_iff]
  simp only [Bool.or_eq_true,decide_eq_true_eq,mem_cons]
  exact or_congr eq_comm Iff.rfl
theorem sg {b:Bool}{a:Str}{zs:List Str}:dIn b (.str a) (.lst (zs.map .str)) q=q (.bl (if b then !decide (a∈zs) else decide (a∈zs))):=by
 show (true=true/\_/\_)=_
 rw [HN,EA]
 simp only [true_and]
theorem Aa {b:Bool}{a:Str}{zs:List Str}:dIn b (.str a) (.tup (zs.map .str)) q=q (.bl (if b then !decide (a∈zs) else decide (a∈zs))):=by
 show (true=true/\_/\_)=_
 rw [HN,EA]
 simp only [true_and]
theorem si {b:Bool}{a:Int}{zs:List Int}:dIn b (.int a) (.lst (zs.map .int)) q=q (.bl (if b then !decide (a∈zs) else decide (a∈zs))):=by
 show (true=true/\_/\_)=_
 rw [zt,wG]
 simp only [true_and]
theorem HP (bs:List Bool):bools (bs.map .bl)=some bs:=by
 induction bs with
 | nil=>rfl
 | cons b bs ih=>rw [map_cons];unfold bools;rw [ih];rfl
theorem HQ (bs:List Str):texts (bs.map .str)=some bs:=by
 induction bs with
 | nil=>rfl
 | cons b bs ih=>rw [map_cons];unfold texts;rw [ih];rfl
theorem HR {bs:List Bool}:zk [.lst (bs.map .bl)] q=q (.bl (bs.all id)):=by
 show (∃ cs,bools _=some cs/\_)=_
 rw [HP]
 simp only [Option.some.injEq,exists_eq_left']
theorem qM {bs:List Bool}:dAny [.lst (bs.map .bl)] q=q (.bl (bs.any id)):=by
 show (∃ cs,bools _=some cs/\_)=_
 rw [HP]
 simp only [Option.some.injEq,exists_eq_left']
theorem wH {sep:Str}{ys:List Str}:BM (.str sep) [.lst (ys.map .str)] q=((ys.map (·.length)).sum + ys.length * sep.length<=16777216/\q (.str (Txt.join sep ys))):=by
 show (∃ cs,texts _=some cs/\_)=_
 rw [HQ]
 simp only [Option.some.injEq,exists_eq_left']
theorem GO {α:Type}{f:α->Bool}{xs:List α}:zk [.lst (xs.map fun x => .bl (f x))] q=q (.bl (xs.all f)):=by
 have:=HR (q:=q) (bs:=xs.map f)
 rw [map_map,all_map] at this
 exact this
theorem nr {α:Type}{f:α->Bool}{xs:List α}:dAny [.lst (xs.map fun x => .bl (f x))] q=q (.bl (xs.any f)):=by
 have:=qM (q:=q) (bs:=xs.map f)
 rw [map_map,any_map] at this
 exact this
theorem sr {α:Type}{f:α->Str}{xs:List α}{sep:Str}:BM (.str sep) [.lst (xs.map fun x => .str (f x))] q=((xs.map fun x=>(f x).length).sum + xs.length * sep.length<=16777216/\q (.str (Txt.join sep (xs.map f)))):=by
 have:=wH (q:=q) (sep:=sep) (ys:=xs.map f)
 rw [map_map,map_map,length_map] at this
 exact this
theorem su {y:Str}:oJ (.str y) [] q=(y.length<=5592405/\q (.str (Txt.lower y))):=rfl
theorem sv {y:Str}:oI (.str y) [] q=(y.length<=5592405/\q (.str (Txt.upper y))):=rfl
theorem Ui {K:aj}{d:D}{t n:String}(ht:d.tyN=some t) (hn:n∈Mf) (he:TX K [d,.ty n] q=∃ t,d.tyN=some t/\n∈Mf/\q (.bl (xR t n))):TX K [d,.ty n] q=q (.bl (xR t n)):=by
 rw [he,ht]
 simp only [Option.some.injEq,exists_eq_left',hn,true_and]
variable {K:aj}
theorem wI {i:Int}:TX K [.int i,.ty "int"] q=q (.bl true):=Ui (t := "int") rfl (by decide) rfl
theorem wJ {i:Int}:TX K [.int i,.ty "bool"] q=q (.bl false):=Ui (t := "int") rfl (by decide) rfl
theorem wK {i:Int}:TX K [.int i,.ty "str"] q=q (.bl false):=Ui (t := "int") rfl (by decide) rfl
theorem wL {i:Int}:TX K [.int i,.ty "tuple"] q=q (.bl false):=Ui (t := "int") rfl (by decide) rfl
theorem wM {i:Int}:TX K [.int i,.ty "list"] q=q (.bl false):=Ui (t := "int") rfl (by decide) rfl
theorem wN {i:Bool}:TX K [.bl i,.ty "bool"] q=q (.bl true):=Ui (t := "bool") rfl (by decide) rfl
theorem wO {i:Bool}:TX K [.bl i,.ty "int"] q=q (.bl true):=Ui (t := "bool") rfl (by decide) rfl
theorem wR {i:Str}:TX K [.str i,.ty "str"] q=q (.bl true):=Ui (t := "str") rfl (by decide) rfl
theorem wU {i:Str}:TX K [.str i,.ty "int"] q=q (.bl false):=Ui (t := "str") rfl (by decide) rfl
theorem wV {i:Str}:TX K [.str i,.ty "tuple"] q=q (.bl false):=Ui (t := "str") rfl (by decide) rfl
theorem wW {i:List D}:TX K [.tup i,.ty "tuple"] q=q (.bl true):=Ui (t := "tuple") rfl (by decide) rfl
theorem wX {i:List D}:TX K [.tup i,.ty "int"] q=q (.bl false):=Ui (t := "tuple") rfl (by decide) rfl
theorem wY {i:List D}:TX K [.tup i,.ty "str"] q=q (.bl false):=Ui (t := "tuple") rfl (by decide) rfl
theorem wZ {i:List D}:TX K [.lst i,.ty "list"] q=q (.bl true):=Ui (t := "list") rfl (by decide) rfl
theorem vb {i:List D}:TX K [.lst i,.ty "tuple"] q=q (.bl false):=Ui (t := "list") rfl (by decide) rfl
theorem vc {i:List D}:TX K [.lst i,.tup [.ty "list",.ty "tuple"]] q=q (.bl true):=by
 show (∃ as b,tys _=some as/\_)=_
 refine propext ⟨?_,fun h=>⟨_,true,rfl,by with_unfolding_all rfl,h⟩⟩
 rintro ⟨as,b,e,k,h⟩
 cases e
 have:kitAny K (.type "list") (["list", "tuple"].map Value.type)=some true:=by with_unfolding_all rfl
 rw [this] at k
 cases k
 exact h
theorem vd {i:List D}:TX K [.tup i,.tup [.ty "list",.ty "tuple"]] q=q (.bl true):=by
 show (∃ as b,tys _=some as/\_)=_
 refine propext ⟨?_,fun h=>⟨_,true,rfl,by with_unfolding_all rfl,h⟩⟩
 rintro ⟨as,b,e,k,h⟩
 cases e
 have:kitAny K (.type "tuple") (["list", "tuple"].map Value.type)=some true:=by with_unfolding_all rfl
 rw [this] at k
 cases k
 exact h
theorem sx {k:Bool->Prop}:D.tru .non k=k false:=rfl
theorem sy {k:Bool->Prop}{b:Bool}:D.tru (.bl b) k=k b:=rfl
theorem sA {k:Bool->Prop}{i:Int}:D.tru (.int i) k=k (i != 0):=rfl
theorem sC {k:Bool->Prop}{y:Str}:D.tru (.str y) k=(y.length<=aA/\k ((y.length:Int) != 0)):=rfl
theorem sD {k:Bool->Prop}{xs:List D}:D.tru (.lst xs) k=k (!xs.isEmpty):=rfl
theorem sE {k:Bool->Prop}{xs:List D}:D.tru (.tup xs) k=k (!xs.isEmpty):=rfl
theorem sF:D.VD .non=true:=rfl
theorem sG {i:Int}:D.VD (.int i)=false:=rfl
theorem sH {i:Bool}:D.VD (.bl i)=false:=rfl
theorem sI {i:Str}:D.VD (.str i)=false:=rfl
theorem sJ {i:List D}:D.VD (.tup i)=false:=rfl
theorem sL {i:List D}:D.VD (.lst i)=false:=rfl
theorem sM {C:Addr}{i:List (Str × D)}:D.VD (.obj C i)=false:=rfl
theorem sN {C:Addr}:D.VD (.exc C)=false:=rfl
theorem ve {i:Int}{n:Nat}:RY i (no_index (@OfNat.ofNat Int n instOfNat))=i % (@OfNat.ofNat Int n instOfNat):=by
 unfold RY
 rw [if_pos]
 exact Int.natCast_nonneg n
theorem vf {i:Int}{n:Nat}:Ek i (no_index (@OfNat.ofNat Int n instOfNat))=i / (@OfNat.ofNat Int n instOfNat):=by
 unfold Ek
 rw [if_pos]
 exact Int.natCast_nonneg n
theorem Xw {i j:Int}(h:0 < j):RY i j=i % j:=by unfold RY;rw [if_pos (by omega)]
end
theorem vg {g:DG}{b:DS}{e:Wp}{xs:List D}{ds:DSt}(I:Nat->DSt->Prop) (h0:I 0 ds)
  (hs:∀ i x ds N,xs[i]?=some x->I i ds->(∀ ds',I (i + 1) ds'->N ds')->g x ds fun ds'=>b ds' { e with nx:=N,ct:=N,bk:=e.nx })
  (he:∀ ds,I xs.length ds->e.nx ds):Ug g b e xs ds:=by
 have key:∀ (k:Nat) (ys:List D) (i:Nat) (ds:DSt),ys.length=k->xs.drop i=ys->i<=xs.length->I i ds->Ug g b e ys ds:=by
  intro k
  induction k with
  | zero =>
   intro ys i ds hl hd hi h
   have:ys=[]:=List.eq_nil_of_length_eq_zero hl
   subst this
   have:i=xs.length:=by have:=List.drop_eq_nil_iff.mp hd;omega
   subst this
   exact he ds h
  | succ k ih =>
   intro ys i ds hl hd hi h
   cases ys with
   | nil=>cases hl
   | cons y ys =>
    have hi2:i < xs.length:=by
     rcases Nat.lt_or_ge i xs.length with z | z
     ·exact z
     ·rw [List.drop_eq_nil_of_le z] at hd;cases hd
    rw [drop_eq_getElem_cons hi2] at hd
    cases hd
    unfold Ug
    exact hs i _ ds _ (aC hi2) h fun ds' h'=>ih _ (i + 1) ds' (by simp at hl ⊢;omega) rfl hi2 h'
 exact key xs.length xs 0 ds rfl rfl (Nat.zero_le _) h0
theorem Uj {α:Type}{c:α->D}{g:DG}{b:DS}{e:Wp}{xs:List α}{ds:DSt}(I:Nat->DSt->Prop) (h0:I 0 ds)
  (hs:∀ i x ds N,xs[i]?=some x->I i ds->(∀ ds',I (i + 1) ds'->N ds')->g (c x) ds fun ds'=>b ds' { e with nx:=N,ct:=N,bk:=e.nx })
  (he:∀ ds,I xs.length ds->e.nx ds):Ug g b e (xs.map c) ds:=by
 refine vg I h0 (fun i x ds N hx hi hn=>?_) (by rw [length_map];exact he)
 rw [getElem?_map] at hx
 cases q:xs[i]? with
 | none=>rw [q] at hx;cases hx
 | some y=>rw [q] at hx;cases hx;exact hs i y ds N q hi hn
theorem WK {lo:Int}{n:Nat}{g:DG}{b:DS}{e:Wp}{ds:DSt}(I:Nat->DSt->Prop) (h0:I 0 ds)
  (hs:∀ i ds N,i < n->I i ds->(∀ ds',I (i + 1) ds'->N ds')->g (.int (lo + i)) ds fun ds'=>b ds' { e with nx:=N,ct:=N,bk:=e.nx })
  (he:∀ ds,I n ds->e.nx ds):Ug g b e (intsFrom lo n) ds:=by
 refine Uj (xs:=List.range n) I h0 (fun i x ds N hx hi hn=>?_) (by rw [length_range];exact he)
 obtain ⟨h1,h2⟩:=List.getElem?_eq_some_iff.mp hx
 rw [length_range] at h1
 rw [List.getElem_range] at h2
 subst h2
 exact hs i ds N h1 hi hn
theorem JK {α:Type}{c:α->D}{g:DG}{f:DT}{e:DE}{q:List D->Prop}{xs:List α}{ds:DSt}{acc:List D}(C:DSt->Prop) (p:α->Bool) (h:α->D) (h0:C ds)
  (hs:∀ x∈xs,∀ ds (N0:DSt->Prop) (N1:DSt->D->Prop),C ds->(p x=false->∀ ds',C ds'->N0 ds')->(p x=true->∀ ds',C ds'->N1 ds' (h x))->g (c x) ds fun ds1=>f ds1 (fun b=>if b=true then e ds1 (fun y=>N1 ds1 y) (fun _=>False) else N0 ds1) (fun _=>False))
  (hl:acc.length + xs.length<=aA) (hq:q (acc++(xs.filter p).map h)):Vk g f e q (xs.map c) ds acc:=by
 induction xs generalizing ds acc with
 | nil =>
  unfold Vk
  simpa using hq
 | cons x xs ih =>
  rw [map_cons]
  unfold Vk
  refine hs x (mem_cons_self ..) ds _ (fun ds1 y=>acc.length < aA/\Vk g f e q (xs.map c) ds1 (acc++[y])) h0 (fun hp ds' h'=>?_) (fun hp ds' h'=>?_)
  ·refine ih h' (fun y hy=>hs y (mem_cons_of_mem _ hy)) (by simp at hl ⊢;omega) ?_
   rw [filter_cons,hp] at hq
   exact hq
  ·refine ⟨by simp at hl;omega,ih h' (fun y hy=>hs y (mem_cons_of_mem _ hy)) (by simp at hl ⊢;omega) ?_⟩
   rw [filter_cons,hp,if_pos rfl,map_cons] at hq
   simpa using hq
theorem JL {α:Type}(xs:List α):xs.filter (fun _=>true)=xs:=List.filter_eq_self.mpr fun _ _=>rfl
theorem YB {α:Type}{c:α->D}{e:DE}{q:List D->Prop}{xs:List α}{s:Slot}{caps:DSt}(h:α->D) (hl:xs.length<=aA)
  (hs:∀ x∈xs,∀ N:D->Prop,N (h x)->e (.v (c x)::caps) N (fun _=>False)) (hq:q (xs.map h)):Vk (Xv 0) zp e q (xs.map c) (s::caps) []:=by
 refine JK (fun ds=>∃ s,ds=s::caps) (fun _=>true) h ⟨s,rfl⟩ (fun x hx ds N0 N1 hc _ h1=>?_) (by simpa using hl) (by rw [JL];exact hq)
 obtain ⟨s,rfl⟩:=hc
 have z:=hs x hx (fun y=>N1 (.v (c x)::caps) y) (h1 rfl _ ⟨_,rfl⟩)
 show (if true=true then e (.v (c x)::caps) (fun y=>N1 (.v (c x)::caps) y) (fun _=>False) else N0 (.v (c x)::caps))
 rw [if_pos rfl]
 exact z
theorem SV {α:Type}{c:α->D}{f:DT}{e:DE}{q:List D->Prop}{xs:List α}{s:Slot}{caps:DSt}(p:α->Bool) (h:α->D) (hl:xs.length<=aA)
  (hf:∀ x∈xs,∀ N:Bool->Prop,N (p x)->f (.v (c x)::caps) N (fun _=>False))
  (hs:∀ x∈xs,p x=true->∀ N:D->Prop,N (h x)->e (.v (c x)::caps) N (fun _=>False)) (hq:q ((xs.filter p).map h)):Vk (Xv 0) f e q (xs.map c) (s::caps) []:=by
 refine JK (fun ds=>∃ s,ds=s::caps) p h ⟨s,rfl⟩ (fun x hx ds N0 N1 hc h0 h1=>?_) (by simpa using hl) (by simpa using hq)
 obtain ⟨s,rfl⟩:=hc
 refine hf x hx _ ?_
 cases hp:p x with
 | true=>rw [if_pos rfl];exact hs x hx hp _ (h1 hp _ ⟨_,rfl⟩)
 | false=>rw [if_neg aD];exact h0 hp _ ⟨_,rfl⟩
theorem EB {α:Type}{c c':α->D}{f:DT}{e:DE}{q:List D->Prop}{xs:List α}{s s':Slot}{caps:DSt}(p:α->Bool) (h:α->D) (hl:xs.length<=aA)
  (hf:∀ x∈xs,∀ N:Bool->Prop,N (p x)->f (.v (c x) :: .v (c' x)::caps) N (fun _=>False))
  (hs:∀ x∈xs,p x=true->∀ N:D->Prop,N (h x)->e (.v (c x) :: .v (c' x)::caps) N (fun _=>False)) (hq:q ((xs.filter p).map h)) :
  Vk (BP 2 (Mg (Xv 0) (Mg (Xv 1) BO))) f e q (xs.map fun x => .tup [c x,c' x]) (s::s'::caps) []:=by
 refine JK (c:=fun x => .tup [c x,c' x]) (fun ds=>∃ s s',ds=s::s'::caps) p h ⟨s,s',rfl⟩ (fun x hx ds N0 N1 hc h0 h1=>?_) (by simpa using hl) (by simpa using hq)
 obtain ⟨s,s',rfl⟩:=hc
 refine hf x hx _ ?_
 cases hp:p x with
 | true=>rw [if_pos rfl];exact hs x hx hp _ (h1 hp _ ⟨_,_,rfl⟩)
 | false=>rw [if_neg aD];exact h0 hp _ ⟨_,_,rfl⟩
theorem zu {α:Type}{c c':α->D}{e:DE}{q:List D->Prop}{xs:List α}{s s':Slot}{caps:DSt}(h:α->D) (hl:xs.length<=aA)
  (hs:∀ x∈xs,∀ N:D->Prop,N (h x)->e (.v (c x) :: .v (c' x)::caps) N (fun _=>False)) (hq:q (xs.map h)) :
  Vk (BP 2 (Mg (Xv 0) (Mg (Xv 1) BO))) zp e q (xs.map fun x => .tup [c x,c' x]) (s::s'::caps) [] :=
 EB (fun _=>true) h hl (fun _ _ _ hn=>hn) (fun x hx _=>hs x hx) (by rw [JL];exact hq)
abbrev TP2:=Str->St->Hp->(Str->Hp->Prop)->Prop
noncomputable def PP (X:Cx) (n:Nat) (es:List Expr) (t:TP2):Prop :=
 ∀ (acc:Str) (pins:List (Addr × Obj)) (s:Shared) (σ:St) (H:Hp) (Q:Str->Hp->Prop),acc.length + n<=aA->Inv X pins σ H s->t acc σ H Q ->
  wpAny (model X.prog X.w) X.A (joinParts acc (evalEach es X.env)) (EP X pins σ fun v H'=>∃ z,v = .str z/\Q z H') X.xe s
noncomputable def D.fmt:D->(Str->Prop)->Prop
 | .str y,q=>y.length<=100000/\q y
 | .int i,q=>i.natAbs.log2 < 1920/\(toString i:Str).length<=100000/\q (toString i)
 | _,_=>False
noncomputable def vFmt (K:aj) (v:V) (q:Str->Prop):Prop:=(∃ y:Str,v = .str y/\y.length<=100000/\q y)\/(∃ i:Int,v = .int i/\i.natAbs.log2 < 1920/\(toString i:Str).length<=100000/\q (toString i))
section
variable {X:Cx}{XE:St->XK}
theorem nu:PP X 0 [] fun acc σ H Q=>Q acc H:=fun acc pins s σ H Q hn I h=>joinParts_nil ⟨.str acc,H,I.tok _,⟨_,rfl⟩,acc,rfl,h⟩ (by omega)
theorem sP {n:Nat}{es:List Expr}{t:TP2}{x:Str}{j pos}(hr:PP X n es t) (hx:x.length<=100000):PP X (n + 100000) (.Constant (.str x) j pos::es) fun acc σ H Q=>t (acc++x) σ H Q :=
 fun acc pins s σ H Q hn I h=>by
  have e:=strLen_append acc x
  exact joinParts_cons (Calls.Constant_str ⟨by omega,hr _ _ _ _ _ _ (by omega) (I.tok _) h⟩)
theorem nv {n:Nat}{es:List Expr}{t:TP2}{e:Expr}{te:TE}{pos}(he:PE X e te) (hr:PP X n es t):PP X (n + 100000) (.FormattedValue e (-1) none pos::es) fun acc σ H Q=>te σ H fun v H1=>vFmt X.K v fun y=>t (acc++y) σ H1 Q :=
 fun acc pins s σ H Q hn I h=>by
  refine joinParts_cons (FormattedValue_plain (thn (he pins s σ H _ I h) fun u s1 zq=>?_))
  obtain ⟨v,H1,I1,r1,q1⟩:=zq
  rcases q1 with ⟨y,rfl,hy,q⟩ | ⟨i,rfl,hi,hy,q⟩
  ·obtain ⟨tk,rfl⟩:=r1
   have e:=strLen_append acc y
   exact formatField_str (fun t' tk=>⟨by omega,hr _ _ _ _ _ _ (by omega) (I1.tok _) q⟩) (by omega)
  ·obtain ⟨tk,rfl⟩:=r1
   have e:=strLen_append acc (toString i)
   exact formatField_int_small hi ⟨by omega,hr _ _ _ _ _ _ (by omega) (I1.tok _) q⟩
theorem sQ {n:Nat}{a b:Expr}{es:List Expr}{t:TP2}{pos}(hr:PP X n (a::b::es) t) (hn:n<=aA):PE X (.JoinedStr (a::b::es) pos) fun σ H Q=>t Str.empty σ H fun z H'=>Q (.str z) H' :=
 fun pins s σ H Q I h=>JoinedStr_many (thn (hr Str.empty pins s σ H _ (by rw [show Str.empty.length=0 from rfl];omega) I h) fun u s1 ⟨v,H1,I1,r1,z,e,q⟩=>⟨v,H1,I1,r1,by rw [e];exact q⟩)
abbrev DP:=Str->DSt->(Str->Prop)->(Addr->Prop)->Prop
noncomputable def DenP (K:aj) (XE:St->XK) (te:TP2) (de:DP):Prop:=∀ {acc:Str}{B0 B H0 H:Hp}{σ:St}{ds:DSt}{q:Str->Prop}{x:Addr->Prop}{Q:Str->Hp->Prop},Cfg K B0 B H0 H σ ds->de acc ds q x->(∀ z H0' H',Ext H0 H H0' H'->q z->Q z H')->KX XE σ H x->te acc σ H Q
structure JP (X:Cx) (XE:St->XK) (n:Nat) (es:List Expr) (de:DP):Prop where
 ex:∃ te,PP X n es te/\DenP X.K XE te de
noncomputable def qN:DP:=fun acc _ q _=>q acc
noncomputable def vh (x:Str) (dr:DP):DP:=fun acc ds q y=>dr (acc++x) ds q y
noncomputable def qO (de:DE) (dr:DP):DP:=fun acc ds q x=>de ds (fun d=>d.fmt fun y=>dr (acc++y) ds q x) x
noncomputable def qP (dr:DP):DE:=fun ds q x=>dr Str.empty ds (fun z=>q (.str z)) x
theorem GP:JP X XE 0 [] qN:=⟨_,nu,fun c h k _=>k _ _ _ (.refl c.sub) h⟩
theorem SW {n:Nat}{es:List Expr}{dr:DP}{x:Str}{j pos}(hr:JP X XE n es dr) (hx:autoParam (x.length<=100000) auD):JP X XE (n + 100000) (.Constant (.str x) j pos::es) (vh x dr):=by
 obtain ⟨t,p,d⟩:=hr.ex
 exact ⟨_,sP p hx,fun c h k kx=>d c h k kx⟩
theorem GQ {n:Nat}{es:List Expr}{dr:DP}{e:Expr}{de:DE}{pos}(he:JE X XE e de) (hr:JP X XE n es dr):JP X XE (n + 100000) (.FormattedValue e (-1) none pos::es) (qO de dr):=by
 obtain ⟨te,p1,d1⟩:=he.ex
 obtain ⟨t,p,d⟩:=hr.ex
 refine ⟨_,nv p1 p,fun {acc _ _ _ _ σ ds q x Q} c h k kx=>d1 c h (fun v a H1 H2 e r h=>?_) kx⟩
 have go:∀ {y:Str},dr (acc++y) ds q x->t (acc++y) σ H2 Q:=fun h=>d (c.go e) h (fun z H0' H' e' hq=>k z _ _ (e.trans e') hq) (kx.go e.s)
 cases a with
 | str y=>rw [show v = .str y from r];exact .inl ⟨y,rfl,h.1,go h.2⟩
 | int i=>rw [show v = .int i from r];exact .inr ⟨i,rfl,h.1,h.2.1,go h.2.2⟩
 | _=>exact h.elim
theorem Jb {n:Nat}{a b:Expr}{es:List Expr}{dr:DP}{pos}(hr:JP X XE n (a::b::es) dr) (hn:autoParam (n<=aA) auD):JE X XE (.JoinedStr (a::b::es) pos) (qP dr):=by
 obtain ⟨t,p,d⟩:=hr.ex
 exact ⟨_,sQ p hn,fun c h k kx=>d c h (fun z H0' H' e hq=>k (.str z) (.str z) _ _ e rfl hq) kx⟩
end
theorem vi {k:Key}{v:Value}(h:TN k v=true):v.scannable=true:=by
 rcases Yr h with ⟨i,t,rfl,rfl⟩ | ⟨x,t,rfl,rfl⟩ <;> rfl
instance lawKey:LawfulBEq Key where
 eq_of_beq {a b} h:=by
  cases a <;> cases b
  ·exact congrArg _ (eq_of_beq h)
  ·cases h
  ·cases h
  ·exact congrArg _ (eq_of_beq h)
 rfl {a}:=by
  cases a with
  | inl i=>exact (beq_self_eq_true i:(i == i)=true)
  | inr i=>exact (beq_self_eq_true i:(i == i)=true)
instance memKey (k:Key) (a:List Key):Decidable (k∈a):=@List.instDecidableMemOfLawfulBEq Key instBEqOfDecidableEq inferInstance k a
noncomputable def Vw (a:List Key) (k:Key):List Key:=if k∈a then a else a++[k]
noncomputable def dedup (ks:List Key):List Key:=ks.foldl Vw []
theorem JM (ks:List Key) (k:Key):dedup (ks++[k])=Vw (dedup ks) k:=by unfold dedup;rw [List.foldl_append];rfl
theorem Ci (a:List Key) (k j:Key):j∈Vw a k↔j∈a\/j=k:=by
 unfold Vw
 split
 ·rename_i h
  exact ⟨.inl,fun z=>z.elim id fun e=>e ▸ h⟩
 ·simp
theorem JQ (a:List Key) (k:Key):(Vw a k).length=if k∈a then a.length else a.length + 1:=by
 unfold Vw
 split <;> simp
theorem JR (ks:List Key):(dedup ks).length<=ks.length:=by
 have go:∀ (ks a:List Key),(ks.foldl Vw a).length<=a.length + ks.length:=by
  intro ks
  induction ks with
  | nil=>intro a;exact Nat.le_refl _
  | cons k ks ih =>
   intro a
   rw [foldl_cons]
   have h1:=ih (Vw a k)
   have h2:=JQ a k
   rw [length_cons]
   split at h2 <;> omega
 have:=go ks []
 simpa [dedup] using this
section
variable {P:Program}{w:World}{A:Around}
theorem SetOf.eq' {h:Heap}{a:Addr}{S S':Key->Bool}{n n':Nat}(z:h.SetOf (Yp P w) a S n) (e:∀ k,S k=S' k) (m:n=n'):h.SetOf (Yp P w) a S' n':=by
 rw [<-m,<-(funext e:S=S')]
 exact z
theorem vj {R:Result->Shared->Prop}{I Z:Addr}{fp wr:List Addr}{G:Array GenState->Array GenState->Prop}{ks:List Key}{Pv:Nat->Value->Prop}{St:Nat->Shared->Prop}
  (W:WalksS P w A.in1 I fp wr G ks.length Pv St) (out:Z∉fp) (hv:∀ i v,Pv i v->∃ k,ks[i]?=some k/\TN k v=true) (hb:ks.length + 1 < scanBound) :
  ∀ (m i:Nat) (s:Shared),i + m=ks.length->St i s->s.heap.SetOf (Yp P w) Z (fun k=>decide (k∈dedup (ks.take i))) (dedup (ks.take i)).length ->
   (∀ s',Moved (Z::wr) G s s'->s'.heap.SetOf (Yp P w) Z (fun k=>decide (k∈dedup ks)) (dedup ks).length->R (.ok (.ret .none)) s') ->
   codeAny (model P w) A (.builtin "set.update.loop" ⟨[.ref Z,.ref I],[]⟩) R s:=by
 have outw:Z∉wr:=fun h=>out (W.sub _ h)
 intro m
 induction m with
 | zero =>
  intro i s hi st hS k
  have ei:i=ks.length:=by omega
  subst ei
  rw [take_length] at hS
  refine codeAny_builtin F.entry_set_update_loop ?_
  rw [Around.under_plainId F.plain_set_update_loop _]
  refine ak (m:=pyNext (.ref I)) (W.done s _ _ st fun s' mv=>ao (k s' (mv.mono fun b h=>mem_cons_of_mem _ h) ?_))
  obtain ⟨o,es,ep,t,ho,r⟩:=hS
  exact ⟨o,es,ep,t,mv.heap Z _ outw ho,r⟩
 | succ m ih =>
  intro i s hi st hS k
  have lt:i < ks.length:=by omega
  refine codeAny_builtin F.entry_set_update_loop ?_
  rw [Around.under_plainId F.plain_set_update_loop _]
  refine ak (m:=pyNext (.ref I)) (W.item i s _ _ lt st fun v s' pv st' mv=>?_)
  obtain ⟨c,hc,hcv⟩:=hv i v pv
  have hS':s'.heap.SetOf (Yp P w) Z (fun k=>decide (k∈dedup (ks.take i))) (dedup (ks.take i)).length:=by
   obtain ⟨o,es,ep,t,ho,r⟩:=hS
   exact ⟨o,es,ep,t,mv.heap Z _ outw ho,r⟩
  have et:ks.take (i + 1)=ks.take i++[c]:=by rw [take_add_one,hc];rfl
  have room:(dedup (ks.take i)).length + 1 < scanBound:=by
   have:=JR (ks.take i)
   rw [length_take] at this
   omega
  refine ak (m:=holding [v] (setAdd Z v)) (wpAny_holding ?_)
  unfold setAdd
  refine wpAny_holding (ak ((Yp P w).pyHash (k:=c) hcv (wpAny_setAddHashed_of (knd:=Yp P w) (s:={ s' with toks:=s'.toks + 1 }) hcv (vi hcv) hS' room fun h' sb hS2=>?_)))
  have hS3:h'.SetOf (Yp P w) Z (fun k=>decide (k∈dedup (ks.take (i + 1)))) (dedup (ks.take (i + 1))).length:=by
   refine SetOf.eq' hS2 (fun j=>?_) ?_
   ·rw [et,JM]
    simp [Ci]
   ·rw [et,JM,JQ]
    simp
  refine ao ⟨plainId_quiet F.plain_set_update_loop _,ih (i + 1) _ (by omega) (W.frame _ s' _ _ st' (Nat.le_succ _) fun b hb o e=>?_) hS3 fun s'' mv' hS4=>k s'' (Moved.trans W.gtrans ((mv.mono fun b h=>mem_cons_of_mem _ h).then_heap (Nat.le_succ _) fun b o nb e=>?_) mv') hS4⟩
  ·exact (sb.2 b (fun y=>out (y ▸ hb))).trans e
  ·exact (sb.2 b (fun y=>nb (y ▸ mem_cons_self))).trans e
noncomputable def Qf (led:Bool):Obj:={ cls := .type "set",dict:=none,data := .set #[] 0 (.fresh 0 0 led) }
theorem vm {E:Value->Shared->Prop}{s:Shared}{l:Addr}{us:Array Value}{ks:List Key}{Q:Value->Shared->Prop}(hh:A.handled=none) (hl:s.heap.IsList l us) (en:us.size=ks.length)
  (hk:∀ (i:Nat) v,us[i]?=some v->∃ k,ks[i]?=some k/\TN k v=true) (hb:ks.length + 1 < scanBound)
  (h:∀ (h':Heap) (tk:Nat),h'.SetOf (Yp P w) s.heap.objs.size (fun k=>decide (k∈dedup ks)) (dedup ks).length->(∀ b o,s.heap.get? b=some o->h'.get? b=some o)->Q (.ref s.heap.objs.size) { s with heap:=h',toks:=tk }) :
  wpAny (model P w) A (call (.type "set") [.ref l]) Q E s:=by
 obtain ⟨cc,tl,hmro⟩:=PySem.F.called_set.mro
 have made:=PySem.F.called_set.made
 have sub:=PySem.F.called_set.sub
 have h1:=PySem.F.called_set.notType
 have h2:=PySem.F.called_set.canCreate
 have ct:=PySem.F.typeCall_set_1 (.ref l)
 refine wpAny_call (codeAny_of_tree (show wpAny _ _ (callAny (.type "set") _) _ _ _ from ao ⟨Code.quiet_builtin _ (by decide +kernel),codeAny_builtin PySem.F.entry_type_call ?_⟩))
 rw [Around.under_plain (weight_type_call_type "set" [.ref l] []) rfl]
 repeat (any_goals (first | assumption | wp_step))
 refine codeAny_mono (PySem.code_set_new_1 (.ref l) (E:=E) (Q₁:=fun ob s1=>∃ led:Bool,ob = .ref s.heap.objs.size/\s1={ s with heap:=s.heap.push (Qf led) }) fun led=>⟨led,rfl,rfl⟩) fun r s1 hr=>?_
 rcases r with e | fl
 ·exact hr
 cases fl with
 | ret ob =>
  obtain ⟨led,rfl,rfl⟩:=hr
  have at0:(s.heap.push (Qf led)).get? s.heap.objs.size=some (Qf led):=au _ rfl
  have ty:Shared.TypeIs { s with heap:=s.heap.push (Qf led) } (.ref s.heap.objs.size) "set" := ⟨_,at0,rfl⟩
  have look:=PySem.F.called_set.init.lookup
  have bnd:=PySem.F.called_set.init.bind (.ref s.heap.objs.size)
  repeat (any_goals (first | assumption | wp_step))
  refine codeAny_mono (codeAny_call_builtin (R:=wants (fun r s2=>r = .none/\Q (.ref s.heap.objs.size) s2) E) PySem.F.called_set.init.plain PySem.F.entry_set_init (PySem.check_set_init_1 ty ?_)) fun r2 s2 hr2=>?_
  ·obtain ⟨⟨c0,d0,x0,sl0⟩,hol,hcl,nl,hdl⟩:=id hl
   simp only at hcl hdl
   subst hcl
   subst hdl
   have hol':(s.heap.push (Qf led)).get? l=some { cls := .type "list",dict:=d0,data := .seq us nl,slots:=sl0 }:=aq _ hol
   have l1:(s.heap.push (Qf led)).IsList l us:=⟨_,hol',rfl,nl,rfl⟩
   have n1:=PySem.F.sub_list_set
   have n2:=PySem.F.sub_list_frozenset
   have n3:(Value.type "list" == Value.type "dict")=false:=by decide
   have lts:l < s.heap.objs.size:=az hol
   unfold Builtin.«set.__init__» noKeywords Builtin.Frozenset.updateFrom
   generalize gi:pyIter=PI
   wp_walk
   subst gi
   refine wpAny_pyIter_list l1 (ak (wpAny_runValue ?_))
   have ne1:l≠(s.heap.push (Qf led)).objs.size:=by rw [Heap.size_push];exact Nat.ne_of_lt (Nat.lt_succ_of_lt lts)
   have out:s.heap.objs.size∉[(s.heap.push (Qf led)).objs.size,l]:=by
    rw [Heap.size_push]
    intro z
    rcases mem_cons.mp z with z | z
    ·exact absurd z (Nat.ne_of_lt (Nat.lt_succ_self _))
    ·exact absurd (mem_singleton.mp z) (Nat.ne_of_gt lts)
   have at1:((s.heap.push (Qf led)).push { cls := .type "list_iterator",data := .fields #[.ref l,.int 0 0] }).get? s.heap.objs.size=some (Qf led):=aq _ at0
   have W:=(Walks.list (prog:=P) (w:=w) (A:=A.in1.in1.in1) (by simp [hh]) (s.heap.push (Qf led)).objs.size l ne1 us).toS
   rw [en] at W
   refine vj W out hk hb ks.length 0 _ (by omega) ⟨⟨_,au _ rfl,rfl,rfl⟩,l1.push _⟩ (SetOf.eq' ((setObjOf_fresh (knd:=Yp P w) led).setOf at1 (by unfold scanBound;omega)) (fun _=>rfl) rfl) fun s' mv hS=>?_
   obtain ⟨h',g',dr',tk',os'⟩:=s'
   have e1:g'=s.gens:=mv.gens
   have e2:dr'=s.drawn:=mv.drawn
   have e3:os'=s.os:=mv.os
   subst e1
   subst e2
   subst e3
   refine ao (show wpAny _ _ (ret Value.none) _ _ _ from ao ⟨rfl,h h' tk' hS fun b o e=>?_⟩)
   have lb:=az e
   refine mv.heap b o ?_ (aq _ (aq _ e))
   rw [Heap.size_push]
   intro z
   rcases mem_cons.mp z with z | z
   ·exact absurd z (Nat.ne_of_lt lb)
   ·exact absurd (mem_singleton.mp z) (Nat.ne_of_lt (Nat.lt_succ_of_lt lb))
  ·rcases r2 with e | f2
   ·exact hr2
   cases f2 with
   | ret r =>
    obtain ⟨rfl,hq⟩:=hr2
    repeat (any_goals (first | assumption | wp_step))
   | _=>exact hr2.elim
 | _=>exact hr.elim
end
theorem GR {P:Program}{w:World}{A:Around}{E:Value->Shared->Prop}{s:Shared}{a:Addr}{xs:Array Value}{n:Nat}{Q:Option Value->Shared->Prop}(hx:s.heap.get? a=some { cls := .type "list",data := .seq xs n }) (hA:A.handled=none)
  (h:∀ h' tk,(∀ b o,s.heap.get? b=some o->h'.get? b=some o)->Q none { s with heap:=h',toks:=tk }):wpAny (model P w) A (getAttr? (.ref a) "keys") Q E s:=by
 have miss:typeLookup (.type "list") "keys" = pure none:=by rw [typeLookup_type,builtinLookup_eq_fast];kernel_rfl
 have nm:(["__module__", "__name__", "__qualname__", "__doc__", "__annotations__"]:List Str).contains "keys" = false:=by decide
 obtain ⟨hp,g,d,tk,os⟩:=s
 have ty:∀ tk',(⟨hp,g,d,tk',os⟩:Shared).TypeIs (.ref a) "list" := fun _=>⟨_,hx,rfl⟩
 have f1:=sub_AttributeError
 have f3:=PySem.F.slot_list_getattribute.lookup
 have f4:=PySem.F.slot_list_getattribute.bind (.ref a)
 have f5:=am_list_getattr_none
 unfold getAttr? getAttrBy? getAttrBy
 repeat (any_goals (first | assumption | exact ty _ | ((with_reducible show wpAny _ _ (call (Value.builtin "list.__getattribute__") _ _) _ _ _);refine call_meets PySem.F.slot_list_getattribute (ty _) am_entry_list_getattribute (PySem.F.args_list_getattribute_2 _ _) (meets_getattribute_miss_list a xs n _ "keys" _ miss nm) ⟨hx,hA,fun h' tk' e hn=>?_⟩) | wp_step))
 obtain ⟨t',u',he⟩:=hn.there
 show wpAny _ _ (getattributeRaised _ _ _ _ _ _ _) _ _ _
 unfold getattributeRaised
 repeat (any_goals (first | assumption | wp_step))
 exact h _ _ hn.keeps
theorem HS:entryFor table "dict.update.loop" = some Builtin.«dict.update.loop»:=entryFor_of_tree (by kernel_rfl)
theorem QM:plainId "dict.update.loop" = true:=by decide +kernel
structure Pr where
 p:Addr
 k:Key
 kv:Value
 vv:Value
noncomputable def Pr.ok (h:Heap) (r:Pr):Prop:=IsTup h r.p #[r.kv,r.vv]/\TN r.k r.kv=true
noncomputable def putAll (xs:List Pr):List (Key × Value):=xs.foldl (fun a r=>stored a r.k r.vv) []
theorem putAll_snoc (xs:List Pr) (r:Pr):putAll (xs++[r])=stored (putAll xs) r.k r.vv:=by unfold putAll;rw [List.foldl_append];rfl
theorem zv {K:Type} [DecidableEq K] (kvs:List (K × Value)) (k:K) (v:Value):(stored kvs k v).length<=kvs.length + 1:=by
 unfold stored
 split <;> simp
theorem HU (xs:List Pr):(putAll xs).length<=xs.length:=by
 have go:∀ (xs:List Pr) (a:List (Key × Value)),(xs.foldl (fun a r=>stored a r.k r.vv) a).length<=a.length + xs.length:=by
  intro xs
  induction xs with
  | nil=>intro a;exact Nat.le_refl _
  | cons r xs ih =>
   intro a
   have h1:=ih (stored a r.k r.vv)
   have h2:=zv a r.k r.vv
   rw [foldl_cons,length_cons]
   omega
 have:=go xs []
 simpa [putAll] using this
section
variable {P:Program}{w:World}{A:Around}
theorem pair_items {E:Value->Shared->Prop}{s:Shared}{p:Addr}{us:Array Value}{Q:List Value->Shared->Prop}(h:IsTup s.heap p us) (q:Q us.toList s):wpAny (model P w) A (Builtin.Dict.pairItems (.ref p)) Q E s:=by
 obtain ⟨o,ho,hc,n,hd⟩:=h
 have ty:s.TypeIs (.ref p) "tuple" := ⟨o,ho,hc⟩
 unfold Builtin.Dict.pairItems
 refine ak (wpAny_typeOf ty ?_)
 rw [if_pos (by decide)]
 unfold seqItems?
 refine ak (ak (wpAny_load ho ?_))
 rw [hd]
 exact ao (ao q)
theorem vn {R:Result->Shared->Prop}{I Z:Addr}{fp wr:List Addr}{G:Array GenState->Array GenState->Prop}{xs:List Pr}{Pv:Nat->Value->Prop}{St:Nat->Shared->Prop}
  (W:WalksS P w A.in1 I fp wr G xs.length Pv St) (out:Z∉fp) (hv:∀ i v,Pv i v->∃ r,xs[i]?=some r/\v = .ref r.p) (hz:xs.length<=aA) (away:∀ r∈xs,r.p∉Z::wr) :
  ∀ (m i:Nat) (t:Tok) (s:Shared),i + m=xs.length->St i s->(∀ r∈xs,r.ok s.heap)->s.heap.DictOf (Yp P w) Z (putAll (xs.take i)) ->
   (∀ s',Moved (Z::wr) G s s'->s'.heap.DictOf (Yp P w) Z (putAll xs)->R (.ok (.ret .none)) s') ->
   codeAny (model P w) A (.builtin "dict.update.loop" ⟨[.ref Z,.ref I,.int i t,.none],[]⟩) R s:=by
 have outw:Z∉wr:=fun h=>out (W.sub _ h)
 intro m
 induction m with
 | zero =>
  intro i t s hi st ok hS k
  have ei:i=xs.length:=by omega
  subst ei
  rw [take_length] at hS
  refine codeAny_builtin HS ?_
  rw [Around.under_plainId QM _]
  refine ak (m:=pyNext (.ref I)) (W.done s _ _ st fun s' mv=>?_)
  refine ak (m:=Builtin.Dict.addKeywords Z []) (ao (ao (k s' (mv.mono fun b h=>mem_cons_of_mem _ h) ?_)))
  obtain ⟨o,es,ep,ho,r⟩:=hS
  exact ⟨o,es,ep,mv.heap Z _ outw ho,r⟩
 | succ m ih =>
  intro i t s hi st ok hS k
  have lt:i < xs.length:=by omega
  refine codeAny_builtin HS ?_
  rw [Around.under_plainId QM _]
  refine ak (m:=pyNext (.ref I)) (W.item i s _ _ lt st fun v s' pv st' mv=>?_)
  obtain ⟨r,hr,rfl⟩:=hv i v pv
  have rm:r∈xs:=mem_of_getElem? hr
  have ok':∀ r∈xs,r.ok s'.heap:=fun r h=>by
   obtain ⟨⟨o,ho,z⟩,y⟩:=ok r h
   exact ⟨⟨o,mv.heap _ _ (fun q=>away r h (mem_cons_of_mem _ q)) ho,z⟩,y⟩
  have hS':s'.heap.DictOf (Yp P w) Z (putAll (xs.take i)):=by
   obtain ⟨o,es,ep,ho,r⟩:=hS
   exact ⟨o,es,ep,mv.heap Z _ outw ho,r⟩
  have et:xs.take (i + 1)=xs.take i++[r]:=by rw [take_add_one,hr];rfl
  have fits:(putAll (xs.take i)).length<=aA:=by
   have:=HU (xs.take i)
   rw [length_take] at this
   omega
  refine ak (wpAny_holding (ak (wpAny_tryCatch (pair_items (ok' r rm).1 (wpAny_holding ?_)))))
  unfold dictSet
  refine wpAny_holding (ak ((Yp P w).pyHash (k:=r.k) (ok' r rm).2 (wpAny_dictSetHashed_pairs (s:={ s' with toks:=s'.toks + 1 }) (ok' r rm).2 hS' (fun h' hS2 sb=>?_) fits)))
  rw [<-putAll_snoc,<-et] at hS2
  refine ao ⟨plainId_quiet QM _,ih (i + 1) _ _ (by omega) (W.frame _ s' _ _ st' (Nat.le_succ _) fun b hb o e=>?_) (fun r h=>?_) hS2 fun s'' mv' hS4=>k s'' (Moved.trans W.gtrans ((mv.mono fun b h=>mem_cons_of_mem _ h).then_heap (Nat.le_succ _) fun b o nb e=>?_) mv') hS4⟩
  ·exact (sb.2 b (fun y=>out (y ▸ hb))).trans e
  ·obtain ⟨⟨o,ho,z⟩,y⟩:=ok' r h
   exact ⟨⟨o,(sb.2 _ (fun y=>away r h (y ▸ mem_cons_self))).trans ho,z⟩,y⟩
  ·exact (sb.2 b (fun y=>nb (y ▸ mem_cons_self))).trans e
noncomputable def GU:Obj:={ cls := .type "dict",data := .dict #[] }
theorem zx {E:Value->Shared->Prop}{s:Shared}{l:Addr}{us:List Value}{n:Nat}{xs:List Pr}{Q:Value->Shared->Prop}(hh:A.handled=none) (hl:s.heap.get? l=some { cls := .type "list",data := .seq us.toArray n }) (en:us=xs.map fun r => .ref r.p)
  (ok:∀ r∈xs,r.ok s.heap) (hz:xs.length<=aA)
  (h:∀ (h':Heap) (tk:Nat),h'.DictOf (Yp P w) s.heap.objs.size (putAll xs)->(∀ b o,s.heap.get? b=some o->h'.get? b=some o)->Q (.ref s.heap.objs.size) { s with heap:=h',toks:=tk }) :
  wpAny (model P w) A (call (.type "dict") [.ref l]) Q E s:=by
 refine callType_codes (Q₁:=fun ob s1=>ob = .ref s.heap.objs.size/\s1={ s with heap:=s.heap.push GU }) PySem.F.kt_called_dict (PySem.F.kt_typeCall_dict_1 _) PySem.F.entry_dict_init (kt_code_dict_new _ ⟨rfl,rfl⟩) ?_
 rintro ob s1 ⟨rfl,rfl⟩
 have new:(s.heap.push GU).DictOf (Yp P w) s.heap.objs.size []:=Heap.DictOf.new s.heap
 have lts:l < s.heap.objs.size:=az hl
 have hl1:(s.heap.push GU).get? l=some { cls := .type "list",data := .seq us.toArray n }:=aq _ hl
 have ty:Shared.TypeIs { s with heap:=s.heap.push GU } (.ref l) "list" := ⟨_,hl1,rfl⟩
 refine ⟨new.typeIs,PySem.F.args_dict_init_2 _ _,?_⟩
 unfold Builtin.«dict.__init__»
 refine ak ?_
 unfold Builtin.Dict.selfAndRest
 refine ak (wpAny_notOrdered_dict new.typeIs (show wpAny _ _ (pure (s.heap.objs.size,[Value.ref l])) _ _ _ from ao ?_))
 show wpAny _ _ (Builtin.Dict.updateFrom "dict.__init__" s.heap.objs.size (.ref l) [] .none) _ _ _
 unfold Builtin.Dict.updateFrom
 refine ak (wpAny_typeOf ty ?_)
 rw [if_pos (by decide)]
 refine ak (GR hl1 (by simp [hh]) fun h1 tk1 k1=>?_)
 have l1:h1.IsList l us.toArray:=⟨_,k1 _ _ hl1,rfl,n,rfl⟩
 have new1:h1.DictOf (Yp P w) s.heap.objs.size []:=by
  obtain ⟨o,es,ep,ho,r⟩:=new
  exact ⟨o,es,ep,k1 _ _ ho,r⟩
 have lt1:l < h1.objs.size:=az (k1 _ _ hl1)
 have ltn:s.heap.objs.size < h1.objs.size:=by
  obtain ⟨o,es,ep,ho,r⟩:=new1
  exact az ho
 refine ak (wpAny_rule (ak (wpAny_pyIter_list l1 ?_)))
 have W:=(Walks.list (prog:=P) (w:=w) (A:=A.in1.in1) (by simp [hh]) h1.objs.size l (Nat.ne_of_lt lt1) us.toArray).toS
 have out:s.heap.objs.size∉[h1.objs.size,l]:=fun z=>by
  rcases mem_cons.mp z with z | z
  ·exact absurd z (Nat.ne_of_lt ltn)
  ·exact absurd (mem_singleton.mp z) (Nat.ne_of_gt lts)
 have el:us.toArray.size=xs.length:=by rw [en];simp
 rw [el] at W
 have keep:∀ b o,s.heap.get? b=some o->h1.get? b=some o:=fun b o e=>k1 _ _ (aq _ e)
 refine ao ⟨plainId_quiet QM _,vn W out (fun i v hv=>?_) hz (fun r hr z=>?_) xs.length 0 0 _ (by omega) ⟨⟨_,au _ rfl,rfl,rfl⟩,l1.push _⟩ (fun r hr=>?_) ?_ fun s' mv hS=>?_⟩
 ·have hv:us.toArray[i]?=some v:=hv
  rw [en] at hv
  simp at hv
  obtain ⟨r,h1,h2⟩:=hv
  exact ⟨r,h1,h2.symm⟩
 ·obtain ⟨⟨o,ho,_⟩,_⟩:=ok r hr
  have lb:=az ho
  rcases mem_cons.mp z with z | z
  ·exact absurd z (Nat.ne_of_lt lb)
  ·exact absurd (mem_singleton.mp z) (Nat.ne_of_lt (Nat.lt_trans lb ltn))
 ·obtain ⟨⟨o,ho,z⟩,y⟩:=ok r hr
  exact ⟨⟨o,aq _ (keep _ _ ho),z⟩,y⟩
 ·obtain ⟨o,es,ep,ho,r⟩:=new1
  exact ⟨o,es,ep,aq _ ho,r⟩
 ·obtain ⟨h',g',dr',tk',os'⟩:=s'
  have e1:g'=s.gens:=mv.gens
  have e2:dr'=s.drawn:=mv.drawn
  have e3:os'=s.os:=mv.os
  subst e1
  subst e2
  subst e3
  refine ⟨rfl,h h' tk' hS fun b o e=>?_⟩
  have lb:=az e
  refine mv.heap b o (fun z=>?_) (aq _ (keep _ _ e))
  rcases mem_cons.mp z with z | z
  ·exact absurd z (Nat.ne_of_lt lb)
  ·exact absurd (mem_singleton.mp z) (Nat.ne_of_lt (Nat.lt_trans lb ltn))
end
noncomputable def JU (h:Heap) (a:Addr) (n:Nat):Prop:=∃ o es ep t,h.get? a=some o/\o.ExactSet/\o.data = .set es ep t/\t.fits es.size=true/\es.size=n
theorem zy {P:Program}{w:World}{H:Hp}{h:Heap}{a:Addr}{n:Nat}(z:JU h a n):YH P w H h a (.ext fun h=>JU h a n):=by
 refine ⟨z,?_,fun h1 h2 z k=>?_⟩
 ·obtain ⟨o,es,ep,t,ho,_⟩:=z
  exact ⟨o,ho⟩
 ·obtain ⟨o,es,ep,t,ho,r⟩:=z
  exact ⟨o,es,ep,t,k _ ho,r⟩
theorem sR {ks:List Key}:∀ {us:List Value},Vals (ks.map kV) us->us.length=ks.length/\∀ (i:Nat) v,us[i]?=some v->∃ k,ks[i]?=some k/\TN k v=true:=by
 induction ks with
 | nil=>intro us r;cases r;exact ⟨rfl,fun i v h=>by simp at h⟩
 | cons k ks ih =>
  intro us r
  cases r with
  | @cons _ u _ us r1 r2 =>
   obtain ⟨e,h⟩:=ih r2
   refine ⟨by rw [length_cons,length_cons,e],fun i v hv=>?_⟩
   cases i with
   | zero =>
    simp at hv
    subst hv
    refine ⟨k,rfl,?_⟩
    cases k with
    | inl i=>obtain ⟨t,rfl⟩:=r1;exact Hv i t
    | inr x=>obtain ⟨t,rfl⟩:=r1;exact Hw x t
   | succ i=>exact h i v (by simpa using hv)
section
variable {X:Cx}{XE:St->XK}
theorem zF (hc:X.calm=true):Xn X (.type "set") (fun xs H Q=>∃ p ks,xs=[.ref p]/\SqL X.K H p (ks.map kV)/\ks.length + 1 < scanBound/\∀ l,H l=none->Q (.ref l) (upd H l (.ext fun h=>JU h l (dedup ks).length))):=by
 intro pins s σ H xs us Q I r h
 obtain ⟨p,ks,rfl,hq,hb,q⟩:=h
 obtain ⟨u,rfl,rx⟩:=vals1 r
 cases rx
 obtain ⟨its,r',pl,hz⟩:=I.list hq
 obtain ⟨e,hk⟩:=sR r'
 refine vm (I.ok.hd hc) pl.isList (by simpa using e) (fun i v hv=>hk i v (by simpa using hv)) hb fun h' tk hS kp=>?_
 have z:JU h' s.heap.objs.size (dedup ks).length:=by
  obtain ⟨o,es,ep,t,ho,hex,hd,_,_,_,hf,hn⟩:=hS
  exact ⟨o,es,ep,t,ho,hex,hd,hf,hn⟩
 exact ⟨.ref s.heap.objs.size,_,I.laid (t':=tk) kp (Nat.le_refl _) (zy z),rfl,q _ (I.hok.fresh (Nat.le_refl _))⟩
theorem EC:Xn X (.builtin "len") (fun xs H Q=>∃ p n,xs=[.ref p]/\H p=some (.ext fun h=>JU h p n)/\(n:Int) < 2 ^ 63/\Q (.int n) H):=by
 intro pins s σ H xs us Q I r h
 obtain ⟨p,n,rfl,hq,hb,q⟩:=h
 obtain ⟨u,rfl,rx⟩:=vals1 r
 cases rx
 obtain ⟨z,_⟩:=I.hok p _ hq
 obtain ⟨o,es,ep,t,ho,hex,hd,hf,hn⟩:=z
 exact call_len_set ho hex hd hf (by rw [hn];exact hb) ⟨.int n,H,I.tok _,⟨_,by rw [hn]⟩,q⟩
noncomputable def GV (H:Hp):List Addr->List (Key × V)->Prop:=Paired fun a kv=>H a=some (.tup [kV kv.1,kv.2])
theorem ny {P:Program}{w:World}{H:Hp}{h:Heap}(ok:HOk P w H h):∀ {ps:List Addr}{kvs:List (Key × V)},GV H ps kvs->∃ xs:List Pr,xs.map (·.p)=ps/\(∀ r∈xs,r.ok h)/\KV kvs (xs.map fun r=>(r.k,r.vv)):=by
 intro ps kvs r
 induction r with
 | nil=>exact ⟨[],rfl,fun r h=>by simp at h,.nil⟩
 | @cons a kv ps kvs ha _ ih =>
  obtain ⟨xs,h1,h2,h3⟩:=ih
  obtain ⟨_,its,rv,ht⟩:=ok a _ ha
  obtain ⟨u1,us,e1,r1,r2⟩:∃ u1 us,its=u1::us/\RelV (kV kv.1) u1/\Vals [kv.2] us:=by cases rv with | cons a b=>exact ⟨_,_,rfl,a,b⟩
  obtain ⟨u2,e2,r3⟩:=vals1 r2
  subst e1 e2
  have kk:TN kv.1 u1=true:=by
   cases q:kv.1 with
   | inl i=>rw [q] at r1;obtain ⟨t,rfl⟩:=r1;exact Hv i t
   | inr x=>rw [q] at r1;obtain ⟨t,rfl⟩:=r1;exact Hw x t
  refine ⟨⟨a,kv.1,u1,u2⟩::xs,by rw [map_cons,h1],fun r h=>?_,.cons ⟨rfl,r3⟩ h3⟩
  rcases mem_cons.mp h with rfl | h
  ·exact ⟨ht,kk⟩
  ·exact h2 r h
theorem zG:∀ (xs:List Pr) {kvs:List (Key × V)},KV kvs (xs.map fun r=>(r.k,r.vv))->KV (Jq [] kvs) (putAll xs):=by
 have go:∀ (xs:List Pr) {kvs acc:List (Key × V)}{va:List (Key × Value)},KV kvs (xs.map fun r=>(r.k,r.vv))->KV acc va->KV (kvs.foldl (fun acc kv=>putK acc kv.1 kv.2) acc) (xs.foldl (fun a r=>stored a r.k r.vv) va):=by
  intro xs
  induction xs with
  | nil=>intro kvs acc va r ra;cases r;exact ra
  | cons x xs ih =>
   intro kvs acc va r ra
   rw [map_cons] at r
   cases r with
   | @cons kv _ kvs _ r1 r2 =>
    rw [foldl_cons,foldl_cons]
    refine ih r2 ?_
    rw [r1.1]
    exact ra.put _ r1.2
 exact fun xs kvs r=>go xs r .nil
theorem Cj (hc:X.calm=true):Xn X (.type "dict") (fun xs H Q=>∃ p ps kvs,xs=[.ref p]/\H p=some (.lst (ps.map .ref))/\GV H ps kvs/\∀ l,H l=none->Q (.ref l) (upd H l (.dK (Jq [] kvs)))):=by
 intro pins s σ H xs us Q I r h
 obtain ⟨p,ps,kvs,rfl,hq,hp,q⟩:=h
 obtain ⟨u,rfl,rx⟩:=vals1 r
 cases rx
 obtain ⟨hz,its,n,rv,ho⟩:=I.hok p _ hq
 obtain ⟨rs,e1,ok,rk⟩:=ny I.hok hp
 have el:rs.length=ps.length:=by rw [<-e1,length_map]
 rw [length_map] at hz
 refine zx (I.ok.hd hc) ho (xs:=rs) (by rw [NZ rv,<-e1,map_map];rfl) ok (by omega) fun h' tk hd kp=>?_
 have rm:=zG rs rk
 refine ⟨.ref s.heap.objs.size,_,I.laid (t':=tk) kp (Nat.le_refl _) (show YH X.prog X.w _ h' _ (.dK (Jq [] kvs)) from ⟨?_,?_,_,rm,hd⟩),rfl,q _ (I.hok.fresh (Nat.le_refl _))⟩
 ·rw [rm.length]
  have:=HU rs
  omega
 ·exact beq_false_of_ne (Nat.ne_of_gt I.big)
theorem zH {kvs:List (Key × V)}{vs:List (Key × Value)}(r:KV kvs vs):∀ {us:List Value},us.length=vs.length->(∀ (i:Nat) v,us[i]?=some v->∃ k x,vs[i]?=some (k,x)/\TN k v=true)->Vals (kvs.map fun kv=>kV kv.1) us:=by
 induction r with
 | nil=>intro us e _;rw [length_nil,List.length_eq_zero_iff] at e;rw [e];exact .nil
 | @cons kv ku kvs vs r1 _ ih =>
  intro us e h
  cases us with
  | nil=>simp at e
  | cons u us =>
   refine .cons ?_ (ih (by simpa using e) fun i v hv=>?_)
   ·obtain ⟨k,x,h1,h2⟩:=h 0 u rfl
    simp at h1
    show RelV (kV kv.1) u
    rw [r1.1,h1]
    rcases Yr h2 with ⟨i,t,rfl,rfl⟩ | ⟨y,t,rfl,rfl⟩
    ·exact ⟨t,rfl⟩
    ·exact ⟨t,rfl⟩
   ·obtain ⟨k,x,h1,h2⟩:=h (i + 1) v (by simpa using hv)
    exact ⟨k,x,by simpa using h1,h2⟩
theorem Ck (hc:X.calm=true):Xn X (.type "list") (fun xs H Q=>∃ p kvs,xs=[.ref p]/\H p=some (.dK kvs)/\∀ l,H l=none->Q (.ref l) (upd H l (.lst (kvs.map fun kv=>kV kv.1)))):=by
 intro pins s σ H xs us Q I r h
 obtain ⟨p,kvs,rfl,hq,q⟩:=h
 obtain ⟨u,rfl,rx⟩:=vals1 r
 cases rx
 obtain ⟨hz,lo,vs,rk,hd⟩:=I.hok p _ hq
 obtain ⟨ep,hat⟩:=hd.dictAt
 refine PySem.W.kdl_call (PySem.W.kdl_dict (knd:=Yp X.prog X.w) (kvs:=vs) (ep:=ep) lo) (I.ok.hd hc) hat (by rw [<-rk.length];exact hz) fun h' tk acc c kp e it=>?_
 refine ⟨.ref s.heap.objs.size,_,I.laid (t':=tk) kp (Nat.le_refl _) (show YH X.prog X.w _ h' _ (.lst (kvs.map fun kv=>kV kv.1)) from ⟨by rw [length_map];exact hz,acc.toList,c,zH rk ?_ ?_,e⟩),rfl,q _ (I.hok.fresh (Nat.le_refl _))⟩
 ·rw [Array.length_toList];exact it.1
 ·exact fun i v hv=>it.2 i v (by simpa using hv)
theorem sU {y:Str}{q:Str->Prop}:D.fmt (.str y) q=(y.length<=100000/\q y):=rfl
theorem sW {i:Int}{q:Str->Prop}:D.fmt (.int i) q=(i.natAbs.log2 < 1920/\(toString i:Str).length<=100000/\q (toString i)):=rfl
noncomputable def kD:Key->D
 | .inl i => .int i
 | .inr x => .str x
noncomputable def D.key:D->Option Key
 | .int i=>some (.inl i)
 | .str x=>some (.inr x)
 | _=>none
theorem rp_kD {K:aj}{H:Hp}(k:Key):Rp K H (kD k) (kV k):=by cases k <;> rfl
theorem vo {K:aj}{H:Hp}{k:Key}{v:V}(r:Rp K H (kD k) v):v=kV k:=by
 cases k <;> exact r
theorem vp {K:aj}{H:Hp}:∀ {ks:List Key}{vs:List V},Rps K H (ks.map kD) vs->vs=ks.map kV:=by
 intro ks
 induction ks with
 | nil=>intro vs r;exact r
 | cons k ks ih =>
  intro vs r
  obtain ⟨v,us,rfl,r1,r2⟩:=r
  rw [vo r1,ih r2,map_cons]
noncomputable def Ab (de:DE):DE:=fun ds q x=>de ds (fun d=>∃ ks:List Key,d = .lst (ks.map kD)/\ks.length < 4000/\q (.int (dedup ks).length)) x
theorem zI {p1 pos1 p2 pos2:Pos}{e:Expr}{de:DE}(hg:Gl X "len") (hm:X.mg "len" = none) (hg':Gl X "set") (hm':X.mg "set" = none) (he:JE X XE e de) (hc:autoParam (X.calm=true) auR)
  (h1:autoParam (noStar e=true) auR) (hst:autoParam (Yb [e]=true) auR):JE X XE (.Call (.Name "len" p1) [.Call (.Name "set" p2) [e] [] pos2] [] pos1) (Ab de):=by
 obtain ⟨te,p,d⟩:=he.ex
 refine ⟨_,pe_b EC hg hm PySem.boot_len (Ma (xu (zF hc) hg' hm' PyProof.Rows.boot_set (Ma p Ua h1) hst) Ua rfl) rfl,fun c h k kx=>d c h (fun v a H1 H2 e r h=>?_) kx⟩
 obtain ⟨ks,rfl,hb,hq⟩:=h
 obtain ⟨l,vs,rfl,h5,h6⟩:=r
 rw [vp h6] at h5
 refine ⟨l,ks,rfl,SqL.of (e.sub _ _ h5),by unfold scanBound;omega,fun n hn=>⟨n,_,rfl,Zy,?_,k _ (.int _) _ _ (e.trans (.grow e.sub (Zw.upd hn))) rfl hq⟩⟩
 have:=JR ks
 omega
noncomputable def HV (kvs:List (Key × D)) (k:Key) (d:D):List (Key × D):=if kvs.any (fun kv=>decide (kv.1=k)) then kvs.map (fun kv=>if kv.1=k then (kv.1,d) else kv) else kvs++[(k,d)]
noncomputable def Qg (kvs more:List (Key × D)):List (Key × D):=more.foldl (fun acc kv=>HV acc kv.1 kv.2) kvs
theorem sX {K:aj}{H:Hp}(k:Key):∀ {gs:List (Key × D)}{kvs:List (Key × V)},Rks K H gs kvs->(kvs.any fun kv=>decide (kv.1=k))=gs.any fun kv=>decide (kv.1=k):=by
 intro gs
 induction gs with
 | nil=>intro kvs r;rw [show kvs=[] from r];rfl
 | cons g gs ih =>
  intro kvs r
  obtain ⟨v,us,rfl,_,r2⟩:=r
  rw [any_cons,any_cons,ih r2]
theorem sY {K:aj}{H:Hp}{k:Key}{d:D}{v:V}(rd:Rp K H d v):∀ {gs:List (Key × D)}{kvs:List (Key × V)},Rks K H gs kvs->Rks K H (gs++[(k,d)]) (kvs++[(k,v)]):=by
 intro gs
 induction gs with
 | nil=>intro kvs r;rw [show kvs=[] from r];exact ⟨v,[],rfl,rd,rfl⟩
 | cons g gs ih =>
  intro kvs r
  obtain ⟨u,us,rfl,r1,r2⟩:=r
  exact ⟨u,_,rfl,r1,ih r2⟩
theorem vq {K:aj}{H:Hp}{k:Key}{d:D}{v:V}(rd:Rp K H d v):∀ {gs:List (Key × D)}{kvs:List (Key × V)},Rks K H gs kvs ->
  Rks K H (gs.map fun kv=>if kv.1=k then (kv.1,d) else kv) (kvs.map fun kv=>if kv.1=k then (kv.1,v) else kv):=by
 intro gs
 induction gs with
 | nil=>intro kvs r;rw [show kvs=[] from r];rfl
 | cons g gs ih =>
  intro kvs r
  obtain ⟨u,us,rfl,r1,r2⟩:=r
  obtain ⟨g1,g2⟩:=g
  rw [map_cons,map_cons]
  by_cases e:g1=k
  ·rw [if_pos e,if_pos e]
   exact ⟨v,_,rfl,rd,ih r2⟩
  ·rw [if_neg e,if_neg e]
   exact ⟨u,_,rfl,r1,ih r2⟩
theorem sZ {K:aj}{H:Hp}{k:Key}{d:D}{v:V}{gs:List (Key × D)}{kvs:List (Key × V)}(r:Rks K H gs kvs) (rd:Rp K H d v):Rks K H (HV gs k d) (putK kvs k v):=by
 unfold HV putK
 rw [sX k r]
 split
 ·exact vq rd r
 ·exact sY rd r
theorem zJ {K:aj}{H:Hp}:∀ {more:List (Key × D)}{mv:List (Key × V)}{gs:List (Key × D)}{kvs:List (Key × V)},Rks K H more mv->Rks K H gs kvs->Rks K H (Qg gs more) (Jq kvs mv):=by
 intro more
 induction more with
 | nil=>intro mv gs kvs rm r;rw [show mv=[] from rm];exact r
 | cons m more ih =>
  intro mv gs kvs rm r
  obtain ⟨v,us,rfl,r1,r2⟩:=rm
  show Rks K H (Qg (HV gs m.1 m.2) more) (Jq (putK kvs m.1 v) us)
  exact ih r2 (sZ r r1)
noncomputable def prD (kv:Key × D):D := .tup [kD kv.1,kv.2]
theorem rg {K:aj}{H H':Hp}(s:Zw H H'):∀ {kvs:List (Key × D)}{vs:List V},Rps K H (kvs.map prD) vs->∃ ps mv,vs=ps.map V.ref/\GV H' ps mv/\Rks K H kvs mv:=by
 intro kvs
 induction kvs with
 | nil=>intro vs r;exact ⟨[],[],r,.nil,rfl⟩
 | cons kv kvs ih =>
  intro vs r
  obtain ⟨v,us,rfl,r1,r2⟩:=r
  obtain ⟨ps,mv,rfl,h1,h2⟩:=ih r2
  obtain ⟨a,ws,rfl,h3,h4⟩:=r1
  obtain ⟨v1,v2,rfl,h5,h6⟩:=xO h4
  refine ⟨a::ps,(kv.1,v2)::mv,rfl,.cons ?_ h1,v2,mv,rfl,h6,h2⟩
  rw [vo h5] at h3
  exact s _ _ h3
noncomputable def nz (xs:List D) (q:D->Prop):Prop:=∃ kvs:List (Key × D),xs=[.lst (kvs.map prD)]/\q (.dic (Qg [] kvs))
theorem nA {K:aj}{H:Hp}{p:Addr}{gs:List (Key × D)}{kvs:List (Key × V)}(r:Rks K H gs kvs) (hp:H p=none):Rp K (upd H p (.dK kvs)) (.dic gs) (.ref p):=⟨p,kvs,rfl,Zy,r.same (Zw.upd hp)⟩
theorem rh (hc:autoParam (X.calm=true) auR):TV X (.type "dict") nz:=by
 refine ⟨_,Cj hc,fun {H0 H vs xs q Q} s r h k=>?_⟩
 obtain ⟨kvs,rfl,hq⟩:=h
 obtain ⟨v,rfl,p,ws,rfl,h1,h2⟩:=Ud r
 obtain ⟨ps,mv,rfl,h3,h4⟩:=rg s h2
 exact ⟨p,ps,mv,rfl,s _ _ h1,h3,fun l hl=>k _ (.dic _) _ _ (.put s hl) (nA (zJ h4 (show Rks X.K H0 [] [] from rfl)) (s.free hl)) hq⟩
noncomputable def nB (xs:List D) (q:D->Prop):Prop:=∃ kvs:List (Key × D),xs=[.dic kvs]/\q (.lst (kvs.map fun kv=>kD kv.1))
theorem nC {K:aj}{H:Hp}:∀ {gs:List (Key × D)}{kvs:List (Key × V)},Rks K H gs kvs->Rps K H (gs.map fun kv=>kD kv.1) (kvs.map fun kv=>kV kv.1):=by
 intro gs
 induction gs with
 | nil=>intro kvs r;rw [show kvs=[] from r];rfl
 | cons g gs ih =>
  intro kvs r
  obtain ⟨u,us,rfl,r1,r2⟩:=r
  exact ⟨_,_,rfl,rp_kD _,ih r2⟩
theorem vt (hc:autoParam (X.calm=true) auR):TV X (.type "list") nB:=by
 refine ⟨_,Ck hc,fun {H0 H vs xs q Q} s r h k=>?_⟩
 obtain ⟨kvs,rfl,hq⟩:=h
 obtain ⟨v,rfl,p,ws,rfl,h1,h2⟩:=Ud r
 exact ⟨p,ws,rfl,s _ _ h1,fun l hl=>k _ (.lst _) _ _ (.put s hl) (Vt (nC h2) (s.free hl)) hq⟩
noncomputable def D.fld (K:aj) (f:Str) (d:D) (q:D->Prop):Prop:=∃ C gs v,d = .obj C gs/\Cls K C/\YV K C f/\gs.lookup f=some v/\q v
theorem D.Uk {K:aj}{f:Str}{C:Addr}{gs:List (Str × D)}{v:D}{q:D->Prop}(c:Cls K C) (n:YV K C f) (l:gs.lookup f=some v):D.fld K f (.obj C gs) q=q v:=by
 refine propext ⟨?_,fun h=>⟨C,gs,v,rfl,c,n,l,h⟩⟩
 rintro ⟨C',gs',v',e,_,_,l',h⟩
 cases e
 rw [l] at l'
 cases l'
 exact h
theorem nE {K:aj}{f:Str}{de:DE}{ds:DSt}{q:D->Prop}{x:Addr->Prop}:dFld K f de ds q x=de ds (fun d=>d.fld K f q) x:=rfl
end
section
variable {X:Cx}
noncomputable def nF:D->List D->(D->Prop)->Prop
 | .lst xs,[.str a]=>fun q=>∃ zs,texts xs=some zs/\a∈zs/\q (.int (zs.idxOf a:Nat))
 | _,_=>fun _=>False
theorem rj {zs:List Str}{a:Str}{q:D->Prop}:nF (.lst (zs.map .str)) [.str a] q=(a∈zs/\q (.int (zs.idxOf a:Nat))):=by
 show (∃ cs,texts _=some cs/\_)=_
 rw [HQ]
 simp only [Option.some.injEq,exists_eq_left']
end
noncomputable def sIt (tp:Bool) (h:Heap) (I l:Addr) (k:Nat):Prop:=if tp=true then h.IsTupleIter I l k else h.IsListIter I l k
noncomputable def sOb (tp:Bool) (h:Heap) (l:Addr) (xs:Array Value):Prop:=if tp=true then h.IsTuple l xs else h.IsList l xs
theorem sIt.mv {tp:Bool}{h h':Heap}{I l:Addr}{k:Nat}(x:sIt tp h I l k) (m:∀ o,h.get? I=some o->h'.get? I=some o):sIt tp h' I l k:=by
 cases tp <;> exact let ⟨o,ho,r⟩:=x;⟨o,m o ho,r⟩
theorem sOb.mv {tp:Bool}{h h':Heap}{l:Addr}{xs:Array Value}(x:sOb tp h l xs) (m:∀ o,h.get? l=some o->h'.get? l=some o):sOb tp h' l xs:=by
 cases tp <;> exact let ⟨o,ho,r⟩:=x;⟨o,m o ho,r⟩
theorem sIt.at {tp:Bool}{h:Heap}{I l:Addr}{k:Nat}(x:sIt tp h I l k):∃ o,h.get? I=some o/\o.data = .fields #[.ref l,.int k 0]:=by
 cases tp <;> exact let ⟨o,ho,_,d⟩:=x;⟨o,ho,d⟩
section
variable {P:Program}{w:World}{A:Around}{E:Value->Shared->Prop}{s:Shared}
theorem GW {tp:Bool}{I l:Addr}{k:Nat}{xs:Array Value}{x:Value}{Q:Value->Shared->Prop}(it:sIt tp s.heap I l k) (ob:sOb tp s.heap l xs) (hx:xs[k]?=some x)
  (hQ:∀ h',sIt tp h' I l (k + 1)->Heap.SameBut I s.heap h'->Q x { s with heap:=h' }):wpAny (model P w) A (Builtin.SmallTypes.nextOf (.ref I)) Q E s:=by
 cases tp with
 | false=>exact wpAny_nextOf_list_item it ob hx hQ
 | true =>
  obtain ⟨o,ho,hc,hd⟩:=id it
  obtain ⟨ol,hol,_,nl,hdl⟩:=ob
  have ty:s.TypeIs (.ref I) "tuple_iterator" := ⟨o,ho,hc⟩
  unfold Builtin.SmallTypes.nextOf
  refine ak (wpAny_callSpecial?_slot (name:=Str.ofString "__next__") ty PySem.F.slot_tuple_iterator_next (wpAny_call_entry PySem.F.slot_tuple_iterator_next ty PySem.F.entry_tuple_iterator_next ?_ (PySem.F.args_tuple_iterator_next_1 _)))
  refine ak (m:=field (.ref I) 0) (wpAny_field ho hd (x := .ref l) rfl ?_)
  show wpAny _ _ (if (Value.ref l == Value.none)=true then _ else _) _ _ s
  rw [if_neg (fun z=>by cases z)]
  refine ak (m:=field (.ref I) 1) (wpAny_field ho hd (x := .int k 0) rfl (ak (m:=seqItems? (.ref l)) (wpAny_seqItems hol hdl ?_)))
  simp only [Int.toNat_natCast,hx]
  refine ak (wpAny_setField ho hd (by simp) (ao ⟨x,rfl,ao (hQ _ (show Heap.IsTupleIter _ I l (k + 1) from ⟨_,Heap.get?_update_self _ ho (Obj.isFreed_of_fields (Obj.data_mapFields hd _)),(Obj.cls_mapFields ..).trans hc,?_⟩) (Heap.SameBut.update ..))⟩))
  rw [Obj.data_mapFields hd]
  simp [rawInt]
theorem vw {tp:Bool}{I l:Addr}{k:Nat}{xs:Array Value}{Q:Value->Shared->Prop}(hh:A.handled=none) (it:sIt tp s.heap I l k) (ob:sOb tp s.heap l xs) (hx:xs[k]?=none)
  (hE:∀ h' e,Heap.ExtBut I s.heap h'->(∃ o,h'.get? e=some o/\o.cls = .type "StopIteration")->E (.ref e) { s with heap:=h' }):wpAny (model P w) A (Builtin.SmallTypes.nextOf (.ref I)) Q E s:=by
 cases tp with
 | false=>exact wpAny_nextOf_list_end hh it ob hx hE
 | true =>
  obtain ⟨o,ho,hc,hd⟩:=id it
  obtain ⟨ol,hol,_,nl,hdl⟩:=ob
  have ty:s.TypeIs (.ref I) "tuple_iterator" := ⟨o,ho,hc⟩
  unfold Builtin.SmallTypes.nextOf
  refine ak (wpAny_callSpecial?_slot (name:=Str.ofString "__next__") ty PySem.F.slot_tuple_iterator_next (wpAny_call_entry PySem.F.slot_tuple_iterator_next ty PySem.F.entry_tuple_iterator_next ?_ (PySem.F.args_tuple_iterator_next_1 _)))
  refine ak (m:=field (.ref I) 0) (wpAny_field ho hd (x := .ref l) rfl ?_)
  show wpAny _ _ (if (Value.ref l == Value.none)=true then _ else _) _ _ s
  rw [if_neg (fun z=>by cases z)]
  refine ak (m:=field (.ref I) 1) (wpAny_field ho hd (x := .int k 0) rfl (ak (m:=seqItems? (.ref l)) (wpAny_seqItems hol hdl ?_)))
  simp only [Int.toNat_natCast,hx]
  refine ak (wpAny_rule (ak (wpAny_setField ho hd (by simp) (ak (m:=newExc (.type "StopIteration") []) ?_))))
  simp only [newExc,newTuple]
  refine ak (wpAny_newObj_type (ak (m:=firstArgMember _ _) (wpAny_of_eq (a:=Value.none) (by first | rfl | (simp only [firstArgMember];rfl)) (wpAny_newObj_type ?_ (by size_fits)))) (by size_fits))
  simp only [raiseNew]
  refine ak (wpAny_handled ?_)
  rw [show A.in1.handled=none from hh]
  exact ak (ao (wpAny_throw (hE _ _ (((Heap.SameBut.update ..).extBut.push _).push _) ⟨_,au _ rfl,rfl⟩)))
structure Zp (b1 b2:Bool) (h:Heap) (z TI TO i1 i2 l1 l2:Addr) (k:Nat) (f0:Value) (xs ys:Array Value):Prop where
 zip:IsZip h z TI TO f0
 ti:IsPair h TI (.ref i1) (.ref i2)
 to:∃ a b,IsPair h TO a b
 it1:sIt b1 h i1 l1 k
 it2:sIt b2 h i2 l2 k
 ob1:sOb b1 h l1 xs
 ob2:sOb b2 h l2 ys
theorem vx {b1 b2:Bool}{z TI TO i1 i2 l1 l2:Addr}{k:Nat}{xs ys:Array Value}{x y:Value}{Q:Value->Shared->Prop}(D:ZipApart z TI TO i1 i2 l1 l2) (Z:Zp b1 b2 s.heap z TI TO i1 i2 l1 l2 k .none xs ys) (hx:xs[k]?=some x) (hy:ys[k]?=some y)
  (hQ:∀ h',Zp b1 b2 h' z TI TO i1 i2 l1 l2 (k + 1) (rawInt s.heap.objs.size) xs ys->IsPair h' s.heap.objs.size x y->(∀ c o,c≠z->c≠TO->c≠i1->c≠i2->s.heap.get? c=some o->h'.get? c=some o)->Q (.ref s.heap.objs.size) { s with heap:=h' }) :
  wpAny (model P w) A (Builtin.«zip.__next__» ⟨[.ref z],[]⟩) (fun fin s'=>∃ v,fin = .done (.ret v)/\Q v s') E s:=by
 obtain ⟨hz,hTI,⟨a,b,hTO⟩,h1,h2,o1,o2⟩:=Z
 refine ak (m:=field (.ref z) 2) (wpAny_field hz rfl (x := .bool false) rfl ?_)
 refine ak (m:=field (.ref z) 3) (wpAny_field hz rfl (x := .ref TI) rfl (ak (wpAny_seqItems hTI rfl ?_)))
 refine ak (m:=Builtin.SmallTypes.ownedTupleIsFree (.ref z)) ?_
 unfold Builtin.SmallTypes.ownedTupleIsFree
 refine ak (wpAny_field hz rfl (x := .none) rfl (ao ?_))
 simp only [if_true]
 refine ak (wpAny_rule (ak (wpAny_field hz rfl (x := .ref TO) rfl (ak (wpAny_setField_rec hz (by simp) fun g1 gz gs=>ak ?_)))))
 replace gz:IsZip g1 z TI TO .ellipsis:=gz
 have m1:∀ c o,c≠z->s.heap.get? c=some o->g1.get? c=some o:=fun c o n e=>gs.extBut _ _ n e
 simp only [List.zipIdx_cons,List.zipIdx_nil,forIn_cons,List.forIn_nil]
 refine ak (ak (wpAny_onRaise (ak (m:=Builtin.SmallTypes.nextOf (.ref i1)) (GW (h1.mv fun o e=>m1 _ o D.i1z e) (o1.mv fun o e=>m1 _ o D.l1z e) hx fun g2 it2 gs2=>ao ?_))))
 have m2:∀ c o,c≠z->c≠i1->s.heap.get? c=some o->g2.get? c=some o:=fun c o n n' e=>gs2.extBut _ _ n' (m1 c o n e)
 have p2:IsPair g2 TO a b:=m2 _ _ D.TOz D.TOi1 hTO
 refine ak (wpAny_seqItems p2 rfl (ak (wpAny_updateSeq_pair p2 fun g3 p3 gs3=>ak (wpAny_letGo (ao ?_)))))
 replace p3:IsPair g3 TO x b:=p3
 have m3:∀ c o,c≠z->c≠i1->c≠TO->s.heap.get? c=some o->g3.get? c=some o:=fun c o n n' n'' e=>gs3.extBut _ _ n'' (m2 c o n n' e)
 refine ak (ak (wpAny_onRaise (ak (m:=Builtin.SmallTypes.nextOf (.ref i2)) (GW (h2.mv fun o e=>m3 _ o D.i2z D.i12.symm D.TOi2.symm e) (o2.mv fun o e=>m3 _ o D.l2z D.l2i1 D.l2TO e) hy fun g4 it4 gs4=>ao ?_))))
 have p4:IsPair g4 TO x b:=gs4.extBut _ _ D.TOi2 p3
 refine ak (wpAny_seqItems p4 rfl (ak (wpAny_updateSeq_pair p4 fun g5 p5 gs5=>ak (wpAny_letGo (ao (ao ?_))))))
 replace p5:IsPair g5 TO x y:=p5
 have m5:∀ c o,c≠z->c≠TO->c≠i1->c≠i2->s.heap.get? c=some o->g5.get? c=some o:=fun c o a1 a2 a3 a4 e=>gs5.extBut _ _ a2 (gs4.extBut _ _ a4 (m3 c o a1 a3 a2 e))
 refine ak (wpAny_seqItems p5 rfl (ak (wpAny_newTuple ?_)))
 have sz:g5.objs.size=s.heap.objs.size:=by rw [gs5.1,gs4.1,gs3.1,gs2.1,gs.1]
 have z5:IsZip g5 z TI TO .ellipsis:=gs5.extBut _ _ D.TOz.symm (gs4.extBut _ _ D.i2z.symm (gs3.extBut _ _ D.TOz.symm (gs2.extBut _ _ D.i1z.symm gz)))
 have j1:sIt b1 g5 i1 l1 (k + 1):=it2.mv fun o e=>gs5.extBut _ _ D.TOi1.symm (gs4.extBut _ _ D.i12 (gs3.extBut _ _ D.TOi1.symm e))
 have j2:sIt b2 g5 i2 l2 (k + 1):=it4.mv fun o e=>gs5.extBut _ _ D.TOi2.symm e
 have zlt:z < g5.objs.size:=az z5
 refine ak (m:=Builtin.SmallTypes.ownedTupleHandOut (.ref z) (.ref g5.objs.size)) ?_
 unfold Builtin.SmallTypes.ownedTupleHandOut
 have z6:IsZip (g5.push { cls := .type "tuple",data := .seq #[x,y] }) z TI TO .ellipsis:=aq _ z5
 refine ak (wpAny_setField_rec z6 (by simp) fun g7 z7 gs7=>?_)
 replace z7:IsZip g7 z TI TO (rawInt g5.objs.size):=z7
 refine wpAny_setField_rec z7 (by simp) fun g8 z8 gs8=>?_
 replace z8:IsZip g8 z TI TO (rawInt g5.objs.size):=z8
 have up:∀ c o,c≠z->g5.get? c=some o->g8.get? c=some o:=fun c o n e=>gs8.extBut _ _ n (gs7.extBut _ _ n (aq _ e))
 have t8:IsPair g8 g5.objs.size x y:=gs8.extBut _ _ (Nat.ne_of_gt zlt) (gs7.extBut _ _ (Nat.ne_of_gt zlt) (au _ rfl))
 refine ao ⟨_,rfl,?_⟩
 show Q (.ref g5.objs.size) _
 rw [sz] at z8 t8 ⊢
 have all:∀ c o,c≠z->c≠TO->c≠i1->c≠i2->s.heap.get? c=some o->g8.get? c=some o:=fun c o a1 a2 a3 a4 e=>up c o a1 (m5 c o a1 a2 a3 a4 e)
 exact hQ g8 ⟨z8,all _ _ D.TIz D.TITO D.TIi1 D.TIi2 hTI,⟨_,_,up _ _ D.TOz p5⟩,j1.mv fun o e=>up _ o D.i1z e,j2.mv fun o e=>up _ o D.i2z e,o1.mv fun o e=>all _ o D.l1z D.l1TO D.l1i1 D.l1i2 e,o2.mv fun o e=>all _ o D.l2z D.l2TO D.l2i1 D.l2i2 e⟩ t8 all
theorem rn {b1 b2:Bool}{z TI TO i1 i2 l1 l2:Addr}{k:Nat}{xs ys:Array Value}{Q:Fin->Shared->Prop}(hh:A.handled=none) (D:ZipApart z TI TO i1 i2 l1 l2) (Z:Zp b1 b2 s.heap z TI TO i1 i2 l1 l2 k .none xs ys) (hend:xs[k]?=none\/ys[k]?=none)
  (hE:∀ h' e,(∀ c o,c≠z->c≠TO->c≠i1->c≠i2->s.heap.get? c=some o->h'.get? c=some o)->(∃ o,h'.get? e=some o/\o.cls = .type "StopIteration")->E (.ref e) { s with heap:=h' }) :
  wpAny (model P w) A (Builtin.«zip.__next__» ⟨[.ref z],[]⟩) Q E s:=by
 obtain ⟨hz,hTI,⟨a,b,hTO⟩,h1,h2,o1,o2⟩:=Z
 refine ak (m:=field (.ref z) 2) (wpAny_field hz rfl (x := .bool false) rfl ?_)
 refine ak (m:=field (.ref z) 3) (wpAny_field hz rfl (x := .ref TI) rfl (ak (wpAny_seqItems hTI rfl ?_)))
 refine ak (m:=Builtin.SmallTypes.ownedTupleIsFree (.ref z)) ?_
 unfold Builtin.SmallTypes.ownedTupleIsFree
 refine ak (wpAny_field hz rfl (x := .none) rfl (ao ?_))
 simp only [if_true]
 refine ak (wpAny_rule (ak (wpAny_field hz rfl (x := .ref TO) rfl (ak (wpAny_setField_rec hz (by simp) fun g1 gz gs=>ak ?_)))))
 replace gz:IsZip g1 z TI TO .ellipsis:=gz
 have m1:∀ c o,c≠z->s.heap.get? c=some o->g1.get? c=some o:=fun c o n e=>gs.extBut _ _ n e
 simp only [List.zipIdx_cons,List.zipIdx_nil,forIn_cons,List.forIn_nil]
 cases hx:xs[k]? with
 | none =>
  refine ak (ak (wpAny_onRaise (ak (m:=Builtin.SmallTypes.nextOf (.ref i1)) (vw hh (h1.mv fun o e=>m1 _ o D.i1z e) (o1.mv fun o e=>m1 _ o D.l1z e) hx fun g2 e gs2 he=>?_))))
  obtain ⟨oe,hoe,hce⟩:=he
  have z2:IsZip g2 z TI TO .ellipsis:=gs2 _ _ D.i1z.symm gz
  have ez:e≠z:=fun q=>by subst q;rw [z2] at hoe;cases hoe;simp at hce
  exact wpAny_setField_rec z2 (by simp) fun g3 _ gs3=>hE g3 e (fun c o c1 _ c3 _ q=>gs3.extBut _ _ c1 (gs2 _ _ c3 (m1 _ _ c1 q))) ⟨oe,gs3.extBut _ _ ez hoe,hce⟩
 | some x =>
  have hy:ys[k]?=none:=hend.resolve_left fun q=>by rw [hx] at q;cases q
  refine ak (ak (wpAny_onRaise (ak (m:=Builtin.SmallTypes.nextOf (.ref i1)) (GW (h1.mv fun o e=>m1 _ o D.i1z e) (o1.mv fun o e=>m1 _ o D.l1z e) hx fun g2 it2 gs2=>ao ?_))))
  have m2:∀ c o,c≠z->c≠i1->s.heap.get? c=some o->g2.get? c=some o:=fun c o n n' e=>gs2.extBut _ _ n' (m1 c o n e)
  have p2:IsPair g2 TO a b:=m2 _ _ D.TOz D.TOi1 hTO
  refine ak (wpAny_seqItems p2 rfl (ak (wpAny_updateSeq_pair p2 fun g3 p3 gs3=>ak (wpAny_letGo (ao ?_)))))
  have m3:∀ c o,c≠z->c≠i1->c≠TO->s.heap.get? c=some o->g3.get? c=some o:=fun c o n n' n'' e=>gs3.extBut _ _ n'' (m2 c o n n' e)
  refine ak (ak (wpAny_onRaise (ak (m:=Builtin.SmallTypes.nextOf (.ref i2)) (vw hh (h2.mv fun o e=>m3 _ o D.i2z D.i12.symm D.TOi2.symm e) (o2.mv fun o e=>m3 _ o D.l2z D.l2i1 D.l2TO e) hy fun g4 e gs4 he=>?_))))
  obtain ⟨oe,hoe,hce⟩:=he
  have z4:IsZip g4 z TI TO .ellipsis:=gs4 _ _ D.i2z.symm (gs3.extBut _ _ D.TOz.symm (gs2.extBut _ _ D.i1z.symm gz))
  have ez:e≠z:=fun q=>by subst q;rw [z4] at hoe;cases hoe;simp at hce
  exact wpAny_setField_rec z4 (by simp) fun g5 _ gs5=>hE g5 e (fun c o c1 c2 c3 c4 q=>gs5.extBut _ _ c1 (gs4 _ _ c4 (m3 _ _ c1 c3 c2 q))) ⟨oe,gs5.extBut _ _ ez hoe,hce⟩
theorem vy {b1 b2:Bool}{z TI TO i1 i2 l1 l2:Addr}{k:Nat}{xs ys:Array Value}{x y:Value}{Q:Option Value->Shared->Prop}(D:ZipApart z TI TO i1 i2 l1 l2) (Z:Zp b1 b2 s.heap z TI TO i1 i2 l1 l2 k .none xs ys) (hx:xs[k]?=some x) (hy:ys[k]?=some y)
  (hQ:∀ h',Zp b1 b2 h' z TI TO i1 i2 l1 l2 (k + 1) (rawInt s.heap.objs.size) xs ys->IsPair h' s.heap.objs.size x y->(∀ c o,c≠z->c≠TO->c≠i1->c≠i2->s.heap.get? c=some o->h'.get? c=some o)->Q (some (.ref s.heap.objs.size)) { s with heap:=h' }) :
  wpAny (model P w) A (pyNext (.ref z)) Q E s:=by
 have ty:s.TypeIs (.ref z) "zip" := ⟨_,Z.zip,rfl⟩
 unfold pyNext
 exact ak (wpAny_attempt (wpAny_callSpecial?_slot (name:=Str.ofString "__next__") ty PySem.F.slot_zip_next (wpAny_call_entry PySem.F.slot_zip_next ty PySem.F.entry_zip_next (vx D Z hx hy fun h' a1 a2 a3=>ao (hQ h' a1 a2 a3)) (PySem.F.args_zip_next_1 _))))
theorem vz {b1 b2:Bool}{z TI TO i1 i2 l1 l2:Addr}{k:Nat}{xs ys:Array Value}{Q:Option Value->Shared->Prop}(hh:A.handled=none) (D:ZipApart z TI TO i1 i2 l1 l2) (Z:Zp b1 b2 s.heap z TI TO i1 i2 l1 l2 k .none xs ys) (hend:xs[k]?=none\/ys[k]?=none)
  (hQ:∀ h',(∀ c o,c≠z->c≠TO->c≠i1->c≠i2->s.heap.get? c=some o->h'.get? c=some o)->Q none { s with heap:=h' }):wpAny (model P w) A (pyNext (.ref z)) Q E s:=by
 have ty:s.TypeIs (.ref z) "zip" := ⟨_,Z.zip,rfl⟩
 unfold pyNext
 refine ak (wpAny_attempt (wpAny_callSpecial?_slot (name:=Str.ofString "__next__") ty PySem.F.slot_zip_next (wpAny_call_entry PySem.F.slot_zip_next ty PySem.F.entry_zip_next (rn (A:=A.in1) (by simp [hh]) D Z hend fun h' e hk he=>?_) (PySem.F.args_zip_next_1 _))))
 obtain ⟨o,ho,hc⟩:=he
 exact ak (wpAny_isInstance (T := "StopIteration") (b:=true) ⟨o,ho,hc⟩ isSubtype_stop (ao (hQ _ hk)))
end
noncomputable def SqB (tp:Bool) (K:aj) (H:Hp) (a:Addr) (xs:List V):Prop:=if tp=true then SqT K H a xs else SqL K H a xs
theorem Inv.sq {X:Cx}{pins:List (Addr × Obj)}{σ:St}{H:Hp}{s:Shared}{tp:Bool}{a:Addr}{xs:List V}(I:Inv X pins σ H s) (h:SqB tp X.K H a xs):∃ its:List Value,Vals xs its/\sOb tp s.heap a its.toArray/\xs.length<=aA:=by
 cases tp with
 | false=>obtain ⟨its,r,p,z⟩:=I.list h;exact ⟨its,r,p.isList,z⟩
 | true=>obtain ⟨its,r,p,z⟩:=I.tuple h;exact ⟨its,r,p,z⟩
theorem Inv.vA {X:Cx}{pins:List (Addr × Obj)}{σ:St}{H:Hp}{s:Shared}{tp:Bool}{a:Addr}{xs ys:List V}(I:Inv X pins σ H s) (h:SqB tp X.K H a xs) (h':SqB tp X.K H a ys):xs=ys:=by
 cases tp with
 | false=>exact I.Ni h h'
 | true=>exact I.QK h h'
noncomputable def Itz (b1 b2:Bool) (K:aj) (a b:Addr):It :=
  ⟨fun i H=>∃ xs ys x y,SqB b1 K H a xs/\SqB b2 K H b ys/\xs[i]?=some x/\ys[i]?=some y,
   fun i H v H'=>∃ p x y,v = .ref p/\H p=none/\H'=upd H p (.tup [x,y])/\(∀ xs,SqB b1 K H a xs->xs[i]?=some x)/\∀ ys,SqB b2 K H b ys->ys[i]?=some y,
   fun i H=>∃ xs ys,SqB b1 K H a xs/\SqB b2 K H b ys/\(xs.length<=i\/ys.length<=i)⟩
noncomputable def tnz (b1 b2:Bool) (z TI TO i1 i2 l1 l2:Addr) (k:Nat) (h:Heap):Prop:=IsZip h z TI TO .none/\IsPair h TI (.ref i1) (.ref i2)/\(∃ a b,IsPair h TO a b)/\sIt b1 h i1 l1 k/\sIt b2 h i2 l2 k
theorem vB {P:Program}{w:World}{K:aj}{elts:List Expr}{x1}{tpos:Pos}{b1 b2:Bool}{z TI TO i1 i2 l1 l2:Addr}(D:ZipApart z TI TO i1 i2 l1 l2) :
  Turn P w K (.Tuple elts x1 tpos) (Itz b1 b2 K l1 l2) [z,TI,TO,i1,i2] z (tnz b1 b2 z TI TO i1 i2 l1 l2) where
 mem:=by simp
 obj:=fun i h st b hb=>by
  obtain ⟨h1,h2,⟨_,_,h3⟩,h4,h5⟩:=st
  obtain ⟨o4,g4,d4⟩:=h4.at
  obtain ⟨o5,g5,d5⟩:=h5.at
  simp only [mem_cons,not_mem_nil,or_false] at hb
  rcases hb with rfl | rfl | rfl | rfl | rfl
  ·exact ⟨_,h1,fun v z=>by cases z⟩
  ·exact ⟨_,h2,fun v z=>by cases z⟩
  ·exact ⟨_,h3,fun v z=>by cases z⟩
  ·exact ⟨_,g4,fun v z=>by rw [d4] at z;cases z⟩
  ·exact ⟨_,g5,fun v z=>by rw [d5] at z;cases z⟩
 keep:=fun i h h' st k=>by
  obtain ⟨h1,h2,⟨a,b,h3⟩,h4,h5⟩:=st
  exact ⟨k z (by simp) _ h1,k TI (by simp) _ h2,⟨a,b,k TO (by simp) _ h3⟩,h4.mv fun o q=>k i1 (by simp) o q,h5.mv fun o q=>k i2 (by simp) o q⟩
 item:=by
  intro X hP hw hK hc i pins s σ H E I hf st hg
  subst hP hw hK
  obtain ⟨h1,h2,h3,h4,h5⟩:=st
  obtain ⟨xs,ys,x,y,hq,hq',hx,hy⟩:=hg
  obtain ⟨its,rv,p,hz⟩:=I.sq hq
  obtain ⟨its',rv',p',hz'⟩:=I.sq hq'
  obtain ⟨u,hu,ru⟩:=rv.get hx
  obtain ⟨u',hu',ru'⟩:=rv'.get hy
  have fr:∀ b,(b=z\/b=TO\/b=i1\/b=i2)->NW X pins H b:=fun b hb=>hf b (by rcases hb with rfl | rfl | rfl | rfl <;> simp)
  refine vy D ⟨h1,h2,h3,h4,h5,p,p'⟩ (x:=u) (y:=u') (by simpa using hu) (by simpa using hu') fun h' Z t8 kp0=>?_
  refine ⟨_,rfl,wpAny_letOwnedTupleGo_zip Z.zip fun h'' z2 sb=>?_⟩
  have lt:∀ {c:Addr}{o:Obj},s.heap.get? c=some o->s.heap.objs.size≠c:=fun e=>Nat.ne_of_gt (az e)
  have lz:s.heap.objs.size≠z:=lt h1
  have hp0:H s.heap.objs.size=none:=I.fresh
  have kp:∀ b o,¬ (b=z\/b=TO\/b=i1\/b=i2)->s.heap.get? b=some o->h''.get? b=some o:=fun b o n q=>(sb.2 b (fun e=>n (.inl e))).trans (kp0 b o (fun e=>n (.inl e)) (fun e=>n (.inr (.inl e))) (fun e=>n (.inr (.inr (.inl e)))) (fun e=>n (.inr (.inr (.inr e)))) q)
  have tp:h''.get? s.heap.objs.size=some { cls := .type "tuple",data := .seq #[u,u'] }:=(sb.2 _ lz).trans t8
  refine ⟨.ref s.heap.objs.size,upd H s.heap.objs.size (.tup [x,y]),?_,rfl,⟨_,x,y,rfl,hp0,rfl,fun ys hy=>by rw [I.vA hy hq];exact hx,fun ys hy'=>by rw [I.vA hy' hq'];exact hy⟩,?_,fun b hb=>?_⟩
  ·have nt:∀ b o,H b=some o->¬ (b=z\/b=TO\/b=i1\/b=i2):=fun b o q hb=>by
    have:=(fr b hb).1
    rw [q] at this
    cases this
   have ok':HOk X.prog X.w (upd H s.heap.objs.size (.tup [x,y])) h'':=fun b o q=>by
    by_cases hb:b=s.heap.objs.size
    ·subst hb
     rw [Zy] at q
     cases q
     exact ⟨by show 2<=aA;decide,[u,u'],.cons ru (.cons ru' .nil),_,tp,rfl,0,rfl⟩
    ·rw [Zq hb] at q
     refine (I.hok b o q).stay (fun c v hc q'=>kp c v ?_ q') (fun c q'=>by rw [Zq (Yz q' hp0)];exact q') fun c zs q'=>by rw [Zq (Yz q' hp0)];exact q'
     rcases hc with rfl | hc
     ·exact nt _ _ q
     ·exact nt _ _ hc
   have I3:Inv X pins σ (upd H s.heap.objs.size (.tup [x,y])) { s with heap:=h'',gens:=s.gens,drawn:=s.drawn,toks:=s.toks }:=by
    have out:∀ b,b∉[z,TO,i1,i2]->¬ (b=z\/b=TO\/b=i1\/b=i2):=fun b hb q=>hb (by rcases q with rfl | rfl | rfl | rfl <;> simp)
    refine Inv.step (s:=s) I (g':=s.gens) (d':=s.drawn) (ch:=[z,TO,i1,i2]) (fun b hb=>?_) (fun b o _ _ hc q _=>kp b o (out b hc) q)
     (fun b o _ _ hc q _=>⟨o.slots,kp b o (out b hc) q⟩)
     (fun b o _ q n=>by rw [Zq (Nat.ne_of_lt (az q))];exact n)
     (fun b o hc q=>⟨o,kp b o (out b hc) q⟩)
     (fun b zs q=>by rw [Zq (Yz q hp0)];exact q) (fun b ob zs q=>by rw [Zq (Yz q hp0)];exact q)
     (fun b ps q=>⟨#[],by rw [Zq (Yz q hp0),q];simp⟩) (fun m hm=>?_) ok' I.bare
    ·obtain ⟨f0,f1,f2,f3,f4,f5⟩:=fr b (by simpa using hb)
     exact ⟨f3,f1,f4,f5⟩
    ·obtain ⟨o,es,ep,ho,r⟩:=hm
     exact ⟨o,es,ep,kp _ o (fun hb=>(fr _ hb).2.1 rfl) ho,r⟩
   exact I3
  ·obtain ⟨w1,w2,⟨a,b,w3⟩,w4,w5,_,_⟩:=Z
   exact ⟨z2,(sb.2 _ D.TIz).trans w2,⟨a,b,(sb.2 _ D.TOz).trans w3⟩,w4.mv fun o q=>(sb.2 _ D.i1z).trans q,w5.mv fun o q=>(sb.2 _ D.i2z).trans q⟩
  ·have hb0:=(hf b hb).1
   obtain ⟨h1',h2',⟨_,_,h3'⟩,h4',h5'⟩:tnz b1 b2 z TI TO i1 i2 l1 l2 i s.heap:=⟨h1,h2,h3,h4,h5⟩
   obtain ⟨o4,g4,_⟩:=h4'.at
   obtain ⟨o5,g5,_⟩:=h5'.at
   rw [Zq (fun e=>?_)]
   ·exact hb0
   simp only [mem_cons,not_mem_nil,or_false] at hb
   rcases hb with rfl | rfl | rfl | rfl | rfl
   ·exact lt h1' e.symm
   ·exact lt h2' e.symm
   ·exact lt h3' e.symm
   ·exact lt g4 e.symm
   ·exact lt g5 e.symm
 done:=by
  intro X hP hw hK hc i pins s σ H E I hf st hg
  subst hP hw hK
  obtain ⟨h1,h2,h3,h4,h5⟩:=st
  obtain ⟨xs,ys,hq,hq',hx⟩:=hg
  obtain ⟨its,rv,p,hz⟩:=I.sq hq
  obtain ⟨its',rv',p',hz'⟩:=I.sq hq'
  have l1:=rv.length
  have l2:=rv'.length
  have fr:∀ b,(b=z\/b=TO\/b=i1\/b=i2)->NW X pins H b:=fun b hb=>hf b (by rcases hb with rfl | rfl | rfl | rfl <;> simp)
  refine vz (I.ok.hd hc) D ⟨h1,h2,h3,h4,h5,p,p'⟩ (by rcases hx with e | e;exact .inl (by simp;omega);exact .inr (by simp;omega)) fun h' kp0=>⟨rfl,?_⟩
  have kp:∀ b o,¬ (b=z\/b=TO\/b=i1\/b=i2)->s.heap.get? b=some o->h'.get? b=some o:=fun b o n q=>kp0 b o (fun e=>n (.inl e)) (fun e=>n (.inr (.inl e))) (fun e=>n (.inr (.inr (.inl e)))) (fun e=>n (.inr (.inr (.inr e)))) q
  have nt:∀ b o,H b=some o->¬ (b=z\/b=TO\/b=i1\/b=i2):=fun b o q hb=>by
   have:=(fr b hb).1
   rw [q] at this
   cases this
  have ok':HOk X.prog X.w H h':=fun b o q=>by
   refine (I.hok b o q).stay (fun c v hc q'=>kp c v ?_ q') (fun c q'=>q') fun c zs q'=>q'
   rcases hc with rfl | hc
   ·exact nt _ _ q
   ·exact nt _ _ hc
  have out:∀ b,b∉[z,TO,i1,i2]->¬ (b=z\/b=TO\/b=i1\/b=i2):=fun b hb q=>hb (by rcases q with rfl | rfl | rfl | rfl <;> simp)
  refine Inv.step (s:=s) I (g':=s.gens) (d':=s.drawn) (ch:=[z,TO,i1,i2]) (fun b hb=>?_) (fun b o _ _ hc q _=>kp b o (out b hc) q)
   (fun b o _ _ hc q _=>⟨o.slots,kp b o (out b hc) q⟩) (fun b o _ q n=>n) (fun b o hc q=>⟨o,kp b o (out b hc) q⟩) (fun b zs q=>q) (fun b ob zs q=>q) (fun b ps q=>⟨#[],by rw [q];simp⟩) (fun m hm=>?_) ok' I.bare
  ·obtain ⟨f0,f1,f2,f3,f4,f5⟩:=fr b (by simpa using hb)
   exact ⟨f3,f1,f4,f5⟩
  ·obtain ⟨o,es,ep,ho,r⟩:=hm
   exact ⟨o,es,ep,kp _ o (fun hb=>(fr _ hb).2.1 rfl) ho,r⟩
 self:=fun _ _ _ _ _ st h=>wpAny_pyIter_zip st.1 h
noncomputable def itO (tp:Bool) (l:Addr):Obj:={ cls := .type (if tp=true then "tuple_iterator" else "list_iterator"),data := .fields #[.ref l,.int 0 0] }
section
variable {P:Program}{w:World}{A:Around}{E:Value->Shared->Prop}{s:Shared}
theorem Ad {tp:Bool}{l:Addr}{xs:Array Value}{Q:Value->Shared->Prop}(ob:sOb tp s.heap l xs) (hQ:Q (.ref s.heap.objs.size) { s with heap:=s.heap.push (itO tp l) }):wpAny (model P w) A (pyIter (.ref l)) Q E s:=by
 cases tp with
 | false=>exact wpAny_pyIter_list ob hQ
 | true=>exact wpAny_pyIter_tuple ob hQ
noncomputable def zA (h:Heap) (b1:Bool) (l1:Addr):Heap:=h.push (itO b1 l1)
noncomputable def zB (h:Heap) (b1 b2:Bool) (l1 l2:Addr):Heap:=(zA h b1 l1).push (itO b2 l2)
noncomputable def zC (h:Heap) (b1 b2:Bool) (l1 l2:Addr):Heap:=(zB h b1 b2 l1 l2).push { cls := .type "tuple",data := .seq #[.ref h.objs.size,.ref (zA h b1 l1).objs.size] }
noncomputable def zD (h:Heap) (b1 b2:Bool) (l1 l2:Addr):Heap:=(zC h b1 b2 l1 l2).push { cls := .type "tuple",data := .seq #[.none,.none] }
noncomputable def zE (h:Heap) (b1 b2:Bool) (l1 l2:Addr):Heap:=(zD h b1 b2 l1 l2).push { cls := .type "zip",data := .fields #[.none,.bool false,.bool false,.ref (zB h b1 b2 l1 l2).objs.size,.ref (zC h b1 b2 l1 l2).objs.size] }
theorem rp (b1 b2:Bool) (l1 l2:Addr) (xs ys:Array Value) :
  Meets (Builtin.«zip.__new__» ⟨[.type "zip",.ref l1,.ref l2],[]⟩) (fun _ R s=>sOb b1 s.heap l1 xs/\sOb b2 s.heap l2 ys/\R (.ok (.ret (.ref (zD s.heap b1 b2 l1 l2).objs.size))) { s with heap:=zE s.heap b1 b2 l1 l2 }) :=
 .of_wp fun P w A R s h=>by
  obtain ⟨hp,g,d,tk,os⟩:=s
  obtain ⟨o1,o2,h⟩:=h
  have sub:=sub_zip
  have k1:sOb b1 (Shared.heap ⟨hp,g,d,tk,os⟩) l1 xs:=o1
  have k2:sOb b2 (Shared.heap ⟨hp.push (itO b1 l1),g,d,tk,os⟩) l2 ys:=o2.mv fun o e=>aq _ e
  wp_walk using Ad k1,Ad k2
  exact ⟨_,rfl,h⟩
theorem vC {b1 b2:Bool}{l1 l2:Addr}{xs ys:Array Value}{Q:Value->Shared->Prop}(o1:sOb b1 s.heap l1 xs) (o2:sOb b2 s.heap l2 ys)
  (h:∀ h',tnz b1 b2 (s.heap.objs.size + 4) (s.heap.objs.size + 2) (s.heap.objs.size + 3) s.heap.objs.size (s.heap.objs.size + 1) l1 l2 0 h'->(∀ c o,s.heap.get? c=some o->h'.get? c=some o)->Q (.ref (s.heap.objs.size + 4)) { s with heap:=h' }) :
  wpAny (model P w) A (call (.type "zip") [.ref l1,.ref l2]) Q E s:=by
 refine callType_new PySem.F.called_zip (by decide) (PySem.F.typeCall_zip_2 _ _) (PySem.F.newCall_zip_2 _ _) (fun obj=>PySem.F.args_object_init_3 obj _ _) PySem.F.entry_zip_new (rp b1 b2 l1 l2 xs ys) ⟨o1,o2,?_⟩
 have n1:(zA s.heap b1 l1).objs.size=s.heap.objs.size + 1:=Heap.size_push ..
 have n2:(zB s.heap b1 b2 l1 l2).objs.size=s.heap.objs.size + 2:=by unfold zB;rw [Heap.size_push,n1]
 have n3:(zC s.heap b1 b2 l1 l2).objs.size=s.heap.objs.size + 3:=by unfold zC;rw [Heap.size_push,n2]
 have n4:(zD s.heap b1 b2 l1 l2).objs.size=s.heap.objs.size + 4:=by unfold zD;rw [Heap.size_push,n3]
 have kE:∀ {c o},(zD s.heap b1 b2 l1 l2).get? c=some o->(zE s.heap b1 b2 l1 l2).get? c=some o:=fun e=>aq _ e
 have kD:∀ {c o},(zC s.heap b1 b2 l1 l2).get? c=some o->(zE s.heap b1 b2 l1 l2).get? c=some o:=fun e=>kE (aq _ e)
 have kC:∀ {c o},(zB s.heap b1 b2 l1 l2).get? c=some o->(zE s.heap b1 b2 l1 l2).get? c=some o:=fun e=>kD (aq _ e)
 have kB:∀ {c o},(zA s.heap b1 l1).get? c=some o->(zE s.heap b1 b2 l1 l2).get? c=some o:=fun e=>kC (aq _ e)
 have e5:(zE s.heap b1 b2 l1 l2).get? (zD s.heap b1 b2 l1 l2).objs.size=some _:=au _ rfl
 have e4:(zE s.heap b1 b2 l1 l2).get? (zC s.heap b1 b2 l1 l2).objs.size=some _:=kE (au _ rfl)
 have e3:(zE s.heap b1 b2 l1 l2).get? (zB s.heap b1 b2 l1 l2).objs.size=some _:=kD (au _ rfl)
 have e2:(zE s.heap b1 b2 l1 l2).get? (zA s.heap b1 l1).objs.size=some (itO b2 l2):=kC (au _ (by cases b2 <;> rfl))
 have e1:(zE s.heap b1 b2 l1 l2).get? s.heap.objs.size=some (itO b1 l1):=kB (au _ (by cases b1 <;> rfl))
 rw [n2,n3,n4] at e5
 rw [n1,n2] at e3
 rw [n3] at e4
 rw [n1] at e2
 rw [n4]
 have f1:sIt b1 (zE s.heap b1 b2 l1 l2) s.heap.objs.size l1 0:=by cases b1 <;> exact ⟨_,e1,rfl,rfl⟩
 have f2:sIt b2 (zE s.heap b1 b2 l1 l2) (s.heap.objs.size + 1) l2 0:=by cases b2 <;> exact ⟨_,e2,rfl,rfl⟩
 exact ⟨⟨_,e5,rfl⟩,h _ ⟨e5,e3,⟨_,_,e4⟩,f1,f2⟩ fun c o x=>kB (aq _ x)⟩
end
noncomputable def iZip (K:aj) (ta:TA):TI:=fun σ H R=>ta σ H fun vs H1=>∃ a b b1 b2,vs=[.ref a,.ref b]/\(∃ xs,SqB b1 K H1 a xs)/\(∃ ys,SqB b2 K H1 b ys)/\R (Itz b1 b2 K a b) H1
section
variable {X:Cx}{XE:St->XK}
theorem nG {a b:Expr}{ta:TA}{p pos:Pos}{elts:List Expr}{x1}{tpos:Pos}(hg:Gl X "zip") (hm:X.mg "zip" = none) (ha:PA X [a,b] ta) (hv:bootBuiltins "zip" = some (.type "zip"):=by decide +kernel)
  (hs:autoParam (starEach [a,b] X.env=(false,eval a X.env)::starEach [b] X.env) auR) (hpl:autoParam ((backTo pos (starEach [b] X.env)).any (·.1)=false) auR):PI X (.Tuple elts x1 tpos) (.Call (.Name "zip" p) [a,b] [] pos) (iZip X.K ta):=by
 intro pins s σ H R I h
 refine Call_ (Jj I hg hm hv (PyProof.Rows.callWith_type1 (thn (ha pos pins s σ H _ I h) fun us s1 zq=>?_) hs hpl))
 obtain ⟨vs,H1,I1,r1,q1⟩:=zq
 obtain ⟨a1,a2,b1,b2,e,⟨xs,hq⟩,⟨ys,hq'⟩,q⟩:=q1
 subst e
 obtain ⟨u,us',e1,ru,r2⟩:∃ u us',us=u::us'/\RelV (.ref a1) u/\Vals [.ref a2] us':=by cases r1 with | cons a b=>exact ⟨_,_,rfl,a,b⟩
 obtain ⟨u',e2,ru'⟩:=vals1 r2
 subst e1 e2
 cases ru
 cases ru'
 obtain ⟨its,rv,p,hz⟩:=I1.sq hq
 obtain ⟨its',rv',p',hz'⟩:=I1.sq hq'
 refine vC p p' fun h' t kp=>wpAny_pyIter_zip t.1 ?_
 have I2:Inv X pins σ H1 { s1 with heap:=h' }:=I1.kept (t':=s1.toks) kp
 have lt:∀ {tp:Bool}{l:Addr}{zs:Array Value},sOb tp s1.heap l zs->l < s1.heap.objs.size:=fun {tp l zs} o=>by
  cases tp <;> exact let ⟨_,ho,_⟩:=o;az ho
 have L1:(a1:Nat) < s1.heap.objs.size:=lt p
 have L2:(a2:Nat) < s1.heap.objs.size:=lt p'
 have D:ZipApart (s1.heap.objs.size + 4) (s1.heap.objs.size + 2) (s1.heap.objs.size + 3) s1.heap.objs.size (s1.heap.objs.size + 1) a1 a2:=by
  exact zipApart_new L1 L2
 refine ⟨_,[s1.heap.objs.size + 4,s1.heap.objs.size + 2,s1.heap.objs.size + 3,s1.heap.objs.size,s1.heap.objs.size + 1],_,_,H1,rfl,I2,vB D,t,fun b hb=>?_,q⟩
 have hb:s1.heap.objs.size<=b:=by
  simp only [mem_cons,not_mem_nil,or_false] at hb
  rcases hb with rfl | rfl | rfl | rfl | rfl
  ·exact Nat.le_add_right _ _
  ·exact Nat.le_add_right _ _
  ·exact Nat.le_add_right _ _
  ·exact Nat.le_refl _
  ·exact Nat.le_add_right _ _
 exact I1.yI hb (I1.hok.fresh hb)
noncomputable def D.sq:D->Option (List D)
 | .lst xs=>some xs
 | .scr xs=>some xs
 | .tup xs=>some xs
 | _=>none
noncomputable def Cm (xs ys:List D):List D:=(xs.zip ys).map fun p => .tup [p.1,p.2]
noncomputable def dZip (da:DA):DI:=fun ds q x=>da ds (fun ts=>∃ a b xs ys,ts=[a,b]/\a.sq=some xs/\b.sq=some ys/\q (Cm xs ys)) x
theorem qQ {K:aj}{H:Hp}{d:D}{v:V}{xs:List D}(r:Rp K H d v) (e:d.sq=some xs):∃ tp a vs,v = .ref a/\SqB tp K H a vs/\Rps K H xs vs:=by
 cases d with
 | lst ys=>cases e;obtain ⟨a,vs,rfl,h1,h2⟩:=r;exact ⟨false,a,vs,rfl,SqL.of h1,h2⟩
 | scr ys=>cases e;obtain ⟨a,vs,rfl,h1,h2⟩:=r;exact ⟨false,a,vs,rfl,h1,h2⟩
 | tup ys=>cases e;obtain ⟨a,vs,rfl,h1,h2⟩:=r;exact ⟨true,a,vs,rfl,SqT.of h1,h2⟩
 | _=>cases e
theorem SqB.same {K:aj}{H H':Hp}{tp:Bool}{a:Addr}{xs:List V}(s:Zw H H') (h:SqB tp K H a xs):SqB tp K H' a xs:=by
 cases tp with
 | false=>exact s.seq h
 | true=>exact SqT.same s h
theorem vE {K:aj}{W0:Hp}{b1 b2:Bool}{a b:Addr}{vs us:List V}{xs ys:List D}(h:SqB b1 K W0 a vs) (h':SqB b2 K W0 b us) (r:Rps K W0 xs vs) (r':Rps K W0 ys us):Walks K (Itz b1 b2 K a b) (Cm xs ys) W0:=by
 intro i H0 H s0 s
 have hs:=h.same (s0.trans s)
 have hs':=h'.same (s0.trans s)
 have hl:(Cm xs ys).length=min xs.length ys.length:=by unfold Cm;simp
 refine ⟨fun hi=>?_,fun hi=>⟨vs,us,hs,hs',by rw [r.length,r'.length];rw [hl] at hi;omega⟩⟩
 rw [hl] at hi
 obtain ⟨v,e,rv⟩:=r.get (aC (show i < xs.length by omega))
 obtain ⟨u,e',ru⟩:=r'.get (aC (show i < ys.length by omega))
 refine ⟨⟨vs,us,v,u,hs,hs',e,e'⟩,fun x H' y=>?_⟩
 obtain ⟨p,w1,w2,rfl,hp,rfl,y1,y2⟩:=y
 have z1:=y1 vs hs
 have z2:=y2 us hs'
 rw [e] at z1
 rw [e'] at z2
 cases z1
 cases z2
 refine ⟨upd H0 p (.tup [v,u]),.put s hp,.tup [xs[i]'(by omega),ys[i]'(by omega)],?_,Mb (xs:=[xs[i]'(by omega),ys[i]'(by omega)]) ⟨_,_,rfl,rv.same s0,_,_,rfl,ru.same s0,rfl⟩ (s.free hp)⟩
 unfold Cm
 rw [getElem?_map,aC (by rw [length_zip];omega),List.getElem_zip]
 rfl
theorem rq {a b:Expr}{da:DA}{p pos:Pos}{elts:List Expr}{x1}{tpos:Pos}(hg:Gl X "zip") (hm:X.mg "zip" = none) (ha:JAs X XE [a,b] da)
  (hs:autoParam (starEach [a,b] X.env=(false,eval a X.env)::starEach [b] X.env) auR) (hpl:autoParam ((backTo pos (starEach [b] X.env)).any (·.1)=false) auR):JI X XE (.Tuple elts x1 tpos) (.Call (.Name "zip" p) [a,b] [] pos) (dZip da):=by
 obtain ⟨ta,p,d⟩:=ha.ex
 refine ⟨_,nG hg hm p (by decide +kernel) hs hpl,fun c h k kx=>d c h (fun vs ts H1 H2 e r h=>?_) kx⟩
 obtain ⟨d1,d2,xs,ys,rfl,e1,e2,hq⟩:=h
 obtain ⟨v,u,rfl,r1,r2⟩:=xO r
 obtain ⟨b1,a1,vs,rfl,s1,t1⟩:=qQ r1 e1
 obtain ⟨b2,a2,us,rfl,s2,t2⟩:=qQ r2 e2
 exact ⟨a1,a2,b1,b2,rfl,⟨vs,s1.same e.sub⟩,⟨us,s2.same e.sub⟩,k _ _ _ _ e (vE s1 s2 t1 t2) hq⟩
end
section
variable {X:Cx}{XE:St->XK}
end
section
variable {X:Cx}{XE:St->XK}
noncomputable def WG {α:Type}(xs:List α) (k:Nat) (y:α):List α:=xs.take k++y::xs.drop k
noncomputable def Ae:V->List V->Hp->VK->Prop:=fun x vs H Q=>∃ l xs k y,x = .ref l/\vs=[.int k,y]/\H l=some (.lst xs)/\xs.length < aA/\0<=k/\k<=xs.length/\Q .non (upd H l (.lst (WG xs k.toNat y)))
theorem zK:MtM X "list.insert" Ae:=by
 intro pins s σ H x vs v us Q I rx rv h
 obtain ⟨l,xs,k,y,rfl,rfl,hH,hz,k0,k1,q⟩:=h
 cases rx
 obtain ⟨u,u2,rfl,⟨tk,rfl⟩,r2⟩:=vals2 rv
 obtain ⟨z,its,n,r,hl,e⟩:=I.AR hH
 have hsz:aA=16777216:=rfl
 have hlen:=r.length
 have hfit:¬ (!Builtin.List.listFitsIndex k)=true:=by
  have:Builtin.List.listFitsIndex k=true:=by
   unfold Builtin.List.listFitsIndex
   simp only [aF,decide_eq_true_eq]
   omega
  rw [this];decide
 refine call_meets F.slot_list_insert ⟨_,e,rfl⟩ F.entry_list_insert (F.args_list_insert_3 _ _ _) (AutoSeq1.list_insert_list_int_val_1 l its.toArray n k tk u2 hfit (by rw [size_toArray];omega)) ⟨e,?_⟩
 refine ⟨.non,_,I.lset (its':=WG its k.toNat u2) hH e ?_ (show Vals (WG xs k.toNat y) (WG its k.toNat u2) from (r.take _).append (.cons r2 (r.drop _))) ?_,rfl,q⟩
 ·have e1:(if k < 0 then (k + (its.toArray.size:Int)).toNat else min k.toNat its.toArray.size)=k.toNat:=by
   rw [if_neg (by omega),size_toArray]
   omega
  show (its.toArray.extract 0 (if k < 0 then (k + (its.toArray.size:Int)).toNat else min k.toNat its.toArray.size)).push u2++its.toArray.extract (if k < 0 then (k + (its.toArray.size:Int)).toNat else min k.toNat its.toArray.size)=_
  rw [e1]
  apply Array.toList_inj.mp
  unfold WG
  rw [Array.toList_append,Array.toList_push,Array.toList_extract,Array.toList_extract,List.extract_eq_take_drop,List.extract_eq_take_drop,List.drop_zero,Nat.sub_zero,append_assoc,List.singleton_append]
  rw [show List.take (its.toArray.size - k.toNat) (List.drop k.toNat its.toArray.toList)=List.drop k.toNat its from List.take_of_length_le (by simp)]
 ·unfold WG
  simp only [length_append,length_take,length_cons,length_drop]
  omega
theorem Cp:MtR X "list.insert" Ae:=zK
noncomputable def dIns (pk:List Nat) (i:Nat) (da:DA):DS:=fun ds e=>∃ xs,ds[i]?=some (.own xs)/\da (peekAt pk ds) (fun as=>∃ k d,as=[.int k,d]/\d.imm=true/\xs.length < aA/\0<=k/\k<=xs.length/\e.nx (ds.set i (.own (WG xs k.toNat d)))) (e.xc ds)
theorem Rps.ins {K:aj}{H:Hp}{d:D}{v:V}(r:Rp K H d v):∀ {xs:List D}{vs:List V}(j:Nat),Rps K H xs vs->Rps K H (WG xs j d) (WG vs j v)
 | _,_,0,h=>⟨v,_,rfl,r,h⟩
 | [],_,_ + 1,h=>by rw [show _=[] from h];exact ⟨v,[],rfl,r,rfl⟩
 | x::xs,_,j + 1,⟨u,us,e,h1,h⟩=>by subst e;exact ⟨u,_,rfl,h1,Rps.ins r j h⟩
theorem vF (pk:List Nat) (i:Nat) {x:Str}{p apos cpos pos:Pos}{e e2:Expr}{da:DA}(ha:JAs X XE [e,e2] da) (hN:autoParam (X.N[i]?=some x) auR) (hv:Vis X.env.scope x:=by first | exact Or.inl rfl | exact Or.inr (Or.inl rfl) | exact Or.inr (Or.inr rfl))
  (hbase:autoParam (attributeBase (.Name x p) "insert" X.env (eval (.Name x p) X.env)=eval (.Name x p) X.env) auR)
  (hfew:autoParam (((backTo cpos (starEach [e,e2] X.env)).all (fun x => !x.1) && (backToKw cpos (keywordEach [] X.env)).all (fun x=>x.1.isSome)
   && decide ([e,e2].length + ([]:List Keyword).length + (if ([]:List Keyword).isEmpty then 0 else 1) < 30))=true) auR)
  (hline:autoParam ((apos.endLine == cpos.line)=true) auR) (hs:autoParam (starEach [e,e2] X.env=(false,eval e X.env)::starEach [e2] X.env) auR) (hplain:autoParam ((backTo cpos (starEach [e2] X.env)).any (·.1)=false) auR)
  (hsw:autoParam (swapsWith (.Call (.Attribute (.Name x p) "insert" apos) [e,e2] [] cpos) none pos.line X.env=pure false) auR) (hd:autoParam ((x == ("__debug__" : Str))=false) auD) (hcd:autoParam ((x == ("__classdict__" : Str))=false) auD) :
  JS X XE (.Expr (.Call (.Attribute (.Name x p) "insert" apos) [e,e2] [] cpos) pos) (dIns pk i da):=by
 obtain ⟨te,p1,d1⟩:=ha.ex
 refine ⟨_,SA (Jp PySem.F.plainAttrs_list PySem.F.slot_list_insert PySem.F.type_list_insert Cp (pv i hN hv hd hcd) p1 hbase hfew hline hs hplain) hsw,fun {B0 B H0 H σ ds e T} c h o=>?_⟩
 obtain ⟨xs,hi,h⟩:=h
 obtain ⟨l,us,e1,h1,h2,h3⟩:=c.slot i _ hi
 refine ⟨.ref l,VG e1,.inl ⟨rfl,us,SqL.of h2⟩,?_⟩
 obtain ⟨H1,c1,s1,l1,n1⟩:=c.peekAt pk
 refine d1 c1 h (fun vs as H2 H3 e' r h=>?_) (o.kx c)
 obtain ⟨k,d,rfl,im,hz,k0,k1,hq⟩:=h
 obtain ⟨H4,e4,l4,_⟩:=e'.Ee s1 c.sub l1 n1
 obtain ⟨v,u,rfl,ek,ru⟩:=xO r
 rw [show v = .int _ from ek]
 have hl:=h3.length
 refine ⟨l,us,k,u,rfl,rfl,e4.s _ _ h2,by omega,k0,by omega,?_⟩
 obtain ⟨a',us',f1,f2,f3,f4⟩:=c.push (ys:=WG xs k.toNat d) hi
 rw [e1] at f1
 cases f1
 exact o.nx _ _ _ _ (f4 H4 H3 _ e4 (Rps.ins (Rp.less l4 d im ru) _ (h3.same e4.s0))) hq
section
variable {prog:Program}{w:World}{A:Around}{E:Value->Shared->Prop}{s:Shared}{l:Addr}{a b:Int}{t u:Tok}{Q:Value->Shared->Prop}
end
end
section
variable {X:Cx}{XE:St->XK}
end
section
variable {P:Program}{w:World}{K:aj}{mg:Str->Option Value}{base:Heap}
end
section
variable {X:Cx}{ev:Value}{k:Nat}{f:Addr}{fd:FuncData}{ps:List Str}{g:DSp}{x:Str}{p pos:Pos}{e:Expr}{es:List Expr}{da:DA}
end
section
variable {K:aj}{B0 B H0 H H0' H':Hp}{σ:St}{ds:DSt}
end
section
variable {X:Cx}{XE:St->XK}
end
section
variable {X:Cx}{XE:St->XK}
end
noncomputable def Cq (K:aj) (H0 H:Hp) (μ:Mu):Prop:=∀ b m,μ.lookup b=some m->H0 b=none/\∃ u,H b=some u/\Ec K H0 m u
structure Lv (K:aj) (μ μ':Mu) (H0 H H0' H':Hp):Prop where
 s:∀ b o,μ.lookup b=none->H b=some o->H' b=some o
 s0:Zw H0 H0'
 sub:Zw H0' H'
 new:∀ b,μ.lookup b=none->H0 b=none->H b≠none->H0' b=none
 ok:Cq K H0' H' μ'
 old:∀ b m,μ'.lookup b=some m->μ.lookup b≠none\/H b=none
abbrev Mh:=List D->Mu->(D->Mu->Prop)->Prop
noncomputable def spS (K:aj) (p:Nat) (g:Mh):Sp:=fun vs H Q _=>∃ H0 xs a μ q,Zw H0 H/\Rps K H0 xs vs/\xs[p]?=some (.rf a)/\Cq K H0 H μ/\g xs μ q /\
 ∀ v d μ' H0' H',Lv K μ μ' H0 H H0' H'->Rp K H0' d v->q d μ'->Q v H'
section
variable {K:aj}{B0 B H0 H H0' H':Hp}{σ:St}{ds:DSt}
theorem Cfg.goS (c:Cfg K B0 B H0 H σ ds) {j:Nat}{a a':Addr}{μ μ':Mu}(q:ds[j]?=some (.st a μ)) (l:Lv K μ μ' H0 H H0' H'):Cfg K B0 B H0' H' σ (ds.set j (.st a μ')):=by
 have hj:j < ds.length:=(List.getElem?_eq_some_iff.mp q).1
 have sj:=c.slot j _ q
 have out:∀ (i:Nat) t b,i≠j->ds[i]?=some t->t.foot ((σ[i]?).getD none) b->μ.lookup b=none:=fun i t b ne r f=>by
  cases z:μ.lookup b with
  | none=>rfl
  | some m=>exact (c.sep i j t _ b ne r q f ⟨m,z⟩).elim
 refine ⟨⟨fun b o z=>?_,c.ext.s0.trans l.s0,l.sub,fun b z n=>?_⟩,fun i t r=>?_,fun i t b r f=>?_,fun i k t u b ne r y f g=>?_,by rw [length_set];exact c.len⟩
 ·refine l.s b o ?_ (c.ext.s _ _ z)
  cases w:μ.lookup b with
  | none=>rfl
  | some m=>have:=c.young j _ b q ⟨m,w⟩;rw [z] at this;cases this
 ·refine l.new b ?_ (c.ext.new b z n) (fun w=>n (c.ext.s.free w))
  cases w:μ.lookup b with
  | none=>rfl
  | some m=>exact absurd (c.young j _ b q ⟨m,w⟩) n
 ·rw [XO hj] at r
  split at r
  ·rename_i e
   cases r
   rw [e]
   exact ⟨sj.1,l.ok⟩
  ·rename_i ne
   have old:=c.slot i t r
   cases t with
   | un=>trivial
   | v d=>obtain ⟨v,z1,z2⟩:=old;exact ⟨v,z1,z2.same l.s0⟩
   | own ys =>
    obtain ⟨b,us,f1,f2,f3,f4⟩:=old
    exact ⟨b,us,f1,l.new b (out i _ b ne r f1) f2 (by rw [f3];simp),l.s _ _ (out i _ b ne r f1) f3,f4.same l.s0⟩
   | ob b dx C gs =>
    obtain ⟨us,f1,f2,f3,f4⟩:=old
    exact ⟨us,f1,l.new b (out i _ b ne r f1) f2 (by rw [f3];simp),l.s _ _ (out i _ b ne r f1) f3,f4.same l.s0⟩
   | od gs =>
    obtain ⟨b,us,f1,f2,f3,f4⟩:=old
    exact ⟨b,us,f1,l.new b (out i _ b ne r f1) f2 (by rw [f3];simp),l.s _ _ (out i _ b ne r f1) f3,f4.same l.s0⟩
   | st b ν =>
    refine ⟨old.1,fun b' m w=>?_⟩
    obtain ⟨g1,u,g2,g3⟩:=old.2 b' m w
    exact ⟨l.new b' (out i _ b' ne r ⟨m,w⟩) g1 (by rw [g2];simp),u,l.s _ _ (out i _ b' ne r ⟨m,w⟩) g2,g3.same l.s0⟩
 ·rw [XO hj] at r
  split at r
  ·cases r
   obtain ⟨m,w⟩:=f
   rcases l.old b m w with z | z
   ·cases y:μ.lookup b with
    | none=>exact absurd y z
    | some n=>exact c.young j _ b q ⟨n,y⟩
   ·exact c.ext.s.free z
  ·exact c.young i t b r f
 ·have key:∀ (i:Nat) t,i≠j->ds[i]?=some t->t.foot ((σ[i]?).getD none) b->∀ m,μ'.lookup b=some m->False:=fun i t ne r f m w=>by
   rcases l.old b m w with z | z
   ·exact z (out i t b ne r f)
   ·exact (c.SK r f).2 z
  rw [XO hj] at r y
  split at r
  ·rename_i ej
   cases r
   rw [if_neg (fun z=>ne (ej.trans z.symm))] at y
   obtain ⟨m,w⟩:=f
   exact key k u (fun z=>ne (ej.trans z.symm)) y g m w
  ·rename_i ni
   split at y
   ·cases y
    obtain ⟨m,w⟩:=g
    exact key i t ni r f m w
   ·exact c.sep i k t u b ne r y f g
end
section
variable {X:Cx}{XE:St->XK}
noncomputable def dRef (i:Nat):DE:=fun ds q _=>sS ds[i]? fun a _=>q (.rf a)
theorem jvS (i:Nat) {x:Str}{pos:Pos}(hN:autoParam (X.N[i]?=some x) auR) (hv:Vis X.env.scope x:=by first | exact Or.inl rfl | exact Or.inr (Or.inl rfl) | exact Or.inr (Or.inr rfl)) (hd:autoParam ((x == ("__debug__" : Str))=false) auD)
  (hcd:autoParam ((x == ("__classdict__" : Str))=false) auD):JE X XE (.Name x pos) (dRef i) :=
 ⟨_,pv i hN hv hd hcd,fun c h k _=>by
  obtain ⟨a,μ,e,h⟩:=Bz h
  have s:=c.slot i _ e
  exact ⟨.ref a,VG s.1,k (.ref a) (.rf a) _ _ (.refl c.sub) rfl h⟩⟩
noncomputable def dIxS (i:Nat) (de dk:DE):DE:=fun ds q x=>sS ds[i]? fun a μ=>de ds (fun o=>dk ds (fun k=>∃ b xs n d,o = .rf b/\k = .int n/\μ.lookup b=some (.lst xs)/\atI xs n=some d/\q d) x) x
theorem Ul (i:Nat) {a b:Expr}{da db:DE}{pos:Pos}(ha:JE X XE a da) (hb:JE X XE b db) (hs:Gh b:=by exact fun _ _=>rfl):JE X XE (.Subscript a b pos) (dIxS i da db):=by
 obtain ⟨ta,p1,d1⟩:=ha.ex
 obtain ⟨tb,p2,d2⟩:=hb.ex
 refine ⟨_,qu yV p1 p2 hs,fun c h k kx=>?_⟩
 obtain ⟨r,μ,hi,h⟩:=Bz h
 refine d1 c h (fun v o H1 H2 e r1 h=>d2 (c.go e) h (fun u n H3 H4 e' r2 h'=>?_) (kx.go e.s)) kx
 obtain ⟨b,xs,n,d,rfl,rfl,hl,hx,hq⟩:=h'
 have e2:=e.trans e'
 obtain ⟨h0,u',h1,vs,rfl,h2⟩:=((c.go e2).slot i _ hi).2 b _ hl
 obtain ⟨v',e3,r3⟩:=GC h2 hx
 exact .inl ⟨b,vs,n,v',r1,r2,SqL.of h1,e3,k _ d _ _ e2 r3 hq⟩
noncomputable def qR (i:Nat) (da:DA):DE:=fun ds q x=>sS ds[i]? fun a μ=>da ds (fun os=>∃ b xs,os=[.rf b]/\μ.lookup b=some (.lst xs)/\q (.int xs.length)) x
theorem GX (i:Nat) {p pos:Pos}{e:Expr}{da:DA}(hg:Gl X "len") (hm:X.mg "len" = none) (ha:JAs X XE [e] da) (hst:autoParam (Yb [e]=true) auR):JE X XE (.Call (.Name "len" p) [e] [] pos) (qR i da):=by
 obtain ⟨ta,p1,d1⟩:=ha.ex
 refine ⟨_,pe_b Nn hg hm PySem.boot_len p1 hst,fun c h k kx=>?_⟩
 obtain ⟨r,μ,hi,h⟩:=Bz h
 refine d1 c h (fun vs xs H1 H2 e r1 h=>?_) kx
 obtain ⟨b,ys,rfl,hl,hq⟩:=h
 obtain ⟨v,rfl,ev⟩:=Ud r1
 have ev:v = .ref b:=ev
 subst ev
 obtain ⟨h0,u',h1,us,rfl,h2⟩:=((c.go e).slot i _ hi).2 b _ hl
 refine ⟨b,us,rfl,.inl (SqL.of h1),?_⟩
 rw [h2.length]
 exact k _ (.int _) _ _ e rfl hq
noncomputable def Mu.put (μ:Mu) (b:Addr) (m:MO):Mu:=μ.map fun x=>if x.1=b then (x.1,m) else x
theorem Mu.Xx {μ:Mu}{b:Addr}{m n:MO}(h:μ.lookup b=some n) (c:Addr):(μ.put b m).lookup c=if c=b then some m else μ.lookup c:=by
 induction μ with
 | nil=>cases h
 | cons x μ ih =>
  obtain ⟨a,o⟩:=x
  unfold Mu.put at ih ⊢
  rw [map_cons]
  by_cases ab:a=b
  ·subst ab
   rw [if_pos rfl,lookup_cons,lookup_cons]
   by_cases ca:c=a
   ·subst ca;simp
   ·have:(c == a)=false:=by simpa using ca
    rw [this,if_neg ca]
    dsimp only
    have:∀ ν:Mu,(ν.map fun x=>if x.1=a then (x.1,m) else x).lookup c=ν.lookup c:=by
     intro ν
     induction ν with
     | nil=>rfl
     | cons y ν ih2 =>
      rw [map_cons]
      by_cases ya:y.1=a
      ·rw [if_pos ya,lookup_cons,lookup_cons,ih2]
       have:(c == y.1)=false:=by rw [ya];simpa using ca
       rw [this]
      ·rw [if_neg ya,lookup_cons,lookup_cons,ih2]
    exact this μ
  ·rw [if_neg ab,lookup_cons,lookup_cons]
   have hb:(b == a)=false:=by simpa using Ne.symm ab
   rw [lookup_cons,hb] at h
   by_cases ca:c=a
   ·subst ca
    simp [ab]
   ·have:(c == a)=false:=by simpa using ca
    rw [this]
    exact ih h
theorem Cfg.putS {K:aj}{B0 B H0 H:Hp}{σ:St}{ds:DSt}(c:Cfg K B0 B H0 H σ ds) {i:Nat}{a b:Addr}{μ:Mu}{m n:MO}{o:HO}(q:ds[i]?=some (.st a μ)) (l:μ.lookup b=some n) (h:Ec K H0 m o):Cfg K B0 B H0 (upd H b o) σ (ds.set i (.st a (μ.put b m))):=by
 have old:=c.slot i _ q
 refine c.write q ⟨n,l⟩ (fun b' ⟨m',f⟩=>?_) ⟨old.1,fun b' m' f=>?_⟩
 ·rw [Mu.Xx l] at f
  split at f
  ·rename_i e;exact ⟨n,e ▸ l⟩
  ·exact ⟨m',f⟩
 ·rw [Mu.Xx l] at f
  split at f
  ·rename_i e
   cases f
   rw [e]
   exact ⟨(old.2 b n l).1,o,Zy,h⟩
  ·rename_i ne
   obtain ⟨h1,u,h2,h3⟩:=old.2 b' m' f
   exact ⟨h1,u,by rw [Zq ne];exact h2,h3⟩
noncomputable def qS (pk:List Nat) (i:Nat) (dO dk de:DE):DS:=fun ds e=>sS ds[i]? fun a μ=>de (peekAt pk ds) (fun d=>pkO pk d (dO ds (fun o=>dk ds (fun k=>∃ b xs n j,o = .rf b/\k = .int n/\μ.lookup b=some (.lst xs)/\ixN xs.length n=some j/\e.nx (ds.set i (.st a (μ.put b (.lst (xs.set j d)))))) (e.xc ds)) (e.xc ds))) (e.xc ds)
theorem Af (pk:List Nat) (i:Nat) {t k e:Expr}{dO dk de:DE}{ipos pos:Pos}(ht:JE X XE t dO) (hk:JE X XE k dk) (he:JE X XE e de)
  (ha:∀ v,assign (.Subscript t k ipos) X.env v=(do
   let ov <- holding [v] (eval t X.env)
   let iv <- holding [v,ov] (eval k X.env)
   standAt ipos
   holding [v,ov,iv] (setItem ov iv v)
   release [v,ov,iv] []):=by intro _;rfl)
  (hs:autoParam (swapsWithSole [.Subscript t k ipos] e pos.line X.env=pure false) auR) (hw:autoParam (swappedStores [.Subscript t k ipos] e X.env=pure none) auR)
  (h1:autoParam ((assignEach [.Subscript t k ipos] X.env).map (·.2)=[assign (.Subscript t k ipos) X.env]) auR) :
  JS X XE (.Assign [.Subscript t k ipos] e pos) (qS pk i dO dk de):=by
 obtain ⟨tk,p2,d2⟩:=hk.ex
 obtain ⟨te,p1,d1⟩:=he.ex
 obtain ⟨to,p3,d3⟩:=ht.ex
 refine ⟨_,Jl p1 (yG p3 p2 set_list ha) hs hw h1,fun {B0 B H0 H σ ds e T} c h o=>?_⟩
 obtain ⟨r,μ,hi,h⟩:=Bz h
 have fin:∀ {H1 H2:Hp}{a:D}{v:V},Ext H0 H H1 H2->Rp X.K H1 a v->dO ds (fun o=>dk ds (fun k=>∃ b xs n j,o = .rf b/\k = .int n/\μ.lookup b=some (.lst xs)/\ixN xs.length n=some j/\e.nx (ds.set i (.st r (μ.put b (.lst (xs.set j a)))))) (e.xc ds)) (e.xc ds)->gSub to tk qv v σ H2 T.nx:=by
  intro H1 H2 a v e' ra h
  refine d3 (c.go e') h (fun ov od H3 H4 e2 ro h=>d2 (c.go (e'.trans e2)) h (fun kv kd H5 H6 e3 rk h=>?_) ((o.kx c).go (e'.trans e2).s)) ((o.kx c).go e'.s)
  obtain ⟨b,xs,n,j,rfl,rfl,hl,ij,hq⟩:=h
  have e4:=(e'.trans e2).trans e3
  have c4:=c.go e4
  obtain ⟨h0,u',h1,vs,rfl,h2⟩:=(c4.slot i _ hi).2 b _ hl
  refine ⟨b,vs,n,j,ro,rk,h1,by rw [h2.length];exact ij,?_⟩
  exact o.nx _ _ _ _ (c4.putS hi hl (m := .lst (xs.set j a)) ⟨_,rfl,Rps.set (ra.same (e2.trans e3).s0) j h2⟩) hq
 by_cases hpk:pk=[]
 ·subst hpk
  exact d1 c h (fun v a H1 H2 e' r h=>fin e' r (Jx h).2) (o.kx c)
 ·obtain ⟨H1,c1,s1,l1,n1⟩:=c.peekAt pk
  refine d1 c1 h (fun v a H2 H3 e' r h=>?_) (o.kx c)
  obtain ⟨H4,e4,l4,_⟩:=e'.Ee s1 c.sub l1 n1
  exact fin e4 (Rp.less l4 a ((Jx h).1.resolve_left hpk) r) (Jx h).2
noncomputable def qT (pk:List Nat) (i:Nat) (df:DA):DS:=fun ds e=>df (peekAt pk ds) (fun xs=>D.Pm xs=true/\∀ a,e.nx (ds.set i (.st a [(a,.lst xs)]))) (e.xc ds)
theorem Cfg.newS {K:aj}{B0 B H0 H H0' H':Hp}{σ:St}{ds:DSt}(c:Cfg K B0 B H0 H σ ds) (i:Nat) {a:Addr}{vs:List V}{xs:List D}(e:Ext H0 H H0' H') (n:H a=none) (n0:H0' a=none) (h:H' a=some (.lst vs)) (r:Rps K H0' xs vs):Cfg K B0 B H0' H' (σ.set i (some (.ref a))) (ds.set i (.st a [(a,.lst xs)])):=by
 have one:∀ b m,([(a,MO.lst xs)]:Mu).lookup b=some m->b=a/\m = .lst xs:=fun b m l=>by
  rw [lookup_cons] at l
  by_cases e:b=a
  ·subst e;simp at l;exact ⟨rfl,l.symm⟩
  ·have:(b == a)=false:=by simpa using e
   rw [this] at l;cases l
 refine (c.go e).lay i (s := .st a [(a,.lst xs)]) ⟨rfl,fun b m l=>?_⟩ (fun b ⟨m,l⟩=>?_) fun b j t _ q ⟨m,l⟩ g=>?_
 ·obtain ⟨rfl,rfl⟩:=one b m l
  exact ⟨n0,_,h,vs,rfl,r⟩
 ·obtain ⟨rfl,rfl⟩:=one b m l
  exact c.ext.s.free n
 ·obtain ⟨rfl,rfl⟩:=one b m l
  exact (c.SK q g).2 n
theorem rz (pk:List Nat) {i:Nat}{x:Str}{e:Expr}{df:DA}{pos pos':Pos}(hN:X.N.Nodup) (hi:X.N[i]?=some x) (hx:Loc X.env.scope x) (he:JF X XE e df) (hs:autoParam (swapsWith e (some (.Name x pos')) pos.line X.env=pure false) auR)
  (hf:X.fn x=true\/X.env.scope.names.lookup x=some .local:=by first | exact .inl rfl | exact .inr rfl | assumption):JS X XE (.Assign [.Name x pos'] e pos) (qT pk i df):=by
 obtain ⟨te,p,d⟩:=he.ex
 refine ⟨_,PQ hN hi hx p hs hf,fun {B0 B H0 H σ ds e T} c h o=>?_⟩
 obtain ⟨H1,c1,s1,l1,n1⟩:=c.peekAt pk
 refine d c1 h (fun a vs xs H2 H3 e' n n0 ha r hq=>?_) (o.kx c)
 obtain ⟨H4,e4,l4,s4⟩:=e'.Ee s1 c.sub l1 n1
 exact o.nx _ _ _ _ (c.newS i e4 n (s4.free n0) ha (Rps.less l4 xs hq.1 r)) (hq.2 a)
noncomputable def qU (pk:List Nat) (de:DE):DS:=fun ds e=>de (peekAt pk ds) (fun d=>e.rb d (peekAt pk ds)) (e.xc ds)
theorem GY (pk:List Nat) {e:Expr}{de:DE}{pos:Pos}(he:JE X XE e de):JS X XE (.Return (some e) pos) (qU pk de):=by
 obtain ⟨te,p,d⟩:=he.ex
 refine ⟨_,Dq p,fun {B0 B H0 H σ ds e T} c h o=>?_⟩
 obtain ⟨H1,c1,s1,l1,n1⟩:=c.peekAt pk
 exact d c1 h (fun v a H2 H3 e' r h=>o.rb v a H2 H3 _ _ (c1.go e') r h) (o.kx c)
noncomputable def dRetO (i:Nat):DS:=fun ds e=>sO ds[i]? fun ys=>e.ro ys (ds.set i .un)
noncomputable def dRetF (pk:List Nat) (df:DA):DS:=fun ds e=>df (peekAt pk ds) (fun ys=>e.ro ys (peekAt pk ds)) (e.xc ds)
end
end L2
namespace HT
open PySem PySem.Spec PyProof.Rows L2
section
variable {prog:Program}{w:World}{A:Around}{E:Value->Shared->Prop}{s:Shared}
theorem Pp {t sl:Addr}{items:Array Value}{vl vu:Value}{lo hi:Option Int}{Q:Value->Shared->Prop}(ht:IsTup s.heap t items) (hs:s.heap.IsSliceOf sl vl vu .none) (pl:IsPart vl lo) (pu:IsPart vu hi)
  (hw:sIx items.size 0 lo=0/\sIx items.size items.size hi=items.size)
  (h:Q (.ref t) s):wpAny (model prog w) A (getItem (.ref t) (.ref sl)) Q E s:=by
 obtain ⟨os,hos,hcs,hds⟩:=id hs
 have hTs:s.TypeIs (.ref sl) "slice" := ⟨os,hos,hcs⟩
 unfold getItem
 try with_reducible refine wpAny_holding ?_
 first | refine ak (ao ?_) | skip
 refine ak (wpAny_sequenceKey ht.typeIs (by decide) ?_)
 refine ak (wpAny_callSpecial?_slot (name:=Str.ofString "__getitem__") ht.typeIs PyProof.Rows.slot_tuple_getitem
  (wpAny_call_entry PyProof.Rows.slot_tuple_getitem ht.typeIs entry_tuple_getitem ?_ (args_tuple_getitem _ _)))
 show wpAny _ _ (Builtin.Tuple.tupleItemsOf (.ref t) >>= _) _ _ s
 refine ak (tupleItemsOf_ ht ?_)
 refine ak (wpAny_typeOf hTs ?_)
 rw [if_pos (by decide)]
 refine ak (TQ hs pl pu ?_)
 have hyes:(((sIx items.size 0 lo:Nat):Int) == 0 && (1:Int) == 1 && (sIx items.size items.size hi - sIx items.size 0 lo) == items.size)=true:=by
  rw [hw.1,hw.2]
  simp
 show wpAny _ _ (if (((sIx items.size 0 lo:Nat):Int) == 0 && (1:Int) == 1 && (sIx items.size items.size hi - sIx items.size 0 lo) == items.size)=true then _ else _) _ _ s
 rw [if_pos hyes]
 unfold Builtin.Tuple.tupleIsExact
 refine ak (ak (wpAny_typeOf ht.typeIs (ao ?_)))
 show wpAny _ _ (if ((Value.type "tuple" == Value.type "tuple")=true) then _ else _) _ _ s
 rw [if_pos (by decide)]
 exact ak (wpAny_rule (ao ⟨_,rfl,ao h⟩))
end
end HT
namespace L2
open PySem PySem.Spec PyProof.Rows
section
variable {X:Cx}{XE:St->XK}
noncomputable def rSlW (K:aj):V->Option Int->Option Int->Hp->VK->Prop:=fun x lo hi H Q=>∃ a xs,x = .ref a/\SqT K H a xs /\
 (HT.sIx xs.length 0 lo=0/\HT.sIx xs.length xs.length hi=xs.length)/\Q (.ref a) H
theorem rA:SlR X (rSlW X.K):=by
 intro pins s σ H x v vl vu lo hi sl Q I rx hs pl pu h
 obtain ⟨a,xs,rfl,hx,hw,q⟩:=h
 cases rx
 obtain ⟨its,r,ht,hz⟩:=I.tuple hx
 have hlen:its.toArray.size=xs.length:=by rw [size_toArray];exact r.length.symm
 refine ⟨"tuple",_,PyProof.Rows.slot_tuple_getitem.lookup,ht.typeIs,?_⟩
 refine HT.Pp ht hs pl pu (by rw [hlen];exact hw) ?_
 exact ⟨.ref a,H,I,rfl,q⟩
noncomputable def Ag (de:DE) (dl dh:DO):DE:=fun ds q x=>de ds (fun a=>dl ds (fun lo=>dh ds (fun hi=>∃ xs,a = .tup xs/\q (.tup (cutD xs lo hi))) x) x) x
theorem HW {e:Expr}{de:DE}{lo hi:Option Expr}{dl dh:DO}{pos p2:Pos}(he:JE X XE e de) (hl:JO X XE lo dl) (hh:JO X XE hi dh):JE X XE (.Subscript e (.Slice lo hi none p2) pos) (Ag de dl dh):=by
 obtain ⟨ta,p1,d1⟩:=he.ex
 obtain ⟨tl,p3,d3⟩:=hl.ex
 obtain ⟨th,p4,d4⟩:=hh.ex
 refine ⟨_,FR (rA.or pZ) p1 p3 p4,fun c h k kx=>d1 c h (fun v a H1 H2 e r h=>d3 (c.go e) h (fun lo H3 H4 e' h'=>d4 (c.go (e.trans e')) h' (fun hi H5 H6 e2 h2=>?_) (kx.go (e.trans e').s)) (kx.go e.s)) kx⟩
 have e3:=(e.trans e').trans e2
 have s3:=(c.go e3).sub
 have r3:=r.same (e'.trans e2).s0
 obtain ⟨xs,rfl,hq⟩:=h2
 obtain ⟨p,vs,rfl,h5,h6⟩:=r3
 by_cases hw:HT.sIx vs.length 0 lo=0/\HT.sIx vs.length vs.length hi=vs.length
 ·refine .inl ⟨p,vs,rfl,SqT.of (s3 _ _ h5),hw,?_⟩
  have:cutD xs lo hi=xs:=by
   unfold cutD
   rw [h6.length] at hw
   rw [hw.1,hw.2,List.drop_zero,Nat.sub_zero,take_length]
  rw [this] at hq
  exact k _ (.tup xs) _ _ e3 ⟨p,vs,rfl,h5,h6⟩ hq
 ·refine .inr ⟨p,vs,rfl,SqT.of (s3 _ _ h5),hw,fun l hl=>?_⟩
  exact k _ (.tup _) _ _ (e3.trans (.put s3 hl)) (Mb (GD h6) (s3.free hl)) hq
noncomputable def dRevT (de:DE) (dk:DE):DE:=fun ds q x=>de ds (fun a=>dk ds (fun k=>k = .int (-1)/\∃ xs,a = .tup xs/\q (.tup xs.reverse)) x) x
end
section
variable {P:Program}{w:World}{K:aj}{mg:Str->Option Value}{base:Heap}
theorem ZE.never {CX:CXT}{k:Nat}{f:Addr}{fd:FuncData}{ps:List Str}{sp:Sp}(h:∀ vs H Q E,¬ sp vs H Q E):ZE P w K mg base CX k f fd ps sp :=
 ⟨fun vs H Q E q=>(h _ _ _ _ q).elim,fun A outer s H args us vs Q E _ _ _ _ q=>(h _ _ _ _ q).elim⟩
theorem Cr {H0 H:Hp}{N:List Str}{xs:List D}{vs:List V}{p:Nat}{a:Addr}{μ:Mu}(s:Zw H0 H) (r:Rps K H0 xs vs) (hl:xs.length<=N.length) (hp:xs[p]?=some (.rf a)) (hm:Cq K H0 H μ) :
  ∃ B:Hp,(∀ b,μ.lookup b=none->B b=H b)/\(∀ b m,μ.lookup b=some m->B b=none)/\Cfg K H0 B H0 H (start N vs) ((Vv N xs).set p (.st a μ)):=by
 classical
 have c:=HM s r hl
 let B:Hp:=fun b=>if μ.lookup b=none then H b else none
 have hB1:∀ b,μ.lookup b=none->B b=H b:=fun b e=>if_pos e
 have hB2:∀ b m,μ.lookup b=some m->B b=none:=fun b m e=>if_neg (by rw [e];simp)
 have c':Cfg K H0 B H0 H (start N vs) (Vv N xs):=by
  refine ⟨⟨fun b o z=>?_,.refl _,s,fun b z n=>z⟩,c.slot,fun i t b e f=>?_,c.sep,c.len⟩
  ·by_cases e:μ.lookup b=none
   ·rw [hB1 b e] at z;exact z
   ·have:B b=none:=if_neg e
    rw [this] at z;cases z
  ·by_cases e':μ.lookup b=none
   ·rw [hB1 b e'];exact c.young i t b e f
   ·exact if_neg e'
 have hp':p < xs.length:=(List.getElem?_eq_some_iff.mp hp).1
 obtain ⟨v,e1,rv⟩:=r.get hp
 have rv:v = .ref a:=rv
 subst rv
 have hv:p < vs.length:=(List.getElem?_eq_some_iff.mp e1).1
 have es:((start N vs)[p]?).getD none=some (.ref a):=by
  unfold start
  rw [getElem?_append_left (by rw [length_map];exact hv),getElem?_map,e1]
  rfl
 have hs:p < (start N vs).length:=by
  unfold start
  rw [length_append,length_map]
  omega
 have no:∀ (i:Nat) t b,(Vv N xs)[i]?=some t->t.foot (((start N vs)[i]?).getD none) b->False:=fun i t b e f=>by
  have:=Slot.YQ f
  unfold Vv at e
  by_cases h:i < xs.length
  ·rw [getElem?_append_left (by rw [length_map];exact h),getElem?_map,aC h] at e
   cases e;cases this
  ·rw [getElem?_append_right (by rw [length_map];omega),length_map,getElem?_replicate] at e
   split at e
   ·cases e;cases this
   ·cases e
 refine ⟨B,hB1,hB2,?_⟩
 have:=c'.lay p (s := .st a μ) (o:=((start N vs)[p]?).getD none) ⟨es,hm⟩ (fun b ⟨m,l⟩=>hB2 b m l) fun b j t _ q _ f=>no j t b q f
 have e:(start N vs).set p (((start N vs)[p]?).getD none)=start N vs:=by
  rw [aC hs]
  exact List.set_getElem_self hs
 rw [e] at this
 exact this
theorem Lv.of {H0 H B H0' H':Hp}{σ:St}{ds:DSt}{p:Nat}{a:Addr}{μ μ':Mu}(h1:∀ b,μ.lookup b=none->B b=H b) (h2:∀ b m,μ.lookup b=some m->B b=none) (hm:Cq K H0 H μ) (c:Cfg K H0 B H0' H' σ ds) (q:ds[p]?=some (.st a μ')):Lv K μ μ' H0 H H0' H':=by
 have sl:=c.slot p _ q
 refine ⟨fun b o e z=>c.ext.s _ _ (by rw [h1 b e];exact z),c.ext.s0,c.sub,fun b e z n=>c.ext.new b z (by rw [h1 b e];exact n),sl.2,fun b m e=>?_⟩
 ·have y:=c.young p _ b q ⟨m,e⟩
  cases z:μ.lookup b with
  | none=>right;rw [<-h1 b z];exact y
  | some m'=>left;simp
theorem Fun.okS {x qual:Str}{st:Stmt}{f:Addr}{fd:FuncData}{N ps:List Str}{k p:Nat}{g:Mh}(F:Fun K x qual st f fd) (S:Zo N ps (Zf st)) (len:∀ xs μ q,g xs μ q->xs.length=ps.length)
  (hbody:∀ (cdv:Value) (A:Around) (outer:List Env) (s:Shared) (H:Hp) (E:XK),Xq k (A.deeper (envOfC qual (Zf st) s.heap.objs.size f cdv)) ->
   ∃ b,JSs (XF (CXE P w) P w K mg base N qual (Zf st) f cdv A outer s H E) (fun _=>E) (Yd st) b/\∀ xs μ a q,xs[p]?=some (.rf a)->g xs μ q ->
    b ((Vv N xs).set p (.st a μ)) { nx:=fun ds=>∃ a' μ',ds[p]?=some (.st a' μ')/\q .non μ',rt:=fun _=>False,xc:=fun _ _=>False,rb:=fun d ds=>∃ a' μ',ds[p]?=some (.st a' μ')/\q d μ' }):ZE P w K mg base (CXE P w) (k + 1) f fd ps (spS K p g):=by
 have hpl:ps.length<=N.length:=by have:=congrArg length S.pre;rw [length_take] at this;omega
 refine F.okX S (fun vs H Q E zq=>by obtain ⟨H0,xs,a,μ,q,s,r,hp,hm,h,_⟩:=zq;rw [r.length];exact len xs μ q h) fun cdv A outer s H vs Q E hr hsp=>?_
 obtain ⟨H0,xs,a,μ,q,s0,r,hp,hm,h,kq⟩:=hsp
 obtain ⟨b,j,hb⟩:=hbody cdv A outer s H E hr
 obtain ⟨t,pt,d⟩:=j.ex
 obtain ⟨B,b1,b2,c⟩:=Cr s0 r (by rw [len xs μ q h];exact hpl) hp hm
 refine ⟨t,⟨pt⟩,d c (hb xs μ a q hp h) ⟨fun H0' H' σ ds c' ⟨a',μ',e,hq⟩=>kq .non .non μ' H0' H' (.of b1 b2 hm c' e) rfl hq,fun _ _ _ _ _ _ h=>h.elim,fun _ _ _ _ _ _ h=>h.elim,fun _ _ _ _ _ h=>h.elim,fun _ _ _ _ _ h=>h.elim,fun v d H0' H' σ ds c' r' ⟨a',μ',e,hq⟩=>kq v d μ' H0' H' (.of b1 b2 hm c' e) r' hq,fun _ _ _ _ _ _ _ _ _ _ _ _ _ h=>h.elim⟩⟩
end
section
variable {X:Cx}{XE:St->XK}
noncomputable def GZ (p j:Nat) (g:Mh) (da:DA) (k:D->DSt->Wp->Prop):DS:=fun ds e=>∃ a0 μ,ds[j]?=some (.st a0 μ)/\da ds (fun xs=>(∃ a,xs[p]?=some (.rf a))/\g xs μ fun d μ'=>k d (ds.set j (.st a0 μ')) e) (e.xc ds)
theorem HX {K:aj}{ta:TA}{da:DA}{p j:Nat}{g:Mh}{k:D->DSt->Wp->Prop}(d1:xE K XE ta da) {B0 B H0 H:Hp}{σ:St}{ds:DSt}{e:Wp}{T:Ends}(c:Cfg K B0 B H0 H σ ds) (h:GZ p j g da k ds e) (o:GI K XE B0 B e T) {Q:VK}
  (kq:∀ v d ds' H0' H',Cfg K B0 B H0' H' σ ds'->Rp K H0' d v->(∀ i,i≠j->ds'[i]?=ds[i]?)->(∀ i s a u,i≠j->ds[i]?=some s->s.foot ((σ[i]?).getD none) a->H a=some u->H' a=some u)->k d ds' e->Q v H'):Js (spS K p g) XE ta σ H Q:=by
 obtain ⟨a0,μ,hj,h⟩:=h
 refine d1 c h (fun vs xs H1 H2 e1 r h=>?_) (o.kx c)
 obtain ⟨⟨a,hp⟩,h⟩:=h
 have c1:=c.go e1
 refine ⟨H1,xs,a,μ,_,e1.sub,r,hp,(c1.slot j _ hj).2,h,fun v d μ' H0' H' l r' hq=>?_⟩
 refine kq v d _ H0' H' (c1.goS (a':=a) hj l) r' (fun i ne=>by rw [getElem?_set_ne (Ne.symm ne)]) (fun i s b u ne q f z=>l.s b u ?_ (e1.s _ _ z)) hq
 cases w:μ.lookup b with
 | none=>rfl
 | some m=>exact (c1.sep i j s _ b ne q hj f ⟨m,w⟩).elim
theorem vG (p j:Nat) {k:Nat}{f:Addr}{fd:FuncData}{ps:List Str}{g:Mh}{x y:Str}{i:Nat}{np pos pos' cpos:Pos}{e:Expr}{es:List Expr}{da:DA}(F:ZE X.prog X.w X.K X.mg X.base (CXE X.prog X.w) k f fd ps (spS X.K p g)) (hr:Xq k X.A) (hg:Gl X x) (hm:X.mg x=some (.ref f)) (hk:keepIn X.K (.ref f)=true) (hb:Binds X.K fd ps []) (hx:Xa X XE)
  (ha:JAs X XE (e::es) da) (hN:X.N.Nodup) (hi:X.N[i]?=some y) (hy:Loc X.env.scope y) (hst:autoParam (Yb (e::es)=true) auR) (hdb:autoParam ((x == ("__debug__" : Str))=false) auD) (hs:autoParam (swapsWith (.Call (.Name x np) (e::es) [] cpos) (some (.Name y pos')) pos.line X.env=pure false) auR)
  (hf:X.fn y=true\/X.env.scope.names.lookup y=some .local:=by first | exact .inl rfl | exact .inr rfl | assumption):JS X XE (.Assign [.Name y pos'] (.Call (.Name x np) (e::es) [] cpos) pos) (GZ p j g da fun d ds e=>e.nx (ds.set i (.v d))):=by
 obtain ⟨ta,p1,d1⟩:=ha.ex
 refine ⟨_,PQ hN hi hy (KZ F hr hg hm hk hb hx ⟨p1⟩ hst hdb).get hs hf,fun {B0 B H0 H σ ds e T} c h o=>?_⟩
 exact HX d1 c h o fun v d ds' H0' H' c' r _ _ hq=>o.nx _ _ _ _ (c'.setV i r) hq
theorem Ah (i p j:Nat) (hij:i≠j) {k:Nat}{f:Addr}{fd:FuncData}{ps:List Str}{g:Mh}{x y:Str}{np apos bpos cpos dpos pos:Pos}{e:Expr}{es:List Expr}{da:DA}(F:ZE X.prog X.w X.K X.mg X.base (CXE X.prog X.w) k f fd ps (spS X.K p g)) (hr:Xq k X.A) (hg:Gl X x) (hm:X.mg x=some (.ref f)) (hk:keepIn X.K (.ref f)=true) (hb:Binds X.K fd ps []) (hx:Xa X XE)
  (ha:JAs X XE (e::es) da) (hst:autoParam (Yb (e::es)=true) auR) (hdb:autoParam ((x == ("__debug__" : Str))=false) auD)
  (hN:autoParam (X.N[i]?=some y) auR) (hv:Vis X.env.scope y:=by first | exact Or.inl rfl | exact Or.inr (Or.inl rfl) | exact Or.inr (Or.inr rfl))
  (hst':autoParam (noStar (.Call (.Name x np) (e::es) [] cpos)=true) auR) (hbase:autoParam (attributeBase (.Name y bpos) "append" X.env (eval (.Name y bpos) X.env)=eval (.Name y bpos) X.env) auR)
  (hfew:autoParam (((backTo dpos (starEach [.Call (.Name x np) (e::es) [] cpos] X.env)).all (fun x => !x.1) && (backToKw dpos (keywordEach [] X.env)).all (fun x=>x.1.isSome)
   && decide ([Expr.Call (.Name x np) (e::es) [] cpos].length + ([]:List Keyword).length + (if ([]:List Keyword).isEmpty then 0 else 1) < 30))=true) auR)
  (hline:autoParam ((apos.endLine == dpos.line)=true) auR) (hs:autoParam (starEach [.Call (.Name x np) (e::es) [] cpos] X.env=(false,eval (.Call (.Name x np) (e::es) [] cpos) X.env)::starEach [] X.env) auR) (hplain:autoParam ((backTo dpos (starEach [] X.env)).any (·.1)=false) auR)
  (hsw:autoParam (swapsWith (.Call (.Attribute (.Name y bpos) "append" apos) [.Call (.Name x np) (e::es) [] cpos] [] dpos) none pos.line X.env=pure false) auR) (hd:autoParam ((y == ("__debug__" : Str))=false) auD) (hcd:autoParam ((y == ("__classdict__" : Str))=false) auD) :
  JS X XE (.Expr (.Call (.Attribute (.Name y bpos) "append" apos) [.Call (.Name x np) (e::es) [] cpos] [] dpos) pos) (fun ds e=>∃ xs,ds[i]?=some (.own xs)/\xs.length < aA/\GZ p j g da (fun d ds e=>e.nx (ds.set i (.own (xs++[d])))) ds e):=by
 obtain ⟨ta,p1,d1⟩:=ha.ex
 refine ⟨_,SA (Jp PySem.F.plainAttrs_list PySem.F.slot_list_append PySem.F.type_list_append SJ (pv i hN hv hd hcd) (Ma (KZ F hr hg hm hk hb hx ⟨p1⟩ hst hdb).get Ua hst') hbase hfew hline hs hplain) hsw,fun {B0 B H0 H σ ds e T} c h o=>?_⟩
 obtain ⟨xs,hi,hl,h⟩:=h
 obtain ⟨l,us,e1,f1,f2,f3⟩:=c.slot i _ hi
 refine ⟨.ref l,VG e1,.inl ⟨rfl,us,SqL.of f2⟩,?_⟩
 refine HX d1 c h o fun v d ds' H0' H' c' r same keep hq=>?_
 have hi':ds'[i]?=some (.own xs):=by rw [same i hij];exact hi
 obtain ⟨l',us',e1',f1',f2',f3'⟩:=c'.slot i _ hi'
 rw [e1] at e1'
 cases e1'
 refine ⟨l,us',v,rfl,rfl,f2',by rw [f3'.length];exact hl,?_⟩
 obtain ⟨a',us2,g1,g2,g3,g4⟩:=c'.push (ys:=xs++[d]) hi'
 rw [e1] at g1
 cases g1
 exact o.nx _ _ _ _ (g4 H0' H' _ (.refl c'.sub) (f3'.snoc r)) hq
noncomputable def DenN (K:aj) (XE:St->XK) (ta:TA) (da:DSt->(List D->List D->Prop)->(Addr->Prop)->Prop):Prop:=∀ {B0 B H0 H:Hp}{σ:St}{ds:DSt}{q:List D->List D->Prop}{x:Addr->Prop}{Q:List V->Hp->Prop},Cfg K B0 B H0 H σ ds->da ds q x ->
 (∀ vs a us xs ys H0' H',Ext H0 H H0' H'->H a=none->H0' a=none->H' a=some (.lst us)->Rps K H0' ys us->Rps K H0' xs vs->q xs ys->Q (vs++[.ref a]) H')->KX XE σ H x->ta σ H Q
structure JN (X:Cx) (XE:St->XK) (es:List Expr) (da:DSt->(List D->List D->Prop)->(Addr->Prop)->Prop):Prop where
 ex:∃ ta,PA X es ta/\DenN X.K XE ta da
theorem rB {e:Expr}{df:DA}(h:JF X XE e df) (hs:autoParam (noStar e=true) auR):JN X XE [e] (fun ds q x=>df ds (fun ys=>q [] ys) x):=by
 obtain ⟨te,p,d⟩:=h.ex
 exact ⟨_,Ma p Ua hs,fun c h k kx=>d c h (fun a us ys H0' H' e n n0 ha r hq=>k [] a us [] ys H0' H' e n n0 ha r rfl hq) kx⟩
theorem jn_c {e:Expr}{es:List Expr}{de:DE}{da:DSt->(List D->List D->Prop)->(Addr->Prop)->Prop}(h1:JE X XE e de) (h2:JN X XE es da) (hs:autoParam (noStar e=true) auR):JN X XE (e::es) (fun ds q x=>de ds (fun d=>da ds (fun xs ys=>q (d::xs) ys) x) x):=by
 obtain ⟨te,p,d1⟩:=h1.ex
 obtain ⟨ta,p2,d2⟩:=h2.ex
 refine ⟨_,Ma p p2 hs,fun c h k kx=>d1 c h (fun v d H1 H2 e r h=>d2 (c.go e) h (fun vs a us xs ys H0' H' e' n n0 ha r1 r2 hq=>?_) (kx.go e.s)) kx⟩
 exact k (v::vs) a us (d::xs) ys H0' H' (e.trans e') (e.s.free n) n0 ha r1 ⟨v,vs,rfl,r.same e'.s0,r2⟩ hq
theorem Ct {a b:Addr}{m n:MO}(h:([(a,m)]:Mu).lookup b=some n):b=a/\n=m:=by
 rw [lookup_cons] at h
 by_cases e:b=a
 ·subst e;simp at h;exact ⟨rfl,h.symm⟩
 ·have:(b == a)=false:=by simpa using e
  rw [this] at h;cases h
end
section
variable {X:Cx}{XE:St->XK}
noncomputable def dAugI (i:Nat) (dk de:DE) (f:Int->Int->Int):DS:=fun ds e=>∃ xs,ds[i]?=some (.own xs)/\dk ds (fun k=>∃ n j u,k = .int n/\ixN xs.length n=some j/\xs[j]?=some (.int u)/\de ds (fun d=>∃ v,d = .int v/\e.nx (ds.set i (.own (xs.set j (.int (f u v)))))) (e.xc ds)) (e.xc ds)
end
section
variable {X:Cx}{XE:St->XK}
end
section
variable {X:Cx}{XE:St->XK}
theorem vH (hc:X.calm=true):Xn X (.builtin "sum") (fun xs H Q=>∃ (p:Addr) (ns:List Int),xs=[.ref p]/\SqL X.K H p (ns.map V.int)/\Q (.int ns.sum) H):=by
 intro pins s σ H xs us Q I r h
 obtain ⟨p,ns,rfl,hq,q⟩:=h
 obtain ⟨u,rfl,ru⟩:=vals1 r
 cases ru
 obtain ⟨its,rv,pl,hz⟩:=I.list hq
 have hi:IntsAre its ns:=intsAre_of rv
 obtain ⟨xs,hx⟩:=hi.allInts.items
 have hl':s.heap.IsList p (intItems xs):=hx ▸ pl.isList
 refine sum_intListG (I.ok.hd hc) hl' fun h' tk t' hk=>?_
 have e1:ns=xs.toList.map (·.1):=by
  rw [<-nums_intItems,<-hx]
  exact (show numsOf its.toArray.toList=ns from hi.numsOf).symm
 have e2:preSum (numAt xs) xs.size=ns.sum:=by
  rw [preSum_eq,List.take_of_length_le (by simp),e1]
 rw [e2]
 exact ⟨.int ns.sum,H,I.kept (h':=h') (t':=tk) hk,⟨_,rfl⟩,q⟩
noncomputable def Nu:List D->Option (List Int)
 | []=>some []
 | .int i::r=>(Nu r).map (i :: ·)
 | _::_=>none
theorem Mi {K:aj}{H:Hp}:∀ {xs:List D}{bs:List Int}{vs:List V},Nu xs=some bs->Rps K H xs vs->vs=bs.map V.int
 | [],_,_,e,r=>by cases e;exact r
 | d::ds,bs,_,e,⟨v,us,z,h,h'⟩=>by
  cases d with
  | int b =>
   unfold Nu at e
   cases q:Nu ds with
   | none=>rw [q] at e;cases e
   | some cs =>
    rw [q] at e
    cases e
    rw [z,Mi q h',show v = .int b from h]
    rfl
  | _=>cases e
noncomputable def dSum:List D->(D->Prop)->Prop
 | [.lst xs]=>fun q=>∃ bs,Nu xs=some bs/\q (.int bs.sum)
 | _=>fun _=>False
theorem nH (hc:autoParam (X.calm=true) auR):TV X (.builtin "sum") dSum:=by
 refine ⟨_,vH hc,fun {H0 H vs xs q Q} s r h k=>?_⟩
 unfold dSum at h
 split at h
 ·obtain ⟨v,rfl,p,ws,rfl,h1,h2⟩:=Ud r
  obtain ⟨bs,e,hq⟩:=h
  rw [Mi e h2] at h1
  exact ⟨p,bs,rfl,SqL.of (s _ _ h1),k _ (.int _) _ _ (.refl s) rfl hq⟩
 ·exact h.elim
theorem ints_map (bs:List Int):Nu (bs.map .int)=some bs:=by
 induction bs with
 | nil=>rfl
 | cons b bs ih=>rw [map_cons,Nu,ih];rfl
theorem Ai {bs:List Int}{q:D->Prop}:dSum [.lst (bs.map .int)] q=q (.int bs.sum):=by
 show (∃ cs,Nu (bs.map .int)=some cs/\q (.int cs.sum))=_
 rw [ints_map]
 simp
end
structure FnB (K:aj) (mg:Str->Option Value) (x:Str) (st:Stmt) (ps:List Str) (f:Addr) (d:FuncData):Prop where
 F:Fun K x x st f d
 m:mg x=some (.ref f)
 a:Binds K d ps []
noncomputable def LkB (K:aj) (x:Str) (st:Stmt) (ps:List Str) (f:Addr):Prop:=PySem.W.nsIn K mainGlobals x=some (some (.ref f))/\∃ fd,Fun K x x st f fd/\Binds K fd ps []
theorem nI {K:aj}{x:Str}{st:Stmt}{ps:List Str}{f:Addr}{oc:Value}{od an:Option Addr}{osl:Array (Option Value)}{kV doc pm cdv ct:Value}(a:PySem.W.nsIn K mainGlobals x=some (some (.ref f)))
  (l:K.lookup f=some ⟨oc,od,.func (PySem.W.fnOf x x (Xh st) (Yd st) (Zf st) .none kV doc pm an cdv ct),osl⟩) (c:PySem.W.codeIn K cdv x=true) (k:keepIn K (.ref f)=true)
  (b:∀ (kV doc pm:Value) (an:Option Addr) (cdv ct:Value) (us:List Value),us.length=ps.length->bindArgs (PySem.W.fnOf x x (Xh st) (Yd st) (Zf st) .none kV doc pm an cdv ct) ⟨us,[]⟩=pure (ps.zip us)):LkB K x st ps f:=⟨a,_,PV l c k,(PV l c k).binds b⟩
theorem LkB.get {K:aj}{x:Str}{st:Stmt}{ps:List Str}{f:Addr}{h:Heap}{mg:Str->Option Value}(z:LkB K x st ps f) (X:K.In h) (G:h.Ns mainGlobals mg):∃ d,FnB K mg x st ps f d :=
 let ⟨a,d,F,b⟩:=z
 ⟨d,F,mg_of X G a,b⟩
structure ExB (K:aj) (mg:Str->Option Value) (x:Str) (C:Addr):Prop where
 M:mg x=some (.ref C)
 x:DN K C
 t:XTy K C
noncomputable def ExK (K:aj) (x:Str) (C:Addr):Prop:=PySem.W.nsIn K mainGlobals x=some (some (.ref C))/\DN K C/\XTy K C
theorem ExK.get {K:aj}{x:Str}{C:Addr}{h:Heap}{mg:Str->Option Value}(z:ExK K x C) (X:K.In h) (G:h.Ns mainGlobals mg):ExB K mg x C:=⟨mg_of X G z.1,z.2.1,z.2.2⟩
theorem nJ {K:aj}{x:Str}{C:Addr}(a:PySem.W.nsIn K mainGlobals x=some (some (.ref C))) (b:excIn K C [.type "ValueError",.type "Exception",.type "BaseException",.type "object"] "ValueError.__new__" = true)
  (c:findIn K (.ref C) "__getattribute__" = some (some (.builtin "BaseException.__getattribute__"))) (d:findIn K (.ref C) "__getattr__" = some none) (e:findIn K (.ref C) "__class__" = some (some (.builtin "object.__class__")))
  (f:mroIn K C (.type "object")=some true) (g:mroIn K C (.type "BaseException")=some true) (h:isClsIn K C=true):ExK K x C:=⟨a,⟨b⟩,⟨c,d,e,f,g,h⟩⟩
section
variable {X:Cx}{XE:St->XK}{k:Nat}{f:Addr}{fd:FuncData}{ps:List Str}{x:Str}{st:Stmt}{e:Expr}{es:List Expr}
theorem Zg {g:DSp}{p pos:Pos}{da:DA}(F:ZE X.prog X.w X.K X.mg X.base (CXE X.prog X.w) k f fd ps (spD X.K g)) (B:FnB X.K X.mg x st ps f fd) (hr:Xq k X.A) (hx:Xa X XE) (ha:JAs X XE (e::es) da) (hg:autoParam (Gl X x) auR)
  (hst:autoParam (Yb (e::es)=true) auR) (hdb:autoParam ((x == ("__debug__" : Str))=false) auD):JE X XE (.Call (.Name x p) (e::es) [] pos) (dCall g da):=tN F hr hg B.m B.F.kp B.a hx ha hst hdb
end
theorem us1 {α:Type}{P:List α->Prop}(h:∀ a,P [a]):∀ us,us.length=1->P us | [a],_=>h a
theorem us2 {α:Type}{P:List α->Prop}(h:∀ a b,P [a,b]):∀ us,us.length=2->P us | [a,b],_=>h a b
theorem us3 {α:Type}{P:List α->Prop}(h:∀ a b c,P [a,b,c]):∀ us,us.length=3->P us | [a,b,c],_=>h a b c
theorem us4 {α:Type}{P:List α->Prop}(h:∀ a b c d,P [a,b,c,d]):∀ us,us.length=4->P us | [a,b,c,d],_=>h a b c d
theorem us5 {α:Type}{P:List α->Prop}(h:∀ a b c d e,P [a,b,c,d,e]):∀ us,us.length=5->P us | [a,b,c,d,e],_=>h a b c d e
theorem us6 {α:Type}{P:List α->Prop}(h:∀ a b c d e f,P [a,b,c,d,e,f]):∀ us,us.length=6->P us | [a,b,c,d,e,f],_=>h a b c d e f
section
variable {P:Program}{w:World}{A:Around}{E:Value->Shared->Prop}{s:Shared}
end
section
variable {P:Program}{w:World}{A:Around}{E:Value->Shared->Prop}{s:Shared}
end
section
variable {X:Cx}{XE:St->XK}
end
section
variable {X:Cx}{XE:St->XK}
noncomputable def qV (i:Nat) (dO de:DE):DS:=fun ds e=>∃ a μ,ds[i]?=some (.st a μ)/\dO ds (fun o=>∃ b xs,o = .rf b/\μ.lookup b=some (.lst xs)/\xs.length < aA/\de ds (fun d=>e.nx (ds.set i (.st a (μ.put b (.lst (xs++[d])))))) (e.xc ds)) (e.xc ds)
theorem rC (i:Nat) {t e:Expr}{dO de:DE}{apos dpos pos:Pos}(ht:JE X XE t dO) (he:JE X XE e de)
  (hst':autoParam (noStar e=true) auR) (hbase:autoParam (attributeBase t "append" X.env (eval t X.env)=eval t X.env) auR)
  (hfew:autoParam (((backTo dpos (starEach [e] X.env)).all (fun x => !x.1) && (backToKw dpos (keywordEach [] X.env)).all (fun x=>x.1.isSome)
   && decide ([e].length + ([]:List Keyword).length + (if ([]:List Keyword).isEmpty then 0 else 1) < 30))=true) auR)
  (hline:autoParam ((apos.endLine == dpos.line)=true) auR) (hs:autoParam (starEach [e] X.env=(false,eval e X.env)::starEach [] X.env) auR) (hplain:autoParam ((backTo dpos (starEach [] X.env)).any (·.1)=false) auR)
  (hsw:autoParam (swapsWith (.Call (.Attribute t "append" apos) [e] [] dpos) none pos.line X.env=pure false) auR) :
  JS X XE (.Expr (.Call (.Attribute t "append" apos) [e] [] dpos) pos) (qV i dO de):=by
 obtain ⟨te,p1,d1⟩:=he.ex
 obtain ⟨to,p3,d3⟩:=ht.ex
 refine ⟨_,SA (Jp PySem.F.plainAttrs_list PySem.F.slot_list_append PySem.F.type_list_append SJ p3 (Ma p1 Ua hst') hbase hfew hline hs hplain) hsw,fun {B0 B H0 H σ ds e T} c h o=>?_⟩
 obtain ⟨a,μ,hi,h⟩:=h
 refine d3 c h (fun ov od H1 H2 e1 ro h=>?_) (o.kx c)
 obtain ⟨b,xs,rfl,hl,hlen,h⟩:=h
 have c1:=c.go e1
 obtain ⟨h0,u',h1,vs,rfl,h2⟩:=(c1.slot i _ hi).2 b _ hl
 rw [show ov = .ref b from ro]
 refine ⟨.inl ⟨rfl,vs,SqL.of h1⟩,?_⟩
 refine d1 c1 h (fun v d H3 H4 e2 r h=>?_) ((o.kx c).go e1.s)
 have c2:=c1.go e2
 obtain ⟨_,u2,h1',vs',rfl,h2'⟩:=(c2.slot i _ hi).2 b _ hl
 refine ⟨b,vs',v,rfl,rfl,h1',by rw [h2'.length];exact hlen,?_⟩
 exact o.nx _ _ _ _ (c2.putS hi hl (m := .lst (xs++[d])) ⟨_,rfl,h2'.snoc r⟩) h
theorem Cfg.layM {K:aj}{B0 B H0 H H0' H':Hp}{σ:St}{ds:DSt}(c:Cfg K B0 B H0 H σ ds) (i:Nat) {a:Addr}{μ:Mu}(e:Ext H0 H H0' H') (hμ:∀ b m,μ.lookup b=some m->H b=none/\H0' b=none/\∃ u,H' b=some u/\Ec K H0' m u):Cfg K B0 B H0' H' (σ.set i (some (.ref a))) (ds.set i (.st a μ)) :=
 (c.go e).lay i (s := .st a μ) ⟨rfl,fun b m l=>(hμ b m l).2⟩ (fun b ⟨m,l⟩=>c.ext.s.free (hμ b m l).1) fun b j t _ q ⟨m,l⟩ g=>(c.SK q g).2 (hμ b m l).1
noncomputable def qW (i:Nat) (da:DSt->(List D->List D->Prop)->(Addr->Prop)->Prop):DS:=fun ds e=>da ds (fun xs ys=>xs.length < aA/\∀ a b,a≠b->e.nx (ds.set i (.st a [(a,.lst (xs++[.rf b])),(b,.lst ys)]))) (e.xc ds)
theorem rD {i:Nat}{x:Str}{es:List Expr}{da:DSt->(List D->List D->Prop)->(Addr->Prop)->Prop}{lpos pos pos':Pos}(hN:X.N.Nodup) (hi:X.N[i]?=some x) (hx:Loc X.env.scope x) (ha:JN X XE es da) (hs:autoParam (swapsWith (.List es lpos) (some (.Name x pos')) pos.line X.env=pure false) auR)
  (hf:X.fn x=true\/X.env.scope.names.lookup x=some .local:=by first | exact .inl rfl | exact .inr rfl | assumption):JS X XE (.Assign [.Name x pos'] (.List es lpos) pos) (qW i da):=by
 obtain ⟨ta,p1,d1⟩:=ha.ex
 refine ⟨_,PQ hN hi hx (DC p1) hs hf,fun {B0 B H0 H σ ds e T} c h o=>?_⟩
 refine d1 c h (fun vs b us xs ys H1 H2 e' n n0 hb r1 r2 hq=>⟨by rw [length_append,r2.length];exact hq.1,fun a hp=>?_⟩) (o.kx c)
 have ne:a≠b:=fun z=>by rw [z] at hp;rw [hp] at hb;cases hb
 have a0:H1 a=none:=e'.sub.free hp
 refine o.nx _ _ _ _ (c.layM i (e'.trans (.grow e'.sub (Zw.upd hp))) fun c' m l=>?_) (hq.2 a b ne)
 rw [lookup_cons] at l
 by_cases z:c'=a
 ·subst z
  simp at l
  subst l
  exact ⟨e'.s.free hp,a0,_,Zy,_,rfl,r2.snoc (d := .rf b) rfl⟩
 ·have:(c' == a)=false:=by simpa using z
  rw [this] at l
  obtain ⟨rfl,rfl⟩:=Ct l
  exact ⟨n,n0,_,by rw [Zq z];exact hb,us,rfl,r1⟩
theorem Cfg.addS {K:aj}{B0 B H0 H:Hp}{σ:St}{ds:DSt}(c:Cfg K B0 B H0 H σ ds) {i:Nat}{a b:Addr}{μ:Mu}{m:MO}{o:HO}(q:ds[i]?=some (.st a μ)) (hb:H0 b=none) (ho:H b=some o) (h:Ec K H0 m o) (hB:B b=none) (hn:∀ (j:Nat) (t:Slot),ds[j]?=some t->¬ t.foot ((σ[j]?).getD none) b):Cfg K B0 B H0 H σ (ds.set i (.st a ((b,m)::μ))):=by
 have old:=c.slot i _ q
 have es:σ.set i (some (.ref a))=σ:=by
  refine List.ext_getElem? fun j=>?_
  rw [List.getElem?_set]
  split
  ·rename_i e
   subst e
   have hs:σ[i]?=some (some (.ref a)):=VG old.1
   split
   ·rw [hs]
   ·rename_i z;rw [List.getElem?_eq_none (by omega)] at hs;cases hs
  ·rfl
 have lk:∀ b' m',((b,m)::μ:Mu).lookup b'=some m'->(b'=b/\m'=m)\/μ.lookup b'=some m':=fun b' m' l=>by
  rw [lookup_cons] at l
  by_cases z:b'=b
  ·subst z;simp at l;exact .inl ⟨rfl,l.symm⟩
  ·have:(b' == b)=false:=by simpa using z
   rw [this] at l;exact .inr l
 have:=c.lay i (s := .st a ((b,m)::μ)) (o:=some (.ref a)) ⟨rfl,fun b' m' l=>?_⟩ (fun b' ⟨m',l⟩=>?_) fun b' j t ne qj ⟨m',l⟩ g=>?_
 ·rwa [es] at this
 ·rcases lk b' m' l with ⟨rfl,rfl⟩ | l
  ·exact ⟨hb,o,ho,h⟩
  ·exact old.2 b' m' l
 ·rcases lk b' m' l with ⟨rfl,rfl⟩ | l
  ·exact hB
  ·exact c.young i _ b' q ⟨m',l⟩
 ·rcases lk b' m' l with ⟨rfl,rfl⟩ | l
  ·exact hn j t qj g
  ·exact c.sep j i t _ b' ne qj q g ⟨m',l⟩
noncomputable def qX (i:Nat) (df:DA) (dO dk:DE):DS:=fun ds e=>∃ a μ,ds[i]?=some (.st a μ)/\df ds (fun ys=>dO ds (fun o=>dk ds (fun k=>∃ b xs n j,o = .rf b/\k = .int n/\μ.lookup b=some (.lst xs)/\ixN xs.length n=some j/\∀ c,μ.lookup c=none->e.nx (ds.set i (.st a ((c,.lst ys)::μ.put b (.lst (xs.set j (.rf c))))))) (e.xc ds)) (e.xc ds)) (e.xc ds)
theorem rE (i:Nat) {t k e:Expr}{df:DA}{dO dk:DE}{ipos pos:Pos}(ht:JE X XE t dO) (hk:JE X XE k dk) (he:JF X XE e df)
  (ha:∀ v,assign (.Subscript t k ipos) X.env v=(do
   let ov <- holding [v] (eval t X.env)
   let iv <- holding [v,ov] (eval k X.env)
   standAt ipos
   holding [v,ov,iv] (setItem ov iv v)
   release [v,ov,iv] []):=by intro _;rfl)
  (hs:autoParam (swapsWithSole [.Subscript t k ipos] e pos.line X.env=pure false) auR) (hw:autoParam (swappedStores [.Subscript t k ipos] e X.env=pure none) auR)
  (h1:autoParam ((assignEach [.Subscript t k ipos] X.env).map (·.2)=[assign (.Subscript t k ipos) X.env]) auR) :
  JS X XE (.Assign [.Subscript t k ipos] e pos) (qX i df dO dk):=by
 obtain ⟨tk,p2,d2⟩:=hk.ex
 obtain ⟨te,p1,d1⟩:=he.ex
 obtain ⟨to,p3,d3⟩:=ht.ex
 refine ⟨_,Jl p1 (yG p3 p2 set_list ha) hs hw h1,fun {B0 B H0 H σ ds e T} c h o=>?_⟩
 obtain ⟨r,μ,hi,h⟩:=h
 refine d1 c h (fun a vs ys H1 H2 e' n n0 hv ry h=>?_) (o.kx c)
 refine d3 (c.go e') h (fun ov od H3 H4 e2 ro h=>d2 (c.go (e'.trans e2)) h (fun kv kd H5 H6 e3 rk h=>?_) ((o.kx c).go (e'.trans e2).s)) ((o.kx c).go e'.s)
 obtain ⟨b,xs,m,j,rfl,rfl,hl,ij,hq⟩:=h
 have e4:=(e'.trans e2).trans e3
 have e5:=e2.trans e3
 have c4:=c.go e4
 obtain ⟨h0,u',h1,ws,rfl,h2⟩:=(c4.slot i _ hi).2 b _ hl
 have hvn:H2 a≠none:=by rw [hv];simp
 have a5:H5 a=none:=e5.new a n0 hvn
 have a6:H6 a=some (.lst vs):=e5.s _ _ hv
 have lk:μ.lookup a=none:=by
  cases w:μ.lookup a with
  | none=>rfl
  | some m'=>exact ((c.SK hi ⟨m',w⟩).2 n).elim
 have nab:b≠a:=fun z=>by rw [z,lk] at hl;cases hl
 refine ⟨b,ws,m,j,ro,rk,h1,by rw [h2.length];exact ij,?_⟩
 have c5:=c4.putS hi hl (m := .lst (xs.set j (.rf a))) (o := .lst (ws.set j (.ref a))) ⟨_,rfl,Rps.set (d := .rf a) rfl j h2⟩
 have hi5:(ds.set i (.st r (μ.put b (.lst (xs.set j (.rf a))))))[i]?=some (.st r (μ.put b (.lst (xs.set j (.rf a))))):=by
  rw [List.getElem?_set_self (List.getElem?_eq_some_iff.mp hi).1]
 have c6:=c5.addS (b:=a) (m := .lst ys) (o := .lst vs) hi5 a5 (by rw [Zq (Ne.symm nab)];exact a6) ⟨_,rfl,ry.same e5.s0⟩ (c.ext.s.free n) (fun j' t' q' g=>?_)
 ·rw [List.set_set] at c6
  exact o.nx _ _ _ _ c6 (hq a lk)
 ·by_cases z:j'=i
  ·subst z
   rw [hi5] at q'
   cases q'
   obtain ⟨m',w⟩:=g
   rw [Mu.Xx hl,if_neg (Ne.symm nab),lk] at w
   cases w
  ·rw [getElem?_set_ne (Ne.symm z)] at q'
   exact (c.SK q' g).2 n
noncomputable def Mu.del (μ:Mu) (b:Addr):Mu:=μ.filter fun x=>decide (x.1≠b)
theorem Mu.Od (μ:Mu) (b c:Addr):(μ.del b).lookup c=if c=b then none else μ.lookup c:=by
 induction μ with
 | nil=>unfold Mu.del;simp
 | cons x μ ih =>
  obtain ⟨k,m⟩:=x
  unfold Mu.del at ih ⊢
  rw [filter_cons]
  by_cases z:k=b
  ·subst z
   rw [if_neg (by simp),ih]
   by_cases y:c=k
   ·rw [if_pos y,if_pos y]
   ·have:(c == k)=false:=by simpa using y
    rw [if_neg y,if_neg y,lookup_cons,this]
  ·rw [if_pos (by simpa using z),lookup_cons,lookup_cons,ih]
   by_cases y:c=k
   ·subst y
    rw [if_neg z]
    simp [z]
   ·have:(c == k)=false:=by simpa using y
    rw [this]
theorem Cfg.frzB {K:aj}{B0 B H0 H:Hp}{σ:St}{ds:DSt}(c:Cfg K B0 B H0 H σ ds) {i:Nat}{a b:Addr}{μ:Mu}{m:MO}{o:HO}(q:ds[i]?=some (.st a μ)) (l:μ.lookup b=some m) (h2:H b=some o) :
  Cfg K B0 B (upd H0 b o) H σ (ds.set i (.st a (μ.del b)))/\Zw H0 (upd H0 b o):=by
 have hi:i < ds.length:=(List.getElem?_eq_some_iff.mp q).1
 have f:(Slot.st a μ).foot ((σ[i]?).getD none) b:=⟨m,l⟩
 obtain ⟨h1,hn⟩:=c.SK q f
 have s01:Zw H0 (upd H0 b o):=Zw.upd h1
 have hB:=c.young i _ b q f
 have sub1:Zw (upd H0 b o) H:=fun b' o' z=>by
  by_cases hb:b'=b
  ·subst hb;rw [Zy] at z;rw [h2];exact z
  ·rw [Zq hb] at z;exact c.sub _ _ z
 have sh:∀ b',(Slot.st a (μ.del b)).foot ((σ[i]?).getD none) b'->(Slot.st a μ).foot ((σ[i]?).getD none) b':=fun b' ⟨m',z⟩=>by
  rw [Mu.Od] at z
  split at z
  ·cases z
  ·exact ⟨m',z⟩
 have was:∀ (j:Nat) (t:Slot),(ds.set i (.st a (μ.del b)))[j]?=some t->∃ t',ds[j]?=some t'/\∀ b',t.foot ((σ[j]?).getD none) b'->t'.foot ((σ[j]?).getD none) b':=fun j t r=>by
  rw [XO hi] at r
  split at r
  ·rename_i z
   cases r
   rw [z]
   exact ⟨_,q,sh⟩
  ·exact ⟨t,r,fun _ z=>z⟩
 refine ⟨⟨⟨c.ext.s,c.ext.s0.trans s01,sub1,fun b' z n=>?_⟩,fun j t r=>?_,fun j t b' r x=>?_,fun j k t u b' nj r y x z=>?_,by rw [length_set];exact c.len⟩,s01⟩
 ·rw [Zq (fun y=>n (by rw [y];exact hB))]
  exact c.ext.new b' z n
 ·rw [XO hi] at r
  split at r
  ·rename_i z
   cases r
   have old:=c.slot i _ q
   rw [z]
   refine ⟨old.1,fun b' m' w=>?_⟩
   rw [Mu.Od] at w
   split at w
   ·cases w
   ·rename_i ne
    obtain ⟨g1,u,g2,g3⟩:=old.2 b' m' w
    exact ⟨by rw [Zq ne];exact g1,u,g2,g3.same s01⟩
  ·rename_i z
   have old:=c.slot j t r
   have na:∀ b',t.foot ((σ[j]?).getD none) b'->b'≠b:=fun b' x y=>c.sep j i t _ b z r q (y ▸ x) f
   cases t with
   | un=>trivial
   | v d=>obtain ⟨v,z1,z2⟩:=old;exact ⟨v,z1,z2.same s01⟩
   | own ys =>
    obtain ⟨b',us,f1,f2,f3,f4⟩:=old
    exact ⟨b',us,f1,by rw [Zq (na b' f1)];exact f2,f3,f4.same s01⟩
   | ob b' dx C gs =>
    obtain ⟨us,f1,f2,f3,f4⟩:=old
    exact ⟨us,f1,by rw [Zq (na b' f1)];exact f2,f3,f4.same s01⟩
   | od gs =>
    obtain ⟨b',us,f1,f2,f3,f4⟩:=old
    exact ⟨b',us,f1,by rw [Zq (na b' f1)];exact f2,f3,f4.same s01⟩
   | st b'' μ' =>
    refine ⟨old.1,fun b' m l=>?_⟩
    obtain ⟨g1,u,g2,g3⟩:=old.2 b' m l
    exact ⟨by rw [Zq (na b' ⟨m,l⟩)];exact g1,u,g2,g3.same s01⟩
 ·obtain ⟨t',r',k⟩:=was j t r
  exact c.young j t' b' r' (k b' x)
 ·obtain ⟨t',r',k1⟩:=was j t r
  obtain ⟨u',y',k2⟩:=was k u y
  exact c.sep j k t' u' b' nj r' y' (k1 b' x) (k2 b' z)
noncomputable def qY (i j:Nat) (dE:DE):DS:=fun ds e=>∃ a μ zs,ds[i]?=some (.st a μ)/\ds[j]?=some (.own zs)/\zs.length < aA/\dE ds (fun o=>∃ b ys,o = .rf b/\μ.lookup b=some (.lst ys)/\e.nx ((ds.set i (.st a (μ.del b))).set j (.own (zs++[.lst ys])))) (e.xc ds)
theorem rF (i j:Nat) (hij:i≠j) {e:Expr}{y:Str}{de:DE}{apos bpos dpos pos:Pos}(he:JE X XE e de)
  (hN:autoParam (X.N[j]?=some y) auR) (hv:Vis X.env.scope y:=by first | exact Or.inl rfl | exact Or.inr (Or.inl rfl) | exact Or.inr (Or.inr rfl))
  (hst':autoParam (noStar e=true) auR) (hbase:autoParam (attributeBase (.Name y bpos) "append" X.env (eval (.Name y bpos) X.env)=eval (.Name y bpos) X.env) auR)
  (hfew:autoParam (((backTo dpos (starEach [e] X.env)).all (fun x => !x.1) && (backToKw dpos (keywordEach [] X.env)).all (fun x=>x.1.isSome)
   && decide ([e].length + ([]:List Keyword).length + (if ([]:List Keyword).isEmpty then 0 else 1) < 30))=true) auR)
  (hline:autoParam ((apos.endLine == dpos.line)=true) auR) (hs:autoParam (starEach [e] X.env=(false,eval e X.env)::starEach [] X.env) auR) (hplain:autoParam ((backTo dpos (starEach [] X.env)).any (·.1)=false) auR)
  (hsw:autoParam (swapsWith (.Call (.Attribute (.Name y bpos) "append" apos) [e] [] dpos) none pos.line X.env=pure false) auR) (hd:autoParam ((y == ("__debug__" : Str))=false) auD) (hcd:autoParam ((y == ("__classdict__" : Str))=false) auD) :
  JS X XE (.Expr (.Call (.Attribute (.Name y bpos) "append" apos) [e] [] dpos) pos) (qY i j de):=by
 obtain ⟨te,p1,d1⟩:=he.ex
 refine ⟨_,SA (Jp PySem.F.plainAttrs_list PySem.F.slot_list_append PySem.F.type_list_append SJ (pv j hN hv hd hcd) (Ma p1 Ua hst') hbase hfew hline hs hplain) hsw,fun {B0 B H0 H σ ds e T} c h o=>?_⟩
 obtain ⟨a,μ,zs,hi,hj,hl,h⟩:=h
 obtain ⟨l,us,e1,f1,f2,f3⟩:=c.slot j _ hj
 refine ⟨.ref l,VG e1,.inl ⟨rfl,us,SqL.of f2⟩,?_⟩
 refine d1 c h (fun v od H1 H2 x1 ro h=>?_) (o.kx c)
 obtain ⟨b,ys,rfl,hb,hq⟩:=h
 have c1:=c.go x1
 obtain ⟨h0,u',h1,ws,rfl,h2⟩:=(c1.slot i _ hi).2 b _ hb
 rw [show v = .ref b from ro]
 obtain ⟨c2,s2⟩:=c1.frzB hi hb h1
 have hj2:(ds.set i (.st a (μ.del b)))[j]?=some (.own zs):=by rw [getElem?_set_ne hij];exact hj
 obtain ⟨l',us',e1',f1',f2',f3'⟩:=c2.slot j _ hj2
 rw [e1] at e1'
 cases e1'
 refine ⟨l,us',_,rfl,rfl,f2',by rw [f3'.length];exact hl,?_⟩
 obtain ⟨a',us2,g1,g2,g3,g4⟩:=c2.push (ys:=zs++[.lst ys]) hj2
 rw [e1] at g1
 cases g1
 exact o.nx _ _ _ _ (g4 _ _ _ (.refl c2.sub) (f3'.snoc (d := .lst ys) ⟨b,ws,rfl,Zy,h2.same s2⟩)) hq
theorem Cu:MtR X "str.isupper" (fun x xs H Q=>∃ y,x = .str y/\xs=[]/\Q (.bl (Txt.isupper y)) H):=by
 intro pins s σ H x xs v us Q I rx r h
 obtain ⟨y,rfl,rfl,q⟩:=h
 obtain ⟨t,rfl⟩:=rx
 cases r.zero
 exact call_gives F.slot_str_isupper (typeIs_str _ _ _) F.entry_str_isupper (F.args_str_isupper_1 _) (gives_str_isupper y t) ⟨.bl _,H,I.tok _,rfl,q⟩
noncomputable def dUpp:D->List D->(D->Prop)->Prop
 | .str y,[]=>fun q=>q (.bl (Txt.isupper y))
 | _,_=>fun _=>False
theorem Oe:JMt X "str" "str.isupper" dUpp:=by
 refine ⟨_,Cu,fun {H0 H v vs d xs q Q} s r rs h k=>?_⟩
 unfold dUpp at h
 split at h
 ·exact ⟨_,r,rs,k _ (.bl _) _ _ (.refl s) rfl h⟩
 ·exact h.elim
theorem zL (hc:X.calm=true):Xn X (.builtin "max") (fun xs H Q=>∃ (p:Addr) (ns:List Int),xs=[.ref p]/\SqL X.K H p (ns.map V.int)/\0 < ns.length/\∀ M,M∈ns->(∀ a,a∈ns->a<=M)->Q (.int M) H):=by
 intro pins s σ H xs us Q I r h
 obtain ⟨p,ns,rfl,hq,hne,q⟩:=h
 obtain ⟨u,rfl,ru⟩:=vals1 r
 cases ru
 obtain ⟨its,rv,pl,hz⟩:=I.list hq
 have hi:IntsAre its ns:=intsAre_of rv
 obtain ⟨xs,hx⟩:=hi.allInts.items
 have hl':s.heap.IsList p (intItems xs):=hx ▸ pl.isList
 have e1:ns=xs.toList.map (·.1):=by
  rw [<-nums_intItems,<-hx]
  exact (show numsOf its.toArray.toList=ns from hi.numsOf).symm
 have hsz:0 < xs.size:=by
  have h3:=hne;rw [e1,length_map,Array.length_toList] at h3;exact h3
 refine max_intList (I.ok.hd hc) hl' hsz fun v h' tk hv hk=>?_
 obtain ⟨t,rfl⟩:=intItems_at hv
 obtain ⟨h1,h2⟩:=argBest_gt (numAt xs) (xs.size - 1)
 refine ⟨.int _,H,I.kept (h':=h') (t':=tk) hk,⟨_,rfl⟩,q _ ?_ fun a ha=>?_⟩
 ·rw [e1,numAt_eq];exact getD_mem (by rw [length_map,Array.length_toList];omega)
 ·rw [e1] at ha
  obtain ⟨j,hj,rfl⟩:=mem_getD ha
  rw [length_map,Array.length_toList] at hj
  rw [<-numAt_eq];exact h2 j (by omega)
noncomputable def vI:List D->(D->Prop)->Prop
 | [.lst xs]=>fun q=>∃ bs,Nu xs=some bs/\0 < bs.length/\∀ M,M∈bs->(∀ a,a∈bs->a<=M)->q (.int M)
 | _=>fun _=>False
theorem rG (hc:autoParam (X.calm=true) auR):TV X (.builtin "max") vI:=by
 refine ⟨_,zL hc,fun {H0 H vs xs q Q} s r h k=>?_⟩
 unfold vI at h
 split at h
 ·obtain ⟨v,rfl,p,ws,rfl,h1,h2⟩:=Ud r
  obtain ⟨bs,e,hn,hq⟩:=h
  rw [Mi e h2] at h1
  exact ⟨p,bs,rfl,SqL.of (s _ _ h1),hn,fun M a b=>k _ (.int _) _ _ (.refl s) rfl (hq M a b)⟩
 ·exact h.elim
noncomputable def isPr (H:Hp) (p:Int × Int):Value->Bool
 | .ref a=>match H a with
  | some (.tup [.int x,.int y])=>decide (x=p.1/\y=p.2)
  | _=>false
 | _=>false
theorem zM (hu:X.A.units + 100 < cLine):MtR X "list.index" (fun x vs H Q=>∃ (l t:Addr) (us:List V) (ps:List (Int × Int)) (p:Int × Int),x = .ref l/\vs=[.ref t]/\SqL X.K H l us/\us.length=ps.length/\(∀ (i:Nat) q,ps[i]?=some q->∃ a,us[i]?=some (.ref a)/\SqT X.K H a [.int q.1,.int q.2]/\H a=some (.tup [.int q.1,.int q.2]))/\SqT X.K H t [.int p.1,.int p.2]/\p∈ps/\Q (.int (ps.idxOf p:Nat)) H):=by
 intro pins s σ H x vs v us' Q I rx rv h
 obtain ⟨l,t,us,ps,p,rfl,rfl,hq,el,hp,ht,hm,q⟩:=h
 obtain ⟨u,rfl,ru⟩:=vals1 rv
 cases rx
 cases ru
 obtain ⟨its,r',⟨o,n,e,hc,hd,hdat⟩,hz⟩:=I.list hq
 have el':=r'.length
 obtain ⟨c0,d0,x0,sl0⟩:=o
 simp only at hc hd hdat
 subst hc hd hdat
 have lt:=idxOf_lt_length_of_mem hm
 have hget:∀ i (h:i < its.toArray.size),∃ a,its.toArray[i] = .ref a/\SqT X.K H a [.int (ps[i]'(by simp at h;omega)).1,.int (ps[i]'(by simp at h;omega)).2]/\isPr H p (.ref a)=decide (ps[i]'(by simp at h;omega)=p):=fun i h=>by
  have h':i < its.length:=by simpa using h
  have hi:i < ps.length:=by omega
  obtain ⟨a,z1,z2,z3⟩:=hp i _ (aC hi)
  obtain ⟨w,z4,z5⟩:=r'.get z1
  cases z5
  refine ⟨a,?_,z2,?_⟩
  ·rw [aC h'] at z4
   simpa using Option.some.inj z4
  ·show (match H a with | some (.tup [.int x,.int y])=>decide (x=p.1/\y=p.2) | _=>false)=_
   rw [z3]
   simp only
   congr 1
   exact propext ⟨fun z=>Prod.ext z.1 z.2,fun z=>by rw [z];exact ⟨rfl,rfl⟩⟩
 have hsz:its.toArray.size=ps.length:=by simp;omega
 have hsl:aA=16777216:=rfl
 refine call_meets PySem.F.slot_list_index ⟨_,e,rfl⟩ PySem.F.entry_list_index (PySem.F.args_list_index_2 _ _) (SeqAt.list_indexAt l its.toArray n _ _ _ (isPr H p) (ps.idxOf p) (by rw [hsz];exact lt) (by omega) ?_ (fun m hm hlt=>?_)) ⟨e,fun y hy=>?_,⟨.int (ps.idxOf p:Nat),H,I.tok _,⟨_,rfl⟩,q⟩⟩
 ·obtain ⟨a,z,_,z2⟩:=hget _ (by rw [hsz];exact lt)
  rw [z,z2,getElem_idxOf lt]
  simp
 ·obtain ⟨a,z,_,z2⟩:=hget m hm
  rw [z,z2]
  refine decide_eq_false fun e=>?_
  have:=List.not_of_lt_findIdx (p:=(· == p)) (xs:=ps) hlt
  simp [e] at this
 ·obtain ⟨i,hi,rfl⟩:=Array.mem_iff_getElem.mp hy
  obtain ⟨a,z,z1,z2⟩:=hget i hi
  rw [z,z2]
  refine xC I 1 (x := .ref a) (y := .ref t) ?_ rfl rfl ?_
  ·refine .inr ⟨a,t,_,_,rfl,rfl,.inl ⟨z1,ht⟩,?_⟩
   have e0:∀ i j:Int,EqN X.K H 0 (.int i) (.int j) (decide (i=j)):=fun i j => .inl ⟨rfl,rfl,by unfold eqV;rw [Bool.eq_iff_iff];simp⟩
   have:=EqL.cons (e0 (ps[i]'(by simp at hi;omega)).1 p.1) (EqL.cons (e0 (ps[i]'(by simp at hi;omega)).2 p.2) EqL.nil)
   have eb:decide (ps[i]'(by simp at hi;omega)=p)=(decide ((ps[i]'(by simp at hi;omega)).1=p.1) && (decide ((ps[i]'(by simp at hi;omega)).2=p.2) && true)):=by
    rw [Bool.and_true,<-Bool.decide_and]
    congr 1
    exact propext ⟨fun z=>by rw [z];exact ⟨rfl,rfl⟩,fun z=>Prod.ext z.1 z.2⟩
   rw [eb]
   exact this
  ·simp
   omega
noncomputable def ED:List D->Option (List (Int × Int))
 | []=>some []
 | .tup [.int a,.int b]::r=>(ED r).map ((a,b) :: ·)
 | _::_=>none
theorem qZ {K:aj}{H:Hp}{a b:Int}{v:V}(r:Rp K H (.tup [.int a,.int b]) v):∃ t,v = .ref t/\H t=some (.tup [.int a,.int b]):=by
 obtain ⟨t,ws,rfl,h1,h2⟩:=r
 obtain ⟨u,u',rfl,e1,e2⟩:=xO h2
 rw [show u = .int a from e1,show u' = .int b from e2] at h1
 exact ⟨t,rfl,h1⟩
theorem vJ {K:aj}{H:Hp}:∀ {xs:List D}{ps:List (Int × Int)}{vs:List V},ED xs=some ps->Rps K H xs vs->vs.length=ps.length/\∀ (i:Nat) q,ps[i]?=some q->∃ a,vs[i]?=some (.ref a)/\H a=some (.tup [.int q.1,.int q.2]):=by
 intro xs
 induction xs with
 | nil =>
  intro ps vs e r
  cases e
  rw [show vs=[] from r]
  exact ⟨rfl,fun i q z=>by cases z⟩
 | cons d ds ih =>
  intro ps vs e r
  obtain ⟨v,us,rfl,h,h'⟩:=r
  unfold ED at e
  split at e
  ·rename_i z;cases z
  ·rename_i a b r' z
   cases z
   cases w:ED ds with
   | none=>rw [w] at e;cases e
   | some ps' =>
    rw [w] at e
    cases e
    obtain ⟨l,k⟩:=ih w h'
    obtain ⟨t,rfl,ht⟩:=qZ h
    refine ⟨by rw [length_cons,length_cons,l],fun i q z=>?_⟩
    cases i with
    | zero=>cases z;exact ⟨t,rfl,ht⟩
    | succ i=>exact k i q z
  ·cases e
theorem rH (ps:List (Int × Int)):ED (ps.map fun p => .tup [.int p.1,.int p.2])=some ps:=by
 induction ps with
 | nil=>rfl
 | cons p ps ih=>rw [map_cons,ED,ih];rfl
noncomputable def Fb:D->List D->(D->Prop)->Prop
 | .lst xs,[.tup [.int w,.int k]]=>fun q=>∃ ps,ED xs=some ps/\(w,k)∈ps/\q (.int (ps.idxOf (w,k):Nat))
 | _,_=>fun _=>False
theorem zN (hu:X.A.units + 100 < cLine):JMt X "list" "list.index" Fb:=by
 refine ⟨_,zM hu,fun {H0 H v vs d xs q Q} s r rs h k=>?_⟩
 unfold Fb at h
 split at h
 ·obtain ⟨u,rfl,e⟩:=Ud rs
  obtain ⟨p,ws,rfl,h1,h2⟩:=r
  obtain ⟨ps,e1,l,hq⟩:=h
  obtain ⟨t,rfl,ht⟩:=qZ e
  obtain ⟨el,ep⟩:=vJ e1 h2
  exact ⟨p,t,ws,ps,_,rfl,rfl,SqL.of (s _ _ h1),el,fun i q z=>by obtain ⟨a,z1,z2⟩:=ep i q z;exact ⟨a,z1,SqT.of (s _ _ z2),s _ _ z2⟩,SqT.of (s _ _ ht),l,k _ (.int _) _ _ (.refl s) rfl hq⟩
 ·exact h.elim
noncomputable def Aj (g g' g2:D->D->(D->Prop)->Prop) (da db dc dd:DE):DE:=fun ds q x=>da ds (fun a=>db ds (fun b=>g a b fun z=>∃ k,z = .bl k/\if k=true then dc ds (fun c=>g' b c fun z'=>∃ k',z' = .bl k'/\if k'=true then dd ds (fun d=>g2 c d q) x else q (.bl false)) x else q (.bl false)) x) x
theorem vK {a b c d:Expr}{da db dc dd:DE}{op op' op2:CmpOp}{pos:Pos}{g g' g2:D->D->(D->Prop)->Prop}(ho:JOp X (compareOp op) g) (ho':JOp X (compareOp op') g') (ho2:JOp X (compareOp op2) g2) (ha:JE X XE a da) (hb:JE X XE b db) (hc:JE X XE c dc) (hd:JE X XE d dd)
  (hm:lastMarks [op,op',op2] [b,c,d]=false:=by with_unfolding_all rfl):JE X XE (.Compare a [op,op',op2] [b,c,d] pos) (Aj g g' g2 da db dc dd):=by
 obtain ⟨r,o,l⟩:=ho.ex
 obtain ⟨r',o',l'⟩:=ho'.ex
 obtain ⟨r2,o2,l2⟩:=ho2.ex
 obtain ⟨ta,p1,d1⟩:=ha.ex
 obtain ⟨tb,p2,d2⟩:=hb.ex
 obtain ⟨tc,p3,d3⟩:=hc.ex
 obtain ⟨td,p4,d4⟩:=hd.ex
 refine ⟨_,zc o o' o2 p1 p2 p3 p4 hm,fun c h k kx=>?_⟩
 refine d1 c h (fun v a H1 H2 e r1 h=>d2 (c.go e) h (fun u b H3 H4 e' r2 h'=>?_) (kx.go e.s)) kx
 refine l (c.go (e.trans e')).sub (r1.same e'.s0) r2 h' fun z d H5 H6 e2 r3 zq=>?_
 obtain ⟨kk,ek,hk⟩:=zq
 subst ek
 refine ⟨kk,r3,?_⟩
 have e3:=(e.trans e').trans e2
 cases kk with
 | true =>
  rw [if_pos rfl] at hk ⊢
  refine d3 (c.go e3) hk (fun w' cc H7 H8 e4 r4 h4=>l' (c.go (e3.trans e4)).sub (r2.same (e2.trans e4).s0) r4 h4 fun z d H9 Ha e5 r5 zq=>?_) (kx.go e3.s)
  obtain ⟨kk,ek,hk⟩:=zq
  subst ek
  refine ⟨kk,r5,?_⟩
  have e6:=(e3.trans e4).trans e5
  cases kk with
  | true =>
   rw [if_pos rfl] at hk ⊢
   exact d4 (c.go e6) hk (fun w2 cd Hb Hc e7 r7 h7=>l2 (c.go (e6.trans e7)).sub (r4.same (e5.trans e7).s0) r7 h7 (k.go (e6.trans e7))) (kx.go e6.s)
  | false =>
   rw [if_neg aD] at hk ⊢
   exact k _ (.bl false) _ _ e6 rfl hk
 | false =>
  rw [if_neg aD] at hk ⊢
  exact k _ (.bl false) _ _ e3 rfl hk
noncomputable def pd (de:DE) (dk:DE):DE:=fun ds q x=>de ds (fun a=>dk ds (fun k=>k = .int (-1)/\∃ xs,a = .lst xs/\q (.lst xs.reverse)) x) x
theorem rJ {e k:Expr}{de dk:DE}{pos p2:Pos}(he:JE X XE e de) (hk:JE X XE k dk) (hsub:∀ a b:Addr,∃ ops,subscripted (.Slice none none (some k) p2) false (.ref a) (.ref b)=operate ops (getItem (.ref a) (.ref b)):=by intro a b;exact ⟨_,by with_unfolding_all rfl⟩):JE X XE (.Subscript e (.Slice none none (some k) p2) pos) (pd de dk):=by
 obtain ⟨ta,p1,d1⟩:=he.ex
 obtain ⟨tk,p3,d3⟩:=hk.ex
 refine ⟨fun σ H Q=>ta σ H fun x H1=>qt tk σ H1 fun y H2=>y=some (-1)/\∃ a xs,x = .ref a/\SqL X.K H2 a xs/\∀ p,H2 p=none->Q (.ref p) (upd H2 p (.lst xs.reverse)),?_,fun c h kq kx=>d1 c h (fun v a H1 H2 e r h=>d3 (c.go e) h (fun u b H3 H4 e' r' h'=>?_) (kx.go e.s)) kx⟩
 ·intro pins s σ H Q I h
  refine Subscript_ (thn (p1 pins s σ H _ I h) fun v s1 zq=>?_)
  obtain ⟨x,H1,I1,r1,q1⟩:=zq
  refine wpAny_Slice ?_
  rw [evalPart_none]
  refine ao (ao ?_)
  refine thn (Bp p3 pins s1 σ H1 _ I1 q1) fun vk s3 zq=>?_
  obtain ⟨o,H3,I3,pk,q3⟩:=zq
  obtain ⟨rfl,a,xs,rfl,hx,hq⟩:=q3
  cases r1
  have I4:Inv X pins σ H3 { s3 with heap:=s3.heap.push { cls := .type "slice",data := .fields #[.none,.none,vk] } }:=I3.kept (t':=s3.toks) fun b ob q=>aq _ q
  show wpAny (model X.prog X.w) X.A (subscriptTail e (.Slice none none (some k) p2) (.ref a) (.ref s3.heap.objs.size)) (EP X pins σ Q) X.xe { s3 with heap:=s3.heap.push { cls := .type "slice",data := .fields #[.none,.none,vk] } }
  obtain ⟨its,r,ht,hz⟩:=I4.list hx
  have hlen:its.toArray.size=xs.length:=by rw [size_toArray];exact r.length.symm
  obtain ⟨ops,hops⟩:=hsub a s3.heap.objs.size
  refine tail_any (ops:=ops) ht.isList.typeIs slot_list_getitem.lookup ?_ hops
  refine wpAny_getItem_list_slice ht.isList (Heap.IsSliceOf.new ..) .none .none pk (by simp) ?_ (by rw [hlen];exact hz)
  rw [PySem.W.krv_pick]
  refine ⟨.ref _,_,I4.laid (t':=s3.toks) (o := .lst xs.reverse) (fun b ob q=>aq _ q) (Nat.le_refl _) ?_,rfl,hq _ (I4.hok.fresh (Nat.le_refl _))⟩
  exact ⟨by rw [List.length_reverse];exact hz,_,0,Vals.reverse r,au _ rfl⟩
 ·obtain ⟨rfl,xs,rfl,hq⟩:=h'
  have e3:=e.trans e'
  have s3:=(c.go e3).sub
  obtain ⟨p,vs,rfl,h5,h6⟩:=r.same e'.s0
  exact ⟨_,r',rfl,p,vs,rfl,SqL.of (s3 _ _ h5),fun l hl=>kq _ (.lst _) _ _ (e3.trans (.put s3 hl)) (Vt (Rps.rev h6) (s3.free hl)) hq⟩
end
inductive Tg0 {α:Type}(a:α):Type
 | mk
noncomputable def cutF (s:DS) (e:Wp) (_:Tg0 s) (_:Tg0 e) (ds:DSt):Prop:=dCut s ds e
theorem rK {s:DS}{e:Wp}{ds:DSt}:dCut s ds e=cutF s e .mk .mk ds:=rfl
noncomputable def forF (di:DI) (g:DG) (b:DS) (e:Wp) (_:Tg0 di) (_:Tg0 g) (_:Tg0 b) (_:Tg0 e) (ds:DSt):Prop:=dFor di g b ds e
theorem rL {di:DI}{g:DG}{b:DS}{e:Wp}{ds:DSt}:dFor di g b ds e=forF di g b e .mk .mk .mk .mk ds:=rfl
noncomputable def nK (pk:List Nat) (c:DT) (b:DS) (e:Wp) (_:Tg0 c) (_:Tg0 b) (_:Tg0 e) (ds:DSt):Prop:=Ce pk c b ds e
theorem zO {pk:List Nat}{c:DT}{b:DS}{e:Wp}{ds:DSt}:Ce pk c b ds e=nK pk c b e .mk .mk .mk ds:=rfl
noncomputable def loopF (g:DG) (b:DS) (e:Wp) (_:Tg0 g) (_:Tg0 b) (_:Tg0 e) (xs:List D) (ds:DSt):Prop:=Ug g b e xs ds
theorem vL {g:DG}{b:DS}{e:Wp}{xs:List D}{ds:DSt}:Ug g b e xs ds=loopF g b e .mk .mk .mk xs ds:=rfl
section
variable {K:aj}{H0 H H1 H2 H3 H4:Hp}{μ μ':Mu}
theorem Lv.pre (e:Ext H0 H H1 H2) (l:Lv K μ μ' H1 H2 H3 H4):Lv K μ μ' H0 H H3 H4 :=
 ⟨fun b o n z=>l.s b o n (e.s _ _ z),e.s0.trans l.s0,l.sub,fun b n z y=>l.new b n (e.new b z y) (fun w=>y (e.s.free w)),l.ok,fun b m z=>(l.old b m z).imp id fun w=>e.s.free w⟩
theorem Lv.there (l:Lv K μ μ' H0 H H1 H2) {b:Addr}(n:μ.lookup b=none) (y:H b≠none):H2 b≠none:=by
 cases z:H b with
 | none=>exact absurd z y
 | some o=>rw [l.s b o n z];simp
theorem Lv.post (l:Lv K μ μ' H0 H H1 H2) (e:Ext H1 H2 H3 H4):Lv K μ μ' H0 H H3 H4:=by
 refine ⟨fun b o n z=>e.s _ _ (l.s b o n z),l.s0.trans e.s0,e.sub,fun b n z y=>e.new b (l.new b n z y) (l.there n y),fun b m z=>?_,l.old⟩
 obtain ⟨h1,u,h2,h3⟩:=l.ok b m z
 exact ⟨e.new b h1 (by rw [h2];simp),u,e.s _ _ h2,h3.same e.s0⟩
end
abbrev DW:=DSt->(D->Mu->Prop)->(Addr->Prop)->Prop
noncomputable def DenW (K:aj) (XE:St->XK) (te:TE) (j:Nat) (de:DW):Prop:=∀ {B0 B H0 H:Hp}{σ:St}{ds:DSt}{a:Addr}{μ:Mu}{q:D->Mu->Prop}{x:Addr->Prop}{Q:VK},Cfg K B0 B H0 H σ ds->ds[j]?=some (.st a μ)->de ds q x ->
 (∀ v d μ' H0' H',Lv K μ μ' H0 H H0' H'->Rp K H0' d v->q d μ'->Q v H')->KX XE σ H x->te σ H Q
structure JWe (X:Cx) (XE:St->XK) (j:Nat) (e:Expr) (de:DW):Prop where
 ex:∃ te,PE X e te/\DenW X.K XE te j de
noncomputable def LZ (g:DG) (da:DA) (p:Nat) (gs:Mh) (q:List D->Mu->Prop):List D->DSt->Mu->List D->Prop
 | [],_,μ,acc=>q acc μ
 | x::xs,ds,μ,acc=>g x ds fun ds1=>da ds1 (fun as=>(∃ a,as[p]?=some (.rf a))/\gs as μ fun d μ'=>acc.length < aA/\LZ g da p gs q xs ds1 μ' (acc++[d])) (fun _=>False)
noncomputable def Ka (n:Nat) (fr:List Nat) (ds:DSt):DSt:=replicate n .un++fr.map fun j=>match ds[j]? with
 | some (.v d) => .v d
 | some (.st a _) => .v (.rf a)
 | _ => .un
theorem univA {ι:Type}{Xf:ι->Cx}{K:aj}{es:List Expr}{da:DA}(hK:∀ z,(Xf z).K=K) (h:∀ z,JAs (Xf z) XN es da):∃ ta,(∀ z,PA (Xf z) es ta)/\xE K XN ta da:=by
 refine ⟨fun σ H Q=>∃ B0 B H0 ds q,Cfg K B0 B H0 H σ ds/\da ds q (fun _=>False)/\∀ vs xs H0' H',Ext H0 H H0' H'->Rps K H0' xs vs->q xs->Q vs H',fun z=>?_,fun c hd k kx=>?_⟩
 ·intro pos pins s σ H Q I hh
  obtain ⟨B0,B,H0,ds,q,c,hd,k⟩:=hh
  obtain ⟨te,p,d⟩:=(h z).ex
  have kk:=hK z
  subst kk
  exact p pos pins s σ H Q I (d c hd k fun _ _ _ h=>h.elim)
 ·rw [xY kx] at hd
  exact ⟨_,_,_,_,_,c,hd,k⟩
section
variable {X:Cx}{XE:St->XK}
theorem rM (j:Nat) {e:Expr}{de:DW}{pos:Pos}(he:JWe X XE j e de):JS X XE (.Return (some e) pos) (fun ds en=>∃ a μ,ds[j]?=some (.st a μ)/\de ds (fun d μ'=>en.rb d (ds.set j (.st a μ'))) (en.xc ds)):=by
 obtain ⟨te,p,d⟩:=he.ex
 refine ⟨_,Dq p,fun {B0 B H0 H σ ds e T} c h o=>?_⟩
 obtain ⟨a,μ,hj,h⟩:=h
 exact d c hj h (fun v a' μ' H2 H3 l r h=>o.rb v a' H2 H3 _ _ (c.goS (a':=a) hj l) r h) (o.kx c)
theorem rN (j:Nat) {e1 e2:Expr}{x1}{pos:Pos}{d1:DE}{d2:DW}(h1:JE X XE e1 d1) (h2:JWe X XE j e2 d2) (hs1:autoParam (noStar e1=true) auR) (hs2:autoParam (noStar e2=true) auR):JWe X XE j (.Tuple [e1,e2] x1 pos) (fun ds q x=>d1 ds (fun a=>d2 ds (fun b μ'=>q (.tup [a,b]) μ') x) x):=by
 obtain ⟨t1,p1,k1⟩:=h1.ex
 obtain ⟨t2,p2,k2⟩:=h2.ex
 refine ⟨_,yR (Ma p1 (Ma p2 Ua hs2) hs1),fun c hj h k kx=>k1 c h (fun v a H1 H2 e r h=>k2 (c.go e) hj h (fun u b μ' H3 H4 l r' hq=>?_) (kx.go e.s)) kx⟩
 refine ⟨by show 2<=aA;decide,fun p hp=>?_⟩
 exact k _ (.tup [a,b]) μ' _ _ ((Lv.pre e l).post (.put l.sub hp)) (Mb ⟨v,[u],rfl,r.same l.s0,u,[],rfl,r',rfl⟩ (l.sub.free hp)) hq
theorem rO (j:Nat) {x:Str}{p pos:Pos}{e:Expr}{de:DW}(hg:Gl X x) (hm:X.mg x=none) (hv:bootBuiltins x=some (.type "tuple")) (he:JWe X XE j e de)
  (hs:autoParam (noStar e=true) auR) (hst:autoParam (Yb [e]=true) auR) (hn:autoParam (x≠("__name__" : Str)) auD) (hdb:autoParam ((x == ("__debug__" : Str))=false) auD):JWe X XE j (.Call (.Name x p) [e] [] pos) (fun ds q x=>de ds (fun d μ'=>JB [d] fun d'=>q d' μ') x):=by
 obtain ⟨r,o,l⟩:=(Qc (X:=X)).ex
 obtain ⟨te,p1,d1⟩:=he.ex
 exact ⟨_,xu o hg hm hv (Ma p1 Ua hs) hst hn hdb,fun c hj h k kx=>d1 c hj h (fun v d μ' H1 H2 lv rv hq=>l lv.sub (show Rps X.K H1 [d] [v] from ⟨v,[],rfl,rv,rfl⟩) hq fun v' d' H3 H4 e' r' h'=>k v' d' μ' H3 H4 (lv.post e') r' h') kx⟩
end
theorem vM {K:aj}{B0 B H0 H H':Hp}{σ:St}{ds:DSt}{μ:Mu}(c:Cfg K B0 B H0 H σ ds) (s:Zw H H') (n:Nat) (fr:List Nat) :
  ∃ Bm:Hp,(∀ b,μ.lookup b=none->Bm b=H b)/\(∀ b,μ.lookup b≠none->Bm b=none)/\Cfg K H0 Bm H0 H' (pre n fr σ) (Ka n fr ds)/\TY (Ka n fr ds):=by
 classical
 have no:TY (Ka n fr ds):=fun i s e=>by
  unfold Ka at e
  by_cases h:i < n
  ·rw [getElem?_append_left (by rw [length_replicate];exact h),getElem?_replicate,if_pos h] at e
   cases e;rfl
  ·rw [getElem?_append_right (by rw [length_replicate];omega),length_replicate,getElem?_map] at e
   cases q:fr[i - n]? with
   | none=>rw [q] at e;cases e
   | some j =>
    rw [q] at e
    cases e
    dsimp only
    split <;> rfl
 refine ⟨fun b=>if μ.lookup b=none then H b else none,fun b e=>if_pos e,fun b e=>if_neg e,⟨⟨fun b o z=>?_,.refl _,c.sub.trans s,fun _ z _=>z⟩,fun i t e=>?_,fun i t a e w=>?_,fun i j t u a _ e _ w=>?_,?_⟩,no⟩
 ·have z:(if μ.lookup b=none then H b else none)=some o:=z
  split at z
  ·exact s _ _ z
  ·cases z
 ·rw [xX]
  unfold Ka at e
  by_cases h:i < n
  ·rw [getElem?_append_left (by rw [length_replicate];exact h),getElem?_replicate,if_pos h] at e
   cases e;trivial
  ·rw [if_neg h]
   rw [getElem?_append_right (by rw [length_replicate];omega),length_replicate,getElem?_map] at e
   cases q:fr[i - n]? with
   | none=>rw [q] at e;cases e
   | some j =>
    rw [q] at e
    cases e
    dsimp only [Option.map_some,Option.getD_some]
    split
    ·rename_i d qd
     obtain ⟨v,e1,r⟩:=c.slot j _ qd
     exact ⟨v,e1,r⟩
    ·rename_i a m qd
     exact ⟨.ref a,(c.slot j _ qd).1,rfl⟩
    ·trivial
 ·have:=no i t e;rw [Slot.YQ w] at this;cases this
 ·have:=no i t e;rw [Slot.YQ w] at this;cases this
 ·unfold pre Ka
  simp
theorem Cfg.goN {K:aj}{B0 B H0 H H0' H':Hp}{σ:St}{ds:DSt}{μ μ':Mu}(c:Cfg K B0 B H0 H σ ds) (n:TY ds) (y:∀ b,μ.lookup b≠none->B b=none) (l:Lv K μ μ' H0 H H0' H'):Cfg K B0 B H0' H' σ ds:=by
 have nb:∀ b,B b≠none->μ.lookup b=none:=fun b z=>by
  cases w:μ.lookup b with
  | none=>rfl
  | some m=>exact absurd (y b (by rw [w];simp)) z
 refine ⟨⟨fun b o z=>l.s b o (nb b (by rw [z];simp)) (c.ext.s _ _ z),c.ext.s0.trans l.s0,l.sub,fun b z w=>l.new b (nb b w) (c.ext.new b z w) (fun v=>w (c.ext.s.free v))⟩,fun i t q=>?_,fun i t a q f=>?_,fun i j t u a _ q _ f=>?_,c.len⟩
 ·have old:=c.slot i t q
  have w:=n i t q
  cases t with
  | un=>trivial
  | v d=>obtain ⟨v,e1,r⟩:=old;exact ⟨v,e1,r.same l.s0⟩
  | own _=>cases w
  | ob _ _ _ _=>cases w
  | od _=>cases w
  | st _ _=>cases w
 ·have:=n i t q;rw [Slot.YQ f] at this;cases this
 ·have:=n i t q;rw [Slot.YQ f] at this;cases this
section
variable {X:Cx}{XE:St->XK}
noncomputable def Cv (j n:Nat) (fr:List Nat) (di:DI) (g:DG) (da:DA) (p:Nat) (gs:Mh):DW:=fun ds q x=>∃ a μ,ds[j]?=some (.st a μ)/\di ds (fun xs=>LZ g da p gs (fun ys μ'=>q (.lst ys) μ') xs (Ka n fr ds) μ []) x
theorem zP {K:aj}{wi:TI}{t:TG}{ta:TA}{di:DI}{g:DG}{da:DA}{p:Nat}{gs:Mh}(j n:Nat) (fr:List Nat) (d0:DenI K XE wi di) (d1:Eo K t g) (d3:xE K XN ta da):DenW K XE (Bu n fr wi t (fun σ H Q=>Q true H) (Js (spS K p gs) XN ta)) j (Cv j n fr di g da p gs):=by
 intro B0 B H0 H σ ds a μ q x Q c hj h k kx
 obtain ⟨a',μ0,hj',h⟩:=h
 rw [hj] at hj'
 cases hj'
 refine d0 c h (fun J xs H1 H2 e1 w h=>fun Dd hD=>?_) kx
 have c1:=c.go e1
 obtain ⟨Bm,m1,m2,c2,no2⟩:=vM (μ:=μ) c1 (Zw.upd (o := .lst []) hD) n fr
 have hD1:H1 Dd=none:=e1.sub.free hD
 have hmu:=(c1.slot j _ hj).2
 have hDm:μ.lookup Dd=none:=by
  cases z:μ.lookup Dd with
  | none=>rfl
  | some m=>obtain ⟨_,u,z1,_⟩:=hmu Dd m z;rw [hD] at z1;cases z1
 have hBD:Bm Dd=none:=by rw [m1 Dd hDm];exact hD
 refine ⟨fun i m σ' H'=>m=xs.length - i/\i<=xs.length/\∃ H0' ds' acc vs μ',Cfg K H1 Bm H0' H' σ' ds'/\TY ds'/\H0' Dd=none/\H' Dd=some (.lst vs)/\Rps K H0' acc vs/\Cq K H0' H' μ'/\(∀ b,μ'.lookup b≠none->Bm b=none)/\μ'.lookup Dd=none/\LZ g da p gs (fun ys μ'=>q (.lst ys) μ') (xs.drop i) ds' μ' acc,⟨_,rfl,Nat.zero_le _,H1,_,[],[],μ,c2,no2,hD1,Zy,rfl,fun b m z=>?_,m2,hDm,h⟩,?_⟩
 ·obtain ⟨z1,u,z2,z3⟩:=hmu b m z
  exact ⟨z1,u,by rw [Zq (fun y=>by rw [y,hDm] at z;cases z)];exact z2,z3⟩
 rintro i m σ' H' ⟨rfl,hi,H0',ds',acc,vs,μ',c',no',n',hv,r',hm',y',hDm',hl⟩
 obtain ⟨w1,w2⟩:=w i H0' H' c'.ext.s0 c'.sub
 by_cases hi2:i < xs.length
 ·right
  obtain ⟨go,yld⟩:=w1 hi2
  rw [drop_eq_getElem_cons hi2] at hl
  unfold LZ at hl
  refine ⟨go,fun σ2 H4=>∃ H0'' ds2 acc2 vs2 μ2,Cfg K H1 Bm H0'' H4 σ2 ds2/\TY ds2/\H0'' Dd=none/\H4 Dd=some (.lst vs2)/\Rps K H0'' acc2 vs2/\Cq K H0'' H4 μ2/\(∀ b,μ2.lookup b≠none->Bm b=none)/\μ2.lookup Dd=none/\LZ g da p gs (fun ys μ'=>q (.lst ys) μ') (xs.drop (i + 1)) ds2 μ2 acc2,fun σ2 H4 zz=>⟨_,by omega,rfl,hi2,zz⟩,fun y H4 z=>?_⟩
  obtain ⟨H5,e5,d,ed,rd⟩:=yld y H4 z
  rw [aC hi2] at ed
  cases ed
  have hne:H' Dd≠none:=by rw [hv];simp
  refine d1 (c'.go e5) rd hl fun σ2 ds2 c2 kp h2=>?_
  have no2:=no'.keeps kp
  have n5:H5 Dd=none:=e5.new Dd n' hne
  have v5:H4 Dd=some (.lst vs):=e5.s _ _ hv
  show Js (spS K p gs) XN ta σ2 H4 _
  refine d3 c2 h2 (fun us as H8 H9 e8 r8 h8=>?_) (fun _ _ _ h=>h.elim)
  obtain ⟨⟨aa,hp⟩,h8⟩:=h8
  have n8:H8 Dd=none:=e8.new Dd n5 (by rw [v5];simp)
  have v8:H9 Dd=some (.lst vs):=e8.s _ _ v5
  have e58:=e5.trans e8
  have hm8:Cq K H8 H9 μ':=fun b m z=>by
   obtain ⟨z1,u,z2,z3⟩:=hm' b m z
   exact ⟨e58.new b z1 (by rw [z2];simp),u,e58.s _ _ z2,z3.same e58.s0⟩
  refine ⟨H8,as,aa,μ',_,e8.sub,r8,hp,hm8,h8,fun v d μ2 H0'' H'' l rv hq=>?_⟩
  have nD:H0'' Dd=none:=l.new Dd hDm' n8 (by rw [v8];simp)
  have vD:H'' Dd=some (.lst vs):=l.s Dd _ hDm' v8
  have c3:=(c2.go e8).goN no2 y' l
  have yD:μ2.lookup Dd=none:=by
   cases z:μ2.lookup Dd with
   | none=>rfl
   | some m =>
    rcases l.old Dd m z with w | w
    ·exact absurd hDm' w
    ·rw [v8] at w;cases w
  have ra:=(r'.same e58.s0).same l.s0
  refine ⟨vs,vD,by rw [ra.length];exact hq.1,H0'',ds2,acc++[d],vs++[v],μ2,c3.aside no2 hBD nD,no2,nD,Zy,ra.snoc rv,fun b m z=>?_,fun b z=>?_,yD,hq.2⟩
  ·obtain ⟨z1,u,z2,z3⟩:=l.ok b m z
   exact ⟨z1,u,by rw [Zq (fun y=>by rw [y,yD] at z;cases z)];exact z2,z3⟩
  ·cases w:μ2.lookup b with
   | none=>exact absurd w z
   | some m =>
    rcases l.old b m w with w | w
    ·exact y' b w
    ·exact (c2.go e8).ext.s.free w
 ·left
  have hx:xs.drop i=[]:=List.drop_eq_nil_of_le (by omega)
  rw [hx] at hl
  have nbm:∀ b,μ.lookup b=none->H2 b≠none->Bm b≠none:=fun b z y=>by rw [m1 b z];exact y
  refine ⟨w2 (by omega),k (.ref Dd) (.lst acc) μ' (upd H0' Dd (.lst vs)) H' (Lv.pre e1 ⟨fun b o z y=>c'.ext.s _ _ (by rw [m1 b z];exact y),c'.ext.s0.trans (Zw.upd n'),fun b o z=>?_,fun b z y w=>?_,fun b m z=>?_,fun b m z=>?_⟩) ⟨Dd,vs,rfl,Zy,r'.same (Zw.upd n')⟩ hl⟩
  ·by_cases hb:b=Dd
   ·subst hb;rw [Zy] at z;rw [hv];exact z
   ·rw [Zq hb] at z;exact c'.sub _ _ z
  ·rw [Zq (fun v=>w (by rw [v];exact hD))]
   exact c'.ext.new b y (nbm b z w)
  ·obtain ⟨z1,u,z2,z3⟩:=hm' b m z
   exact ⟨by rw [Zq (fun y=>by rw [y,hDm'] at z;cases z)];exact z1,u,z2,z3.same (Zw.upd n')⟩
  ·have:=y' b (by rw [z];simp)
   cases w:μ.lookup b with
   | some m0=>left;simp
   | none=>right;rw [<-m1 b w];exact this
theorem rP (j p:Nat) {np cpos pos:Pos}{e:Expr}{es:List Expr}{tg iter:Expr}{own:Scope}{y:Str}(ts Nc:List Str) (fr:List Nat) {di:DI}{g:DG}{da:DA}{gs:Mh}{k:Nat}{f:Addr}{fd:FuncData}{ps:List Str}(hi:JI X XE tg iter di)
  (hg:∀ z,JG (Zx X own (ts++Nc) z) tg g) (ha:∀ z,JAs (Zx X own (ts++Nc) z) XN (e::es) da)
  (F:ZE X.prog X.w X.K X.mg X.base (CXE X.prog X.w) k f fd ps (spS X.K p gs)) (hr:Xq k X.A) (hgl:∀ z,Gl (Zx X own (ts++Nc) z) y) (hm:X.mg y=some (.ref f)) (hk:keepIn X.K (.ref f)=true) (hb:Binds X.K fd ps []) (hx:∀ z,Xa (Zx X own (ts++Nc) z) XN)
  (hst:autoParam (Yb (e::es)=true) auR) (hdb:autoParam ((y == ("__debug__" : Str))=false) auD) (hc:autoParam (X.calm=true) auR) (c:autoParam (SE own X.env.scope Nc=true) auR) (hN:autoParam (fr.map (X.N[·]?)=Nc.map some) auR)
  (hs:∀ x,foldedSetIterable iter X.env x=pure x:=by intro _;rfl):JWe X XE j (.ListComp (.Call (.Name y np) (e::es) [] cpos) [⟨tg,iter,[],0⟩] own pos) (Cv j ts.length fr di g da p gs):=by
 obtain ⟨wi,p0,d0⟩:=hi.ex
 obtain ⟨t,p1,d1⟩:=xZ (Xf:=fun z=>Zx X own (ts++Nc) z) (K:=X.K) (fun _=>rfl) hg
 obtain ⟨ta,p3,d3⟩:=univA (Xf:=fun z=>Zx X own (ts++Nc) z) (K:=X.K) (fun _=>rfl) ha
 exact ⟨_,Bv ts Nc fr p0 p1 (fun _=>xq) (fun z=>(KZ (X:=Zx X own (ts++Nc) z) F hr (hgl z) hm hk hb (hx z) ⟨p3 z⟩ hst hdb).get) hc c hN hs,zP j _ fr d0 d1 d3⟩
end
end L2
namespace My
open PySem L2 MA
local macro_rules | `(tactic| walk_at "sc") => `(tactic| exact ⟨rfl, rfl, rfl, by decide +kernel, rfl, by decide +kernel, by decide +kernel⟩)
noncomputable def top (i:Nat):Stmt:=PySem.Challenge.pw_kbestwood_k22_the_first_fault.main.body.getD i (.Pass ⟨0,0,0,0⟩)
abbrev YK:Stmt:=inClass (top 33) 0
theorem Mj:Zo ["self", "title", "head", "parts", "weight", "tag", "under"] ["self", "title", "head", "parts", "weight", "tag", "under"] (Zf YK):=by walk_at "sc"
abbrev Yl:Stmt:=inClass (top 34) 0
theorem Pq:Zo ["self", "scale", "start", "rules"] ["self", "scale", "start", "rules"] (Zf Yl):=by walk_at "sc"
abbrev Xc:Stmt:=inClass (top 49) 0
theorem Kl:Zo ["self", "places", "edges"] ["self", "places", "edges"] (Zf Xc):=by walk_at "sc"
abbrev XG:Stmt:=inClass (top 19) 2
theorem IM:Zo ["self", "weight"] ["self", "weight"] (Zf XG):=by walk_at "sc"
abbrev Xd:Stmt:=inClass (top 20) 2
theorem Km:Zo ["self", "weight"] ["self", "weight"] (Zf Xd):=by walk_at "sc"
abbrev Og:Stmt:=top 21
abbrev SX:List Str:=["word"]
theorem EE:Zo ["word"] SX (Zf Og):=by walk_at "sc"
abbrev Um:Stmt:=top 27
abbrev Wq:List Str:=["sign"]
theorem Kn:Zo ["sign"] Wq (Zf Um):=by walk_at "sc"
abbrev Ml:Stmt:=top 28
abbrev QN:List Str:=["text"]
theorem Cw:Zo ["text"] QN (Zf Ml):=by walk_at "sc"
abbrev Mm:Stmt:=top 29
abbrev QO:List Str:=["text"]
theorem Cy:Zo ["text"] QO (Zf Mm):=by walk_at "sc"
abbrev Mo:Stmt:=top 30
abbrev QP:List Str:=["text"]
theorem Cz:Zo ["text"] QP (Zf Mo):=by walk_at "sc"
abbrev Qh:Stmt:=top 31
abbrev UY:List Str:=["parts"]
theorem Fd:Zo ["parts"] UY (Zf Qh):=by walk_at "sc"
abbrev SY:Stmt:=top 32
abbrev VI:List Str:=["titles"]
theorem IP:Zo ["titles"] VI (Zf SY):=by walk_at "sc"
abbrev YC:Stmt:=top 35
abbrev Ye:List Str:=["scale", "rules"]
theorem Yx:Zo ["scale", "rules", "titles", "rule"] Ye (Zf YC):=by walk_at "sc"
abbrev Xy:Stmt:=top 36
abbrev YR:List Str:=["rules"]
theorem Xs:Zo ["rules", "titles", "rule"] YR (Zf Xy):=by walk_at "sc"
abbrev Tn:Stmt:=top 37
abbrev Vd:List Str:=["start", "rules"]
theorem Uo:Zo ["start", "rules", "heads", "rule"] Vd (Zf Tn):=by walk_at "sc"
abbrev Tp:Stmt:=top 38
abbrev Ve:List Str:=["rules"]
theorem Qi:Zo ["rules", "heads"] Ve (Zf Tp):=by walk_at "sc"
abbrev WL:Stmt:=top 39
abbrev XH:List Str:=["rules"]
theorem ZY:Zo ["rules", "steps", "waiting", "order", "ready", "held"] XH (Zf WL):=by walk_at "sc"
abbrev Qj:Stmt:=top 40
abbrev UZ:List Str:=["grammar", "number", "above"]
theorem Nv:Zo ["grammar", "number", "above", "under"] UZ (Zf Qj):=by walk_at "sc"
abbrev Ra:Stmt:=top 42
abbrev VJ:List Str:=["grammar", "net", "tree"]
theorem Yq:Zo ["grammar", "net", "tree", "place", "waiting", "part", "above", "thing", "fault"] VJ (Zf Ra):=by walk_at "sc"
abbrev Rb:Stmt:=top 43
abbrev VL:List Str:=["grammar", "kind", "above", "thing"]
theorem Tq:Zo ["grammar", "kind", "above", "thing", "number", "kids"] VL (Zf Rb):=by walk_at "sc"
abbrev Rc:Stmt:=top 44
abbrev VM:List Str:=["net", "word", "place", "thing"]
theorem IQ:Zo ["net", "word", "place", "thing"] VM (Zf Rc):=by walk_at "sc"
abbrev Ts:Stmt:=top 45
abbrev Vf:List Str:=["grammar", "tree"]
theorem Uq:Zo ["grammar", "tree", "number", "kids"] Vf (Zf Ts):=by walk_at "sc"
abbrev Oh:Stmt:=top 47
abbrev Re:List Str:=["thing"]
theorem EF:Zo ["thing"] Re (Zf Oh):=by walk_at "sc"
abbrev Mp:Stmt:=top 48
abbrev QQ:List Str:=["edge", "places"]
theorem Ur:Zo ["edge", "places", "begin", "end", "word", "weight"] QQ (Zf Mp):=by walk_at "sc"
abbrev CA:Stmt:=top 51
abbrev Fe:List Str:=["_law_script", "_law_k"]
theorem rQ:Zo ["_law_script", "_law_k"] Fe (Zf CA):=by walk_at "sc"
abbrev Ff:Stmt:=top 52
abbrev Jc:List Str:=["_law_cell", "_law_k"]
theorem JV:Zo ["_law_cell", "_law_k", "_law_factor", "_law_number"] Jc (Zf Ff):=by walk_at "sc"
abbrev Mq:Stmt:=top 53
abbrev QR:List Str:=["_law_cell", "_law_many", "_law_firsts"]
theorem Xi:Zo ["_law_cell", "_law_many", "_law_firsts", "_law_rest", "_law_number", "_law_start", "_law_tail", "_law_size_here", "_law_at_here"] QR (Zf Mq):=by walk_at "sc"
abbrev Mr:Stmt:=top 54
abbrev QT:List Str:=["_law_script"]
theorem JX:Zo ["_law_script", "_law_many"] QT (Zf Mr):=by walk_at "sc"
abbrev Ms:Stmt:=top 55
abbrev QU:List Str:=["_law_script"]
theorem CB:Zo ["_law_script"] QU (Zf Ms):=by walk_at "sc"
abbrev Oi:Stmt:=top 56
abbrev Rf:List Str:=["_law_script"]
theorem EG:Zo ["_law_script"] Rf (Zf Oi):=by walk_at "sc"
abbrev Oj:Stmt:=top 57
abbrev Rg:List Str:=["_law_top", "_law_bottom"]
theorem Wk:Zo ["_law_top", "_law_bottom", "_law_one", "_law_other", "_law_kept"] Rg (Zf Oj):=by walk_at "sc"
abbrev Ol:Stmt:=top 58
abbrev Rh:List Str:=["_law_cell", "_law_k", "_law_scale"]
theorem Wl:Zo ["_law_cell", "_law_k", "_law_scale", "_law_m", "_law_top", "_law_bottom"] Rh (Zf Ol):=by walk_at "sc"
abbrev Mt:Stmt:=top 59
abbrev QV:List Str:=["_law_kinds_here", "_law_words_here", "_law_head", "_law_m"]
theorem Wf:Zo ["_law_kinds_here", "_law_words_here", "_law_head", "_law_m", "_law_size_here", "_law_some", "_law_k"] QV (Zf Mt):=by walk_at "sc"
abbrev Mv:Stmt:=top 60
abbrev QW:List Str:=["_law_script", "_law_scale"]
theorem ZF:Zo ["_law_script", "_law_scale", "_law_kinds_here", "_law_words_here", "_law_titles_here", "_law_rows", "_law_k", "_law_cell", "_law_m", "_law_tag", "_law_many", "_law_head", "_law_some", "_law_n", "_law_under"] QW (Zf Mv):=by walk_at "sc"
abbrev Om:Stmt:=top 61
abbrev Ri:List Str:=["_law_rows", "_law_number", "_law_above"]
theorem Kb:Zo ["_law_rows", "_law_number", "_law_above", "_law_under"] Ri (Zf Om):=by walk_at "sc"
abbrev Mw:Stmt:=top 62
abbrev QX:List Str:=["_law_rows", "_law_kind", "_law_above", "_law_room", "_law_state"]
theorem Ym:Zo ["_law_rows", "_law_kind", "_law_above", "_law_room", "_law_state", "_law_fitting", "_law_number", "_law_wide", "_law_chosen", "_law_kids", "_law_part", "_law_rest", "_law_count"] QX (Zf Mw):=by walk_at "sc"
abbrev JY:Stmt:=top 63
abbrev Nw:List Str:=["_law_script", "_law_scale", "_law_lists", "_law_plain"]
theorem YL:Zo ["_law_script", "_law_scale", "_law_lists", "_law_plain", "_law_places", "_law_edges", "_law_marks", "_law_which", "_law_k", "_law_cell", "_law_weight_here", "_law_last", "_law_spot"] Nw (Zf JY):=by walk_at "sc"
abbrev Fg:Stmt:=top 64
abbrev Jd:List Str:=["_law_tree", "_law_marks", "_law_which"]
theorem JZ:Zo ["_law_tree", "_law_marks", "_law_which", "_law_kids", "_law_kid"] Jd (Zf Fg):=by walk_at "sc"
abbrev Qk:Stmt:=top 65
abbrev Ta:List Str:=["_law_script", "_law_rooms"]
theorem ZR:Zo ["_law_script", "_law_rooms", "_law_scale", "_law_rows", "_law_shape", "_law_alike", "_law_lists", "_law_trees", "_law_state", "_law_room", "_law_places", "_law_edges", "_law_marks"] Ta (Zf Qk):=by walk_at "sc"
abbrev Ql:Stmt:=top 66
abbrev Tb:List Str:=["_law_scale", "_law_rows"]
theorem Ny:Zo ["_law_scale", "_law_rows", "_law_made"] Tb (Zf Ql):=by walk_at "sc"
abbrev Mx:Stmt:=top 67
abbrev QY:List Str:=["_law_rows", "_law_edges", "_law_tree", "_law_kind", "_law_above", "_law_at_here"]
theorem YX:Zo ["_law_rows", "_law_edges", "_law_tree", "_law_kind", "_law_above", "_law_at_here", "_law_k", "_law_kid", "_law_part", "_law_found"] QY (Zf Mx):=by walk_at "sc"
abbrev Fh:Stmt:=top 68
abbrev Je:List Str:=["_law_thing", "_law_spoil", "_law_rules_here", "_law_edges"]
theorem Ia:Zo ["_law_thing", "_law_spoil", "_law_rules_here", "_law_edges", "_law_some", "_law_odd_here"] Je (Zf Fh):=by walk_at "sc"
abbrev Qm:Stmt:=top 69
abbrev Tc:List Str:=["_law_thing", "_law_left", "_law_spoil", "_law_rules_here", "_law_edges"]
theorem Fi:Zo ["_law_thing", "_law_left", "_law_spoil", "_law_rules_here", "_law_edges"] Tc (Zf Qm):=by walk_at "sc"
abbrev Ib:Stmt:=top 70
abbrev Nz:List Str:=["_law_thing"]
theorem zQ:Zo ["_law_thing"] Nz (Zf Ib):=by walk_at "sc"
abbrev NB:Stmt:=top 71
abbrev vN:List Str:=["_law_script"]
theorem XQ:Zo ["_law_script", "_law_rooms", "_law_scale", "_law_rows", "_law_places", "_law_edges", "_law_trees", "_law_shape", "_law_tree", "_law_left", "_law_due", "_law_at_here", "_law_found"] vN (Zf NB):=by walk_at "sc"
abbrev Yi:Str := "abcdefghijklmnopqrstuvwxyz"
abbrev ZC:Str := "ABCDEFGHIJKLMNOPQRSTUVWXYZ"
abbrev Wm:Str := "0123456789"
set_option genSizeOf false in
set_option genInjectivity false in
structure Adr where
 VV:Addr
 TZ:Addr
 WM:Addr
 C_Twice:Addr
 WN:Addr
 Sa:Addr
 C_Ring:Addr
 C_NoNet:Addr
 C_Cost:Addr
 Ys:Addr
 C_Rule:Addr
 ZG:Addr
 C_Net:Addr
 ZO:Addr
 Xp:FuncData
 ZD:Addr
 Wg:FuncData
 ZZ:Addr
 Us:FuncData
 Yy:Addr
 Rj:FuncData
 Yg:Addr
 Ut:FuncData
 Uu:Addr
 Oo:FuncData
 Xz:Addr
 Uv:FuncData
 Sb:Addr
 Mz:FuncData
 Sd:Addr
 MB:FuncData
 Se:Addr
 MC:FuncData
 Vl:Addr
 Qn:FuncData
 Wr:Addr
 Rk:FuncData
 ZV:Addr
 YD:FuncData
 Yt:Addr
 XA:FuncData
 XU:Addr
 Tt:FuncData
 XW:Addr
 Tu:FuncData
 Xe:Addr
 WO:FuncData
 Vm:Addr
 Qo:FuncData
 Ws:Addr
 Rl:FuncData
 Wt:Addr
 Rm:FuncData
 Wu:Addr
 Rn:FuncData
 XX:Addr
 Tv:FuncData
 Uw:Addr
 Oq:FuncData
 Sf:Addr
 MD:FuncData
 f_l_at:Addr
 d_l_at:FuncData
 f_l_mix:Addr
 d_l_mix:FuncData
 Sg:Addr
 ME:FuncData
 Sh:Addr
 MF:FuncData
 Si:Addr
 MG:FuncData
 Ux:Addr
 Ot:FuncData
 Uy:Addr
 Ou:FuncData
 Uz:Addr
 Ov:FuncData
 Sl:Addr
 MH:FuncData
 Sn:Addr
 MI:FuncData
 UA:Addr
 Ow:FuncData
 Sq:Addr
 MJ:FuncData
 Qp:Addr
 Ic:FuncData
 f_l_set:Addr
 d_l_set:FuncData
 Vn:Addr
 Qq:FuncData
 Vo:Addr
 Qr:FuncData
 Sr:Addr
 MK:FuncData
 f_l_odd:Addr
 d_l_odd:FuncData
 Vp:Addr
 Qs:FuncData
 Qt:Addr
 Ie:FuncData
 f_law:Addr
 d_law:FuncData
 Yn:Tok
structure Txt (K:aj) (mg:Str->Option Value) (A:Adr):Prop where
 cl_Cost:Cls K A.C_Cost
 M_Cost:mg "Cost" = some (.ref A.C_Cost)
 mk_Cost:MkP K A.C_Cost
 zR:Cls K A.Ys
 vO:mg "Chance" = some (.ref A.Ys)
 Ss:MkP K A.Ys
 cl_Rule:Cls K A.C_Rule
 M_Rule:mg "Rule" = some (.ref A.C_Rule)
 mk_Rule:Mk K A.C_Rule A.ZO
 NF:YV K A.C_Rule "title"
 Kc:YV K A.C_Rule "head"
 NI:YV K A.C_Rule "parts"
 PK:YV K A.C_Rule "weight"
 Ig:YV K A.C_Rule "tag"
 NK:YV K A.C_Rule "under"
 WQ:Cls K A.ZG
 zS:mg "Grammar" = some (.ref A.ZG)
 UB:Mk K A.ZG A.ZD
 RO:YV K A.ZG "scale"
 RP:YV K A.ZG "start"
 RQ:YV K A.ZG "rules"
 cl_Net:Cls K A.C_Net
 M_Net:mg "Net" = some (.ref A.C_Net)
 mk_Net:Mk K A.C_Net A.ZZ
 NM:YV K A.C_Net "places"
 Kd:YV K A.C_Net "edges"
 HY:ExB K mg "NoScale" A.VV
 Su:ExB K mg "NoRule" A.TZ
 Ih:ExB K mg "NoWeight" A.WM
 E_Twice:ExB K mg "Twice" A.C_Twice
 HZ:ExB K mg "NoTitle" A.WN
 NP:ExB K mg "NoKind" A.Sa
 E_Ring:ExB K mg "Ring" A.C_Ring
 E_NoNet:ExB K mg "NoNet" A.C_NoNet
 YM:Eb K "__init__" "Rule.__init__" YK A.ZO A.Xp [.str "" A.Yn,.none]
 zT:Binds K A.Xp ["self", "title", "head", "parts", "weight", "tag", "under"] [.none]
 zU:Binds K A.Xp ["self", "title", "head", "parts", "weight", "tag", "under"] [.str "" A.Yn,.none]
 zV:Meth K A.C_Rule "__init__" A.ZO
 YN:Binds K A.Xp ["self", "title", "head", "parts", "weight", "tag", "under"] []
 Xj:Fun K "__init__" "Grammar.__init__" Yl A.ZD A.Wg
 Dp:Meth K A.ZG "__init__" A.ZD
 Yo:Binds K A.Wg ["self", "scale", "start", "rules"] []
 Wv:Fun K "__init__" "Net.__init__" Xc A.ZZ A.Us
 yA:Meth K A.C_Net "__init__" A.ZZ
 Xg:Binds K A.Us ["self", "places", "edges"] []
 VN:Fun K "takes" "Cost.takes" XG A.Yy A.Rj
 IT:Meth K A.C_Cost "takes" A.Yy
 Ww:Binds K A.Rj ["self", "weight"] []
 Wx:Fun K "takes" "Chance.takes" Xd A.Yg A.Ut
 Ko:Meth K A.Ys "takes" A.Yg
 XC:Binds K A.Ut ["self", "weight"] []
 Ro:FnB K mg "scale_of" Og SX A.Uu A.Oo
 Wy:FnB K mg "is_name_sign" Um Wq A.Xz A.Uv
 VW:FnB K mg "is_name" Ml QN A.Sb A.Mz
 VX:FnB K mg "is_kind" Mm QO A.Sd A.MB
 WR:FnB K mg "is_word" Mo QP A.Se A.MC
 Td:FnB K mg "are_parts" Qh UY A.Vl A.Qn
 VO:FnB K mg "are_titles" SY VI A.Wr A.Rk
 Yh:FnB K mg "check_weights_and_titles" YC Ye A.ZV A.YD
 YS:FnB K mg "check_titles_under" Xy YR A.Yt A.XA
 Vg:FnB K mg "check_kinds" Tn Vd A.XU A.Tt
 Vh:FnB K mg "check_rings" Tp Ve A.XW A.Tu
 XI:FnB K mg "heads_in_order" WL XH A.Xe A.WO
 Te:FnB K mg "may_stand" Qj UZ A.Vm A.Qo
 VP:FnB K mg "tree_fault" Ra VJ A.Ws A.Rl
 VQ:FnB K mg "rule_fault" Rb VL A.Wt A.Rm
 VR:FnB K mg "edge_fault" Rc VM A.Wu A.Rn
 Vi:FnB K mg "seated_kids" Ts Vf A.XX A.Tv
 WT:FnB K mg "is_whole" Oh Re A.Uw A.Oq
 QZ:FnB K mg "is_edge" Mp QQ A.Sf A.MD
 L_l_at:FnB K mg "_law_at" CA Fe A.f_l_at A.d_l_at
 L_l_mix:FnB K mg "_law_mix" Ff Jc A.f_l_mix A.d_l_mix
 VY:FnB K mg "_law_names" Mq QR A.Sg A.ME
 Pa:FnB K mg "_law_kinds" Mr QT A.Sh A.MF
 Pb:FnB K mg "_law_words" Ms QU A.Si A.MG
 Rq:FnB K mg "_law_titles" Oi Rf A.Ux A.Ot
 Rr:FnB K mg "_law_lowest" Oj Rg A.Uy A.Ou
 WU:FnB K mg "_law_weight" Ol Rh A.Uz A.Ov
 Pg:FnB K mg "_law_parts" Mt QV A.Sl A.MH
 Ph:FnB K mg "_law_rules" Mv QW A.Sn A.MI
 UC:FnB K mg "_law_stands" Om Ri A.UA A.Ow
 XJ:FnB K mg "_law_grown" Mw QX A.Sq A.MJ
 NQ:FnB K mg "_law_laid" JY Nw A.Qp A.Ic
 L_l_set:FnB K mg "_law_set" Fg Jd A.f_l_set A.d_l_set
 Tf:FnB K mg "_law_setting" Qk Ta A.Vn A.Qq
 Tg:FnB K mg "_law_grammar" Ql Tb A.Vo A.Qr
 Sv:FnB K mg "_law_fault" Mx QY A.Sr A.MK
 L_l_odd:FnB K mg "_law_odd" Fh Je A.f_l_odd A.d_l_odd
 YT:FnB K mg "_law_spoiled" Qm Tc A.Vp A.Qs
 Qu:FnB K mg "_law_size" Ib Nz A.Qt A.Ie
 L_law:FnB K mg "law" NB vN A.f_law A.d_law
 Kp:∃ t,mg "SMALL_LETTERS" = some (.str Yi t)
 Vx:∃ t,mg "GREAT_LETTERS" = some (.str ZC t)
 zW:∃ t,mg "FIGURES" = some (.str Wm t)
 Ii:∃ t,mg "LONGEST_NAME" = some (.int 12 t)
 Fj:∃ t,mg "MOST_PARTS" = some (.int 4 t)
 b_tuple:mg "tuple" = none
 b_all:mg "all" = none
 ZK:mg "isinstance" = none
 b_str:mg "str" = none
 b_len:mg "len" = none
 b_list:mg "list" = none
 b_set:mg "set" = none
 b_dict:mg "dict" = none
 b_zip:mg "zip" = none
 b_int:mg "int" = none
 b_bool:mg "bool" = none
 b_range:mg "range" = none
 b_abs:mg "abs" = none
 b_max:mg "max" = none
 b_sum:mg "sum" = none
class TxC (K:aj) (A:Adr):Prop where
 ex:∃ mg,Txt K mg A
section
variable {P:Program}{w:World}{K:aj}{mg:Str->Option Value}{base:Heap}
def rdM (s:String):Lean.MacroM (Lean.TSyntax `tactic):=do
 let ls <- (s.splitOn " ").toArray.mapM fun n=>`(Lean.Parser.Tactic.simpLemma| $(Lean.mkIdent n.toName):ident)
 `(tactic| simp -dsimp only [↓L2.rK,↓L2.rL,↓L2.zO,↓L2.vL,$ls,*])
def rd1:String := "dSeq dIf z_sV z_sO z_sS z_aB z_aI z_aT z_lC z_lz z_lzS z_pk z_pkS qP qO vh qN sU sW Ab dB dOp dVar dCB BC xF dRet dC qD xT Xv BP Mg BO dTup dLst dTru sx sy sA sC sD sE sF sG sH sI sJ sL sM sN dAnd dOr dNot qy dOrV qz dIfE xN BI qB dNeg dCall dBM tyD xG qE dPar wc BR Cg dPut wApp nE dFz qK wz qL dAug dPop tR tS tT tU tV z_ii z_i0 z_mul z_rep z_lt z_le z_gt z_ge z_isN oP oQ oS oT oU oV oW oX tW tX tY tZ Ew Ex Ey sd Ez wA wC wF rj se sf oY oZ nc ng nh nq sg Aa si HR qM wH GO nr sr su sv wI wJ wK wL wM wN wO wR wU wV wW wX wY wZ vb vc vd ve vf qG qH dRng2 dEnum HL dpre wo peekAt Slot.peek Vv List.foldl List.modify List.modifyTailIdx List.modifyTailIdx.go List.modifyHead_cons List.modifyHead_nil List.map_cons List.map_nil List.length_cons List.length_nil List.replicate List.cons_append List.nil_append Nat.reduceAdd Nat.reduceSub Nat.zero_add List.getElem?_cons_succ List.getElem?_cons_zero List.set_cons_zero List.set_cons_succ Option.some.injEq Slot.v.injEq Slot.own.injEq Slot.ob.injEq D.int.injEq D.bl.injEq D.str.injEq D.tup.injEq D.lst.injEq D.obj.injEq List.cons.injEq exists_eq_left' exists_eq_left and_true true_and and_assoc exists_eq_right exists_and_left reduceCtorEq false_and and_false exists_false if_true if_false Bool.false_eq_true List.length_map ite_self Option.getD_some Option.getD_none Bool.not_true Bool.not_false decide_true decide_false D.imm D.Pm Bool.and_self Bool.and_true Bool.true_and List.lookup ne_eq not_false_eq_true false_or true_or or_true or_false"
local macro_rules | `(tactic| walk_at "rd") => rdM rd1
theorem XR {c A B:Prop} [Decidable c] (h1:c->A) (h2:¬ c->B):if decide c=true then A else B:=by
 by_cases hc:c
 ·rw [if_pos (decide_eq_true hc)];exact h1 hc
 ·rw [if_neg (by simp [hc])];exact h2 hc
theorem Ox {c A B:Prop} [Decidable c] (h1:¬ c->A) (h2:c->B):if (!decide c)=true then A else B:=by
 by_cases hc:c
 ·rw [if_neg (by simp [hc])];exact h2 hc
 ·rw [if_pos (by simp [hc])];exact h1 hc
theorem Oy {α:Type}{xs:List α}{i:Int}{j:Nat}(e:i=(j:Int)) (h:j < xs.length):atI xs i=some xs[j]:=by
 subst e
 exact Yv (aC h)
theorem Jf {α β:Type}(f:α->β) (ns:List α) (d:α) {i:Int}(h0:0<=i) (h:i < ns.length):atI (ns.map f) i=some (f (ns.getD i.toNat d)):=by
 have hj:i.toNat < ns.length:=by omega
 rw [Oy (j:=i.toNat) (by omega) (by rw [length_map];exact hj),List.getElem_map,getD_eq_getElem?_getD,aC hj]
 rfl
theorem vP {α:Type}{ns:List α}{d:α}{P:α->Prop}(j:Nat) (h:∀ n∈ns,P n) (hd:P d):P (ns.getD j d):=by
 rw [getD_eq_getElem?_getD]
 cases q:ns[j]? with
 | none=>exact hd
 | some n=>exact h n (mem_of_getElem? q)
theorem Qv {e:DE}{q:List D->Prop}{n:Nat}{s:L2.Slot}{caps:DSt}(h:Nat->D) (hl:n<=aA)
  (hs:∀ i,i < n->∀ N:D->Prop,N (h i)->e (.v (.int (i:Int))::caps) N (fun _=>False)) (hq:q ((List.range n).map h)):Vk (Xv 0) zp e q (L2.intsFrom 0 n) (s::caps) []:=by
 refine YB (c:=fun i:Nat => .int (0 + (i:Int))) (xs:=List.range n) h (by rw [length_range];exact hl) (fun i hi N hN=>?_) hq
 rw [Int.zero_add]
 exact hs i (mem_range.mp hi) N hN
noncomputable def atZ (ns:List Int) (k:Int):Int:=ns.getD k.toNat 0
noncomputable def CC:DSp:=fun xs q _=>∃ (ns:List Int) (k:Int),xs=[.scr (ns.map .int),.int k]/\0<=k/\q (.int (atZ ns k))
theorem Th {A:Adr}(T:Txt K mg A):ZE P w K mg base (CXE P w) 1 A.f_l_at A.d_l_at Fe (spD K CC):=by
 haveI:TxC K A:=⟨⟨_,T⟩⟩
 refine T.L_l_at.F.okJ rQ (fun xs q x h=>?_) (fun cdv Ar outer s H E hr=>⟨_,(Za (Zz [] (Zv PJ (jv 1) (Yc ZJ (by rfl) T.b_len PySem.boot_len (Zc (jv 0) Zb)) (Zu _)) (Ze (Zt [] (Zi (jv 0) (jv 1)))) Zn)
   (Ze (Zt [] Zd))),fun xs q x h=>?_⟩)
 ·obtain ⟨ns,k,rfl,_⟩:=h
  rfl
 ·obtain ⟨ns,k,rfl,h0,hq⟩:=h
  walk_at "rd"
  refine XR (fun h=>?_) (fun h=>?_)
  ·have hk:k.toNat < ns.length:=by omega
   refine ⟨_,Oy (j:=k.toNat) (by omega) (by rw [length_map];exact hk),?_⟩
   rw [List.getElem_map]
   unfold atZ at hq
   rw [getD_eq_getElem?_getD,aC hk] at hq
   exact hq
  ·unfold atZ at hq
   rw [getD_eq_getElem?_getD,List.getElem?_eq_none (by omega)] at hq
   exact hq
noncomputable def CD (k:Int):Int:=([48271,69621,16807,40692,30269,62089,45991]:List Int).getD (k % 7).toNat 0
noncomputable def mix (c k:Int):Int:=((c % 2147483647 + 97 * k * k + 11) * CD k % 2147483629) * ((c % 2147483647 + 97 * k * k + 11) * CD k % 2147483629) % 1999999973
theorem Rt (c k:Int):0<=mix c k:=Int.emod_nonneg _ (by decide)
theorem ML (c k:Int):mix c k < 1999999973:=Int.emod_lt_of_pos _ (by decide)
noncomputable def Fl:DSp:=fun xs q _=>∃ (c k:Int),xs=[.int c,.int k] /\ -(2 ^ 20) < k/\k < 2 ^ 20/\q (.int (mix c k))
theorem Vq {A:Adr}(T:Txt K mg A):ZE P w K mg base (CXE P w) 1 A.f_l_mix A.d_l_mix Jc (spD K Fl):=by
 haveI:TxC K A:=⟨⟨_,T⟩⟩
 refine T.L_l_mix.F.okJ JV (fun xs q x h=>?_) (fun cdv Ar outer s H E hr=>⟨_,(Za (Zj (i:=2) JV.nd rfl (Or.inl rfl) (Zi (WH (Zc Zd (Zc Zd (Zc Zd (Zc Zd (Zc Zd (Zc Zd (Zc Zd Zb)))))))) (Zm Zr (jv 1) Zd)))
   (Za (Zj (i:=3) JV.nd rfl (Or.inl rfl) (Zm Zr (Zm Oc (Zm ZP (Zm ZP (Zm Zr (jv 0) Zd) (Zm Oc (Zm Oc Zd (jv 1)) (jv 1))) Zd) (jv 2)) Zd))
   (Ze (Zt [] (Zm Zr (Zm Oc (jv 3) (jv 3)) Zd))))),fun xs q x h=>?_⟩)
 ·obtain ⟨c,k,rfl,_⟩:=h
  rfl
 ·obtain ⟨c,k,rfl,k1,k2,hq⟩:=h
  walk_at "rd"
  have h1:(k % 7).toNat < 7:=by omega
  have e1:k % 7=((k % 7).toNat:Int):=by omega
  refine ⟨by decide,by decide,.int (CD k),?_,?_⟩
  ·exact Jf D.int [48271,69621,16807,40692,30269,62089,45991] 0 (by omega) (by show k % 7 < 7;omega)
  walk_at "rd"
  have f1:0<=CD k/\CD k < 100000:=vP (P:=fun n:Int=>0<=n/\n < 100000) _ (by decide) (by decide)
  refine ⟨by decide,.l (by decide) (by decide),.r (by omega) (by omega),.r (by omega) (by omega),by decide,.l ?_ ?_,by decide,hq⟩
  ·have:=Int.emod_nonneg ((c % 2147483647 + 97 * k * k + 11) * CD k) (show (2147483629:Int)≠0 by decide)
   omega
  ·have:=Int.emod_lt_of_pos ((c % 2147483647 + 97 * k * k + 11) * CD k) (show (0:Int) < 2147483629 by decide)
   omega
noncomputable def nmS (c:Nat):Bool:=decide (c∈Yi.cps.toList) || decide (c∈ZC.cps.toList) || decide (c∈Wm.cps.toList)
noncomputable def grS (c:Nat):Bool:=decide (c∈ZC.cps.toList)
noncomputable def isNm (x:Str):Bool:=decide (1<=x.length) && decide (x.length<=12) && x.cps.toList.all nmS
noncomputable def fst (x:Str):Nat:=x.cps.toList.getD 0 0
noncomputable def XM (x:Str):Bool:=isNm x && grS (fst x)
noncomputable def UR (x:Str):Bool:=isNm x && !grS (fst x)
theorem NR (c:Nat) (j:Str):inS ⟨#[c]⟩ j=decide (c∈j.cps.toList):=by
 unfold inS
 exact StrLaws.found_one _ _
theorem UD {x:Str}(h:isNm x=true):1<=x.length/\x.length<=12:=by
 unfold isNm at h
 simp only [aF,decide_eq_true_eq] at h
 exact h.1
theorem at0 {x:Str}(h:1<=x.length):atI x.cps.toList 0=some (fst x):=by
 have hl:0 < x.cps.toList.length:=by rw [Array.length_toList];exact h
 refine (Oy (i:=0) (j:=0) rfl hl).trans ?_
 unfold fst
 rw [getD_eq_getElem?_getD,aC hl]
 rfl
noncomputable def UE:DSp:=fun xs q _=>∃ c:Nat,xs=[.str ⟨#[c]⟩]/\q (.bl (nmS c))
theorem Kq {c:Nat}{q:D->Prop}{x:Addr->Prop}:UE [.str ⟨#[c]⟩] q x=q (.bl (nmS c)):=by unfold UE;simp
theorem Kr {A:Adr}(T:Txt K mg A):ZE P w K mg base (CXE P w) 1 A.Xz A.Uv Wq (spD K UE):=by
 haveI:TxC K A:=⟨⟨_,T⟩⟩
 refine T.Wy.F.okJ Kn (fun xs q x h=>?_) (fun cdv Ar outer s H E hr=>⟨_,(Ze (Zt [] (xI (WD RN (jv 0) (PZ (.str Yi) (by rfl) T.Kp.choose_spec (show RelV (.str Yi) _ from ⟨_,rfl⟩) (fun _ _=>rfl)) (by with_unfolding_all rfl)) (xI (WD RN (jv 0) (PZ (.str ZC) (by rfl) T.Vx.choose_spec (show RelV (.str ZC) _ from ⟨_,rfl⟩) (fun _ _=>rfl)) (by with_unfolding_all rfl)) (SM (WD RN (jv 0) (PZ (.str Wm) (by rfl) T.zW.choose_spec (show RelV (.str Wm) _ from ⟨_,rfl⟩) (fun _ _=>rfl)) (by with_unfolding_all rfl))))))),fun xs q x h=>?_⟩)
 ·obtain ⟨c,rfl,_⟩:=h
  rfl
 ·obtain ⟨c,rfl,hq⟩:=h
  walk_at "rd"
  unfold nmS at hq
  rw [NR,NR,NR]
  generalize decide (c∈Yi.cps.toList)=b1 at hq ⊢
  generalize decide (c∈ZC.cps.toList)=b2 at hq ⊢
  cases b1 <;> cases b2 <;> exact hq
noncomputable def Pj:DSp:=fun xs q _=>∃ z:Str,xs=[.str z]/\z.length<=aA/\q (.bl (isNm z))
theorem CF {z:Str}{q:D->Prop}{x:Addr->Prop}:Pj [.str z] q x=(z.length<=aA/\q (.bl (isNm z))):=by unfold Pj;simp
theorem Oz {A:Adr}(T:Txt K mg A):ZE P w K mg base (CXE P w) 2 A.Sb A.Mz QN (spD K Pj):=by
 have Ij:=Kr (P:=P) (w:=w) (base:=base) T
 haveI:TxC K A:=⟨⟨_,T⟩⟩
 refine T.VW.F.okJ Cw (fun xs q x h=>?_) (fun cdv Ar outer s H E hr=>⟨_,(Za (Zz [] (RX (UU (Yj (ZU (Yc (Wd (K:=K) rfl) (by rfl) T.ZK PyProof.Rows.boot_isinstance (Zc (jv 0) (Zc (Xu (n := "str") (by rfl) T.b_str PyProof.Rows.boot_str) Zb))))) (Uc (Yj (TU Qb Qb Zd (Yc ZJ (by rfl) T.b_len PySem.boot_len (Zc (jv 0) Zb)) (PZ (.int 12) (by rfl) T.Ii.choose_spec (show RelV (.int 12) _ from ⟨_,rfl⟩) (fun _ _=>rfl))))))) (Ze (Zt [] Eg)) Zn)
   (Ze (Zt [] (Yc Md (by rfl) T.b_all PyProof.Rows.boot_all (Zc (Yw ["sign"] [] [] (oK (jv 0)) (fun _=>(Zk (i:=0) (show @Nodup Str ((["sign"]:List Str)++([]:List Str)) by decide +kernel) rfl (Or.inl rfl) (Or.inr rfl))) (fun _=>Yu) (fun _=>(Zg Ij T.Wy (hr.mono (by decide)) Vc (Zc (jv 0) Zb)))) Zb))))),fun xs q x h=>?_⟩)
 ·obtain ⟨z,rfl,_⟩:=h
  rfl
 ·obtain ⟨z,rfl,hz,hq⟩:=h
  walk_at "rd"
  have kf:isNm z=false->q (.bl false):=fun e=>by rw [<-e];exact hq
  refine ⟨hz,XR (fun h1=>Ox (fun h2=>kf ?_) (fun h2=>?_)) (fun h1=>kf ?_)⟩
  ·unfold isNm;rw [decide_eq_false (show ¬ z.length<=12 by omega)];simp
  ·refine YB (c:=fun c => .str ⟨#[c]⟩) (xs:=z.cps.toList) (fun c => .bl (nmS c)) (by rw [Array.length_toList];exact hz) (fun c _ N hN=>?_) ?_
   ·exact ⟨c,rfl,hN⟩
   ·rw [GO]
    unfold isNm at hq
    rw [decide_eq_true (show 1<=z.length by omega),decide_eq_true (show z.length<=12 by omega)] at hq
    exact hq
  ·unfold isNm;rw [decide_eq_false (show ¬ 1<=z.length by omega)];simp
noncomputable def MM:DSp:=fun xs q _=>∃ z:Str,xs=[.str z]/\z.length<=aA/\q (.bl (XM z))
theorem CG {z:Str}{q:D->Prop}{x:Addr->Prop}:MM [.str z] q x=(z.length<=aA/\q (.bl (XM z))):=by unfold MM;simp
theorem OA {A:Adr}(T:Txt K mg A):ZE P w K mg base (CXE P w) 3 A.Sd A.MB QO (spD K MM):=by
 have Sw:=Oz (P:=P) (w:=w) (base:=base) T
 haveI:TxC K A:=⟨⟨_,T⟩⟩
 refine T.VX.F.okJ Cy (fun xs q x h=>?_) (fun cdv Ar outer s H E hr=>⟨_,(Ze (Zt [] (Ob (Zg Sw T.VW (hr.mono (by decide)) Zh (Zc (jv 0) Zb)) (SM (WD RN (Zi (jv 0) Zd) (PZ (.str ZC) (by rfl) T.Vx.choose_spec (show RelV (.str ZC) _ from ⟨_,rfl⟩) (fun _ _=>rfl)) (by with_unfolding_all rfl)))))),fun xs q x h=>?_⟩)
 ·obtain ⟨z,rfl,_⟩:=h
  rfl
 ·obtain ⟨z,rfl,hz,hq⟩:=h
  walk_at "rd"
  refine ⟨z,rfl,hz,?_⟩
  simp only [z_aB]
  unfold XM at hq
  cases hn:isNm z with
  | false=>rw [hn] at hq;exact hq
  | true =>
   rw [if_pos rfl]
   refine ⟨hz,fst z,at0 (UD hn).1,?_⟩
   rw [NR]
   rw [hn] at hq
   exact hq
noncomputable def Pk:DSp:=fun xs q _=>∃ z:Str,xs=[.str z]/\z.length<=aA/\q (.bl (UR z))
theorem CH {z:Str}{q:D->Prop}{x:Addr->Prop}:Pk [.str z] q x=(z.length<=aA/\q (.bl (UR z))):=by unfold Pk;simp
theorem OB {A:Adr}(T:Txt K mg A):ZE P w K mg base (CXE P w) 3 A.Se A.MC QP (spD K Pk):=by
 have Sw:=Oz (P:=P) (w:=w) (base:=base) T
 haveI:TxC K A:=⟨⟨_,T⟩⟩
 refine T.WR.F.okJ Cz (fun xs q x h=>?_) (fun cdv Ar outer s H E hr=>⟨_,(Ze (Zt [] (Ob (Zg Sw T.VW (hr.mono (by decide)) Zh (Zc (jv 0) Zb)) (SM (WD Jz (Zi (jv 0) Zd) (PZ (.str ZC) (by rfl) T.Vx.choose_spec (show RelV (.str ZC) _ from ⟨_,rfl⟩) (fun _ _=>rfl)) (by with_unfolding_all rfl)))))),fun xs q x h=>?_⟩)
 ·obtain ⟨z,rfl,_⟩:=h
  rfl
 ·obtain ⟨z,rfl,hz,hq⟩:=h
  walk_at "rd"
  refine ⟨z,rfl,hz,?_⟩
  simp only [z_aB]
  unfold UR at hq
  cases hn:isNm z with
  | false=>rw [hn] at hq;exact hq
  | true =>
   rw [if_pos rfl]
   refine ⟨hz,fst z,at0 (UD hn).1,?_⟩
   rw [NR]
   rw [hn] at hq
   exact hq
noncomputable def Vj (zs:List Str):Bool:=decide (1<=zs.length) && decide (zs.length<=4) && zs.all isNm
noncomputable def Vr (zs:List Str):Bool:=decide (1<=zs.length) && zs.all UR
noncomputable def Fits (zs:List Str):Prop:=zs.length<=1000/\∀ z∈zs,z.length<=1000
noncomputable def isSeq (d:D) (zs:List Str):Prop:=d = .lst (zs.map .str)\/d = .tup (zs.map .str)
noncomputable def Ke:DSp:=fun xs q _=>∃ d zs,xs=[d]/\isSeq d zs/\Fits zs/\q (.bl (Vj zs))
theorem Fm {A:Adr}(T:Txt K mg A):ZE P w K mg base (CXE P w) 3 A.Vl A.Qn UY (spD K Ke):=by
 have Sw:=Oz (P:=P) (w:=w) (base:=base) T
 haveI:TxC K A:=⟨⟨_,T⟩⟩
 refine T.Td.F.okJ Fd (fun xs q x h=>?_) (fun cdv Ar outer s H E hr=>⟨_,(Za (Zz [] (RX (UU (Yj (ZU (Yc (Wd (K:=K) rfl) (by rfl) T.ZK PyProof.Rows.boot_isinstance (Zc (jv 0) (Zc (ZL (Zc (Xu (n := "list") (by rfl) T.b_list PyProof.Rows.boot_list) (Zc (Xu (n := "tuple") (by rfl) T.b_tuple PyProof.Rows.boot_tuple) Zb))) Zb))))) (Uc (Yj (TU Qb Qb Zd (Yc ZJ (by rfl) T.b_len PySem.boot_len (Zc (jv 0) Zb)) (PZ (.int 4) (by rfl) T.Fj.choose_spec (show RelV (.int 4) _ from ⟨_,rfl⟩) (fun _ _=>rfl))))))) (Ze (Zt [] Eg)) Zn)
   (Ze (Zt [] (Yc Md (by rfl) T.b_all PyProof.Rows.boot_all (Zc (Yw ["part"] [] [] (Yk (jv 0)) (fun _=>(Zk (i:=0) (show @Nodup Str ((["part"]:List Str)++([]:List Str)) by decide +kernel) rfl (Or.inl rfl) (Or.inr rfl))) (fun _=>Yu) (fun _=>(Zg Sw T.VW (hr.mono (by decide)) Vc (Zc (jv 0) Zb)))) Zb))))),fun xs q x h=>?_⟩)
 ·obtain ⟨d,zs,rfl,_⟩:=h
  rfl
 ·obtain ⟨d,zs,rfl,hd,⟨hf1,hf2⟩,hq⟩:=h
  have hsz:aA=16777216:=rfl
  have kf:Vj zs=false->q (.bl false):=fun e=>by rw [<-e];exact hq
  have fin:(decide ((1:Int)<=zs.length)=true->decide ((zs.length:Int)<=4)=true->Vk (Xv 0) zp (dCall Pj (BC (dVar 0) xF)) (fun xs=>zk [D.lst xs] q) (zs.map .str) [.un] []):=by
   intro h1 h2
   simp only [decide_eq_true_eq] at h1 h2
   refine YB (fun z => .bl (isNm z)) (by omega) (fun z hz N hN=>⟨z,rfl,by have:=hf2 z hz;omega,hN⟩) ?_
   rw [GO]
   unfold Vj at hq
   rw [decide_eq_true (show 1<=zs.length by omega),decide_eq_true (show zs.length<=4 by omega)] at hq
   exact hq
  rcases hd with rfl | rfl
  all_goals
   walk_at "rd"
   refine ⟨by decide,XR (fun h1=>Ox (fun h2=>kf ?_) (fun h2=>?_)) (fun h1=>kf ?_)⟩
   ·unfold Vj;rw [decide_eq_false (show ¬ zs.length<=4 by omega)];simp
   ·exact fin (decide_eq_true h1) (decide_eq_true h2)
   ·unfold Vj;rw [decide_eq_false (show ¬ 1<=zs.length by omega)];simp
noncomputable def Fo:DSp:=fun xs q _=>∃ d zs,xs=[d]/\isSeq d zs/\Fits zs/\q (.bl (Vr zs))
theorem IU {A:Adr}(T:Txt K mg A):ZE P w K mg base (CXE P w) 4 A.Wr A.Rk VI (spD K Fo):=by
 have VZ:=OB (P:=P) (w:=w) (base:=base) T
 haveI:TxC K A:=⟨⟨_,T⟩⟩
 refine T.VO.F.okJ IP (fun xs q x h=>?_) (fun cdv Ar outer s H E hr=>⟨_,(Za (Zz [] (RX (UU (Yj (ZU (Yc (Wd (K:=K) rfl) (by rfl) T.ZK PyProof.Rows.boot_isinstance (Zc (jv 0) (Zc (ZL (Zc (Xu (n := "list") (by rfl) T.b_list PyProof.Rows.boot_list) (Zc (Xu (n := "tuple") (by rfl) T.b_tuple PyProof.Rows.boot_tuple) Zb))) Zb))))) (Uc (Zv (Xb hr.YW) (Yc ZJ (by rfl) T.b_len PySem.boot_len (Zc (jv 0) Zb)) Zd (Zu _))))) (Ze (Zt [] Eg)) Zn)
   (Ze (Zt [] (Yc Md (by rfl) T.b_all PyProof.Rows.boot_all (Zc (Yw ["title"] [] [] (Yk (jv 0)) (fun _=>(Zk (i:=0) (show @Nodup Str ((["title"]:List Str)++([]:List Str)) by decide +kernel) rfl (Or.inl rfl) (Or.inr rfl))) (fun _=>Yu) (fun _=>(Zg VZ T.WR (hr.mono (by decide)) Vc (Zc (jv 0) Zb)))) Zb))))),fun xs q x h=>?_⟩)
 ·obtain ⟨d,zs,rfl,_⟩:=h
  rfl
 ·obtain ⟨d,zs,rfl,hd,⟨hf1,hf2⟩,hq⟩:=h
  have hsz:aA=16777216:=rfl
  have kf:Vr zs=false->q (.bl false):=fun e=>by rw [<-e];exact hq
  have fin:(1<=zs.length->Vk (Xv 0) zp (dCall Pk (BC (dVar 0) xF)) (fun xs=>zk [D.lst xs] q) (zs.map .str) [.un] []):=by
   intro h1
   refine YB (fun z => .bl (UR z)) (by omega) (fun z hz N hN=>⟨z,rfl,by have:=hf2 z hz;omega,hN⟩) ?_
   rw [GO]
   unfold Vr at hq
   rw [decide_eq_true h1] at hq
   exact hq
  rcases hd with rfl | rfl
  all_goals
   walk_at "rd"
   refine ⟨by decide,XR (fun h1=>kf ?_) (fun h1=>fin ?_)⟩
   ·unfold Vr;rw [decide_eq_false (show ¬ 1<=zs.length by omega)];simp
   ·omega
def rd2:String:=rd1 ++ " Kq CF CG CH"
local macro_rules | `(tactic| walk_at "rd") => rdM rd2
noncomputable def tieIs (d:D):Option (List Str)->Prop
 | none=>d = .non
 | some us=>isSeq d us/\Fits us
noncomputable def IV:Option (List Str)->D
 | none => .non
 | some us => .tup (us.map .str)
noncomputable def Ak:Option (List Str)->Bool
 | none=>true
 | some us=>Vr us
noncomputable def Wh (ti hd:Str) (ps:List Str) (tg:Str) (t:Option (List Str)):Bool:=UR ti && XM hd && Vj ps && (decide (tg = "") || UR tg) && Ak t
noncomputable def vQ (ti hd:Str) (ps:List Str) (wv:D) (tg:Str) (t:Option (List Str)):List (Str × D):=[("title",.str ti),("head",.str hd),("parts",.tup (ps.map .str)),("weight",wv),("tag",.str tg),("under",IV t)]
noncomputable def RT (A:Adr):GM:=fun xs q x=>∃ ti hd dp ps wv tg un t,xs=[.str ti,.str hd,dp,wv,.str tg,un]/\isSeq dp ps/\Fits ps/\tieIs un t/\ti.length<=1000/\hd.length<=1000/\tg.length<=1000 /\
 (Wh ti hd ps tg t=true->q (vQ ti hd ps wv tg t))/\(Wh ti hd ps tg t=false->x A.TZ)
theorem ifB {b:Bool}{A B:Prop}(h1:b=true->A) (h2:b=false->B):if b=true then A else B:=by
 cases b
 ·exact h2 rfl
 ·exact h1 rfl
theorem Pt {b:Bool}{A B:Prop}(h1:b=false->A) (h2:b=true->B):if (!b)=true then A else B:=by
 cases b
 ·exact h1 rfl
 ·exact h2 rfl
theorem MN {A:Adr}(T:Txt K mg A):ZE P w K mg base (CXE P w) 5 A.ZO A.Xp ["self", "title", "head", "parts", "weight", "tag", "under"] (spI K A.C_Rule (RT A)):=by
 have VZ:=OB (P:=P) (w:=w) (base:=base) T
 have Sx:=OA (P:=P) (w:=w) (base:=base) T
 have EH:=Fm (P:=P) (w:=w) (base:=base) T
 have Fp:=IU (P:=P) (w:=w) (base:=base) T
 haveI:TxC K A:=⟨⟨_,T⟩⟩
 refine T.YM.okI Mj (fun xs q x h=>?_) (fun cdv Ar outer s H E hr=>⟨_,(Za (Xr (Zz [] (RX (UU (Yj (ZU (Zg VZ T.WR (hr.mono (by decide)) Zh (Zc (jv 1) Zb)))) (UU (Yj (ZU (Zg Sx T.VX (hr.mono (by decide)) Zh (Zc (jv 2) Zb)))) (Uc (Yj (ZU (Zg EH T.Td (hr.mono (by decide)) Zh (Zc (jv 3) Zb)))))))) (Ze (Xo [] T.Su.x T.Su.M (Zc ZQ Zb))) Zn))
   (Za (Xr (Zz [] (RX (Oa (Zv (Ue hr.YW) (jv 5) ZQ (Zu _)) (SL (Yj (ZU (Zg VZ T.WR (hr.mono (by decide)) Zh (Zc (jv 5) Zb))))))) (Ze (Xo [] T.Su.x T.Su.M (Zc ZQ Zb))) Zn))
   (Za (Xr (Zz [] (RX (Oa (Zv BE (jv 6) LY (Zu _)) (SL (Yj (ZU (Zg Fp T.VO (hr.mono (by decide)) Zh (Zc (jv 6) Zb))))))) (Ze (Xo [] T.Su.x T.Su.M (Zc ZQ Zb))) Zn))
   (Za (Uh (K:=K) [] 0 rfl (jv 1))
   (Za (Uh (K:=K) [] 0 rfl (jv 2))
   (Za (Uh (K:=K) [] 0 rfl (UW Qc (by rfl) T.b_tuple PyProof.Rows.boot_tuple (Zc (jv 3) Zb)))
   (Za (Uh (K:=K) [] 0 rfl (jv 4))
   (Za (Uh (K:=K) [] 0 rfl (jv 5))
   (Ze (Uh (K:=K) [] 0 rfl (qA (Zv DZ (jv 6) LY (Zu _)) LY (UW Qc (by rfl) T.b_tuple PyProof.Rows.boot_tuple (Zc (jv 6) Zb))))))))))))),fun oa dx xs q x h=>?_⟩)
 ·obtain ⟨ti,hd,dp,ps,wv,tg,un,t,rfl,_⟩:=h
  rfl
 ·obtain ⟨ti,hd,dp,ps,wv,tg,un,t,rfl,hdp,hfp,htie,l1,l2,l3,kg,kb⟩:=h
  have hsz:aA=16777216:=rfl
  have no:Wh ti hd ps tg t=false->1<=aA/\x A.TZ:=fun z=>⟨by decide,kb z⟩
  have seqp:∀ {N:D->Prop},N (.bl (Vj ps))->Ke [dp] N x:=fun h=>⟨dp,ps,rfl,hdp,hfp,h⟩
  refine ⟨fun ds'=>ds'=[.ob oa dx A.C_Rule [],.v (.str ti),.v (.str hd),.v dp,.v wv,.v (.str tg),.v un]/\UR ti=true/\XM hd=true/\Vj ps=true,?_,?_⟩
  ·walk_at "rd"
   refine ⟨by omega,Pt (fun e=>no (by unfold Wh;rw [e];rfl)) fun e1=>⟨by omega,Pt (fun e=>no (by unfold Wh;rw [e1,e];rfl)) fun e2=>seqp ?_⟩⟩
   walk_at "rd"
   exact Pt (fun e=>no (by unfold Wh;rw [e1,e2,e];rfl)) fun e3=>⟨e1,e2,e3⟩
  rintro _ ⟨rfl,e1,e2,e3⟩
  refine ⟨fun ds'=>ds'=[.ob oa dx A.C_Rule [],.v (.str ti),.v (.str hd),.v dp,.v wv,.v (.str tg),.v un]/\(decide (tg = "") || UR tg)=true,?_,?_⟩
  ·walk_at "rd"
   refine Ox (fun z=>⟨by omega,Pt (fun e=>no (by unfold Wh;rw [e,decide_eq_false z];simp)) fun e=>by rw [e];simp⟩) (fun z=>by rw [decide_eq_true z];rfl)
  rintro _ ⟨rfl,e4⟩
  refine ⟨fun ds'=>ds'=[.ob oa dx A.C_Rule [],.v (.str ti),.v (.str hd),.v dp,.v wv,.v (.str tg),.v un]/\Ak t=true,?_,?_⟩
  ·walk_at "rd"
   cases t with
   | none =>
    rw [show un = .non from htie]
    walk_at "rd"
    rfl
   | some us =>
    have nn:un.VD=false:=by rcases htie.1 with z | z <;> rw [z] <;> rfl
    rw [nn]
    refine ⟨un,us,rfl,htie.1,htie.2,?_⟩
    walk_at "rd"
    exact Pt (fun e=>no (by unfold Wh;rw [show Ak (some us)=Vr us from rfl,e];simp)) fun e=>e
  rintro _ ⟨rfl,e5⟩
  have good:Wh ti hd ps tg t=true:=by unfold Wh;rw [e1,e2,e3,e4,e5];rfl
  walk_at "rd"
  have tp:∀ {N:D->Prop},N (.tup (ps.map .str))->JB [dp] N:=fun h=>by
   rcases hdp with rfl | rfl <;> exact h
  refine ⟨T.cl_Rule,T.NF,by decide,T.cl_Rule,T.Kc,by show 1 < 1000;decide,T.cl_Rule,T.NI,by show 2 < 1000;decide,tp ⟨T.cl_Rule,T.PK,by show 3 < 1000;decide,T.cl_Rule,T.Ig,by show 4 < 1000;decide,T.cl_Rule,T.NK,by show 5 < 1000;decide,?_⟩⟩
  cases t with
  | none =>
   rw [show un = .non from htie]
   exact kg good
  | some us =>
   have nn:un.VD=false:=by rcases htie.1 with z | z <;> rw [z] <;> rfl
   rw [nn]
   have tu:∀ {N:D->Prop},N (.tup (us.map .str))->JB [un] N:=fun h=>by
    rcases htie.1 with z | z <;> rw [z] <;> exact h
   exact tu (kg good)
structure Ru where
 ti:Str
 hd:Str
 ps:List Str
 wa:Int
 wb:Int
 tg:Str
 t:Option (List Str)
noncomputable def wD (a b:Int):D := .tup [.int a,.int b]
noncomputable def Ru.d (A:Adr) (r:Ru):D := .obj A.C_Rule (vQ r.ti r.hd r.ps (wD r.wa r.wb) r.tg r.t)
noncomputable def Ru.Fit (r:Ru):Prop:=r.ti.length<=1000/\r.hd.length<=1000/\Fits r.ps/\∀ us,r.t=some us->Fits us
noncomputable def Rus (rs:List Ru):Prop:=rs.length<=1000/\∀ r∈rs,r.Fit
noncomputable def scD (A:Adr) (z:Str):D := .obj (if z = "cost" then A.C_Cost else A.Ys) []
noncomputable def okW (z:Str) (a:Int):Bool:=decide (z = "cost") || decide (0 < a)
section
variable {A:Adr} [TxC K A] {q:D->Prop}{r:Ru}
theorem zf_ti:D.fld K "title" (r.d A) q=q (.str r.ti):=by obtain ⟨mg,T⟩:=(inferInstance:TxC K A).ex;exact D.Uk T.cl_Rule T.NF rfl
theorem zf_hd:D.fld K "head" (r.d A) q=q (.str r.hd):=by obtain ⟨mg,T⟩:=(inferInstance:TxC K A).ex;exact D.Uk T.cl_Rule T.Kc rfl
theorem zf_ps:D.fld K "parts" (r.d A) q=q (.tup (r.ps.map .str)):=by obtain ⟨mg,T⟩:=(inferInstance:TxC K A).ex;exact D.Uk T.cl_Rule T.NI rfl
theorem zf_we:D.fld K "weight" (r.d A) q=q (wD r.wa r.wb):=by obtain ⟨mg,T⟩:=(inferInstance:TxC K A).ex;exact D.Uk T.cl_Rule T.PK rfl
theorem zf_tg:D.fld K "tag" (r.d A) q=q (.str r.tg):=by obtain ⟨mg,T⟩:=(inferInstance:TxC K A).ex;exact D.Uk T.cl_Rule T.Ig rfl
theorem zf_un:D.fld K "under" (r.d A) q=q (IV r.t):=by obtain ⟨mg,T⟩:=(inferInstance:TxC K A).ex;exact D.Uk T.cl_Rule T.NK rfl
end
def rd3:String:=rd2 ++ " zf_ti zf_hd zf_ps zf_we zf_tg zf_un"
local macro_rules | `(tactic| walk_at "rd") => rdM rd3
noncomputable def CI (A:Adr):DSp:=fun xs q x=>∃ z:Str,xs=[.str z]/\((z = "cost" \/ z = "chance")->q (scD A z))/\(z ≠ "cost" -> z ≠ "chance" -> x A.VV)
theorem EI {A:Adr}(T:Txt K mg A):ZE P w K mg base (CXE P w) 1 A.Uu A.Oo SX (spD K (CI A)):=by
 haveI:TxC K A:=⟨⟨_,T⟩⟩
 refine T.Ro.F.okJ EE (fun xs q x h=>?_) (fun cdv Ar outer s H E hr=>⟨_,(Za (Zz [] (Zv (Xb hr.YW) (jv 0) ZQ (Zu _)) (Ze (Zt [] (Et T.mk_Cost (by rfl) T.M_Cost))) Zn)
   (Za (Zz [] (Zv (Xb hr.YW) (jv 0) ZQ (Zu _)) (Ze (Zt [] (Et T.Ss (by rfl) T.vO))) Zn)
   (Ze (Xo [] T.HY.x T.HY.M (Zc ZQ Zb))))),fun xs q x h=>?_⟩)
 ·obtain ⟨z,rfl,_⟩:=h
  rfl
 ·obtain ⟨z,rfl,hq,hx⟩:=h
  walk_at "rd"
  refine XR (fun e=>?_) (fun e1=>XR (fun e=>?_) (fun e2=>⟨by decide,hx e1 e2⟩))
  ·have:=hq (.inl e)
   unfold scD at this
   rw [if_pos e] at this
   exact this
  ·have:=hq (.inr e)
   unfold scD at this
   rw [if_neg e1] at this
   exact this
noncomputable def NS:DSp:=fun xs q _=>∃ o w,xs=[o,w]/\q (.bl true)
theorem IW {A:Adr}(T:Txt K mg A):ZE P w K mg base (CXE P w) 1 A.Yy A.Rj ["self", "weight"] (spD K NS):=by
 haveI:TxC K A:=⟨⟨_,T⟩⟩
 refine T.VN.okJ IM (fun xs q x h=>?_) (fun cdv Ar outer s H E hr=>⟨_,(Ze (Zt [] Eg)),fun xs q x h=>?_⟩)
 ·obtain ⟨o,w,rfl,_⟩:=h
  rfl
 ·obtain ⟨o,w,rfl,hq⟩:=h
  walk_at "rd"
  exact hq
noncomputable def Qw:DSp:=fun xs q _=>∃ o a b,xs=[o,wD a b]/\q (.bl (decide (0 < a)))
theorem Ks {A:Adr}(T:Txt K mg A):ZE P w K mg base (CXE P w) 1 A.Yg A.Ut ["self", "weight"] (spD K Qw):=by
 haveI:TxC K A:=⟨⟨_,T⟩⟩
 refine T.Wx.okJ Km (fun xs q x h=>?_) (fun cdv Ar outer s H E hr=>⟨_,(Ze (Zt [] (WD El (Zi (jv 1) Zd) Zd (Zu _)))),fun xs q x h=>?_⟩)
 ·obtain ⟨o,a,b,rfl,_⟩:=h
  rfl
 ·obtain ⟨o,a,b,rfl,hq⟩:=h
  unfold wD
  walk_at "rd"
  exact ⟨_,rfl,hq⟩
theorem vR {A:Adr}(T:Txt K mg A) (z:Str):∃ C g,scD A z = .obj C []/\MOkD P w K mg base 1 C "takes" g/\∀ {a b:Int}{q:D->Prop}{x:Addr->Prop},q (.bl (okW z a))->g [scD A z,wD a b] q x:=by
 by_cases e:z = "cost"
 ·refine ⟨A.C_Cost,NS,by unfold scD;rw [if_pos e],⟨T.cl_Cost,_,_,_,T.IT,IW T,T.Ww⟩,fun {a b q x} h=>⟨_,_,rfl,?_⟩⟩
  unfold okW at h
  rw [decide_eq_true e] at h
  exact h
 ·refine ⟨A.Ys,Qw,by unfold scD;rw [if_neg e],⟨T.zR,_,_,_,T.Ko,Ks T,T.XC⟩,fun {a b q x} h=>⟨_,_,_,rfl,?_⟩⟩
  unfold okW at h
  rw [decide_eq_false e] at h
  exact h
noncomputable def cwt (z:Str):List Str->List Ru->Nat
 | _,[]=>0
 | seen,r::rs=>if okW z r.wa=false then 1 else if r.ti∈seen then 2 else cwt z (seen++[r.ti]) rs
noncomputable def UF (A:Adr):DSp:=fun xs q x=>∃ (z:Str) (rs:List Ru),xs=[scD A z,.lst (rs.map (Ru.d A))]/\Rus rs/\(cwt z [] rs=0->q .non)/\(cwt z [] rs=1->x A.WM)/\(cwt z [] rs=2->x A.C_Twice)
theorem VS {A:Adr}(T:Txt K mg A):ZE P w K mg base (CXE P w) 2 A.ZV A.YD Ye (spD K (UF A)):=by
 haveI:TxC K A:=⟨⟨_,T⟩⟩
 refine T.Yh.F.okJ Yx (fun xs q x h=>?_) (fun cdv Ar outer s H E hr=>⟨_,(Za (XZ (i:=2) Yx.nd rfl (Or.inl rfl) (We Zb))
   (Ze (Vu PassesOwn.leaving (Yk (jv 1)) (Zk (i:=3) Yx.nd rfl (Or.inl rfl)) (Za (Zz [] (Yj (ZU (tP (k:=1) (hr.mono (by decide)) Zh (jv 0) (Zc (ZX (K:=K) rfl (jv 3)) Zb)))) (Ze (Xo [] T.Ih.x T.Ih.M (Zc (Jb (SW (GQ (ZX (K:=K) rfl (jv 3)) (SW GP)))) Zb))) Zn)
   (Za (Zz [2] (Zv RN (ZX (K:=K) rfl (jv 3)) (jv 2) (by with_unfolding_all rfl)) (Ze (Xo [] T.E_Twice.x T.E_Twice.M (Zc (Jb (SW (GQ (ZX (K:=K) rfl (jv 3)) GP))) Zb))) Zn)
   (Ze (Qe [] 2 (ZX (K:=K) rfl (jv 3))))))))),fun xs q x h=>?_⟩)
 ·obtain ⟨z,rs,rfl,_⟩:=h
  rfl
 ·obtain ⟨z,rs,rfl,⟨l1,l2⟩,h0,h1,h2⟩:=h
  walk_at "rd"
  have hsz:aA=16777216:=rfl
  refine ⟨by decide,[],?_⟩
  walk_at "rd"
  refine Uj (fun i ds=>∃ s,ds=[.v (scD A z),.v (.lst (rs.map (Ru.d A))),.own (((rs.take i).map (·.ti)).map .str),s]/\cwt z ((rs.take i).map (·.ti)) (rs.drop i)=cwt z [] rs) ⟨.un,rfl,rfl⟩ (fun i r ds N hr hi hn=>?_) (fun ds hi=>?_)
  ·obtain ⟨s,rfl,hc⟩:=hi
   obtain ⟨C,g,e,mo,tk⟩:=vR (P:=P) (w:=w) (base:=base) T z
   obtain ⟨hi1,hi2⟩:=List.getElem?_eq_some_iff.mp hr
   rw [drop_eq_getElem_cons hi1,hi2,cwt] at hc
   obtain ⟨m1,m2,m3,m4⟩:=l2 r (mem_of_getElem? hr)
   have lt:(rs.take i).length<=1000:=by rw [length_take];omega
   walk_at "rd"
   refine ⟨C,[],e,g,mo,rfl,tk ?_⟩
   walk_at "rd"
   refine Pt (fun e1=>⟨by omega,by decide,h1 ?_⟩) (fun e1=>XR (fun e2=>⟨by omega,by decide,h2 ?_⟩) (fun e2=>⟨by omega,hn _ ⟨.v (r.d A),?_,?_⟩⟩))
   ·rw [<-hc,if_pos e1]
   ·rw [<-hc,if_neg (by rw [e1];decide),if_pos e2]
   ·rw [take_add_one,hr]
    simp
   ·rw [if_neg (by rw [e1];decide),if_neg e2] at hc
    rw [take_add_one,hr,<-hc]
    simp
  ·obtain ⟨s,rfl,hc⟩:=hi
   rw [List.drop_length] at hc
   exact h0 hc.symm
theorem rR (rs:List Ru):rs.map (fun r=>D.str r.ti)=(rs.map (·.ti)).map .str:=by rw [map_map];rfl
theorem rS (rs:List Ru):rs.map (fun r=>D.str r.hd)=(rs.map (·.hd)).map .str:=by rw [map_map];rfl
theorem nL:IV none = .non:=rfl
theorem nM {us:List Str}:IV (some us) = .tup (us.map .str):=rfl
def rd4:String:=rd3 ++ " nL nM"
local macro_rules | `(tactic| walk_at "rd") => rdM rd4
noncomputable def Qx (tis:List Str) (r:Ru):Bool:=match r.t with
 | none=>true
 | some us=>us.all fun u=>decide (u∈tis)
noncomputable def ctu (rs:List Ru):Bool:=rs.all (Qx (rs.map (·.ti)))
noncomputable def Qy (A:Adr):DSp:=fun xs q x=>∃ rs:List Ru,xs=[.lst (rs.map (Ru.d A))]/\Rus rs/\(ctu rs=true->q .non)/\(ctu rs=false->x A.WN)
theorem RZ {A:Adr}(T:Txt K mg A):ZE P w K mg base (CXE P w) 1 A.Yt A.XA YR (spD K (Qy A)):=by
 haveI:TxC K A:=⟨⟨_,T⟩⟩
 refine T.YS.F.okJ Xs (fun xs q x h=>?_) (fun cdv Ar outer s H E hr=>⟨_,(Za (Zj (i:=1) Xs.nd rfl (Or.inr rfl) (Yw ["rule"] [] [] (Yk (jv 0)) (fun _=>(Zk (i:=0) (show @Nodup Str ((["rule"]:List Str)++([]:List Str)) by decide +kernel) rfl (Or.inl rfl) (Or.inr rfl))) (fun _=>Yu) (fun _=>(ZX (K:=K) rfl (jv 0)))))
   (Ze (Vu PassesOwn.leaving (Yk (jv 0)) (Zk (i:=2) Xs.nd rfl (Or.inl rfl)) (Ze (Zz [] (RX (Oa (Zv BE (ZX (K:=K) rfl (jv 2)) LY (Zu _)) (SL (Yj (ZU (Yc Md (by rfl) T.b_all PyProof.Rows.boot_all (Zc (Yw ["title"] ["titles"] [1] (Yk (ZX (K:=K) rfl (jv 2))) (fun _=>(Zk (i:=0) (show @Nodup Str ((["title"]:List Str)++(["titles"]:List Str)) by decide +kernel) rfl (Or.inl rfl) (Or.inr rfl))) (fun _=>Yu) (fun _=>(WD RN (jv 0) (jv 1) (by with_unfolding_all rfl)))) Zb))))))) (Ze (Xo [] T.HZ.x T.HZ.M (Zc (Jb (SW (GQ (ZX (K:=K) rfl (jv 2)) (SW GP)))) Zb))) Zn))))),fun xs q x h=>?_⟩)
 ·obtain ⟨rs,rfl,_⟩:=h
  rfl
 ·obtain ⟨rs,rfl,⟨l1,l2⟩,h0,h1⟩:=h
  have hsz:aA=16777216:=rfl
  walk_at "rd"
  refine YB (fun r => .str r.ti) (by omega) (fun r hr N hN=>?_) ?_
  ·walk_at "rd"
   exact hN
  rw [rR]
  refine ⟨[],?_⟩
  walk_at "rd"
  refine Uj (fun i ds=>∃ s,ds=[.v (.lst (rs.map (Ru.d A))),.v (.lst ((rs.map (·.ti)).map .str)),s]/\(rs.take i).all (Qx (rs.map (·.ti)))=true) ⟨.un,rfl,rfl⟩ (fun i r ds N hr hi hn=>?_) (fun ds hi=>?_)
  ·obtain ⟨s,rfl,hc⟩:=hi
   obtain ⟨m1,m2,m3,m4⟩:=l2 r (mem_of_getElem? hr)
   have mem:=mem_of_getElem? hr
   have nxt:Qx (rs.map (·.ti)) r=true->N [.v (.lst (rs.map (Ru.d A))),.v (.lst ((rs.map (·.ti)).map .str)),.v (r.d A)]:=fun e=>by
    refine hn _ ⟨_,rfl,?_⟩
    rw [take_add_one,hr,List.all_append,hc]
    simp [e]
   have bad:Qx (rs.map (·.ti)) r=false->x A.WN:=fun e=>h1 (by
    unfold ctu
    rw [List.all_eq_false]
    exact ⟨r,mem,by rw [e];decide⟩)
   walk_at "rd"
   cases ht:r.t with
   | none =>
    walk_at "rd"
    exact nxt (by unfold Qx;rw [ht])
   | some us =>
    obtain ⟨f1,f2⟩:=m4 us ht
    walk_at "rd"
    refine YB (fun u => .bl (decide (u∈rs.map (·.ti)))) (by omega) (fun u hu N hN=>?_) ?_
    ·walk_at "rd"
     exact hN
    walk_at "rd"
    exact Pt (fun e=>⟨by omega,by decide,bad (by unfold Qx;rw [ht];exact e)⟩) (fun e=>nxt (by unfold Qx;rw [ht];exact e))
  ·obtain ⟨s,rfl,hc⟩:=hi
   rw [take_length] at hc
   exact h0 hc
noncomputable def Ik (hds:List Str) (r:Ru):Bool:=(r.ps.filter XM).all fun p=>decide (p∈hds)
noncomputable def ck (st:Str) (rs:List Ru):Bool:=decide (st∈rs.map (·.hd)) && rs.all (Ik (rs.map (·.hd)))
noncomputable def IX (A:Adr):DSp:=fun xs q x=>∃ (st:Str) (rs:List Ru),xs=[.str st,.lst (rs.map (Ru.d A))]/\Rus rs/\(ck st rs=true->q .non)/\(ck st rs=false->x A.Sa)
theorem Il {A:Adr}(T:Txt K mg A):ZE P w K mg base (CXE P w) 4 A.XU A.Tt Vd (spD K (IX A)):=by
 have Sx:=OA (P:=P) (w:=w) (base:=base) T
 haveI:TxC K A:=⟨⟨_,T⟩⟩
 refine T.Vg.F.okJ Uo (fun xs q x h=>?_) (fun cdv Ar outer s H E hr=>⟨_,(Za (Zj (i:=2) Uo.nd rfl (Or.inr rfl) (Yw ["rule"] [] [] (Yk (jv 1)) (fun _=>(Zk (i:=0) (show @Nodup Str ((["rule"]:List Str)++([]:List Str)) by decide +kernel) rfl (Or.inl rfl) (Or.inr rfl))) (fun _=>Yu) (fun _=>(ZX (K:=K) rfl (jv 0)))))
   (Za (Zz [] (Zv Jz (jv 0) (jv 2) (by with_unfolding_all rfl)) (Ze (Xo [] T.NP.x T.NP.M (Zc ZQ Zb))) Zn)
   (Ze (Vu PassesOwn.leaving (Yk (jv 1)) (Zk (i:=3) Uo.nd rfl (Or.inl rfl)) (Ze (Zz [] (Yj (ZU (Yc Md (by rfl) T.b_all PyProof.Rows.boot_all (Zc (Yw ["part"] ["heads"] [2] (Yk (ZX (K:=K) rfl (jv 3))) (fun _=>(Zk (i:=0) (show @Nodup Str ((["part"]:List Str)++(["heads"]:List Str)) by decide +kernel) rfl (Or.inl rfl) (Or.inr rfl))) (fun _=>(Qd (ZU (Zg Sx T.VX (hr.mono (by decide)) Vc (Zc (jv 0) Zb))))) (fun _=>(WD RN (jv 0) (jv 1) (by with_unfolding_all rfl)))) Zb)))) (Ze (Xo [] T.NP.x T.NP.M (Zc (Jb (SW (GQ (ZX (K:=K) rfl (jv 3)) (SW GP)))) Zb))) Zn)))))),fun xs q x h=>?_⟩)
 ·obtain ⟨st,rs,rfl,_⟩:=h
  rfl
 ·obtain ⟨st,rs,rfl,⟨l1,l2⟩,h0,h1⟩:=h
  have hsz:aA=16777216:=rfl
  walk_at "rd"
  refine YB (fun r => .str r.hd) (by omega) (fun r hr N hN=>?_) ?_
  ·walk_at "rd"
   exact hN
  rw [rS]
  walk_at "rd"
  refine Ox (fun e=>⟨by decide,h1 (by unfold ck;rw [decide_eq_false e];rfl)⟩) (fun e=>⟨[],?_⟩)
  walk_at "rd"
  refine Uj (fun i ds=>∃ s,ds=[.v (.str st),.v (.lst (rs.map (Ru.d A))),.v (.lst ((rs.map (·.hd)).map .str)),s]/\(rs.take i).all (Ik (rs.map (·.hd)))=true) ⟨.un,rfl,rfl⟩ (fun i r ds N hr hi hn=>?_) (fun ds hi=>?_)
  ·obtain ⟨s,rfl,hc⟩:=hi
   obtain ⟨m1,m2,⟨m3,m5⟩,m4⟩:=l2 r (mem_of_getElem? hr)
   have mem:=mem_of_getElem? hr
   walk_at "rd"
   refine SV XM (fun p => .bl (decide (p∈rs.map (·.hd)))) (by omega) (fun p hp N hN=>?_) (fun p hp _ N hN=>?_) ?_
   ·walk_at "rd"
    exact ⟨by have:=m5 p hp;omega,hN⟩
   ·walk_at "rd"
    exact hN
   walk_at "rd"
   refine Pt (fun z=>⟨by omega,by decide,h1 ?_⟩) (fun z=>hn _ ⟨_,rfl,?_⟩)
   ·unfold ck
    rw [show rs.all (Ik (rs.map (·.hd)))=false from by rw [List.all_eq_false];exact ⟨r,mem,by unfold Ik;rw [z];decide⟩]
    simp
   ·rw [take_add_one,hr,List.all_append,hc]
    simp only [Option.toList_some,all_cons,List.all_nil,Bool.and_true,Bool.true_and]
    exact z
  ·obtain ⟨s,rfl,hc⟩:=hi
   rw [take_length] at hc
   exact h0 (by unfold ck;rw [decide_eq_true e,hc];rfl)
noncomputable def heldBy (steps:List (Str × Str)) (w:List Str):List Str:=(steps.filter fun s=>decide (s.2∈w)).map (·.1)
inductive Hio (steps:List (Str × Str)):List Str->List Str->List Str->List Str->Prop
 | stop {w o:List Str}:Hio steps w [] o o
 | step {w r o res:List Str}:r≠[]->Hio steps (w.filter fun h=>decide (h∈heldBy steps w)) (w.filter fun h => !decide (h∈heldBy steps w)) (o++w.filter fun h => !decide (h∈heldBy steps w)) res->Hio steps w r o res
noncomputable def EJ (a:List Str) (k:Str):List Str:=if k∈a then a else a++[k]
noncomputable def vS (zs:List Str):List Str:=zs.foldl EJ []
theorem OC (zs:List Str):dedup (zs.map Sum.inr)=(vS zs).map Sum.inr:=by
 have go:∀ (zs a:List Str),(zs.map Sum.inr).foldl Vw (a.map Sum.inr)=(zs.foldl EJ a).map (Sum.inr:Str->Key):=by
  intro zs
  induction zs with
  | nil=>intro a;rfl
  | cons z zs ih =>
   intro a
   rw [map_cons,foldl_cons,foldl_cons,<-ih]
   congr 1
   unfold Vw EJ
   have:(Sum.inr z:Key)∈a.map Sum.inr↔z∈a:=by
    rw [mem_map]
    exact ⟨fun ⟨y,h,e⟩=>Sum.inr.inj e ▸ h,fun h=>⟨z,h,rfl⟩⟩
   by_cases e:z∈a
   ·rw [if_pos e,if_pos (this.mpr e)]
   ·rw [if_neg e,if_neg (fun h=>e (this.mp h)),map_append]
    rfl
 exact go zs []
theorem merge_keys (more:List (Key × D)):∀ kvs:List (Key × D),(Qg kvs more).map (·.1)=(more.map (·.1)).foldl Vw (kvs.map (·.1)):=by
 induction more with
 | nil=>intro kvs;rfl
 | cons m more ih =>
  intro kvs
  rw [show Qg kvs (m::more)=Qg (HV kvs m.1 m.2) more from rfl,ih,map_cons,foldl_cons]
  congr 1
  unfold HV Vw
  have ea:(kvs.any fun kv=>decide (kv.1=m.1))=decide (m.1∈kvs.map (·.1)):=by
   rw [Bool.eq_iff_iff]
   simp only [List.any_eq_true,decide_eq_true_eq,mem_map]
  rw [ea]
  by_cases e:m.1∈kvs.map (·.1)
  ·rw [if_pos (decide_eq_true e),if_pos e,map_map]
   refine map_congr_left fun kv _=>?_
   show (if kv.1=m.1 then (kv.1,m.2) else kv).1=kv.1
   split <;> rfl
  ·rw [if_neg (by simpa using e),if_neg e,map_append]
   rfl
noncomputable def Wa (rs:List Ru):List (Str × Str):=(rs.filter fun r=>decide (r.ps.length=1)).map fun r=>(r.hd,r.ps.getD 0 "")
noncomputable def waitOf (rs:List Ru):List Str:=vS (rs.map (·.hd))
theorem rT (zs:List Str):(vS zs).length<=zs.length:=by
 have:=JR (zs.map Sum.inr)
 rw [OC] at this
 simpa using this
theorem EK {α:Type}(w:List α) (p:α->Bool):(w.filter p).length + (w.filter fun h => !p h).length=w.length:=by
 induction w with
 | nil=>rfl
 | cons a w ih =>
  rw [filter_cons,filter_cons]
  cases p a <;> simp <;> omega
noncomputable def MP (A:Adr):DSp:=fun xs q _=>∃ (rs:List Ru) (res:List Str),xs=[.lst (rs.map (Ru.d A))]/\Rus rs/\Hio (Wa rs) (waitOf rs) (waitOf rs) [] res/\q (.lst (res.map .str))
theorem NT {A:Adr}(T:Txt K mg A):ZE P w K mg base (CXE P w) 1 A.Xe A.WO XH (spD K (MP A)):=by
 haveI:TxC K A:=⟨⟨_,T⟩⟩
 refine T.XI.F.okJ ZY (fun xs q x h=>?_) (fun cdv Ar outer s H E hr=>⟨_,(Za (UX (i:=1) ["rule"] [] [] ZY.nd rfl (Or.inl rfl) (Yk (jv 0)) (fun _=>(Zk (i:=0) (show @Nodup Str ((["rule"]:List Str)++([]:List Str)) by decide +kernel) rfl (Or.inl rfl) (Or.inr rfl))) (fun _=>(Qd (Zv (Xb hr.YW) (Yc ZJ (by rfl) T.b_len PySem.boot_len (Zc (ZX (K:=K) rfl (jv 0)) Zb)) Zd (Zu _)))) (fun _=>(ZL (Zc (ZX (K:=K) rfl (jv 0)) (Zc (Zi (ZX (K:=K) rfl (jv 0)) Zd) Zb)))))
   (Za (Zj (i:=2) ZY.nd rfl (Or.inr rfl) (UW vt (by rfl) T.b_list PyProof.Rows.boot_list (Zc (UW rh (by rfl) T.b_dict PyProof.Rows.boot_dict (Zc (Yw ["rule"] [] [] (Yk (jv 0)) (fun _=>(Zk (i:=0) (show @Nodup Str ((["rule"]:List Str)++([]:List Str)) by decide +kernel) rfl (Or.inl rfl) (Or.inr rfl))) (fun _=>Yu) (fun _=>(ZL (Zc (ZX (K:=K) rfl (jv 0)) (Zc Eg Zb))))) Zb)) Zb)))
   (Za (XZ (i:=3) ZY.nd rfl (Or.inl rfl) (We Zb))
   (Za (Zj (i:=4) ZY.nd rfl (Or.inl rfl) (jv 2))
   (Za (JH [] PassesOwn.leaving (ZU (jv 4)) (Za (Zj (i:=5) ZY.nd rfl (Or.inr rfl) (Yw ["head", "part"] ["waiting"] [2] (Yk (jv 1)) (fun _=>(SR (n:=2) (ZM (Zk (i:=0) (show @Nodup Str ((["head", "part"]:List Str)++(["waiting"]:List Str)) by decide +kernel) rfl (Or.inl rfl) (Or.inr rfl)) (ZM (Zk (i:=1) (show @Nodup Str ((["head", "part"]:List Str)++(["waiting"]:List Str)) by decide +kernel) rfl (Or.inl rfl) (Or.inr rfl)) VH)))) (fun _=>(Qd (Zv RN (jv 1) (jv 2) (by with_unfolding_all rfl)))) (fun _=>(jv 0))))
   (Za (UX (i:=4) ["head"] ["held"] [5] ZY.nd rfl (Or.inl rfl) (Yk (jv 2)) (fun _=>(Zk (i:=0) (show @Nodup Str ((["head"]:List Str)++(["held"]:List Str)) by decide +kernel) rfl (Or.inl rfl) (Or.inr rfl))) (fun _=>(Qd (Zv Jz (jv 0) (jv 1) (by with_unfolding_all rfl)))) (fun _=>(jv 0)))
   (Za (Zj (i:=2) ZY.nd rfl (Or.inr rfl) (Yw ["head"] ["held"] [5] (Yk (jv 2)) (fun _=>(Zk (i:=0) (show @Nodup Str ((["head"]:List Str)++(["held"]:List Str)) by decide +kernel) rfl (Or.inl rfl) (Or.inr rfl))) (fun _=>(Qd (Zv RN (jv 0) (jv 1) (by with_unfolding_all rfl)))) (fun _=>(jv 0))))
   (Ze (wm [] 3 (jv 4)))))))
   (Ze (Zt [3] (jv 3)))))))),fun xs q x h=>?_⟩)
 ·obtain ⟨rs,res,rfl,_⟩:=h
  rfl
 ·obtain ⟨rs,res,rfl,⟨l1,l2⟩,hh,hq⟩:=h
  have hsz:aA=16777216:=rfl
  walk_at "rd"
  refine SV (fun r=>decide (r.ps.length=1)) (fun r => .tup [.str r.hd,.str (r.ps.getD 0 "")]) (by omega) (fun r hr N hN=>?_) (fun r hr hp N hN=>?_) ?_
  ·walk_at "rd"
   have:(decide ((r.ps.length:Int)=1))=decide (r.ps.length=1):=by rw [Bool.eq_iff_iff];simp only [decide_eq_true_eq];omega
   rw [this]
   exact hN
  ·have hp:r.ps.length=1:=of_decide_eq_true hp
   walk_at "rd"
   exact ⟨_,Jf D.str r.ps "" (i:=0) (by decide) (by omega),by decide,hN⟩
  refine YB (fun r => .tup [.str r.hd,.bl true]) (by omega) (fun r hr N hN=>?_) ?_
  ·walk_at "rd"
   exact ⟨by decide,hN⟩
  refine ⟨rs.map fun r=>(Sum.inr r.hd,.bl true),by rw [map_map];rfl,_,rfl,?_⟩
  have ew:(Qg [] (rs.map fun r=>((Sum.inr r.hd:Key),D.bl true))).map (fun kv=>kD kv.1)=(waitOf rs).map .str:=by
   have e:=merge_keys (rs.map fun r=>((Sum.inr r.hd:Key),D.bl true)) []
   have e2:(rs.map fun r=>((Sum.inr r.hd:Key),D.bl true)).map (·.1)=(rs.map (·.hd)).map Sum.inr:=by rw [map_map,map_map];rfl
   rw [e2] at e
   have e3:(Qg [] (rs.map fun r=>((Sum.inr r.hd:Key),D.bl true))).map (·.1)=(waitOf rs).map Sum.inr:=e.trans (OC _)
   rw [show (fun kv:Key × D=>kD kv.1)=kD ∘ (·.1) from rfl,<-map_map,e3,map_map]
   rfl
  have es:(rs.filter fun r=>decide (r.ps.length=1)).map (fun r=>D.tup [.str r.hd,.str (r.ps.getD 0 "")])=(Wa rs).map fun s => .tup [.str s.1,.str s.2]:=by unfold Wa;rw [map_map];rfl
  rw [ew,es]
  have ls:(Wa rs).length<=1000:=by
   unfold Wa
   rw [length_map]
   have:=List.length_filter_le (fun r:Ru=>decide (r.ps.length=1)) rs
   omega
  have lw:(waitOf rs).length<=1000:=by
   unfold waitOf
   have:=rT (rs.map (·.hd))
   rw [length_map] at this
   omega
  generalize Wa rs=steps at *
  generalize waitOf rs=w0 at *
  refine ⟨by decide,fun m ds=>∃ (w r o:List Str) (s:L2.Slot),ds=[.v (.lst (rs.map (Ru.d A))),.v (.lst (steps.map fun s => .tup [.str s.1,.str s.2])),.v (.lst (w.map .str)),.own (o.map .str),.v (.lst (r.map .str)),s]/\Hio steps w r o res/\w.length + o.length<=1000/\m=2 * w.length + (if r=[] then 0 else 1),⟨_,w0,w0,[],.un,rfl,hh,by simpa using lw,rfl⟩,?_⟩
  rintro m _ ⟨w,r,o,s,rfl,hio,hl,rfl⟩
  walk_at "rd"
  have em:(r.map D.str).isEmpty=r.isEmpty:=by cases r <;> rfl
  rw [em]
  refine Pt (fun e1=>?_) (fun e1=>?_)
  ·have hr:r≠[]:=fun z=>by rw [z] at e1;cases e1
   cases hio with
   | stop=>exact absurd rfl hr
   | step _ hio =>
   have ll:=EK w (fun h=>decide (h∈heldBy steps w))
   have eh:(steps.filter fun s=>decide (s.2∈w)).map (fun s=>D.str s.1)=(heldBy steps w).map .str:=by unfold heldBy;rw [map_map];rfl
   refine EB (fun s=>decide (s.2∈w)) (fun s => .str s.1) (by omega) (fun s hs N hN=>?_) (fun s hs _ N hN=>?_) ?_
   ·walk_at "rd"
    exact hN
   ·walk_at "rd"
    exact hN
   rw [eh]
   refine SV (fun h => !decide (h∈heldBy steps w)) .str (by omega) (fun s hs N hN=>?_) (fun s hs _ N hN=>?_) ?_
   ·walk_at "rd"
    exact hN
   ·walk_at "rd"
    exact hN
   refine SV (fun h=>decide (h∈heldBy steps w)) .str (by omega) (fun s hs N hN=>?_) (fun s hs _ N hN=>?_) ?_
   ·walk_at "rd"
    exact hN
   ·walk_at "rd"
    exact hN
   refine ⟨by simp only [length_map];omega,_,?_,_,rfl,_,o++w.filter (fun h => !decide (h∈heldBy steps w)),by rw [map_append],rfl,hio,by rw [length_append];omega,rfl⟩
   rw [if_neg hr]
   split
   ·omega
   ·rename_i z
    have:=List.length_pos_iff.mpr z
    omega
  ·have hr:r=[]:=List.isEmpty_iff.mp e1
   subst hr
   cases hio with
   | stop=>exact hq
   | step z _=>exact absurd rfl z
noncomputable def IY (A:Adr):DSp:=fun xs q x=>∃ (rs:List Ru) (res:List Str),xs=[.lst (rs.map (Ru.d A))]/\Rus rs/\Hio (Wa rs) (waitOf rs) (waitOf rs) [] res/\((waitOf rs).length<=res.length->q .non)/\(res.length < (waitOf rs).length->x A.C_Ring)
theorem Im {A:Adr}(T:Txt K mg A):ZE P w K mg base (CXE P w) 2 A.XW A.Tu Ve (spD K (IY A)):=by
 have MQ:=NT (P:=P) (w:=w) (base:=base) T
 haveI:TxC K A:=⟨⟨_,T⟩⟩
 refine T.Vh.F.okJ Qi (fun xs q x h=>?_) (fun cdv Ar outer s H E hr=>⟨_,(Za (UX (i:=1) ["rule"] [] [] Qi.nd rfl (Or.inl rfl) (Yk (jv 0)) (fun _=>(Zk (i:=0) (show @Nodup Str ((["rule"]:List Str)++([]:List Str)) by decide +kernel) rfl (Or.inl rfl) (Or.inr rfl))) (fun _=>Yu) (fun _=>(ZX (K:=K) rfl (jv 0))))
   (Ze (Zz [] (Zv PJ (Yc ZJ (by rfl) T.b_len PySem.boot_len (Zc (Zg MQ T.XI (hr.mono (by decide)) Zh (Zc (jv 0) Zb)) Zb)) (zI (by rfl) T.b_len (by rfl) T.b_set (jv 1)) (Zu _)) (Ze (Xo [] T.E_Ring.x T.E_Ring.M (Zc ZQ Zb))) Zn))),fun xs q x h=>?_⟩)
 ·obtain ⟨rs,res,rfl,_⟩:=h
  rfl
 ·obtain ⟨rs,res,rfl,⟨l1,l2⟩,hh,h0,h1⟩:=h
  have hsz:aA=16777216:=rfl
  walk_at "rd"
  refine YB (fun r => .str r.hd) (by omega) (fun r hr N hN=>?_) ?_
  ·walk_at "rd"
   exact hN
  refine ⟨rs,res,rfl,⟨l1,l2⟩,hh,?_⟩
  walk_at "rd"
  refine ⟨(rs.map (·.hd)).map Sum.inr,by rw [map_map,map_map];rfl,by rw [length_map,length_map];omega,?_⟩
  rw [OC,length_map]
  exact XR (fun e=>⟨by decide,h1 (by unfold waitOf;omega)⟩) (fun e=>h0 (by unfold waitOf;omega))
noncomputable def vT (A:Adr) (z st:Str) (rs:List Ru):List (Str × D):=[("scale",.str z),("start",.str st),("rules",.tup (rs.map (Ru.d A)))]
noncomputable def madeG (A:Adr) (z st:Str) (rs:List Ru) (q:List (Str × D)->Prop) (x:Addr->Prop):Prop :=
 (z ≠ "cost" /\ z ≠ "chance" /\ x A.VV)\/((z = "cost" \/ z = "chance")/\((cwt z [] rs=1/\x A.WM)\/(cwt z [] rs=2/\x A.C_Twice)\/(cwt z [] rs=0/\((ctu rs=false/\x A.WN)\/(ctu rs=true/\((ck st rs=false/\x A.Sa)\/(ck st rs=true /\
  ∃ res,Hio (Wa rs) (waitOf rs) (waitOf rs) [] res/\((res.length < (waitOf rs).length/\x A.C_Ring)\/((waitOf rs).length<=res.length/\q (vT A z st rs))))))))))
noncomputable def UG (A:Adr):GM:=fun xs q x=>∃ (z st:Str) (rs:List Ru),xs=[.str z,.str st,.lst (rs.map (Ru.d A))]/\Rus rs/\madeG A z st rs q x
theorem Pu {A:Adr}(T:Txt K mg A):ZE P w K mg base (CXE P w) 5 A.ZD A.Wg ["self", "scale", "start", "rules"] (spI K A.ZG (UG A)):=by
 have UH:=VS (P:=P) (w:=w) (base:=base) T
 have Qz:=RZ (P:=P) (w:=w) (base:=base) T
 have IZ:=Il (P:=P) (w:=w) (base:=base) T
 have Hd:=Im (P:=P) (w:=w) (base:=base) T
 have CJ:=EI (P:=P) (w:=w) (base:=base) T
 haveI:TxC K A:=⟨⟨_,T⟩⟩
 refine T.Xj.okI Pq (fun xs q x h=>?_) (fun cdv Ar outer s H E hr=>⟨_,(Za (Ja (Zg UH T.Yh (hr.mono (by decide)) Zh (Zc (Zg CJ T.Ro (hr.mono (by decide)) Zh (Zc (jv 1) Zb)) (Zc (jv 3) Zb))))
   (Za (Ja (Zg Qz T.YS (hr.mono (by decide)) Zh (Zc (jv 3) Zb)))
   (Za (Ja (Zg IZ T.Vg (hr.mono (by decide)) Zh (Zc (jv 2) (Zc (jv 3) Zb))))
   (Za (Ja (Zg Hd T.Vh (hr.mono (by decide)) Zh (Zc (jv 3) Zb)))
   (Za (Uh (K:=K) [] 0 rfl (jv 1))
   (Za (Uh (K:=K) [] 0 rfl (jv 2))
   (Ze (Uh (K:=K) [] 0 rfl (UW Qc (by rfl) T.b_tuple PyProof.Rows.boot_tuple (Zc (jv 3) Zb)))))))))),fun oa dx xs q x h=>?_⟩)
 ·obtain ⟨z,st,rs,rfl,_⟩:=h
  rfl
 ·obtain ⟨z,st,rs,rfl,hr,hm⟩:=h
  walk_at "rd"
  rcases hm with ⟨n1,n2,hx⟩ | ⟨hz,hm⟩
  ·exact ⟨z,rfl,fun h=>(h.elim n1 n2).elim,fun _ _=>hx⟩
  refine ⟨z,rfl,fun _=>?_,fun a b=>(hz.elim a b).elim⟩
  rcases hm with ⟨e,hx⟩ | ⟨e,hx⟩ | ⟨e,hm⟩
  ·exact ⟨z,rs,rfl,hr,fun h=>by omega,fun _=>hx,fun h=>by omega⟩
  ·exact ⟨z,rs,rfl,hr,fun h=>by omega,fun h=>by omega,fun _=>hx⟩
  refine ⟨z,rs,rfl,hr,fun _=>?_,fun h=>by omega,fun h=>by omega⟩
  rcases hm with ⟨e,hx⟩ | ⟨e,hm⟩
  ·exact ⟨rs,rfl,hr,fun h=>(by rw [e] at h;cases h),fun _=>hx⟩
  refine ⟨rs,rfl,hr,fun _=>?_,fun h=>by rw [e] at h;cases h⟩
  rcases hm with ⟨e,hx⟩ | ⟨e,res,hh,hm⟩
  ·exact ⟨st,rs,rfl,hr,fun h=>(by rw [e] at h;cases h),fun _=>hx⟩
  refine ⟨st,rs,rfl,hr,fun _=>?_,fun h=>by rw [e] at h;cases h⟩
  rcases hm with ⟨e,hx⟩ | ⟨e,hq⟩
  ·exact ⟨rs,res,rfl,hr,hh,fun h=>by omega,fun _=>hx⟩
  exact ⟨rs,res,rfl,hr,hh,fun _=>⟨T.WQ,T.RO,by decide,T.WQ,T.RP,by show 1 < 1000;decide,T.WQ,T.RQ,by show 2 < 1000;decide,hq⟩,fun h=>by omega⟩
noncomputable def Gr (A:Adr) (z st:Str) (rs:List Ru):D := .obj A.ZG (vT A z st rs)
section
variable {A:Adr} [TxC K A] {q:D->Prop}{z st:Str}{rs:List Ru}
theorem vU:D.fld K "scale" (Gr A z st rs) q=q (.str z):=by obtain ⟨mg,T⟩:=(inferInstance:TxC K A).ex;exact D.Uk T.WQ T.RO rfl
theorem vV:D.fld K "start" (Gr A z st rs) q=q (.str st):=by obtain ⟨mg,T⟩:=(inferInstance:TxC K A).ex;exact D.Uk T.WQ T.RP rfl
theorem vW:D.fld K "rules" (Gr A z st rs) q=q (.tup (rs.map (Ru.d A))):=by obtain ⟨mg,T⟩:=(inferInstance:TxC K A).ex;exact D.Uk T.WQ T.RQ rfl
end
def rd5:String:=rd4 ++ " vU vV vW"
local macro_rules | `(tactic| walk_at "rd") => rdM rd5
noncomputable def mayS (rs:List Ru) (r:Ru) (ab:Int) (q:Bool->Prop):Prop:=match r.t with
 | none=>q true
 | some us=>if ab = -1 then q false else ∃ r',rs[ab.toNat]?=some r'/\0<=ab/\q (decide (r'.ti∈us))
noncomputable def EL (A:Adr):DSp:=fun xs q _=>∃ (z st:Str) (rs:List Ru) (i:Nat) (ab:Int) (r:Ru),xs=[Gr A z st rs,.int i,.int ab]/\rs[i]?=some r/\mayS rs r ab fun b=>q (.bl b)
theorem Fq {A:Adr}(T:Txt K mg A):ZE P w K mg base (CXE P w) 1 A.Vm A.Qo UZ (spD K (EL A)):=by
 haveI:TxC K A:=⟨⟨_,T⟩⟩
 refine T.Te.F.okJ Nv (fun xs q x h=>?_) (fun cdv Ar outer s H E hr=>⟨_,(Za (Zj (i:=3) Nv.nd rfl (Or.inl rfl) (ZX (K:=K) rfl (Zi (ZX (K:=K) rfl (jv 0)) (jv 1))))
   (Za (Zz [] (Zv DZ (jv 3) LY (Zu _)) (Ze (Zt [] Eg)) Zn)
   (Ze (Zt [] (Ob (WD (Ue hr.YW) (jv 2) (Tj Zd) (Zu _)) (SM (WD RN (ZX (K:=K) rfl (Zi (ZX (K:=K) rfl (jv 0)) (jv 2))) (jv 3) (by with_unfolding_all rfl)))))))),fun xs q x h=>?_⟩)
 ·obtain ⟨z,st,rs,i,ab,r,rfl,_⟩:=h
  rfl
 ·obtain ⟨z,st,rs,i,ab,r,rfl,hr,hm⟩:=h
  walk_at "rd"
  have hr':atI (rs.map (Ru.d A)) (i:Int)=some (r.d A):=Yv (by rw [getElem?_map,hr];rfl)
  refine ⟨_,hr',?_⟩
  walk_at "rd"
  unfold mayS at hm
  cases ht:r.t with
  | none =>
   rw [ht] at hm
   walk_at "rd"
   exact hm
  | some us =>
   rw [ht] at hm
   simp only at hm
   walk_at "rd"
   refine Ox (fun e=>?_) (fun e=>?_)
   ·rw [if_neg e] at hm
    obtain ⟨r',h1,h2,h3⟩:=hm
    refine ⟨r'.d A,?_,?_⟩
    ·have:=Yv (xs:=rs.map (Ru.d A)) (j:=ab.toNat) (v:=r'.d A) (by rw [getElem?_map,h1];rfl)
     rw [Int.toNat_of_nonneg h2] at this
     exact this
    ·walk_at "rd"
     exact h3
   ·rw [if_pos e] at hm
    exact hm
abbrev s62:Str := "abcdefghijklmnopqrstuvwxyz0123456789ABCDEFGHIJKLMNOPQRSTUVWXYZ"
theorem Al (x:Str) (lo hi:Option Int) {n:Nat}(h:x.length<=n):(Txt.slice x lo hi).length<=n:=Nat.le_trans (Txt.slice_le x lo hi) h
theorem Fs (x y:Str):(x++y).length=x.length + y.length:=by
 show (x.cps++y.cps).size=_
 rw [Array.size_append]
 rfl
noncomputable def CK (F z:Str):Prop:=∃ c r,z.cps.toList=c::r/\c∈F.cps.toList/\(∀ d∈r,d∈s62.cps.toList)/\r.length<=11
theorem CK.len {F z:Str}(h:CK F z):1<=z.length/\z.length<=12:=by
 obtain ⟨c,r,e,_,_,hl⟩:=h
 rw [PX,e,length_cons]
 omega
theorem Io {f:Nat->Str}{n:Nat}(h:∀ i j,i < j->j < n->f i≠f j):((List.range n).map f).Nodup:=by
 refine List.pairwise_map.mpr (List.Pairwise.imp_of_mem (fun {a b} _ hb lt=>h a b lt (mem_range.mp hb)) List.pairwise_lt_range)
noncomputable def sgR (F:Str) (i:Int):Nat:=F.cps.toList.getD (i % (F.length:Int)).toNat 0
theorem Rv {F:Str}(h:0 < F.length) (i:Int):atI F.cps.toList (i % (F.length:Int))=some (sgR F i)/\sgR F i∈F.cps.toList:=by
 have h1:=Int.emod_nonneg i (show (F.length:Int)≠0 by omega)
 have h2:=Int.emod_lt_of_pos i (show (0:Int) < F.length by omega)
 have hl:(i % (F.length:Int)).toNat < F.cps.toList.length:=by rw [<-PX];omega
 have e:sgR F i=F.cps.toList[(i % (F.length:Int)).toNat]:=by
  unfold sgR
  rw [getD_eq_getElem?_getD,aC hl]
  rfl
 rw [e]
 exact ⟨Oy (by omega) hl,getElem_mem hl⟩
theorem vX {F:Str}(hn:F.cps.toList.Nodup) {n:Nat}(hF:n<=F.length) (a:Int) {i j:Nat}(lt:i < j) (hj:j < n):sgR F (a + i)≠sgR F (a + j):=by
 intro e
 have h1:=(Rv (F:=F) (by omega) (a + i)).1
 have h2:=(Rv (F:=F) (by omega) (a + j)).1
 rw [e] at h1
 have b1:=Int.emod_nonneg (a + i) (show (F.length:Int)≠0 by omega)
 have b2:=Int.emod_lt_of_pos (a + i) (show (0:Int) < F.length by omega)
 have c1:=Int.emod_nonneg (a + j) (show (F.length:Int)≠0 by omega)
 have c2:=Int.emod_lt_of_pos (a + j) (show (0:Int) < F.length by omega)
 have l1:((a + i) % (F.length:Int)).toNat < F.cps.toList.length:=by rw [<-PX];omega
 have l2:((a + j) % (F.length:Int)).toNat < F.cps.toList.length:=by rw [<-PX];omega
 rw [Oy (j:=((a + i) % (F.length:Int)).toNat) (by omega) l1] at h1
 rw [Oy (j:=((a + j) % (F.length:Int)).toNat) (by omega) l2] at h2
 have:=(List.getElem_inj hn).mp (Option.some.inj (h1.trans h2.symm))
 have eq:(a + i) % (F.length:Int)=(a + j) % (F.length:Int):=by omega
 have:=Int.emod_emod_of_dvd (a + j - (a + i)) (Int.dvd_refl (F.length:Int))
 have d:((a + j) - (a + i)) % (F.length:Int)=0:=Int.emod_eq_emod_iff_emod_sub_eq_zero.mp eq.symm
 have d2:(a + j) - (a + i)=((j:Int) - i):=by omega
 rw [d2,Int.emod_eq_of_lt (by omega) (by omega)] at d
 omega
noncomputable def PL (m:Int):List Nat:=(List.range 11).map fun (j:Nat)=>sgR s62 (Ek m ((j:Int) + 1) + (j:Int) * (j:Int))
theorem vY (m:Int):∀ d∈PL m,d∈s62.cps.toList:=by
 intro d hd
 unfold PL at hd
 obtain ⟨j,_,rfl⟩:=mem_map.mp hd
 exact (Rv (by decide +kernel) _).2
theorem zX (m:Int):(PL m).length=11:=by unfold PL;simp
theorem join_one (cs:List Nat):(Txt.join "" (cs.map fun c=>(⟨#[c]⟩:Str))).cps.toList=cs:=by
 rw [tD]
 induction cs with
 | nil=>rfl
 | cons a r ih=>rw [map_cons,map_cons,flatten_cons,ih];rfl
theorem YZ {i:Int}(a : -(2 ^ 64) < i) (b:i < 2 ^ 64):Small i := .inr ((Bd.of a b).mono (by decide))
theorem nN:s62.cps.toList.Nodup:=by decide +kernel
theorem rV:s62.length=62:=by decide +kernel
noncomputable def He (F:Str) (n:Nat) (zs:List Str):Prop:=zs.length=n/\(∀ z∈zs,CK F z)/\zs.Nodup
noncomputable def zY:DSp:=fun xs q _=>∃ (cell:Int) (n:Nat) (F:Str),xs=[.int cell,.int n,.str F]/\n<=12/\12<=F.length/\F.length<=100/\F.cps.toList.Nodup/\∀ zs,He F n zs->q (.lst (zs.map .str))
theorem OD {A:Adr}(T:Txt K mg A):ZE P w K mg base (CXE P w) 2 A.Sg A.ME QR (spD K zY):=by
 have G_l_mix:=Vq (P:=P) (w:=w) (base:=base) T
 haveI:TxC K A:=⟨⟨_,T⟩⟩
 refine T.VY.F.okJ Xi (fun xs q x h=>?_) (fun cdv Ar outer s H E hr=>⟨_,(Za (Zj (i:=3) Xi.nd rfl (Or.inr rfl) ZQ)
   (Za (Zj (i:=4) Xi.nd rfl (Or.inr rfl) (Zg G_l_mix T.L_l_mix (hr.mono (by decide)) Zh (Zc (jv 0) (Zc Zd Zb))))
   (Za (Zj (i:=5) Xi.nd rfl (Or.inr rfl) (Zm Zr (Zm ZS (jv 4) Zd) (Yc ZJ (by rfl) T.b_len PySem.boot_len (Zc (jv 2) Zb))))
   (Za (Zj (i:=6) Xi.nd rfl (Or.inr rfl) (qC PySem.F.plainAttrs_str PySem.F.slot_str_join PySem.F.type_str_join tJ ZQ (Zc (Yw ["_law_j"] ["_law_rest", "_law_number"] [3,4] (YJ (by rfl) T.b_range (Zc Zd Zb)) (fun _=>(Zk (i:=0) (show @Nodup Str ((["_law_j"]:List Str)++(["_law_rest", "_law_number"]:List Str)) by decide +kernel) rfl (Or.inl rfl) (Or.inr rfl))) (fun _=>Yu) (fun _=>(Zi (jv 1) (Zm Zr (Zm ZP (Zm ZS (jv 2) (Zm ZP (jv 0) Zd)) (Zm Oc (jv 0) (jv 0))) Zd)))) Zb)))
   (Za (Zz [] (Zv (Xb hr.YW) (Zm Zr (jv 4) Zd) Zd (Zu _)) (Ze (Zt [] (Yw ["_law_k"] ["_law_firsts", "_law_start", "_law_tail"] [2,5,6] (YJ (by rfl) T.b_range (Zc (jv 1) Zb)) (fun _=>(Zk (i:=0) (show @Nodup Str ((["_law_k"]:List Str)++(["_law_firsts", "_law_start", "_law_tail"]:List Str)) by decide +kernel) rfl (Or.inl rfl) (Or.inr rfl))) (fun _=>Yu) (fun _=>(Zm ZP (Zi (jv 1) (jv 2)) (Wo (jv 3) Vb (XY (jv 0)))))))) Zn)
   (Za (Zz [] (Zv (Xb hr.YW) (Zm Zr (jv 4) Zd) Zd (Zu _)) (Za (Zj (i:=7) Xi.nd rfl (Or.inr rfl) (Zm Zr (Zm ZS (jv 4) Zd) Zd))
   (Ze (Zt [] (Yw ["_law_k"] ["_law_firsts", "_law_tail", "_law_size_here", "_law_start"] [2,6,7,5] (YJ (by rfl) T.b_range (Zc (jv 1) Zb)) (fun _=>(Zk (i:=0) (show @Nodup Str ((["_law_k"]:List Str)++(["_law_firsts", "_law_tail", "_law_size_here", "_law_start"]:List Str)) by decide +kernel) rfl (Or.inl rfl) (Or.inr rfl))) (fun _=>Yu) (fun _=>(Zm ZP (Zi (jv 1) (Zm Zr (Zm ZP (jv 4) (jv 0)) (Yc ZJ (by rfl) T.b_len PySem.boot_len (Zc (jv 1) Zb)))) (Wo (jv 2) Vb (XY (jv 3))))))))) Zn)
   (Za (Zj (i:=7) Xi.nd rfl (Or.inr rfl) (Zm Zr (Zm ZS (jv 4) Zd) Zd))
   (Za (Zj (i:=8) Xi.nd rfl (Or.inr rfl) (Zm Zr (Zm ZS (jv 4) Zd) (Zm ZP (jv 7) Zd)))
   (Za (Zj (i:=3) Xi.nd rfl (Or.inr rfl) (Yw ["_law_k"] ["_law_rest", "_law_number"] [3,4] (YJ (by rfl) T.b_range (Zc (jv 1) Zb)) (fun _=>(Zk (i:=0) (show @Nodup Str ((["_law_k"]:List Str)++(["_law_rest", "_law_number"]:List Str)) by decide +kernel) rfl (Or.inl rfl) (Or.inr rfl))) (fun _=>Yu) (fun _=>(Zi (jv 1) (Zm Zr (Zm ZP (Zm ZS (jv 2) Zd) (jv 0)) Zd)))))
   (Ze (Zt [] (Yw ["_law_sign"] ["_law_tail", "_law_at_here", "_law_size_here", "_law_firsts", "_law_start"] [6,8,7,2,5] (Yk (jv 3)) (fun _=>(Zk (i:=0) (show @Nodup Str ((["_law_sign"]:List Str)++(["_law_tail", "_law_at_here", "_law_size_here", "_law_firsts", "_law_start"]:List Str)) by decide +kernel) rfl (Or.inl rfl) (Or.inr rfl))) (fun _=>Yu) (fun _=>(Zm ZP (Zm ZP (Zm ZP (Zi (jv 4) (jv 5)) (Wo (jv 1) Vb (XY (jv 2)))) (jv 0)) (Wo (jv 1) (XY (jv 2)) (XY (jv 3))))))))))))))))),fun xs q x h=>?_⟩)
 ·obtain ⟨cell,n,F,rfl,_⟩:=h
  rfl
 ·obtain ⟨cell,n,F,rfl,n12,F0,F1,Fn,hq⟩:=h
  have hsz:aA=16777216:=rfl
  walk_at "rd"
  refine ⟨_,_,rfl,by decide,by decide,?_⟩
  have m1:=Rt cell 0
  have m2:=ML cell 0
  generalize mix cell 0=m at m1 m2 ⊢
  walk_at "rd"
  have one:∀ c:Nat,(⟨#[c]⟩:Str).length=1:=fun _=>rfl
  refine ⟨by decide,YZ (by decide) (by decide),by omega,by omega,by decide,by decide,Qv (fun j => .str ⟨#[sgR s62 (Ek m ((j:Int) + 1) + (j:Int) * (j:Int))]⟩) (by decide) (fun j hj N hN=>?_) ?_⟩
  ·have hj:j < 11:=hj
   walk_at "rd"
   exact ⟨by omega,YZ (by omega) (by omega),.l (by omega) (by omega),by decide,by decide +kernel,_,(Rv (F:=s62) (by decide +kernel) _).1,hN⟩
  have et:(List.range (Int.toNat 11)).map (fun j:Nat=>D.str ⟨#[sgR s62 (Ek m ((j:Int) + 1) + (j:Int) * (j:Int))]⟩)=((PL m).map fun c=>(⟨#[c]⟩:Str)).map .str:=by unfold PL;rw [map_map,map_map];rfl
  rw [et]
  have tl0:=join_one (PL m)
  have tl1:=zX m
  have tl2:=vY m
  walk_at "rd"
  refine ⟨?_,by decide,?_⟩
  ·have:=xx (zs:=(PL m).map fun c=>(⟨#[c]⟩:Str)) (m:=1) (fun z hz=>by obtain ⟨c,_,rfl⟩:=mem_map.mp hz;exact Nat.le_refl 1)
   rw [length_map] at this
   rw [show (Str.ofString "").length=0 from rfl]
   omega
  generalize Txt.join "" ((PL m).map fun c=>(⟨#[c]⟩:Str))=tl at tl0 ⊢
  generalize PL m=cs at tl0 tl1 tl2 ⊢
  have tlen:tl.length=11:=by rw [PX,tl0,tl1]
  obtain ⟨k0,k1⟩:=Rv (F:=F) (by omega) (m / 5)
  rw [Xw (show (0:Int) < F.length by omega)]
  have nd0:∀ {A B:Prop},(A->B)->A->B:=fun f a=>f a
  refine XR (fun e0=>⟨by omega,by omega,Qv (fun k => .str (⟨#[sgR F (m / 5)]⟩++Txt.slice tl none (some (k:Int)))) (by omega) (fun k hk N hN=>?_) ?_⟩) (fun e0=>⟨by decide,XR (fun e1=>?_) (fun e1=>?_)⟩)
  ·have hk:k < n:=by simpa using hk
   have g2:=Al tl none (some (k:Int)) (Nat.le_of_eq tlen)
   walk_at "rd"
   exact ⟨by omega,_,k0,by omega,by rw [one];omega,hN⟩
  ·rw [show ((n:Int).toNat)=n from by omega]
   have:=hq ((List.range n).map fun (k:Nat)=>⟨#[sgR F (m / 5)]⟩++Txt.slice tl none (some (k:Int))) ⟨by simp,fun z hz=>?_,Io fun i j lt hj e=>?_⟩
   ·rw [map_map] at this
    exact this
   ·obtain ⟨k,hk,rfl⟩:=mem_map.mp hz
    have hk:=mem_range.mp hk
    have g1:=HG (x:=tl) (j:=(k:Int)) (by omega) (by rw [tl0,tl1];omega)
    exact ⟨_,(Txt.slice tl none (some (k:Int))).cps.toList,by rw [SH];rfl,k1,fun d hd=>tl2 d (mem_of_mem_take (by rw [g1,tl0] at hd;exact hd)),by rw [g1,tl0,length_take,tl1];omega⟩
   ·have g1:=HG (x:=tl) (j:=(i:Int)) (by omega) (by rw [tl0,tl1];omega)
    have g2:=HG (x:=tl) (j:=(j:Int)) (by omega) (by rw [tl0,tl1];omega)
    have e:=congrArg (fun z:Str=>z.cps.toList.length) e
    simp only [SH,g1,g2,tl0,length_append,length_take,tl1,Gv,length_cons,length_nil,Int.toNat_natCast] at e
    omega
  ·refine ⟨by decide,YZ (by decide) (by decide),by decide,by omega,by omega,?_⟩
   have b1:=Int.emod_nonneg (m / 3) (show (12:Int)≠0 by decide)
   have b2:=Int.emod_lt_of_pos (m / 3) (show (0:Int) < 12 by decide)
   generalize m / 3 % 12=sz at b1 b2 ⊢
   have g1:=HG (x:=tl) (j:=sz) (by omega) (by rw [tl0,tl1];omega)
   have g2:=Al tl none (some sz) (Nat.le_of_eq tlen)
   generalize m / 5 % (F.length:Int)=st at k0 ⊢
   refine Qv (fun k => .str (⟨#[sgR F (st + k)]⟩++Txt.slice tl none (some sz))) (by omega) (fun k hk N hN=>?_) ?_
   ·walk_at "rd"
    rw [Xw (show (0:Int) < F.length by omega)]
    exact ⟨by omega,by omega,by omega,_,(Rv (F:=F) (by omega) (st + k)).1,by omega,by rw [one];omega,hN⟩
   ·rw [show ((n:Int).toNat)=n from by omega]
    have:=hq ((List.range n).map fun (k:Nat)=>⟨#[sgR F (st + k)]⟩++Txt.slice tl none (some sz)) ⟨by simp,fun z hz=>?_,Io fun i j lt hj e=>?_⟩
    ·rw [map_map] at this
     exact this
    ·obtain ⟨k,hk,rfl⟩:=mem_map.mp hz
     exact ⟨_,(Txt.slice tl none (some sz)).cps.toList,by rw [SH];rfl,(Rv (F:=F) (by omega) (st + k)).2,fun d hd=>tl2 d (mem_of_mem_take (by rw [g1,tl0] at hd;exact hd)),by rw [g1,tl0,length_take,tl1];omega⟩
    ·have e:=congrArg (fun z:Str=>z.cps.toList.head?) e
     simp only [SH,Gv,cons_append,List.head?_cons,Option.some.injEq] at e
     exact vX Fn (by omega) st lt hj e
  ·refine ⟨by decide,YZ (by decide) (by decide),by decide,by decide,YZ (by decide) (by decide),?_⟩
   have b1:=Int.emod_nonneg (m / 3) (show (11:Int)≠0 by decide)
   have b2:=Int.emod_lt_of_pos (m / 3) (show (0:Int) < 11 by decide)
   generalize m / 3 % 11=sz at b1 b2 ⊢
   rw [Xw (show (0:Int) < sz + 1 by omega)]
   have d1:=Int.emod_nonneg (m / 33) (show sz + 1≠0 by omega)
   have d2:=Int.emod_lt_of_pos (m / 33) (show (0:Int) < sz + 1 by omega)
   generalize m / 33 % (sz + 1)=ah at d1 d2 ⊢
   refine ⟨by omega,by omega,by omega,Qv (fun k => .str ⟨#[sgR s62 (m / 7 + k)]⟩) (by omega) (fun k hk N hN=>?_) ?_⟩
   ·walk_at "rd"
    exact ⟨by decide,YZ (by decide) (by decide),by decide,by decide +kernel,_,(Rv (F:=s62) (by decide +kernel) _).1,hN⟩
   rw [show ((n:Int).toNat)=n from by omega]
   have g1:=HG (x:=tl) (j:=ah) (by omega) (by rw [tl0,tl1];omega)
   have g2:=Al tl none (some ah) (Nat.le_of_eq tlen)
   have g3:=sl_ft (x:=tl) (i:=ah) (j:=sz) (by omega) (by omega) (by rw [tl0,tl1];omega)
   have g4:=Al tl (some ah) (some sz) (Nat.le_of_eq tlen)
   let nm:Nat->Str:=fun k=>⟨#[sgR F (m / 5)]⟩++Txt.slice tl none (some ah)++⟨#[sgR s62 (m / 7 + k)]⟩++Txt.slice tl (some ah) (some sz)
   refine YB (c:=fun k:Nat => .str ⟨#[sgR s62 (m / 7 + k)]⟩) (xs:=List.range n) (fun k => .str (nm k)) (by simp;omega) (fun k hk N hN=>?_) ?_
   ·walk_at "rd"
    exact ⟨by omega,_,k0,by omega,by rw [one];omega,by rw [Fs,one,one];omega,by omega,by rw [Fs,Fs,one,one];omega,hN⟩
   have es:∀ k,(nm k).cps.toList=sgR F (m / 5)::(cs.take ah.toNat++[sgR s62 (m / 7 + k)]++(cs.drop ah.toNat).take (sz - ah).toNat):=fun k=>by
    show (((⟨#[sgR F (m / 5)]⟩:Str)++Txt.slice tl none (some ah)++(⟨#[sgR s62 (m / 7 + k)]⟩:Str))++Txt.slice tl (some ah) (some sz)).cps.toList=_
    rw [SH,SH,SH,g1,g3,tl0,Gv,Gv]
    simp
   have:=hq ((List.range n).map nm) ⟨by simp,fun z hz=>?_,Io fun i j lt hj e=>?_⟩
   ·rw [map_map] at this
    exact this
   ·obtain ⟨k,hk,rfl⟩:=mem_map.mp hz
    refine ⟨_,_,es k,k1,fun d hd=>?_,?_⟩
    ·rcases mem_append.mp hd with hd | hd
     ·rcases mem_append.mp hd with hd | hd
      ·exact tl2 d (mem_of_mem_take hd)
      ·rw [mem_singleton.mp hd];exact (Rv (F:=s62) (by decide +kernel) _).2
     ·exact tl2 d (List.mem_of_mem_drop (mem_of_mem_take hd))
    ·rw [length_append,length_append,length_take,length_take,length_drop,tl1]
     simp only [length_cons,length_nil]
     omega
   ·have e:=congrArg (fun z:Str=>z.cps.toList) e
    simp only [es,List.cons.injEq,true_and,append_assoc,List.append_cancel_left_eq,cons_append,List.nil_append] at e
    exact vX (F:=s62) nN (n:=12) (by rw [rV];decide) (m / 7) lt (by omega) e.1
noncomputable def lowP (a b:Int):Int:=a.fdiv (Int.gcd a b:Int)
noncomputable def lowQ (a b:Int):Int:=b.fdiv (Int.gcd a b:Int)
noncomputable def CL:DSp:=fun xs q _=>∃ a b:Int,xs=[.int a,.int b]/\0 < b/\Bd 9000 b/\q (wD (lowP a b) (lowQ a b))
theorem ER {A:Adr}(T:Txt K mg A):ZE P w K mg base (CXE P w) 1 A.Uy A.Ou Rg (spD K CL):=by
 haveI:TxC K A:=⟨⟨_,T⟩⟩
 refine T.Rr.F.okJ Wk (fun xs q x h=>?_) (fun cdv Ar outer s H E hr=>⟨_,(Za (Zj (i:=2) Wk.nd rfl (Or.inl rfl) (Yc oG (by rfl) T.b_abs PyProof.Rows.boot_abs (Zc (jv 0) Zb)))
   (Za (Zj (i:=3) Wk.nd rfl (Or.inl rfl) (jv 1))
   (Za (JH [] PassesOwn.leaving (Zv El (jv 3) Zd (Zu _)) (Za (Zj (i:=4) Wk.nd rfl (Or.inl rfl) (Zm Zr (jv 2) (jv 3)))
   (Za (Zj (i:=2) Wk.nd rfl (Or.inl rfl) (jv 3))
   (Ze (Zj (i:=3) Wk.nd rfl (Or.inl rfl) (jv 4))))))
   (Ze (Zt [] (ZL (Zc (Zm ZS (jv 0) (jv 2)) (Zc (Zm ZS (jv 1) (jv 2)) Zb)))))))),fun xs q x h=>?_⟩)
 ·obtain ⟨a,b,rfl,_⟩:=h
  rfl
 ·obtain ⟨a,b,rfl,hb,hB,hq⟩:=h
  have gp:=Gw (a:=a) (b:=b) (by omega)
  have gB:Bd 9000 (Int.gcd a b:Int):=hB.le (by
   have:=Int.le_of_dvd hb (Int.gcd_dvd_right a b)
   omega)
  walk_at "rd"
  refine ⟨fun m ds=>∃ (x y:Int) (s:L2.Slot),ds=[.v (.int a),.v (.int b),.v (.int x),.v (.int y),s]/\0<=x/\0<=y/\Int.gcd x y=Int.gcd a b/\m=y.natAbs,⟨_,_,b,.un,rfl,by split <;> omega,by omega,by split <;> simp [Int.neg_gcd],rfl⟩,?_⟩
  rintro m _ ⟨x,y,s,rfl,hx,hy,e,rfl⟩
  walk_at "rd"
  refine XR (fun hp=>?_) (fun hp=>?_)
  ·rw [BD]
   exact ⟨by omega,_,tG x y (by omega),by omega,Int.fmod_nonneg hx hy,(xD x y).trans e,rfl⟩
  ·have ey:y=0:=by omega
   subst ey
   have ex:x=(Int.gcd a b:Int):=by
    rw [<-e,Int.gcd_zero_right]
    omega
   subst ex
   rw [GA,GA]
   exact ⟨by omega,.inr gB,by omega,.inr gB,by decide,hq⟩
theorem EV {α:Type}(xs:List α) (d:α) (i:Int) {n:Nat}(h:n=xs.length) (h0:0 < n):xs.getD (i % (n:Int)).toNat d∈xs:=by
 have h1:=Int.emod_nonneg i (show (n:Int)≠0 by omega)
 have h2:=Int.emod_lt_of_pos i (show (0:Int) < n by omega)
 have hl:(i % (n:Int)).toNat < xs.length:=by omega
 rw [getD_eq_getElem?_getD,aC hl]
 exact getElem_mem hl
noncomputable def wT (c m:Int):Int:=([1,2,1,3,c % 10 ^ 12,m]:List Int).getD (m % 6).toNat 0
noncomputable def wB (m:Int):Int:=([1,1,2,4,1 + m / 7 % 10 ^ 9,3]:List Int).getD (m / 6 % 6).toNat 0
noncomputable def EW (c m:Int) (z:Str):Int:=if z = "chance" then wT c m + (if wT c m=0 then 1 else 0) else if m / 36 % 4=0 then -wT c m else wT c m
noncomputable def wP (c k:Int) (z:Str):Int:=lowP (EW c (mix c k) z) (wB (mix c k))
noncomputable def wQ (c k:Int) (z:Str):Int:=lowQ (EW c (mix c k) z) (wB (mix c k))
theorem ph (c m:Int) (h0:0<=m) (h1:m < 2 ^ 40):0<=wT c m/\wT c m < 2 ^ 50:=by
 have hm:=EV ([1,2,1,3,c % 10 ^ 12,m]:List Int) 0 m (n:=6) rfl (by decide)
 unfold wT
 have c1:=Int.emod_nonneg c (show (10:Int) ^ 12≠0 by decide)
 have c2:=Int.emod_lt_of_pos c (show (0:Int) < 10 ^ 12 by decide)
 generalize ([1,2,1,3,c % 10 ^ 12,m]:List Int).getD (m % ((6:Nat):Int)).toNat 0=v at hm ⊢
 simp only [mem_cons,not_mem_nil,or_false] at hm
 rcases hm with rfl | rfl | rfl | rfl | rfl | rfl <;> constructor <;> omega
theorem pj (m:Int) (h0:0<=m):0 < wB m/\wB m < 2 ^ 50:=by
 have hm:=EV ([1,1,2,4,1 + m / 7 % 10 ^ 9,3]:List Int) 0 (m / 6) (n:=6) rfl (by decide)
 unfold wB
 have c1:=Int.emod_nonneg (m / 7) (show (10:Int) ^ 9≠0 by decide)
 have c2:=Int.emod_lt_of_pos (m / 7) (show (0:Int) < 10 ^ 9 by decide)
 generalize ([1,1,2,4,1 + m / 7 % 10 ^ 9,3]:List Int).getD (m / 6 % ((6:Nat):Int)).toNat 0=v at hm ⊢
 simp only [mem_cons,not_mem_nil,or_false] at hm
 rcases hm with rfl | rfl | rfl | rfl | rfl | rfl <;> constructor <;> omega
noncomputable def OG:DSp:=fun xs q _=>∃ (c k:Int) (z:Str),xs=[.int c,.int k,.str z] /\ -(2 ^ 20) < k/\k < 2 ^ 20/\q (wD (wP c k z) (wQ c k z))
theorem Kf {A:Adr}(T:Txt K mg A):ZE P w K mg base (CXE P w) 2 A.Uz A.Ov Rh (spD K OG):=by
 have G_l_mix:=Vq (P:=P) (w:=w) (base:=base) T
 have CM:=ER (P:=P) (w:=w) (base:=base) T
 haveI:TxC K A:=⟨⟨_,T⟩⟩
 refine T.WU.F.okJ Wl (fun xs q x h=>?_) (fun cdv Ar outer s H E hr=>⟨_,(Za (Zj (i:=3) Wl.nd rfl (Or.inl rfl) (Zg G_l_mix T.L_l_mix (hr.mono (by decide)) Zh (Zc (jv 0) (Zc (jv 1) Zb))))
   (Za (Zj (i:=4) Wl.nd rfl (Or.inl rfl) (Zi (WH (Zc Zd (Zc Zd (Zc Zd (Zc Zd (Zc (Zm Zr (jv 0) (Zm GB Zd Zd)) (Zc (jv 3) Zb))))))) (Zm Zr (jv 3) Zd)))
   (Za (Zj (i:=5) Wl.nd rfl (Or.inl rfl) (Zi (WH (Zc Zd (Zc Zd (Zc Zd (Zc Zd (Zc (Zm ZP Zd (Zm Zr (Zm ZS (jv 3) Zd) (Zm GB Zd Zd))) (Zc Zd Zb))))))) (Zm Zr (Zm ZS (jv 3) Zd) Zd)))
   (Za (Zz [] (Zv (Xb hr.YW) (jv 2) ZQ (Zu _)) (Ze (Zj (i:=4) Wl.nd rfl (Or.inl rfl) (Zm ZP (jv 4) (UW Ca (by rfl) T.b_int PyProof.Rows.boot_int (Zc (WD (Xb hr.YW) (jv 4) Zd (Zu _)) Zb))))) (Ze (Zz [] (Zv (Xb hr.YW) (Zm Zr (Zm ZS (jv 3) Zd) Zd) Zd (Zu _)) (Ze (Zj (i:=4) Wl.nd rfl (Or.inl rfl) (Tj (jv 4)))) Zn)))
   (Ze (Zt [] (Zg CM T.Rr (hr.mono (by decide)) Zh (Zc (jv 4) (Zc (jv 5) Zb))))))))),fun xs q x h=>?_⟩)
 ·obtain ⟨c,k,z,rfl,_⟩:=h
  rfl
 ·obtain ⟨c,k,z,rfl,k1,k2,hq⟩:=h
  walk_at "rd"
  refine ⟨_,_,rfl,k1,k2,?_⟩
  unfold wP wQ at hq
  have m1:=Rt c k
  have m2:=ML c k
  generalize mix c k=m at m1 m2 hq ⊢
  have w1:=ph c m m1 (by omega)
  have w2:=pj m m1
  walk_at "rd"
  rw [show RY c (10 ^ Int.toNat 12)=c % 10 ^ 12 from Xw (by decide),show RY (m / 7) (10 ^ Int.toNat 9)=m / 7 % 10 ^ 9 from Xw (by decide)]
  refine ⟨⟨by decide,by decide,by decide⟩,by decide,by decide,by decide,.int (wT c m),Jf D.int [1,2,1,3,c % 10 ^ 12,m] 0 (by omega) (by show m % 6 < 6;omega),by decide,YZ (by decide) (by decide),⟨by decide,by decide,by decide⟩,by decide,by decide,by decide,YZ (by decide) (by decide),by decide,
   .int (wB m),Jf D.int [1,1,2,4,1 + m / 7 % 10 ^ 9,3] 0 (by omega) (by show m / 6 % 6 < 6;omega),?_⟩
  unfold EW at hq
  generalize wT c m=t at w1 hq ⊢
  generalize wB m=b at w2 hq ⊢
  have bB:Bd 9000 b:=(Bd.of (n:=64) (by omega) (by omega)).mono (by decide)
  refine XR (fun e=>?_) (fun e=>⟨by decide,YZ (by decide) (by decide),by decide,XR (fun e1=>?_) (fun e1=>?_)⟩)
  ·walk_at "rd"
   rw [if_pos e] at hq
   exact ⟨_,_,rfl,w2.1,bB,by simpa using hq⟩
  ·rw [if_neg e,if_pos e1] at hq
   exact ⟨_,_,rfl,w2.1,bB,hq⟩
  ·rw [if_neg e,if_neg e1] at hq
   exact ⟨_,_,rfl,w2.1,bB,hq⟩
inductive Tr where
 | lf (d:D)
 | nd (k:Int) (ts:List Tr)
mutual
noncomputable def Tr.d:Tr->D
 | .lf d=>d
 | .nd k ts => .tup [.int k,.tup (Tr.ds ts)]
noncomputable def Tr.ds:List Tr->List D
 | []=>[]
 | t::ts=>t.d::Tr.ds ts
end
theorem Tr.vZ (ts:List Tr):Tr.ds ts=ts.map Tr.d:=by
 induction ts with
 | nil=>rfl
 | cons t ts ih=>unfold Tr.ds;rw [ih];rfl
theorem Kt {k:Int}{ts:List Tr}:(Tr.nd k ts).d = .tup [.int k,.tup (ts.map Tr.d)]:=by unfold Tr.d;rw [Tr.vZ]
theorem Hf {d:D}:(Tr.lf d).d=d:=by unfold Tr.d;rfl
mutual
noncomputable def Tr.sz:Tr->Nat
 | .lf _=>1
 | .nd _ ts=>1 + Tr.szs ts
noncomputable def Tr.szs:List Tr->Nat
 | []=>0
 | t::ts=>t.sz + Tr.szs ts
end
theorem Tr.Pl (a b:List Tr):Tr.szs (a++b)=Tr.szs a + Tr.szs b:=by
 induction a with
 | nil=>simp [Tr.szs]
 | cons t a ih=>rw [cons_append,Tr.szs,Tr.szs,ih];omega
theorem Tr.Ft (t:Tr):1<=t.sz:=by cases t <;> unfold Tr.sz <;> omega
theorem Tr.Rx (ts:List Tr):ts.length<=Tr.szs ts:=by
 induction ts with
 | nil=>simp
 | cons t ts ih=>have:=t.Ft;rw [Tr.szs,length_cons];omega
mutual
noncomputable def Tr.pl:Tr->Bool
 | .lf (.int _)=>true
 | .lf _=>false
 | .nd _ ts=>Tr.pls ts
noncomputable def Tr.pls:List Tr->Bool
 | []=>true
 | t::ts=>t.pl && Tr.pls ts
end
theorem Tr.NU (ts:List Tr):Tr.pls ts=ts.all Tr.pl:=by
 induction ts with
 | nil=>rfl
 | cons t ts ih=>rw [Tr.pls,all_cons,ih]
theorem Tr.NV {d:D}(h:(Tr.lf d).pl=true):∃ i,d = .int i:=by
 cases d with
 | int i=>exact ⟨i,rfl⟩
 | _=>unfold Tr.pl at h;cases h
theorem Tr.EX {k:Int}{ts:List Tr}(h:(Tr.nd k ts).pl=true):∀ t∈ts,t.pl=true:=by
 unfold Tr.pl at h
 rw [Tr.NU,all_eq_true] at h
 exact h
noncomputable def Tr.isNd:Tr->Bool
 | .nd _ _=>true
 | .lf _=>false
-- the numbers of the rules,in the order of the row
mutual
noncomputable def Tr.rl:Tr->List Int
 | .lf _=>[]
 | .nd k ts=>k::Tr.rls ts
noncomputable def Tr.rls:List Tr->List Int
 | []=>[]
 | t::ts=>t.rl++Tr.rls ts
end
mutual
theorem Tr.nP:∀ t:Tr,t.rl.length<=t.sz
 | .lf _=>by unfold Tr.rl Tr.sz;simp
 | .nd k ts=>by unfold Tr.rl Tr.sz;have:=Tr.Am ts;rw [length_cons];omega
theorem Tr.Am:∀ ts:List Tr,(Tr.rls ts).length<=Tr.szs ts
 | []=>by unfold Tr.rls Tr.szs;simp
 | t::ts=>by unfold Tr.rls Tr.szs;have:=Tr.nP t;have:=Tr.Am ts;rw [length_append];omega
end
def rd6:String:=rd5 ++ " dZip dRevT Ag Kt Hf dAugI dRetO dRetF qU qS dIxS dRef qT"
local macro_rules | `(tactic| walk_at "rd") => rdM rd6
noncomputable def stands (rs:List Ru) (r:Ru) (ab:Int):Bool:=match r.t with
 | none=>true
 | some us=>if ab = -1 then false else match rs[ab.toNat]? with
  | some r'=>decide (r'.ti∈us)
  | none=>false
noncomputable def CN (rs:List Ru) (ab:Int):Prop:=ab = -1\/(0<=ab/\ab < rs.length)
theorem rX {rs:List Ru}{r:Ru}{ab:Int}{q:Bool->Prop}(h:CN rs ab) (hq:q (stands rs r ab)):mayS rs r ab q:=by
 unfold mayS
 unfold stands at hq
 cases ht:r.t with
 | none=>rw [ht] at hq;exact hq
 | some us =>
  rw [ht] at hq
  simp only at hq ⊢
  by_cases e:ab = -1
  ·rw [if_pos e] at hq ⊢;exact hq
  ·rw [if_neg e] at hq ⊢
   rcases h with h | h
   ·exact absurd h e
   ·obtain ⟨r',hr'⟩:∃ r',rs[ab.toNat]?=some r':=⟨_,aC (by omega)⟩
    rw [hr'] at hq
    exact ⟨r',hr',h.1,hq⟩
noncomputable def YY (rs:List Ru) (kd:Str) (ab:Int):Tr->Str
 | .lf _ => "rule"
 | .nd k ts=>if 0<=k/\k < rs.length then (match rs[k.toNat]? with
  | some r=>if r.hd≠kd then "head" else if stands rs r ab=false then "tied" else if ts.length≠r.ps.length then "kids" else ""
  | none => "rule") else "rule"
noncomputable def Fu (A:Adr):DSp:=fun xs q _=>∃ (z st:Str) (rs:List Ru) (kd:Str) (ab:Int) (t:Tr),xs=[Gr A z st rs,.str kd,.int ab,t.d]/\CN rs ab/\t.pl=true/\q (.str (YY rs kd ab t))
theorem Hg {A:Adr}(T:Txt K mg A):ZE P w K mg base (CXE P w) 2 A.Wt A.Rm VL (spD K (Fu A)):=by
 have EY:=Fq (P:=P) (w:=w) (base:=base) T
 haveI:TxC K A:=⟨⟨_,T⟩⟩
 refine T.VQ.F.okJ Tq (fun xs q x h=>?_) (fun cdv Ar outer s H E hr=>⟨_,(Za (Zz [] (RX (UU (Yj (ZU (Yc (Wd (K:=K) rfl) (by rfl) T.ZK PyProof.Rows.boot_isinstance (Zc (jv 3) (Zc (Xu (n := "tuple") (by rfl) T.b_tuple PyProof.Rows.boot_tuple) Zb))))) (Uc (Yj (TU Qb PJ Zd (Zi (jv 3) Zd) (Yc ZJ (by rfl) T.b_len PySem.boot_len (Zc (ZX (K:=K) rfl (jv 0)) Zb))))))) (Ze (Zt [] ZQ)) Zn)
   (Za (JD (jv 3) (SR (n:=2) (ZM (Zk (i:=4) Tq.nd rfl (Or.inl rfl)) (ZM (Zk (i:=5) Tq.nd rfl (Or.inl rfl)) VH))))
   (Za (Zz [] (Zv (Ue hr.YW) (ZX (K:=K) rfl (Zi (ZX (K:=K) rfl (jv 0)) (jv 4))) (jv 1) (Zu _)) (Ze (Zt [] ZQ)) Zn)
   (Za (Zz [] (Yj (ZU (Zg EY T.Te (hr.mono (by decide)) Zh (Zc (jv 0) (Zc (jv 4) (Zc (jv 2) Zb)))))) (Ze (Zt [] ZQ)) Zn)
   (Za (Zz [] (Zv (Ue hr.YW) (Yc ZJ (by rfl) T.b_len PySem.boot_len (Zc (jv 5) Zb)) (Yc ZJ (by rfl) T.b_len PySem.boot_len (Zc (ZX (K:=K) rfl (Zi (ZX (K:=K) rfl (jv 0)) (jv 4))) Zb)) (Zu _)) (Ze (Zt [] ZQ)) Zn)
   (Ze (Zt [] ZQ))))))),fun xs q x h=>?_⟩)
 ·obtain ⟨z,st,rs,kd,ab,t,rfl,_⟩:=h
  rfl
 ·obtain ⟨z,st,rs,kd,ab,t,rfl,ha,hp,hq⟩:=h
  have hsz:aA=16777216:=rfl
  cases t with
  | lf d =>
   obtain ⟨i,rfl⟩:=Tr.NV hp
   walk_at "rd"
   exact hq
  | nd k ts =>
   walk_at "rd"
   unfold YY at hq
   dsimp only at hq
   refine ⟨_,rfl,?_⟩
   walk_at "rd"
   by_cases hk:0<=k/\k < rs.length
   ·rw [if_pos hk] at hq
    obtain ⟨r,hr⟩:∃ r,rs[k.toNat]?=some r:=⟨_,aC (by omega)⟩
    rw [hr] at hq
    simp only at hq
    have er:atI (rs.map (Ru.d A)) k=some (r.d A):=by
     have:=Yv (xs:=rs.map (Ru.d A)) (j:=k.toNat) (v:=r.d A) (by rw [getElem?_map,hr];rfl)
     rw [Int.toNat_of_nonneg hk.1] at this
     exact this
    rw [decide_eq_true hk.1]
    walk_at "rd"
    rw [decide_eq_true hk.2]
    walk_at "rd"
    refine ⟨_,er,?_⟩
    walk_at "rd"
    refine Ox (fun e=>?_) (fun e=>?_)
    ·rw [if_pos e] at hq;exact hq
    rw [if_neg (fun z=>z e)] at hq
    have ek:(k.toNat:Int)=k:=Int.toNat_of_nonneg hk.1
    refine ⟨z,st,rs,k.toNat,ab,r,by rw [ek],hr,rX ha ?_⟩
    walk_at "rd"
    refine Pt (fun e1=>?_) (fun e1=>⟨_,er,?_⟩)
    ·rw [if_pos e1] at hq;exact hq
    rw [if_neg (by rw [e1];decide)] at hq
    walk_at "rd"
    refine Ox (fun e2=>?_) (fun e2=>?_)
    ·rw [if_pos (fun z=>e2 (by omega))] at hq;exact hq
    ·rw [if_neg (fun z=>z (by omega))] at hq;exact hq
   ·rw [if_neg hk] at hq
    refine XR (fun e1=>?_) (fun e1=>hq)
    refine Pt (fun e2=>hq) (fun e2=>absurd ⟨e1,of_decide_eq_true e2⟩ hk)
noncomputable def Ip (s:Str × Int × Tr):D := .tup [.str s.1,.int s.2.1,s.2.2.d]
theorem nQ {p:Str}{ab:Int}{t:Tr}:Ip (p,ab,t) = .tup [.str p,.int ab,t.d]:=rfl
noncomputable def YF (ps:List Str) (k:Int) (ts:List Tr):List (Str × Int × Tr):=(ps.zip ts).map fun p=>(p.1,k,p.2)
noncomputable def Hh (A:Adr):DSp:=fun xs q _=>∃ (z st:Str) (rs:List Ru) (k:Int) (ts:List Tr) (r:Ru),xs=[Gr A z st rs,(Tr.nd k ts).d]/\0<=k/\rs[k.toNat]?=some r/\ts.length<=1000000/\q (.lst ((YF r.ps k ts).map Ip))
theorem Iq {A:Adr}(T:Txt K mg A):ZE P w K mg base (CXE P w) 1 A.XX A.Tv Vf (spD K (Hh A)):=by
 haveI:TxC K A:=⟨⟨_,T⟩⟩
 refine T.Vi.F.okJ Uq (fun xs q x h=>?_) (fun cdv Ar outer s H E hr=>⟨_,(Za (JD (jv 1) (SR (n:=2) (ZM (Zk (i:=2) Uq.nd rfl (Or.inr rfl)) (ZM (Zk (i:=3) Uq.nd rfl (Or.inl rfl)) VH))))
   (Ze (Zt [] (Yw ["part", "kid"] ["number"] [2] (rq (by rfl) T.b_zip (Zc (ZX (K:=K) rfl (Zi (ZX (K:=K) rfl (jv 0)) (jv 2))) (Zc (jv 3) Zb))) (fun _=>(SR (n:=2) (ZM (Zk (i:=0) (show @Nodup Str ((["part", "kid"]:List Str)++(["number"]:List Str)) by decide +kernel) rfl (Or.inl rfl) (Or.inr rfl)) (ZM (Zk (i:=1) (show @Nodup Str ((["part", "kid"]:List Str)++(["number"]:List Str)) by decide +kernel) rfl (Or.inl rfl) (Or.inr rfl)) VH)))) (fun _=>Yu) (fun _=>(ZL (Zc (jv 0) (Zc (jv 2) (Zc (jv 1) Zb))))))))),fun xs q x h=>?_⟩)
 ·obtain ⟨z,st,rs,k,ts,r,rfl,_⟩:=h
  rfl
 ·obtain ⟨z,st,rs,k,ts,r,rfl,hk,hr,hl,hq⟩:=h
  have hsz:aA=16777216:=rfl
  have er:atI (rs.map (Ru.d A)) k=some (r.d A):=by
   have:=Yv (xs:=rs.map (Ru.d A)) (j:=k.toNat) (v:=r.d A) (by rw [getElem?_map,hr];rfl)
   rw [Int.toNat_of_nonneg hk] at this
   exact this
  walk_at "rd"
  refine ⟨_,er,?_⟩
  walk_at "rd"
  refine ⟨_,rfl,_,rfl,?_⟩
  have ez:Cm (r.ps.map D.str) (ts.map Tr.d)=(r.ps.zip ts).map fun p => .tup [.str p.1,p.2.d]:=by
   unfold Cm
   rw [List.zip_map,map_map]
   rfl
  rw [ez]
  refine zu (c:=fun p:Str × Tr => .str p.1) (c':=fun p:Str × Tr=>p.2.d) (fun p => .tup [.str p.1,.int k,p.2.d]) (by rw [length_zip];omega) (fun p hp N hN=>?_) ?_
  ·walk_at "rd"
   exact ⟨by decide,hN⟩
  ·unfold YF at hq
   rw [map_map] at hq
   exact hq
-- whether a thing can stand for a part beneath a rule,and all beneath it
mutual
noncomputable def isTr (rs:List Ru) (p:Str) (ab:Int):Tr->Bool
 | .lf d => !XM p
 | .nd k ts=>XM p && decide (YY rs p ab (.nd k ts) = "") && pq rs ((rs[k.toNat]?.map (·.ps)).getD []) k ts
noncomputable def pq (rs:List Ru):List Str->Int->List Tr->Bool
 | p::ps,k,t::ts=>isTr rs p k t && pq rs ps k ts
 | _,_,_=>true
end
theorem zZ (ps:List Str) (k:Int) (ts:List Tr):Tr.szs ((YF ps k ts).map (·.2.2))<=Tr.szs ts:=by
 induction ps generalizing ts with
 | nil=>simp [YF,Tr.szs]
 | cons p ps ih =>
  cases ts with
  | nil=>simp [YF,Tr.szs]
  | cons t ts =>
   have:=ih ts
   unfold YF at this ⊢
   simp only [List.zip_cons_cons,map_cons,Tr.szs]
   omega
theorem Ir {rs:List Ru}{p:Str}{ab k:Int}{ts:List Tr}(h:YY rs p ab (.nd k ts) = ""):0<=k/\k < rs.length/\∃ r,rs[k.toNat]?=some r/\r.hd=p/\stands rs r ab=true/\ts.length=r.ps.length:=by
 unfold YY at h
 dsimp only at h
 by_cases hk:0<=k/\k < rs.length
 ·rw [if_pos hk] at h
  obtain ⟨r,hr⟩:∃ r,rs[k.toNat]?=some r:=⟨_,aC (by omega)⟩
  rw [hr] at h
  dsimp only at h
  refine ⟨hk.1,hk.2,r,hr,?_⟩
  by_cases e1:r.hd=p
  ·rw [if_neg (fun z=>z e1)] at h
   cases e2:stands rs r ab with
   | false=>rw [if_pos e2] at h;exact absurd h (by decide +kernel)
   | true =>
    rw [if_neg (by rw [e2];decide)] at h
    by_cases e3:ts.length=r.ps.length
    ·exact ⟨e1,rfl,e3⟩
    ·rw [if_pos e3] at h;exact absurd h (by decide +kernel)
  ·rw [if_pos e1] at h;exact absurd h (by decide +kernel)
 ·rw [if_neg hk] at h;exact absurd h (by decide +kernel)
theorem yc {ps:List Str}{k:Int}{ts:List Tr}{s:Str × Int × Tr}(h:s∈YF ps k ts):s.1∈ps/\s.2.1=k/\s.2.2∈ts:=by
 obtain ⟨p,hp,rfl⟩:=mem_map.mp h
 have:=of_mem_zip hp
 exact ⟨this.1,rfl,this.2⟩
theorem XS {α:Type}(f:α->D) (xs:List α) {i:Int}(h0:0<=i) (h:i < xs.length):∃ x,x∈xs/\atI (xs.map f) i=some (f x):=by
 have hj:i.toNat < xs.length:=by omega
 refine ⟨xs[i.toNat],getElem_mem hj,?_⟩
 rw [Oy (j:=i.toNat) (by omega) (by rw [length_map];exact hj),List.getElem_map]
theorem mod_lt {n:Nat}(i:Int) (h:0 < n):0<=i % (n:Int)/\i % (n:Int) < n:=⟨Int.emod_nonneg i (by omega),Int.emod_lt_of_pos i (by omega)⟩
abbrev s26:Str := "ABCDEFGHIJKLMNOPQRSTUVWXYZ"
abbrev s36:Str := "abcdefghijklmnopqrstuvwxyz0123456789"
theorem rY (xs:List D) {i j:Int}(h0:0<=i) (h1:i<=j):cutD xs (some i) (some j)=(xs.drop i.toNat).take (j - i).toNat:=by
 obtain ⟨f,rfl⟩:=Int.eq_ofNat_of_zero_le h0
 obtain ⟨g,rfl⟩:∃ g:Nat,j=(f:Int) + g:=⟨(j - f).toNat,by omega⟩
 unfold cutD
 rw [show ((f:Int) + (g:Int))=((f + g:Nat):Int) by omega,HT.KY,HT.KY,show (((f + g:Nat):Int) - (f:Int)).toNat=g by omega,show (f:Int).toNat=f from rfl]
 refine List.ext_getElem? fun i=>?_
 simp only [List.getElem?_take,List.getElem?_drop]
 by_cases h:f<=xs.length
 ·rw [Nat.min_eq_left h]
  by_cases h1:i < g
  ·rw [if_pos h1]
   by_cases h2:f + i < xs.length
   ·rw [if_pos (by omega)]
   ·rw [List.getElem?_eq_none (by omega)]
    split <;> rfl
  ·rw [if_neg h1,if_neg (by omega)]
 ·rw [Nat.min_eq_right (by omega),if_neg (by omega)]
  rw [List.getElem?_eq_none (show xs.length<=f + i by omega)]
  split <;> rfl
theorem Fv (xs:List D) {j:Int}(h0:0<=j):cutD xs none (some j)=xs.take j.toNat:=by
 have:=rY xs (i:=0) (j:=j) (by decide) h0
 unfold cutD at this ⊢
 rw [HT.FQ]
 rw [show (0:Int)=((0:Nat):Int) from rfl,HT.KY,Nat.zero_min] at this
 simpa using this
theorem nR:s62.cps.toList=Yi.cps.toList++Wm.cps.toList++ZC.cps.toList:=by decide +kernel
theorem nmS62 (c:Nat):decide (c∈s62.cps.toList)=nmS c:=by
 unfold nmS
 rw [nR]
 simp only [mem_append,Bool.decide_or,Bool.or_assoc]
 rw [Bool.or_comm (decide (c∈Wm.cps.toList))]
theorem ua:∀ c∈s26.cps.toList,c∈s62.cps.toList/\grS c=true:=by decide +kernel
theorem ub:∀ c∈s36.cps.toList,c∈s62.cps.toList/\grS c=false:=by decide +kernel
theorem An {z:Str}(h1:1<=z.length) (h2:z.length<=12) (h:∀ c∈z.cps.toList,c∈s62.cps.toList):isNm z=true:=by
 unfold isNm
 rw [decide_eq_true h1,decide_eq_true h2,show z.cps.toList.all nmS=true from all_eq_true.mpr fun c hc=>by rw [<-nmS62];exact decide_eq_true (h c hc)]
 rfl
theorem uc {z:Str}{c:Nat}{r:List Nat}(e:z.cps.toList=c::r):fst z=c:=by unfold fst;rw [e];rfl
theorem CK.kd {z:Str}(h:CK s26 z):XM z=true:=by
 have hl:=h.len
 obtain ⟨c,r,e,hc,hr,_⟩:=h
 unfold XM
 rw [uc e,(ua c hc).2,An hl.1 hl.2 (by rw [e];intro d hd;rcases mem_cons.mp hd with rfl | hd;exact (ua _ hc).1;exact hr d hd)]
 rfl
theorem CK.wd {z:Str}(h:CK s36 z):UR z=true:=by
 have hl:=h.len
 obtain ⟨c,r,e,hc,hr,_⟩:=h
 unfold UR
 rw [uc e,(ub c hc).2,An hl.1 hl.2 (by rw [e];intro d hd;rcases mem_cons.mp hd with rfl | hd;exact (ub _ hc).1;exact hr d hd)]
 rfl
theorem MR {z:Str}(h:UR z=true):XM z=false:=by
 unfold UR at h
 unfold XM
 rw [aF] at h
 rw [h.1]
 simpa using h.2
theorem EZ {z:Str}(h:XM z=true):isNm z=true:=by unfold XM at h;rw [aF] at h;exact h.1
theorem Iu {z:Str}(h:UR z=true):isNm z=true:=by unfold UR at h;rw [aF] at h;exact h.1
theorem nS {z:Str}:∀ (rs:List Ru) (seen:List Str),(∀ r∈rs,okW z r.wa=true)->(rs.map (·.ti)).Nodup->(∀ r∈rs,r.ti∉seen)->cwt z seen rs=0:=by
 intro rs
 induction rs with
 | nil=>intro seen _ _ _;rfl
 | cons r rs ih =>
  intro seen h1 h2 h3
  unfold cwt
  rw [if_neg (by rw [h1 r (mem_cons_self ..)];decide),if_neg (h3 r (mem_cons_self ..))]
  rw [map_cons,nodup_cons] at h2
  refine ih _ (fun r' h=>h1 r' (mem_cons_of_mem _ h)) h2.2 (fun r' h z=>?_)
  rcases mem_append.mp z with z | z
  ·exact h3 r' (mem_cons_of_mem _ h) z
  ·exact h2.1 (by rw [<-mem_singleton.mp z];exact mem_map.mpr ⟨r',h,rfl⟩)
theorem Jg {z:Str}(h:isNm z=true):z.length<=1000:=by have:=UD h;omega
theorem fits_of {zs:List Str}(hl:zs.length<=1000) (h:∀ z∈zs,isNm z=true):Fits zs:=⟨hl,fun z hz=>Jg (h z hz)⟩
theorem Hio.all {steps:List (Str × Str)}(rank:Str->Nat):∀ (k:Nat) (w r o:List Str),w.length<=k->(∀ s∈steps,s.2∈w->rank s.1 < rank s.2)->r≠[]->∃ res,Hio steps w r o res/\res.length=o.length + w.length:=by
 intro k
 induction k with
 | zero =>
  intro w r o hk hs hr
  have:w=[]:=List.eq_nil_of_length_eq_zero (by omega)
  subst this
  exact ⟨o++[],.step hr .stop,by simp⟩
 | succ k ih =>
  intro w r o hk hs hr
  by_cases hw:w=[]
  ·subst hw
   exact ⟨o++[],.step hr .stop,by simp⟩
  have ll:=EK w (fun h=>decide (h∈heldBy steps w))
  obtain ⟨m,hm,hmax⟩:∃ m∈w,∀ x∈w,rank x<=rank m:=by
   clear ll hs ih hk
   induction w with
   | nil=>exact absurd rfl hw
   | cons a w ihw =>
    by_cases e:w=[]
    ·subst e
     exact ⟨a,mem_cons_self ..,fun x hx=>by rw [mem_singleton.mp hx];exact Nat.le_refl _⟩
    ·obtain ⟨m,h1,h2⟩:=ihw e
     by_cases c:rank a<=rank m
     ·exact ⟨m,mem_cons_of_mem _ h1,fun x hx=>by rcases mem_cons.mp hx with rfl | hx;exact c;exact h2 x hx⟩
     ·exact ⟨a,mem_cons_self ..,fun x hx=>by rcases mem_cons.mp hx with rfl | hx;exact Nat.le_refl _;have:=h2 x hx;omega⟩
  have free:m∉heldBy steps w:=fun z=>by
   unfold heldBy at z
   obtain ⟨s,h1,h2⟩:=mem_map.mp z
   obtain ⟨h3,h4⟩:=mem_filter.mp h1
   have h4:=of_decide_eq_true h4
   have:=hs s h3 h4
   have:=hmax _ h4
   rw [h2] at *
   omega
  have mr:m∈w.filter fun h => !decide (h∈heldBy steps w):=mem_filter.mpr ⟨hm,by simp [free]⟩
  have hr':(w.filter fun h => !decide (h∈heldBy steps w))≠[]:=fun z=>by rw [z] at mr;cases mr
  have pos:=List.length_pos_iff.mpr hr'
  obtain ⟨res,h1,h2⟩:=ih (w.filter fun h=>decide (h∈heldBy steps w)) _ (o++w.filter fun h => !decide (h∈heldBy steps w)) (by omega) (fun s h3 h4=>hs s h3 (mem_filter.mp h4).1) hr'
  exact ⟨res,.step hr h1,by rw [h2,length_append];omega⟩
structure Good (z st:Str) (rs:List Ru):Prop where
 fit:Rus rs
 ok:∀ r∈rs,Wh r.ti r.hd r.ps r.tg r.t=true
 wt:cwt z [] rs=0
 un:ctu rs=true
 kd:ck st rs=true
 ring:∃ res,Hio (Wa rs) (waitOf rs) (waitOf rs) [] res/\(waitOf rs).length<=res.length
theorem Dc (zs:List Str):∀ z,z∈vS zs↔z∈zs:=by
 have go:∀ (zs a:List Str) z,z∈zs.foldl EJ a↔z∈a\/z∈zs:=by
  intro zs
  induction zs with
  | nil=>intro a z;simp
  | cons y zs ih =>
   intro a z
   rw [foldl_cons,ih]
   unfold EJ
   split
   ·rename_i h
    constructor
    ·rintro (h1 | h1)
     ·exact .inl h1
     ·exact .inr (mem_cons_of_mem _ h1)
    ·rintro (h1 | h1)
     ·exact .inl h1
     ·rcases mem_cons.mp h1 with rfl | h1
      ·exact .inl h
      ·exact .inr h1
   ·simp [or_assoc]
 intro z
 have:=go zs [] z
 simpa [vS] using this
theorem wLow (c k:Int) (z:Str):Low (wP c k z) (wQ c k z)/\Bd 64 (wP c k z)/\Bd 64 (wQ c k z)/\(z = "chance" -> 0 < wP c k z):=by
 have w1:=ph c (mix c k) (Rt c k) (by have:=ML c k;omega)
 have w2:=pj (mix c k) (Rt c k)
 unfold wP wQ lowP lowQ
 have hT : -(2 ^ 51) < EW c (mix c k) z/\EW c (mix c k) z < 2 ^ 51/\(z = "chance" -> 0 < EW c (mix c k) z):=by
  unfold EW
  generalize wT c (mix c k)=t at w1 ⊢
  by_cases e:z = "chance"
  ·rw [if_pos e]
   refine ⟨?_,?_,fun _=>?_⟩ <;> split <;> omega
  ·rw [if_neg e]
   refine ⟨?_,?_,fun h=>absurd h e⟩ <;> split <;> omega
 generalize EW c (mix c k) z=t at hT ⊢
 generalize wB (mix c k)=b at w2 ⊢
 have gp:=Gw (a:=t) (b:=b) (by omega)
 obtain ⟨l,e,l1,l2⟩:=oC (a:=t) (b:=b) (d:=(Int.gcd t b:Int)) (by omega) (.inl rfl) (Int.mul_pos w2.1 gp)
 refine ⟨l,(Bd.of (n:=64) (i:=t) (by omega) (by omega)).le l1,(Bd.of (n:=64) (i:=b) (by omega) (by omega)).le l2,fun z=>?_⟩
 have:0 < t.fdiv (Int.gcd t b:Int) * b:=by rw [e];exact Int.mul_pos (hT.2.2 z) l.pos
 exact Int.pos_of_mul_pos_left this w2.1
noncomputable def Xk (r:Ru):D := .tup [.str r.ti,.str r.hd,.tup (r.ps.map .str),wD r.wa r.wb,.str r.tg,IV r.t]
structure RowR (scale:Str) (kinds words tis:List Str) (r:Ru):Prop where
 hd:r.hd∈kinds
 p1:1<=r.ps.length
 p4:r.ps.length<=4
 ps:∀ p∈r.ps,p∈kinds\/p∈words
 one:∀ p,r.ps=[p]->p∈kinds->kinds.idxOf r.hd < kinds.idxOf p
 low:Low r.wa r.wb
 ba:Bd 64 r.wa
 bb:Bd 64 r.wb
 pos:scale = "chance" -> 0 < r.wa
 tg:r.tg = "" \/ r.tg∈words
 un:∀ us,r.t=some us->1<=us.length/\us.length<=2/\∀ u∈us,u∈tis
structure VE (scale:Str) (kinds words:List Str) (rs:List Ru):Prop where
 k:He s26 kinds.length kinds
 k1:1<=kinds.length
 k3:kinds.length<=3
 w:He s36 3 words
 nk:kinds.length<=rs.length
 len:rs.length<=9
 ti:∃ titles,He s36 9 titles/\rs.map (·.ti)=titles.take rs.length
 row:∀ r∈rs,RowR scale kinds words (rs.map (·.ti)) r
 base:∀ k,k < kinds.length->∃ r,rs[k]?=some r/\kinds[k]?=some r.hd/\r.t=none/\∃ w∈words,r.ps=[w]
noncomputable def yd:DSp:=fun xs q _=>∃ ns:List Int,xs=[.scr (ns.map .int)]/\∀ zs,He s26 zs.length zs->1<=zs.length->zs.length<=3->q (.lst (zs.map .str))
theorem nT:s26.cps.toList.Nodup:=by decide +kernel
theorem rZ:s26.length=26:=by decide +kernel
theorem ud:s36.cps.toList.Nodup:=by decide +kernel
theorem Ao:s36.length=36:=by decide +kernel
theorem CO {A:Adr}(T:Txt K mg A):ZE P w K mg base (CXE P w) 3 A.Sh A.MF QT (spD K yd):=by
 have Sy:=OD (P:=P) (w:=w) (base:=base) T
 have G_l_at:=Th (P:=P) (w:=w) (base:=base) T
 have G_l_mix:=Vq (P:=P) (w:=w) (base:=base) T
 haveI:TxC K A:=⟨⟨_,T⟩⟩
 refine T.Pa.F.okJ JX (fun xs q x h=>?_) (fun cdv Ar outer s H E hr=>⟨_,(Za (Zj (i:=1) JX.nd rfl (Or.inl rfl) (Zm ZP Zd (Zm Zr (Zg G_l_mix T.L_l_mix (hr.mono (by decide)) Zh (Zc (Zg G_l_at T.L_l_at (hr.mono (by decide)) Zh (Zc (jv 0) (Zc Zd Zb))) (Zc Zd Zb))) Zd)))
   (Ze (Zt [] (Zg Sy T.VY (hr.mono (by decide)) Zh (Zc (Zg G_l_at T.L_l_at (hr.mono (by decide)) Zh (Zc (jv 0) (Zc Zd Zb))) (Zc (jv 1) (Zc ZQ Zb))))))),fun xs q x h=>?_⟩)
 ·obtain ⟨ns,rfl,_⟩:=h
  rfl
 ·obtain ⟨ns,rfl,hq⟩:=h
  have h1:=rZ
  have h2:=nT
  walk_at "rd"
  refine ⟨_,_,rfl,by decide,_,_,rfl,by decide,by decide,?_⟩
  walk_at "rd"
  have nb:=mod_lt (n:=3) (mix (atZ ns 1) 1) (by decide)
  refine ⟨by decide,_,_,rfl,by decide,?_⟩
  refine ⟨_,(1 + mix (atZ ns 1) 1 % 3).toNat,s26,by rw [Int.toNat_of_nonneg (by omega)],by omega,by omega,by omega,h2,fun zs hz=>?_⟩
  exact hq zs ⟨rfl,hz.2⟩ (by have:=hz.1;omega) (by have:=hz.1;omega)
noncomputable def ye:DSp:=fun xs q _=>∃ ns:List Int,xs=[.scr (ns.map .int)]/\∀ zs,He s36 3 zs->q (.lst (zs.map .str))
theorem CP {A:Adr}(T:Txt K mg A):ZE P w K mg base (CXE P w) 3 A.Si A.MG QU (spD K ye):=by
 have Sy:=OD (P:=P) (w:=w) (base:=base) T
 have G_l_at:=Th (P:=P) (w:=w) (base:=base) T
 haveI:TxC K A:=⟨⟨_,T⟩⟩
 refine T.Pb.F.okJ CB (fun xs q x h=>?_) (fun cdv Ar outer s H E hr=>⟨_,(Ze (Zt [] (Zg Sy T.VY (hr.mono (by decide)) Zh (Zc (Zg G_l_at T.L_l_at (hr.mono (by decide)) Zh (Zc (jv 0) (Zc Zd Zb))) (Zc Zd (Zc ZQ Zb)))))),fun xs q x h=>?_⟩)
 ·obtain ⟨ns,rfl,_⟩:=h
  rfl
 ·obtain ⟨ns,rfl,hq⟩:=h
  have h1:=Ao
  have h2:=ud
  walk_at "rd"
  exact ⟨_,_,rfl,by decide,_,3,s36,rfl,by omega,by omega,by omega,h2,hq⟩
noncomputable def CQ:DSp:=fun xs q _=>∃ ns:List Int,xs=[.scr (ns.map .int)]/\∀ zs,He s36 9 zs->q (.lst (zs.map .str))
theorem De {A:Adr}(T:Txt K mg A):ZE P w K mg base (CXE P w) 3 A.Ux A.Ot Rf (spD K CQ):=by
 have Sy:=OD (P:=P) (w:=w) (base:=base) T
 have G_l_at:=Th (P:=P) (w:=w) (base:=base) T
 haveI:TxC K A:=⟨⟨_,T⟩⟩
 refine T.Rq.F.okJ EG (fun xs q x h=>?_) (fun cdv Ar outer s H E hr=>⟨_,(Ze (Zt [] (Zg Sy T.VY (hr.mono (by decide)) Zh (Zc (Zg G_l_at T.L_l_at (hr.mono (by decide)) Zh (Zc (jv 0) (Zc Zd Zb))) (Zc Zd (Zc ZQ Zb)))))),fun xs q x h=>?_⟩)
 ·obtain ⟨ns,rfl,_⟩:=h
  rfl
 ·obtain ⟨ns,rfl,hq⟩:=h
  have h1:=Ao
  have h2:=ud
  walk_at "rd"
  exact ⟨_,_,rfl,by decide,_,9,s36,rfl,by omega,by omega,by omega,h2,hq⟩
noncomputable def nU (kinds words:List Str) (h:Nat) (ps:List Str):Prop:=1<=ps.length/\ps.length<=4/\(∀ p∈ps,p∈kinds\/p∈words)/\∀ p,ps=[p]->p∈kinds->h < kinds.idxOf p
noncomputable def yf:DSp:=fun xs q _=>∃ (kinds words:List Str) (h:Nat) (m:Int),xs=[.lst (kinds.map .str),.lst (words.map .str),.int h,.int m]/\1<=kinds.length/\kinds.length<=3/\words.length=3/\(∀ w∈words,w∉kinds)/\h < kinds.length/\0<=m/\m < 2 ^ 40/\∀ ps,nU kinds words h ps->q (.tup (ps.map .str))
theorem CT {A:Adr}(T:Txt K mg A):ZE P w K mg base (CXE P w) 1 A.Sl A.MH QV (spD K yf):=by
 haveI:TxC K A:=⟨⟨_,T⟩⟩
 refine T.Pg.F.okJ Wf (fun xs q x h=>?_) (fun cdv Ar outer s H E hr=>⟨_,(Za (Zj (i:=4) Wf.nd rfl (Or.inl rfl) (Zi (WH (Zc Zd (Zc Zd (Zc Zd (Zc Zd (Zc Zd (Zc Zd (Zc Zd Zb)))))))) (Zm Zr (jv 3) Zd)))
   (Za (Zj (i:=3) Wf.nd rfl (Or.inl rfl) (Zm ZS (jv 3) Zd))
   (Za (XZ (i:=5) Wf.nd rfl (Or.inl rfl) (We Zb))
   (Za (Vu PassesOwn.leaving (YJ (by rfl) T.b_range (Zc (jv 4) Zb)) (Zk (i:=6) Wf.nd rfl (Or.inl rfl)) (Za (Zz [] (Zv PJ (Zm Zr (jv 3) Zd) Zd (Zu _)) (Ze (Qe [] 5 (Zi (jv 0) (Zm Zr (Zm Zr (jv 3) Zd) (Yc ZJ (by rfl) T.b_len PySem.boot_len (Zc (jv 0) Zb)))))) (Ze (Qe [] 5 (Zi (jv 1) (Zm Zr (Zm ZS (jv 3) Zd) Zd)))))
   (Ze (Zj (i:=3) Wf.nd rfl (Or.inl rfl) (Zm ZP (Zm ZP (Zm ZS (jv 3) Zd) (Zm Oc Zd (jv 6))) Zd)))))
   (Za (Zz [5] (RX (Oa (Zv (Xb hr.YW) (jv 4) Zd (Zu _)) (SL (Zv RN (Zi (jv 5) Zd) (Wo (jv 0) Vb (XY (Zm ZP (jv 2) Zd))) (by with_unfolding_all rfl))))) (Ze (XZ (i:=5) Wf.nd rfl (Or.inl rfl) (We (Zc (Zi (jv 1) (Zm Zr (jv 3) Zd)) Zb)))) Zn)
   (Ze (Zt [5] (UW Qc (by rfl) T.b_tuple PyProof.Rows.boot_tuple (Zc (jv 5) Zb))))))))),fun xs q x h=>?_⟩)
 ·obtain ⟨kinds,words,h,m,rfl,_⟩:=h
  rfl
 ·obtain ⟨kinds,words,h,m,rfl,k1,k3,w3,wk,hh,m0,m1,hq⟩:=h
  have hsz:aA=16777216:=rfl
  walk_at "rd"
  have nb:=mod_lt (n:=7) m (by decide)
  obtain ⟨sz,hj,ej⟩:=XS D.int [2,2,1,3,2,4,2] (i:=m % 7) nb.1 nb.2
  have j1:1<=sz/\sz<=4:=by
   simp only [mem_cons,not_mem_nil,or_false] at hj
   omega
  refine ⟨by decide,by decide,_,ej,by decide,YZ (by decide) (by decide),by decide,[],?_⟩
  walk_at "rd"
  refine ⟨by omega,by omega,WK (fun i ds'=>∃ (m:Int) (ps:List Str) (s:L2.Slot),ds'=[.v (.lst (kinds.map .str)),.v (.lst (words.map .str)),.v (.int h),.v (.int m),.v (.int sz),.own (ps.map .str),s]/\0<=m/\m < 2 ^ 41/\ps.length=i/\∀ p∈ps,p∈kinds\/p∈words) ⟨_,[],_,rfl,by omega,by omega,rfl,fun p hp=>by cases hp⟩ (fun i ds N hi hd hn=>?_) (fun ds hd=>?_)⟩
  ·obtain ⟨m,ps,s,rfl,m0,m1,hl,hp⟩:=hd
   walk_at "rd"
   have nxt:∀ p,p∈kinds\/p∈words->PH 4099 (0 + (i:Int))/\N [.v (.lst (kinds.map .str)),.v (.lst (words.map .str)),.v (.int h),.v (.int (m / 15 + 4099 * (0 + (i:Int)) + 1)),.v (.int sz),.own (ps.map D.str++[.str p]),.v (.int (0 + (i:Int)))]:=fun p hpp=>by
    refine ⟨.l (by decide) (by decide),hn _ ⟨_,ps++[p],_,by rw [map_append];rfl,by omega,by omega,by rw [length_append,hl];rfl,fun z hz=>?_⟩⟩
    rcases mem_append.mp hz with hz | hz
    ·exact hp z hz
    ·rw [mem_singleton.mp hz];exact hpp
   rw [Xw (show (0:Int) < kinds.length by omega)]
   obtain ⟨g1,g2⟩:=mod_lt (n:=kinds.length) (m % 5) (by omega)
   obtain ⟨p,hp1,hp2⟩:=XS D.str kinds g1 g2
   have g3:=mod_lt (n:=3) (m / 5) (by decide)
   obtain ⟨p',hp3,hp4⟩:=XS D.str words (i:=m / 5 % 3) g3.1 (by rw [w3];exact g3.2)
   exact ⟨by decide,XR (fun _=>⟨by decide,by omega,_,hp2,by omega,by decide,YZ (by decide) (by decide),nxt p (.inl hp1)⟩) (fun _=>⟨by decide,YZ (by decide) (by decide),by decide,_,hp4,by omega,by decide,YZ (by decide) (by decide),nxt p' (.inr hp3)⟩)⟩
  ·obtain ⟨m,ps,s,rfl,m0,m1,hl,hp⟩:=hd
   walk_at "rd"
   have good:(∀ p,ps=[p]->p∈kinds->h < kinds.idxOf p)->q (.tup (ps.map .str)):=fun z=>hq ps ⟨by omega,by omega,hp,z⟩
   refine XR (fun e=>?_) (fun e=>good fun p z=>by rw [z] at hl;simp at hl;omega)
   obtain ⟨p,rfl⟩:∃ p,ps=[p]:=List.length_eq_one_iff.mp (by omega)
   refine ⟨.str p,rfl,?_⟩
   rw [Fv _ (by omega),<-map_take]
   walk_at "rd"
   have et:((h:Int) + 1).toNat=h + 1:=by omega
   rw [et]
   refine XR (fun e1=>?_) (fun e1=>good fun p' z hk=>?_)
   ·have g3:=mod_lt (n:=3) m (by decide)
    obtain ⟨p',hp3,hp4⟩:=XS D.str words (i:=m % 3) g3.1 (by rw [w3];exact g3.2)
    refine ⟨by decide,_,hp4,by decide,hq [p'] ⟨by simp,by simp,fun z hz=>by rw [mem_singleton.mp hz];exact .inr hp3,fun z hz hk=>?_⟩⟩
    cases hz
    exact absurd hk (wk _ hp3)
   ·cases z
    have hi:=idxOf_lt_length_of_mem hk
    refine Nat.lt_of_not_le fun le=>e1 ?_
    have:=getElem_idxOf hi
    rw [<-this]
    exact List.mem_take_iff_getElem.mpr ⟨_,by omega,rfl⟩
theorem qa {ns:List Int}{k:Int}{q:D->Prop}{x:Addr->Prop}:CC [.scr (ns.map .int),.int k] q x=(0<=k/\q (.int (atZ ns k))):=by
 unfold CC
 refine propext ⟨fun ⟨ns',k',e,h0,h⟩=>?_,fun ⟨h0,h⟩=>⟨ns,k,rfl,h0,h⟩⟩
 simp only [List.cons.injEq,D.scr.injEq,D.int.injEq,and_true] at e
 obtain ⟨e1,e2⟩:=e
 have inj:∀ a b:List Int,a.map D.int=b.map D.int->a=b:=by
  intro a
  induction a with
  | nil=>intro b e;cases b with
   | nil=>rfl
   | cons _ _=>cases e
  | cons u a ih=>intro b e;cases b with
   | nil=>cases e
   | cons v b =>
    simp only [map_cons,List.cons.injEq,D.int.injEq] at e
    rw [e.1,ih b e.2]
 have:ns=ns':=inj _ _ e1
 subst this
 subst e2
 exact ⟨h0,h⟩
theorem ue {c k:Int}{q:D->Prop}{x:Addr->Prop}:Fl [.int c,.int k] q x=(-(2 ^ 20) < k/\k < 2 ^ 20/\q (.int (mix c k))):=by
 unfold Fl
 refine propext ⟨fun ⟨c',k',e,h⟩=>?_,fun h=>⟨c,k,rfl,h⟩⟩
 cases e
 exact h
theorem Df {c k:Int}{z:Str}{q:D->Prop}{x:Addr->Prop}:OG [.int c,.int k,.str z] q x=(-(2 ^ 20) < k/\k < 2 ^ 20/\q (wD (wP c k z) (wQ c k z))):=by
 unfold OG
 refine propext ⟨fun ⟨c',k',z',e,h⟩=>?_,fun h=>⟨c,k,z,rfl,h⟩⟩
 cases e
 exact h
def rd7:String:=rd6 ++ " qa ue Df"
local macro_rules | `(tactic| walk_at "rd") => rdM rd7
theorem He.notin {kinds words:List Str}{n m:Nat}(hk:He s26 n kinds) (hw:He s36 m words):∀ w∈words,w∉kinds:=fun w h z=>by
 have a:=(hw.2.1 w h).wd
 have b:=(hk.2.1 w z).kd
 rw [MR a] at b
 cases b
noncomputable def yg:DSp:=fun xs q _=>∃ (ns:List Int) (scale:Str),xs=[.scr (ns.map .int),.str scale]/\∀ kinds words rs,VE scale kinds words rs->q (.lst (rs.map Xk))
theorem CU {A:Adr}(T:Txt K mg A):ZE P w K mg base (CXE P w) 4 A.Sn A.MI QW (spD K yg):=by
 have yh:=CO (P:=P) (w:=w) (base:=base) T
 have yi:=CP (P:=P) (w:=w) (base:=base) T
 have CV:=De (P:=P) (w:=w) (base:=base) T
 have G_l_at:=Th (P:=P) (w:=w) (base:=base) T
 have G_l_mix:=Vq (P:=P) (w:=w) (base:=base) T
 have yj:=CT (P:=P) (w:=w) (base:=base) T
 have Ry:=Kf (P:=P) (w:=w) (base:=base) T
 haveI:TxC K A:=⟨⟨_,T⟩⟩
 refine T.Ph.F.okJ ZF (fun xs q x h=>?_) (fun cdv Ar outer s H E hr=>⟨_,(Za (Zj (i:=2) ZF.nd rfl (Or.inl rfl) (Zg yh T.Pa (hr.mono (by decide)) Zh (Zc (jv 0) Zb)))
   (Za (Zj (i:=3) ZF.nd rfl (Or.inl rfl) (Zg yi T.Pb (hr.mono (by decide)) Zh (Zc (jv 0) Zb)))
   (Za (Zj (i:=4) ZF.nd rfl (Or.inl rfl) (Zg CV T.Rq (hr.mono (by decide)) Zh (Zc (jv 0) Zb)))
   (Za (XZ (i:=5) ZF.nd rfl (Or.inl rfl) (We Zb))
   (Za (Vu PassesOwn.leaving (YJ (by rfl) T.b_range (Zc (Yc ZJ (by rfl) T.b_len PySem.boot_len (Zc (jv 2) Zb)) Zb)) (Zk (i:=6) ZF.nd rfl (Or.inl rfl)) (Za (Zj (i:=7) ZF.nd rfl (Or.inl rfl) (Zg G_l_at T.L_l_at (hr.mono (by decide)) Zh (Zc (jv 0) (Zc (Zm ZP Zd (jv 6)) Zb))))
   (Za (Zj (i:=8) ZF.nd rfl (Or.inl rfl) (Zg G_l_mix T.L_l_mix (hr.mono (by decide)) Zh (Zc (jv 7) (Zc Zd Zb))))
   (Za (Zj (i:=9) ZF.nd rfl (Or.inl rfl) (Zi (WH (Zc ZQ (Zc ZQ (Zc (Zi (jv 3) (Zm Zr (Zm ZS (jv 8) Zd) Zd)) Zb)))) (Zm Zr (Zm ZS (jv 8) Zd) Zd)))
   (Ze (Qe [] 5 (ZL (Zc (Zi (jv 4) (jv 6)) (Zc (Zi (jv 2) (jv 6)) (Zc (ZL (Zc (Zi (jv 3) (Zm Zr (jv 8) Zd)) Zb)) (Zc (Zg Ry T.WU (hr.mono (by decide)) Zh (Zc (jv 7) (Zc Zd (Zc (jv 1) Zb)))) (Zc (jv 9) (Zc LY Zb)))))))))))))
   (Za (Zj (i:=10) ZF.nd rfl (Or.inl rfl) (Zm Zr (Zg G_l_mix T.L_l_mix (hr.mono (by decide)) Zh (Zc (Zg G_l_at T.L_l_at (hr.mono (by decide)) Zh (Zc (jv 0) (Zc Zd Zb))) (Zc Zd Zb))) Zd))
   (Za (Zj (i:=4) ZF.nd rfl (Or.inl rfl) (Wo (jv 4) Vb (XY (Zm ZP (Yc ZJ (by rfl) T.b_len PySem.boot_len (Zc (jv 2) Zb)) (jv 10)))))
   (Za (Vu PassesOwn.leaving (YJ (by rfl) T.b_range (Zc (jv 10) Zb)) (Zk (i:=6) ZF.nd rfl (Or.inl rfl)) (Za (Zj (i:=7) ZF.nd rfl (Or.inl rfl) (Zg G_l_at T.L_l_at (hr.mono (by decide)) Zh (Zc (jv 0) (Zc (Zm ZP Zd (jv 6)) Zb))))
   (Za (Zj (i:=8) ZF.nd rfl (Or.inl rfl) (Zg G_l_mix T.L_l_mix (hr.mono (by decide)) Zh (Zc (jv 7) (Zc Zd Zb))))
   (Za (Zj (i:=11) ZF.nd rfl (Or.inl rfl) (Zm Zr (jv 8) (Yc ZJ (by rfl) T.b_len PySem.boot_len (Zc (jv 2) Zb))))
   (Za (Zj (i:=12) ZF.nd rfl (Or.inl rfl) (Zg yj T.Pg (hr.mono (by decide)) Zh (Zc (jv 2) (Zc (jv 3) (Zc (jv 11) (Zc (Zm ZS (jv 8) Zd) Zb))))))
   (Za (Zj (i:=13) ZF.nd rfl (Or.inl rfl) (Zg G_l_mix T.L_l_mix (hr.mono (by decide)) Zh (Zc (jv 7) (Zc Zd Zb))))
   (Za (Zj (i:=14) ZF.nd rfl (Or.inl rfl) LY)
   (Za (Xr (Zz [] (Zv (Xb hr.YW) (Zm Zr (jv 13) Zd) Zd (Zu _)) (Ze (Zj (i:=14) ZF.nd rfl (Or.inl rfl) (HW (ZL (Zc (Zi (jv 4) (Zm Zr (Zm ZS (jv 13) Zd) (Yc ZJ (by rfl) T.b_len PySem.boot_len (Zc (jv 4) Zb)))) (Zc (Zi (jv 4) (Zm Zr (Zm ZS (jv 13) Zd) (Yc ZJ (by rfl) T.b_len PySem.boot_len (Zc (jv 4) Zb)))) Zb))) Vb (XY (Zm ZP Zd (Zm Zr (Zm ZS (jv 13) Zd) Zd)))))) Zn))
   (Za (Zj (i:=9) ZF.nd rfl (Or.inl rfl) (Zi (WH (Zc ZQ (Zc ZQ (Zc (Zi (jv 3) (Zm Zr (Zm ZS (jv 13) Zd) Zd)) Zb)))) (Zm Zr (Zm ZS (jv 13) Zd) Zd)))
   (Ze (Qe [] 5 (ZL (Zc (Zi (jv 4) (Zm ZP (Yc ZJ (by rfl) T.b_len PySem.boot_len (Zc (jv 2) Zb)) (jv 6))) (Zc (Zi (jv 2) (jv 11)) (Zc (jv 12) (Zc (Zg Ry T.WU (hr.mono (by decide)) Zh (Zc (jv 7) (Zc Zd (Zc (jv 1) Zb)))) (Zc (jv 9) (Zc (jv 14) Zb))))))))))))))))))
   (Ze (Zt [5] (jv 5))))))))))),fun xs q x h=>?_⟩)
 ·obtain ⟨ns,scale,rfl,_⟩:=h
  rfl
 ·obtain ⟨ns,scale,rfl,hq⟩:=h
  have hsz:aA=16777216:=rfl
  walk_at "rd"
  refine ⟨ns,rfl,fun kinds hk k1 k3=>?_⟩
  walk_at "rd"
  refine ⟨ns,rfl,fun words hw=>?_⟩
  walk_at "rd"
  refine ⟨ns,rfl,fun titles ht=>?_⟩
  have w3:=hw.1
  have t9:=ht.1
  have wk:=hk.notin hw
  walk_at "rd"
  refine ⟨by decide,[],?_⟩
  walk_at "rd"
  refine ⟨by omega,by omega,WK (fun i ds'=>∃ (rs:List Ru) (s6 s7 s8 s9 s10 s11 s12 s13 s14:L2.Slot),ds'=[.v (.scr (ns.map .int)),.v (.str scale),.v (.lst (kinds.map .str)),.v (.lst (words.map .str)),.v (.lst (titles.map .str)),.own (rs.map Xk),s6,s7,s8,s9,s10,s11,s12,s13,s14]/\rs.length=i/\rs.map (·.ti)=titles.take i/\(∀ r∈rs,RowR scale kinds words [] r)/\∀ k,k < i->∃ r,rs[k]?=some r/\kinds[k]?=some r.hd/\r.t=none/\∃ w∈words,r.ps=[w]) ⟨[],_,_,_,_,_,_,_,_,_,rfl,rfl,rfl,fun r h=>(by cases h),fun k h=>by omega⟩ (fun i ds N hi hd hn=>?_) (fun ds hd=>?_)⟩
  ·obtain ⟨rs,s6,s7,s8,s9,s10,s11,s12,s13,s14,rfl,hl,hti,hr,hb⟩:=hd
   walk_at "rd"
   have wl:=wLow (atZ ns (4 + (0 + (i:Int)))) 3 scale
   have m0:=Rt (atZ ns (4 + (0 + (i:Int)))) 2
   have m1:=ML (atZ ns (4 + (0 + (i:Int)))) 2
   generalize mix (atZ ns (4 + (0 + (i:Int)))) 2=m at m0 m1 ⊢
   generalize atZ ns (4 + (0 + (i:Int)))=cell at wl ⊢
   have g1:=mod_lt (n:=3) (m / 3) (by decide)
   obtain ⟨w1,hw1,ew1⟩:=XS D.str words (i:=m / 3 % 3) g1.1 (by rw [w3];exact g1.2)
   have g2:=mod_lt (n:=3) (m / 9) (by decide)
   obtain ⟨tg,htg,etg⟩:=XS D.str ["", "",w1] (i:=m / 9 % 3) g2.1 g2.2
   have g3:=mod_lt (n:=3) m (by decide)
   obtain ⟨w2,hw2,ew2⟩:=XS D.str words (i:=m % 3) g3.1 (by rw [w3];exact g3.2)
   have hit:i < titles.length:=by omega
   have hik:i < kinds.length:=by omega
   have et:atI (titles.map D.str) (0 + (i:Int))=some (.str titles[i]):=by rw [Int.zero_add];exact Yv (by rw [getElem?_map,aC hit];rfl)
   have ek:atI (kinds.map D.str) (0 + (i:Int))=some (.str kinds[i]):=by rw [Int.zero_add];exact Yv (by rw [getElem?_map,aC hik];rfl)
   refine ⟨by omega,by decide,by decide,by decide,YZ (by decide) (by decide),by decide,_,ew1,by decide,by decide,YZ (by decide) (by decide),by decide,_,etg,_,et,_,ek,by decide,_,ew2,by decide,by decide,by decide,by decide,by omega,hn _ ⟨rs++[⟨titles[i],kinds[i],[w2],wP cell 3 scale,wQ cell 3 scale,tg,none⟩],_,_,_,_,_,_,_,_,_,by rw [map_append];rfl,by rw [length_append,hl];rfl,?_,fun r h=>?_,fun k h=>?_⟩⟩
   ·rw [map_append,hti,take_add_one,aC hit]
    rfl
   ·rcases mem_append.mp h with h | h
    ·exact hr r h
    ·rw [mem_singleton.mp h]
     refine ⟨getElem_mem hik,Nat.le_refl _,by simp,fun p hp=>?_,fun p hp hk'=>?_,wl.1,wl.2.1,wl.2.2.1,wl.2.2.2,?_,fun us hu=>by cases hu⟩
     ·rw [mem_singleton.mp hp];exact .inr hw2
     ·cases hp
      exact absurd hk' (wk _ hw2)
     ·simp only [mem_cons,not_mem_nil,or_false] at htg
      rcases htg with e | e | e
      ·exact .inl e
      ·exact .inl e
      ·exact .inr (e ▸ hw1)
   ·by_cases e:k < i
    ·obtain ⟨r,h1,h2⟩:=hb k e
     exact ⟨r,by rw [getElem?_append_left (by omega)];exact h1,h2⟩
    ·have e:k=i:=by omega
     subst e
     refine ⟨_,by rw [getElem?_append_right (by omega),hl,Nat.sub_self];rfl,aC hik,rfl,w2,hw2,rfl⟩
  ·obtain ⟨rs,s6,s7,s8,s9,s10,s11,s12,s13,s14,rfl,hl,hti,hr,hb⟩:=hd
   walk_at "rd"
   have nb:=mod_lt (n:=7) (mix (atZ ns 0) 4) (by decide)
   generalize hmany:mix (atZ ns 0) 4 % 7=many at nb
   obtain ⟨n6,rfl⟩:∃ n:Nat,many=n:=⟨many.toNat,by omega⟩
   rw [Fv _ (by omega),<-map_take]
   have et2:((kinds.length:Int) + (n6:Int)).toNat=kinds.length + n6:=by omega
   rw [et2]
   have tl:(titles.take (kinds.length + n6)).length=kinds.length + n6:=by rw [length_take];omega
   generalize htt:titles.take (kinds.length + n6)=tis at tl
   refine ⟨by decide,by decide,by decide,by decide,[],?_⟩
   walk_at "rd"
   have hti2:rs.map (·.ti)=tis.take kinds.length:=by rw [hti,<-htt,List.take_take];congr 1;omega
   refine ⟨by omega,by omega,WK (fun i ds'=>∃ (rs:List Ru) (s6 s7 s8 s9 s11 s12 s13 s14:L2.Slot),ds'=[.v (.scr (ns.map .int)),.v (.str scale),.v (.lst (kinds.map .str)),.v (.lst (words.map .str)),.v (.lst (tis.map .str)),.own (rs.map Xk),s6,s7,s8,s9,.v (.int n6),s11,s12,s13,s14]/\rs.length=kinds.length + i/\rs.map (·.ti)=tis.take (kinds.length + i)/\(∀ r∈rs,RowR scale kinds words tis r)/\∀ k,k < kinds.length->∃ r,rs[k]?=some r/\kinds[k]?=some r.hd/\r.t=none/\∃ w∈words,r.ps=[w]) ⟨rs,_,_,_,_,_,_,_,_,rfl,hl,hti2,fun r h=>?_,hb⟩ (fun i ds N hi hd hn=>?_) (fun ds hd=>?_)⟩
   ·obtain ⟨a1,a2,a3,a4,a5,a6,a7,a8,a9,a10,a11⟩:=hr r h
    exact ⟨a1,a2,a3,a4,a5,a6,a7,a8,a9,a10,fun us hu=>by
     obtain ⟨b1,b2,b3⟩:=a11 us hu
     cases us with
     | nil=>simp at b1
     | cons u us=>exact absurd (b3 u (mem_cons_self ..)) (by simp)⟩
   ·clear hr hb hl hti hti2 rs
    obtain ⟨rs,s6,s7,s8,s9,s11,s12,s13,s14,rfl,hl,hti,hr,hb⟩:=hd
    walk_at "rd"
    have wl:=wLow (atZ ns (7 + (0 + (i:Int)))) 3 scale
    have m0:=Rt (atZ ns (7 + (0 + (i:Int)))) 5
    have m1:=ML (atZ ns (7 + (0 + (i:Int)))) 5
    have n0:=Rt (atZ ns (7 + (0 + (i:Int)))) 6
    have n1:=ML (atZ ns (7 + (0 + (i:Int)))) 6
    generalize mix (atZ ns (7 + (0 + (i:Int)))) 5=m at m0 m1 ⊢
    generalize mix (atZ ns (7 + (0 + (i:Int)))) 6=n at n0 n1 ⊢
    generalize atZ ns (7 + (0 + (i:Int)))=cell at wl ⊢
    rw [Xw (show (0:Int) < kinds.length by omega)]
    obtain ⟨h1,h2⟩:=mod_lt (n:=kinds.length) m (by omega)
    obtain ⟨h,eh⟩:∃ h:Nat,m % (kinds.length:Int)=h:=⟨(m % (kinds.length:Int)).toNat,by omega⟩
    rw [eh] at h1 h2 ⊢
    have hh:h < kinds.length:=by omega
    refine ⟨by omega,by decide,by decide,by omega,by decide,YZ (by decide) (by decide),kinds,words,h,m / 3,rfl,k1,k3,w3,wk,hh,by omega,by omega,fun ps hps=>?_⟩
    walk_at "rd"
    refine ⟨by decide,by decide,fun ds'=>∃ t:Option (List Str),ds'=[.v (.scr (ns.map .int)),.v (.str scale),.v (.lst (kinds.map .str)),.v (.lst (words.map .str)),.v (.lst (tis.map .str)),.own (rs.map Xk),.v (.int (0 + (i:Int))),.v (.int cell),.v (.int m),s9,.v (.int n6),.v (.int h),.v (.tup (ps.map .str)),.v (.int n),.v (IV t)]/\∀ us,t=some us->1<=us.length/\us.length<=2/\∀ u∈us,u∈tis,?_,?_⟩
    ·walk_at "rd"
     refine ⟨by decide,XR (fun e=>?_) (fun e=>⟨none,rfl,fun us z=>by cases z⟩)⟩
     rw [Xw (show (0:Int) < tis.length by omega),Xw (show (0:Int) < tis.length by omega)]
     obtain ⟨a1,a2⟩:=mod_lt (n:=tis.length) (n / 4) (by omega)
     obtain ⟨u1,hu1,eu1⟩:=XS D.str tis a1 a2
     obtain ⟨b1,b2⟩:=mod_lt (n:=tis.length) (n / 36) (by omega)
     obtain ⟨u2,hu2,eu2⟩:=XS D.str tis b1 b2
     have nb2:=mod_lt (n:=2) (n / 324) (by decide)
     refine ⟨by decide,YZ (by decide) (by decide),by omega,_,eu1,by decide,YZ (by decide) (by decide),by omega,_,eu2,by decide,by decide,YZ (by decide) (by decide),by decide,some (([u1,u2]:List Str).take (1 + n / 324 % 2).toNat),?_,fun us z=>?_⟩
     ·rw [Fv _ (by omega)]
      show _=D.tup _
      rw [map_take]
      rfl
     ·cases z
      rw [length_take]
      simp only [length_cons,length_nil]
      refine ⟨by omega,by omega,fun u hu=>?_⟩
      have:=mem_of_mem_take hu
      simp only [mem_cons,not_mem_nil,or_false] at this
      rcases this with e | e <;> rw [e] <;> assumption
    rintro _ ⟨t,rfl,htt'⟩
    walk_at "rd"
    have g1:=mod_lt (n:=3) (n / 648) (by decide)
    obtain ⟨w1,hw1,ew1⟩:=XS D.str words (i:=n / 648 % 3) g1.1 (by rw [w3];exact g1.2)
    have g2:=mod_lt (n:=3) (n / 1944) (by decide)
    obtain ⟨tg,htg,etg⟩:=XS D.str ["", "",w1] (i:=n / 1944 % 3) g2.1 g2.2
    have hit:kinds.length + i < tis.length:=by omega
    have et:atI (tis.map D.str) ((kinds.length:Int) + (0 + (i:Int)))=some (.str tis[kinds.length + i]):=by
     rw [Int.zero_add,show (kinds.length:Int) + (i:Int)=((kinds.length + i:Nat):Int) by omega]
     exact Yv (by rw [getElem?_map,aC hit];rfl)
    have ek:atI (kinds.map D.str) (h:Int)=some (.str kinds[h]):=Yv (by rw [getElem?_map,aC hh];rfl)
    refine ⟨by decide,YZ (by decide) (by decide),by decide,_,ew1,by decide,by decide,YZ (by decide) (by decide),by decide,_,etg,_,et,_,ek,by decide,by decide,by decide,by omega,hn _ ⟨rs++[⟨tis[kinds.length + i],kinds[h],ps,wP cell 3 scale,wQ cell 3 scale,tg,t⟩],_,_,_,_,_,_,_,_,by rw [map_append];rfl,by rw [length_append,hl];rfl,?_,fun r hm=>?_,fun k hk'=>?_⟩⟩
    ·rw [map_append,hti,<-Nat.add_assoc,take_add_one,aC hit]
     rfl
    ·rcases mem_append.mp hm with hm | hm
     ·exact hr r hm
     ·rw [mem_singleton.mp hm]
      obtain ⟨q1,q2,q3,q4⟩:=hps
      refine ⟨getElem_mem hh,q1,q2,q3,fun p hp hk'=>?_,wl.1,wl.2.1,wl.2.2.1,wl.2.2.2,?_,htt'⟩
      ·have:=q4 p hp hk'
       have ei:kinds.idxOf kinds[h]=h:=Nodup.idxOf_getElem hk.2.2 h hh
       show kinds.idxOf kinds[h] < _
       rw [ei]
       exact this
      ·simp only [mem_cons,not_mem_nil,or_false] at htg
       rcases htg with e | e | e
       ·exact .inl e
       ·exact .inl e
       ·exact .inr (e ▸ hw1)
    ·obtain ⟨r,z1,z2⟩:=hb k hk'
     exact ⟨r,by rw [getElem?_append_left (by omega)];exact z1,z2⟩
   ·obtain ⟨rs,s6,s7,s8,s9,s11,s12,s13,s14,rfl,hl,hti,hr,hb⟩:=hd
    walk_at "rd"
    have en:(((n6:Int)).toNat)=n6:=by omega
    refine hq kinds words rs ⟨hk,k1,k3,hw,by omega,?_,⟨titles,ht,?_⟩,?_,hb⟩
    ·omega
    ·rw [hti,<-htt,List.take_take,hl];congr 1;omega
    ·have:rs.map (·.ti)=tis:=by rw [hti,List.take_of_length_le (by omega)]
     rw [this]
     exact hr
theorem VE.kd {sc:Str}{kinds words:List Str}{rs:List Ru}(h:VE sc kinds words rs):∀ z∈kinds,XM z=true:=fun z hz=>(h.k.2.1 z hz).kd
theorem VE.wd {sc:Str}{kinds words:List Str}{rs:List Ru}(h:VE sc kinds words rs):∀ z∈words,UR z=true:=fun z hz=>(h.w.2.1 z hz).wd
theorem VE.heads {sc:Str}{kinds words:List Str}{rs:List Ru}(h:VE sc kinds words rs):∀ z∈kinds,z∈rs.map (·.hd):=fun z hz=>by
 obtain ⟨r,h1,h2,_⟩:=h.base _ (idxOf_lt_length_of_mem hz)
 have hi:=idxOf_lt_length_of_mem hz
 rw [aC hi,getElem_idxOf hi] at h2
 exact mem_map.mpr ⟨r,mem_of_getElem? h1,(Option.some.inj h2).symm⟩
theorem VE.good {sc:Str}{kinds words:List Str}{rs:List Ru}{st:Str}(h:VE sc kinds words rs) (hs:st∈kinds) (hsc:sc = "cost" \/ sc = "chance"):Good sc st rs:=by
 obtain ⟨titles,ht,hti⟩:=h.ti
 have kk:=h.kd
 have ww:=h.wd
 have tt:∀ z∈titles,UR z=true:=fun z hz=>(ht.2.1 z hz).wd
 have tr:∀ z∈rs.map (·.ti),UR z=true:=fun z hz=>tt z (by rw [hti] at hz;exact mem_of_mem_take hz)
 have ti:∀ r∈rs,UR r.ti=true:=fun r hr=>tr _ (mem_map.mpr ⟨r,hr,rfl⟩)
 have hk:∀ z∈rs.map (·.hd),z∈kinds:=fun z hz=>by obtain ⟨r,hr,rfl⟩:=mem_map.mp hz;exact (h.row r hr).hd
 have pn:∀ r∈rs,∀ p∈r.ps,isNm p=true:=fun r hr p hp=>by
  rcases (h.row r hr).ps p hp with z | z
  ·exact EZ (kk p z)
  ·exact Iu (ww p z)
 have lr:=h.len
 have hn:rs≠[]:=fun z=>by have a:=h.nk;have b:=h.k1;rw [z] at a;simp only [length_nil] at a;omega
 refine ⟨⟨by omega,fun r hr=>?_⟩,fun r hr=>?_,?_,?_,?_,?_⟩
 ·have R:=h.row r hr
  refine ⟨Jg (Iu (ti r hr)),Jg (EZ (kk _ R.hd)),fits_of (by have:=R.p4;omega) (pn r hr),fun us e=>?_⟩
  obtain ⟨x1,x2,x3⟩:=R.un us e
  exact fits_of (by omega) fun u hu=>Iu (tr u (x3 u hu))
 ·have R:=h.row r hr
  unfold Wh
  have e3:Vj r.ps=true:=by
   unfold Vj
   rw [decide_eq_true R.p1,decide_eq_true R.p4,all_eq_true.mpr (pn r hr)]
   rfl
  have e4:(decide (r.tg = "") || UR r.tg)=true:=by
   rcases R.tg with e | e
   ·rw [decide_eq_true e];rfl
   ·rw [ww _ e];simp
  have e5:Ak r.t=true:=by
   cases e:r.t with
   | none=>rfl
   | some us =>
    obtain ⟨x1,x2,x3⟩:=R.un us e
    show Vr us=true
    unfold Vr
    rw [decide_eq_true x1,all_eq_true.mpr fun u hu=>tr u (x3 u hu)]
    rfl
  rw [ti r hr,kk _ R.hd,e3,e4,e5]
  rfl
 ·refine nS rs [] (fun r hr=>?_) ?_ (fun r _=>by simp)
  ·unfold okW
   rcases hsc with e | e
   ·rw [decide_eq_true e];rfl
   ·rw [decide_eq_true ((h.row r hr).pos e)];simp
  rw [hti]
  exact ht.2.2.sublist (List.take_sublist _ _)
 ·unfold ctu
  rw [all_eq_true]
  intro r hr
  unfold Qx
  cases e:r.t with
  | none=>rfl
  | some us =>
   simp only
   rw [all_eq_true]
   intro u hu
   exact decide_eq_true (((h.row r hr).un us e).2.2 u hu)
 ·unfold ck
  rw [decide_eq_true (h.heads st hs),Bool.true_and,all_eq_true]
  intro r hr
  unfold Ik
  rw [all_eq_true]
  intro p hp
  obtain ⟨h1,h2⟩:=mem_filter.mp hp
  rcases (h.row r hr).ps p h1 with z | z
  ·exact decide_eq_true (h.heads p z)
  ·rw [MR (ww p z)] at h2;cases h2
 ·have wn:waitOf rs≠[]:=fun z=>by
   obtain ⟨r0,e0⟩:∃ r0,r0∈rs:=by
    cases rs with
    | nil=>exact absurd rfl hn
    | cons a b=>exact ⟨a,mem_cons_self ..⟩
   have:r0.hd∈waitOf rs:=(Dc _ _).mpr (mem_map.mpr ⟨r0,e0,rfl⟩)
   rw [z] at this
   cases this
  have up:∀ s∈Wa rs,s.2∈waitOf rs->kinds.idxOf s.1 < kinds.idxOf s.2:=fun s hs hw=>by
   unfold Wa at hs
   obtain ⟨r,hr,rfl⟩:=mem_map.mp hs
   obtain ⟨hr,hl⟩:=mem_filter.mp hr
   obtain ⟨p,ep⟩:=List.length_eq_one_iff.mp (of_decide_eq_true hl)
   have R:=h.row r hr
   have e:r.ps.getD 0 "" = p:=by rw [ep];rfl
   simp only [e] at hw ⊢
   exact R.one p ep (hk p ((Dc _ _).mp hw))
  obtain ⟨res,h1,h2⟩:=Hio.all (steps:=Wa rs) (fun z=>kinds.idxOf z) _ (waitOf rs) (waitOf rs) [] (Nat.le_refl _) up wn
  exact ⟨res,h1,by rw [h2];simp⟩
section
variable {r:Ru}{q:D->Prop}
theorem zt_0:dIx (Xk r) (.int (no_index 0)) q=q (.str r.ti):=by show (∃ d,some (D.str r.ti)=some d/\q d)=_;simp
theorem zt_1:dIx (Xk r) (.int (no_index 1)) q=q (.str r.hd):=by show (∃ d,some (D.str r.hd)=some d/\q d)=_;simp
theorem zt_2:dIx (Xk r) (.int (no_index 2)) q=q (.tup (r.ps.map .str)):=by show (∃ d,some (D.tup (r.ps.map .str))=some d/\q d)=_;simp
theorem zt_3:dIx (Xk r) (.int (no_index 3)) q=q (wD r.wa r.wb):=by show (∃ d,some (wD r.wa r.wb)=some d/\q d)=_;simp
theorem zt_4:dIx (Xk r) (.int (no_index 4)) q=q (.str r.tg):=by show (∃ d,some (D.str r.tg)=some d/\q d)=_;simp
theorem zt_5:dIx (Xk r) (.int (no_index 5)) q=q (IV r.t):=by show (∃ d,some (IV r.t)=some d/\q d)=_;simp
theorem yk:(IV r.t).VD=r.t.isNone:=by cases r.t <;> rfl
end
def rd8:String:=rd7 ++ " zt_0 zt_1 zt_2 zt_3 zt_4 zt_5 yk"
local macro_rules | `(tactic| walk_at "rd") => rdM rd8
theorem Good.made {A:Adr}{z st:Str}{rs:List Ru}(h:Good z st rs) (hz:z = "cost" \/ z = "chance") {q:List (Str × D)->Prop}{x:Addr->Prop}(hq:q (vT A z st rs)):UG A [.str z,.str st,.lst (rs.map (Ru.d A))] q x:=by
 obtain ⟨res,h1,h2⟩:=h.ring
 exact ⟨z,st,rs,rfl,h.fit,.inr ⟨hz,.inr (.inr ⟨h.wt,.inr ⟨h.un,.inr ⟨h.kd,res,h1,.inr ⟨h2,hq⟩⟩⟩⟩)⟩⟩
theorem CW {A:Adr}{r:Ru}(hf:r.Fit) (ho:Wh r.ti r.hd r.ps r.tg r.t=true) (lt:r.tg.length<=1000) {q:List (Str × D)->Prop}{x:Addr->Prop}(hq:q (vQ r.ti r.hd r.ps (wD r.wa r.wb) r.tg r.t)) :
  RT A [.str r.ti,.str r.hd,.lst (r.ps.map .str),wD r.wa r.wb,.str r.tg,IV r.t] q x:=by
 obtain ⟨m1,m2,m3,m4⟩:=hf
 refine ⟨_,_,_,r.ps,_,_,_,r.t,rfl,.inl rfl,m3,?_,m1,m2,lt,fun _=>hq,fun z=>by rw [ho] at z;cases z⟩
 cases e:r.t with
 | none=>rfl
 | some us=>exact ⟨.inr rfl,m4 us e⟩
theorem qb {r:Ru}(ho:Wh r.ti r.hd r.ps r.tg r.t=true):r.tg.length<=1000:=by
 unfold Wh at ho
 simp only [aF,Bool.or_eq_true,decide_eq_true_eq] at ho
 rcases ho.1.2 with e | e
 ·rw [e];decide +kernel
 ·exact Jg (Iu e)
theorem Tr.Jh {ts:List Tr}{t:Tr}(h:t∈ts):t.sz<=Tr.szs ts:=by
 induction ts with
 | nil=>cases h
 | cons a ts ih =>
  rw [Tr.szs]
  rcases mem_cons.mp h with e | e
  ·rw [e];omega
  ·have:=ih e;omega
theorem Iv {n:Nat}{k:Int}(h0:0<=k) (h:k < n):ixN n k=some k.toNat:=by
 unfold ixN
 rw [if_pos h0,if_pos h]
theorem qc {a:Addr}{m:MO}:List.lookup a ([(a,m)]:Mu)=some m:=by simp [List.lookup]
theorem nV {a:Addr}{m m':MO}:Mu.put [(a,m)] a m'=[(a,m')]:=by simp [Mu.put]
theorem z_at0 {x:D}{xs:List D}:atI (x::xs) (no_index 0)=some x:=by unfold atI;rw [length_cons,Iv (by decide) (by omega)];rfl
theorem z_at1 {x y:D}{xs:List D}:atI (x::y::xs) (no_index 1)=some y:=by unfold atI;rw [length_cons,length_cons,Iv (by decide) (by omega)];rfl
theorem z_ix0 {n:Nat}:ixN (n + 1) (no_index 0)=some 0:=Iv (by decide) (by omega)
theorem z_ix1 {n:Nat}:ixN (n + 1 + 1) (no_index 1)=some 1:=Iv (by decide) (by omega)
def rd9:String:=rd8 ++ " beq_self_eq_true z_at0 z_at1 z_ix0 z_ix1 GZ qc nV Slot.st.injEq D.rf.injEq MO.lst.injEq"
local macro_rules | `(tactic| walk_at "rd") => rdM rd9
theorem Vy {rs:List Ru}{j:Nat}{r:Ru}(h:rs[j]?=some r):atI (rs.map Xk) (j:Int)=some (Xk r):=Yv (by rw [getElem?_map,h];rfl)
noncomputable def CY:DSp:=fun xs q _=>∃ (rs:List Ru) (k:Nat) (r:Ru) (ab:Int),xs=[.lst (rs.map Xk),.int k,.int ab]/\rs[k]?=some r/\CN rs ab/\q (.bl (stands rs r ab))
theorem Kg {A:Adr}(T:Txt K mg A):ZE P w K mg base (CXE P w) 1 A.UA A.Ow Ri (spD K CY):=by
 haveI:TxC K A:=⟨⟨_,T⟩⟩
 refine T.UC.F.okJ Kb (fun xs q x h=>?_) (fun cdv Ar outer s H E hr=>⟨_,(Za (Zj (i:=3) Kb.nd rfl (Or.inl rfl) (Zi (Zi (jv 0) (jv 1)) Zd))
   (Ze (Zt [] (xI (WD DZ (jv 3) LY (Zu _)) (SM (Ob (WD jo_ge (jv 2) Zd (Zu _)) (SM (WD RN (Zi (Zi (jv 0) (jv 2)) Zd) (jv 3) (by with_unfolding_all rfl))))))))),fun xs q x h=>?_⟩)
 ·obtain ⟨rs,k,r,ab,rfl,_⟩:=h
  rfl
 ·obtain ⟨rs,k,r,ab,rfl,hr,hab,hq⟩:=h
  walk_at "rd"
  refine ⟨_,Vy hr,?_⟩
  walk_at "rd"
  unfold stands at hq
  cases e:r.t with
  | none=>rw [e] at hq;exact hq
  | some us =>
   rw [e] at hq
   simp only at hq
   rw [if_neg (by simp)]
   rcases hab with h | ⟨h0,h1⟩
   ·rw [h] at hq ⊢
    exact hq
   ·rw [if_neg (by omega)] at hq
    rw [decide_eq_true h0,if_pos rfl]
    obtain ⟨r',hr'⟩:∃ r',rs[ab.toNat]?=some r':=⟨_,aC (by omega)⟩
    rw [hr'] at hq
    refine ⟨_,by rw [<-Int.toNat_of_nonneg h0];exact Vy hr',?_⟩
    rw [zt_0]
    show dIn false (.str r'.ti) (.tup (us.map .str)) _
    rw [Aa]
    exact hq
noncomputable def Ba:DSp:=fun xs q _=>∃ i:Int,xs=[.int i]/\q (.bl true)
theorem Kh {A:Adr}(T:Txt K mg A):ZE P w K mg base (CXE P w) 1 A.Uw A.Oq Re (spD K Ba):=by
 haveI:TxC K A:=⟨⟨_,T⟩⟩
 refine T.WT.F.okJ EF (fun xs q x h=>?_) (fun cdv Ar outer s H E hr=>⟨_,(Ze (Zt [] (Ob (Yc (Wd (K:=K) rfl) (by rfl) T.ZK PyProof.Rows.boot_isinstance (Zc (jv 0) (Zc (Xu (n := "int") (by rfl) T.b_int PyProof.Rows.boot_int) Zb))) (SM (oE (Yc (Wd (K:=K) rfl) (by rfl) T.ZK PyProof.Rows.boot_isinstance (Zc (jv 0) (Zc (Xu (n := "bool") (by rfl) T.b_bool PyProof.Rows.boot_bool) Zb)))))))),fun xs q x h=>?_⟩)
 ·obtain ⟨i,rfl,_⟩:=h
  rfl
 ·obtain ⟨i,rfl,hq⟩:=h
  walk_at "rd"
  exact hq
def rd10:String:=rd9 ++ " Aj"
local macro_rules | `(tactic| walk_at "rd") => rdM rd10
noncomputable def edD (e:Int × Int × Str × Int × Int):D := .tup [.int e.1,.int e.2.1,.str e.2.2.1,wD e.2.2.2.1 e.2.2.2.2]
noncomputable def yl:DSp:=fun xs q _=>∃ (e:Int × Int × Str × Int × Int) (n:Int),xs=[edD e,.int n]/\0<=e.1/\e.1 < e.2.1/\e.2.1<=n/\UR e.2.2.1=true/\q (.bl true)
theorem Bb {A:Adr}(T:Txt K mg A):ZE P w K mg base (CXE P w) 4 A.Sf A.MD QQ (spD K yl):=by
 have VZ:=OB (P:=P) (w:=w) (base:=base) T
 have Rz:=Kh (P:=P) (w:=w) (base:=base) T
 haveI:TxC K A:=⟨⟨_,T⟩⟩
 refine T.QZ.F.okJ Ur (fun xs q x h=>?_) (fun cdv Ar outer s H E hr=>⟨_,(Za (Zz [] (RX (UU (Yj (ZU (Yc (Wd (K:=K) rfl) (by rfl) T.ZK PyProof.Rows.boot_isinstance (Zc (jv 0) (Zc (Xu (n := "tuple") (by rfl) T.b_tuple PyProof.Rows.boot_tuple) Zb))))) (Uc (Zv (Ue hr.YW) (Yc ZJ (by rfl) T.b_len PySem.boot_len (Zc (jv 0) Zb)) Zd (Zu _))))) (Ze (Zt [] Eg)) Zn)
   (Za (JD (jv 0) (SR (n:=4) (ZM (Zk (i:=2) Ur.nd rfl (Or.inl rfl)) (ZM (Zk (i:=3) Ur.nd rfl (Or.inl rfl)) (ZM (Zk (i:=4) Ur.nd rfl (Or.inl rfl)) (ZM (Zk (i:=5) Ur.nd rfl (Or.inl rfl)) VH))))))
   (Za (Zz [] (RX (UU (Yj (ZU (Zg Rz T.WT (hr.mono (by decide)) Zh (Zc (jv 2) Zb)))) (Uc (Yj (ZU (Zg Rz T.WT (hr.mono (by decide)) Zh (Zc (jv 3) Zb))))))) (Ze (Zt [] Eg)) Zn)
   (Ze (Zt [] (Ob (vK Qb PJ Qb Zd (jv 2) (jv 3) (jv 1)) (SM (Zg VZ T.WR (hr.mono (by decide)) Zh (Zc (jv 4) Zb))))))))),fun xs q x h=>?_⟩)
 ·obtain ⟨e,n,rfl,_⟩:=h
  rfl
 ·obtain ⟨e,n,rfl,h0,h1,h2,h3,hq⟩:=h
  have hw:=UD (Iu h3)
  have hsz:aA=16777216:=rfl
  unfold edD
  walk_at "rd"
  rw [if_neg (show ¬ ((!decide (((4:Nat):Int)=4))=true) by decide)]
  refine ⟨_,rfl,?_⟩
  walk_at "rd"
  refine ⟨_,rfl,?_⟩
  walk_at "rd"
  rw [decide_eq_true h0,if_pos rfl,decide_eq_true h1,if_pos rfl,decide_eq_true h2,if_pos rfl,h3]
  exact ⟨by omega,hq⟩
abbrev Ed:=Int × Int × Str × Int × Int
noncomputable def netF (n:Int) (es:List Ed):List (Str × D):=[("places",.int n),("edges",.tup (es.map edD))]
noncomputable def Nt (A:Adr) (n:Int) (es:List Ed):D := .obj A.C_Net (netF n es)
section
variable {A:Adr} [TxC K A] {q:D->Prop}{n:Int}{es:List Ed}
theorem ym:D.fld K "places" (Nt A n es) q=q (.int n):=by obtain ⟨mg,T⟩:=(inferInstance:TxC K A).ex;exact D.Uk T.cl_Net T.NM rfl
theorem uf:D.fld K "edges" (Nt A n es) q=q (.tup (es.map edD)):=by obtain ⟨mg,T⟩:=(inferInstance:TxC K A).ex;exact D.Uk T.cl_Net T.Kd rfl
end
section
variable {q:D->Prop}{e:Ed}
theorem ze_0:dIx (edD e) (.int (no_index 0)) q=q (.int e.1):=by show (∃ d,some (D.int e.1)=some d/\q d)=_;simp
theorem ze_1:dIx (edD e) (.int (no_index 1)) q=q (.int e.2.1):=by show (∃ d,some (D.int e.2.1)=some d/\q d)=_;simp
theorem ze_2:dIx (edD e) (.int (no_index 2)) q=q (.str e.2.2.1):=by show (∃ d,some (D.str e.2.2.1)=some d/\q d)=_;simp
end
def rd11:String:=rd10 ++ " ym uf ze_0 ze_1 ze_2 pd"
local macro_rules | `(tactic| walk_at "rd") => rdM rd11
noncomputable def Iw (A:Adr):GM:=fun xs q x=>∃ (n:Int) (es:List Ed),xs=[.int n,.lst (es.map edD)]/\1<=n/\es.length<=1000/\(∀ e∈es,0<=e.1/\e.1 < e.2.1/\e.2.1<=n/\UR e.2.2.1=true)/\q (netF n es)
theorem Ku {A:Adr}(T:Txt K mg A):ZE P w K mg base (CXE P w) 5 A.ZZ A.Us ["self", "places", "edges"] (spI K A.C_Net (Iw A)):=by
 have Rz:=Kh (P:=P) (w:=w) (base:=base) T
 have yn:=Bb (P:=P) (w:=w) (base:=base) T
 haveI:TxC K A:=⟨⟨_,T⟩⟩
 refine T.Wv.okI Kl (fun xs q x h=>?_) (fun cdv Ar outer s H E hr=>⟨_,(Za (Zz [] (RX (UU (Yj (ZU (Zg Rz T.WT (hr.mono (by decide)) Zh (Zc (jv 1) Zb)))) (Uc (Zv PJ (jv 1) Zd (Zu _))))) (Ze (Xo [] T.E_NoNet.x T.E_NoNet.M (Zc ZQ Zb))) Zn)
   (Za (Zz [] (Yj (ZU (Yc Md (by rfl) T.b_all PyProof.Rows.boot_all (Zc (Yw ["edge"] ["places"] [1] (Yk (jv 2)) (fun _=>(Zk (i:=0) (show @Nodup Str ((["edge"]:List Str)++(["places"]:List Str)) by decide +kernel) rfl (Or.inl rfl) (Or.inr rfl))) (fun _=>Yu) (fun _=>(Zg yn T.QZ (hr.mono (by decide)) Vc (Zc (jv 0) (Zc (jv 1) Zb))))) Zb)))) (Ze (Xo [] T.E_NoNet.x T.E_NoNet.M (Zc ZQ Zb))) Zn)
   (Za (Uh (K:=K) [] 0 rfl (jv 1))
   (Ze (Uh (K:=K) [] 0 rfl (UW Qc (by rfl) T.b_tuple PyProof.Rows.boot_tuple (Zc (jv 2) Zb))))))),fun oa dx xs q x h=>?_⟩)
 ·obtain ⟨n,es,rfl,_⟩:=h
  rfl
 ·obtain ⟨n,es,rfl,h1,hl,he,hq⟩:=h
  have hsz:aA=16777216:=rfl
  walk_at "rd"
  refine ⟨_,rfl,?_⟩
  walk_at "rd"
  rw [decide_eq_false (show ¬ n < 1 by omega)]
  walk_at "rd"
  refine YB (fun _ => .bl true) (by omega) (fun e hm N hN=>?_) ?_
  ·walk_at "rd"
   obtain ⟨a1,a2,a3,a4⟩:=he e hm
   exact ⟨e,n,rfl,a1,a2,a3,a4,hN⟩
  have em:(es.map fun _=>D.bl true)=(es.map fun _=>true).map .bl:=by rw [map_map];rfl
  rw [em]
  walk_at "rd"
  have ea:(es.map fun _=>true).all id=true:=by rw [all_map];simp
  rw [ea]
  walk_at "rd"
  exact ⟨T.cl_Net,T.NM,by decide,T.cl_Net,T.Kd,by show 1 < 1000;decide,hq⟩
noncomputable def Dg (A:Adr):DSp:=fun xs q _=>∃ (sc:Str) (rs:List Ru) (r0:Ru),xs=[.str sc,.lst (rs.map Xk)]/\(sc = "cost" \/ sc = "chance")/\rs[0]?=some r0/\Good sc r0.hd rs/\q (Gr A sc r0.hd rs)
theorem Fw {A:Adr}(T:Txt K mg A):ZE P w K mg base (CXE P w) 7 A.Vo A.Qr Tb (spD K (Dg A)):=by
 have OH:=Pu (P:=P) (w:=w) (base:=base) T
 have Kv:=MN (P:=P) (w:=w) (base:=base) T
 haveI:TxC K A:=⟨⟨_,T⟩⟩
 refine T.Tg.F.okJ Ny (fun xs q x h=>?_) (fun cdv Ar outer s H E hr=>⟨_,(Za (UX (i:=2) ["_law_row"] [] [] Ny.nd rfl (Or.inl rfl) (Yk (jv 1)) (fun _=>(Zk (i:=0) (show @Nodup Str ((["_law_row"]:List Str)++([]:List Str)) by decide +kernel) rfl (Or.inl rfl) (Or.inr rfl))) (fun _=>Yu) (fun _=>(GN (dvs:=[]) (dds:=[]) T.mk_Rule Kv (hr.mono (by decide)) (by rfl) T.M_Rule T.YN .nil (fun _=>rfl) Vc (Zc (Zi (jv 0) Zd) (Zc (Zi (jv 0) Zd) (Zc (UW BK (by rfl) T.b_list PyProof.Rows.boot_list (Zc (Zi (jv 0) Zd) Zb)) (Zc (Zi (jv 0) Zd) (Zc (Zi (jv 0) Zd) (Zc (Zi (jv 0) Zd) Zb)))))))))
   (Ze (Zt [] (GN (dvs:=[]) (dds:=[]) T.UB OH (hr.mono (by decide)) (by rfl) T.zS T.Yo .nil (fun _=>rfl) Zh (Zc (jv 0) (Zc (Zi (Zi (jv 1) Zd) Zd) (Zc (jv 2) Zb))))))),fun xs q x h=>?_⟩)
 ·obtain ⟨sc,rs,r0,rfl,_⟩:=h
  rfl
 ·obtain ⟨sc,rs,r0,rfl,hsc,h0,hg,hq⟩:=h
  have hsz:aA=16777216:=rfl
  obtain ⟨l1,l2⟩:=hg.fit
  walk_at "rd"
  refine YB (Ru.d A) (by omega) (fun r hm N hN=>?_) ?_
  ·walk_at "rd"
   have ok:=hg.ok r hm
   exact CW (l2 r hm) ok (qb ok) hN
  have:atI (rs.map Xk) 0=some (Xk r0):=Yv (j:=0) (by rw [getElem?_map,h0];rfl)
  refine ⟨_,this,?_⟩
  walk_at "rd"
  exact hg.made hsc hq
inductive Run (rs:List Ru) (es:List Ed):List (Str × Int × Tr)->Int->Int->Prop
 | nil (p:Int):Run rs es [] p p
 | leaf {w:Str}{ab:Int}{i:Nat}{e:Ed}{rest:List (Str × Int × Tr)}{p':Int}:XM w=false->es[i]?=some e->e.2.2.1=w->Run rs es rest e.2.1 p'->Run rs es ((w,ab,.lf (.int i))::rest) e.1 p'
 | node {k:Str}{ab j:Int}{ts:List Tr}{r:Ru}{rest:List (Str × Int × Tr)}{p p':Int}:XM k=true->YY rs k ab (.nd j ts) = "" -> rs[j.toNat]?=some r->Run rs es (YF r.ps j ts++rest) p p'->Run rs es ((k,ab,.nd j ts)::rest) p p'
-- the leaves of a tree,and the tree with other leaves
mutual
noncomputable def Tr.lv:Tr->List Int
 | .lf (.int i)=>[i]
 | .lf _=>[]
 | .nd _ ts=>Tr.lvs ts
noncomputable def Tr.lvs:List Tr->List Int
 | []=>[]
 | t::ts=>t.lv++Tr.lvs ts
end
mutual
noncomputable def Tr.mp (f:Int->Int):Tr->Tr
 | .lf (.int i) => .lf (.int (f i))
 | .lf d => .lf d
 | .nd k ts => .nd k (Tr.mps f ts)
noncomputable def Tr.mps (f:Int->Int):List Tr->List Tr
 | []=>[]
 | t::ts=>t.mp f::Tr.mps f ts
end
mutual
noncomputable def Tr.de:Tr->Nat
 | .lf _=>0
 | .nd _ ts=>1 + Tr.des ts
noncomputable def Tr.des:List Tr->Nat
 | []=>0
 | t::ts=>max t.de (Tr.des ts)
end
theorem Tr.Fx (f:Int->Int) (ts:List Tr):Tr.mps f ts=ts.map (Tr.mp f):=by
 induction ts with
 | nil=>rfl
 | cons t ts ih=>rw [Tr.mps,ih];rfl
theorem Tr.Ap {ts:List Tr}{t:Tr}{i:Int}(h:t∈ts) (hi:i∈t.lv):i∈Tr.lvs ts:=by
 induction ts with
 | nil=>cases h
 | cons u ts ih =>
  rw [Tr.lvs]
  rcases mem_cons.mp h with e | e
  ·rw [<-e];exact mem_append_left _ hi
  ·exact mem_append_right _ (ih e)
theorem Tr.Ji {ts:List Tr}{t:Tr}(h:t∈ts):t.de<=Tr.des ts:=by
 induction ts with
 | nil=>cases h
 | cons u ts ih =>
  rw [Tr.des]
  rcases mem_cons.mp h with e | e
  ·rw [<-e];omega
  ·have:=ih e;omega
noncomputable def prD (p:Int × Int):D := .tup [.int p.1,.int p.2]
noncomputable def mkI (ms:List (Int × Int)) (w i:Int):Int:=(ms.idxOf (w,i):Nat)
theorem ug {ms:List (Int × Int)}{w i:Int}{q:D->Prop}:Fb (.lst (ms.map prD)) [.tup [.int w,.int i]] q=((w,i)∈ms/\q (.int (mkI ms w i))):=by
 show (∃ ps,ED (ms.map fun p => .tup [.int p.1,.int p.2])=some ps/\_)=_
 rw [rH]
 simp only [Option.some.injEq,exists_eq_left']
 rfl
def rd12:String:=rd11 ++ " ug"
local macro_rules | `(tactic| walk_at "rd") => rdM rd12
noncomputable def qe:Nat->DSp
 | 0=>fun _ _ _=>False
 | n + 1=>fun xs q _=>∃ (k:Int) (ts:List Tr) (ms:List (Int × Int)) (w:Int),xs=[(Tr.nd k ts).d,.lst (ms.map prD),.int w]/\Tr.pls ts=true/\(Tr.nd k ts).de<=n + 1/\Tr.szs ts<=1000000/\(∀ i∈Tr.lvs ts,(w,i)∈ms)/\q (Tr.nd k (Tr.mps (mkI ms w) ts)).d
theorem uh {A:Adr}(T:Txt K mg A):∀ n,ZE P w K mg base (CXE P w) (1 + n) A.f_l_set A.d_l_set Jd (spD K (qe n)):=by
 intro n
 induction n with
 | zero=>exact ZE.never fun vs H Q E h=>by first | (obtain ⟨_,_,_,_,_,_,_,_,_,h,_⟩:=h;exact h) | (obtain ⟨_,_,_,_,_,_,h,_⟩:=h;exact h)
 | succ n ih=>?_
 have G_l_set:=ih
 rw [show 1 + (n + 1)=(1 + n) + 1 by omega]
 haveI:TxC K A:=⟨⟨_,T⟩⟩
 refine T.L_l_set.F.okJ JZ (fun xs q x h=>?_) (fun cdv Ar outer s H E hr=>⟨_,(Za (XZ (i:=3) JZ.nd rfl (Or.inl rfl) (We Zb))
   (Za (Vu PassesOwn.leaving (Yk (Zi (jv 0) Zd)) (Zk (i:=4) JZ.nd rfl (Or.inl rfl)) (Ze (Zz [] (ZU (Yc (Wd (K:=K) rfl) (by rfl) T.ZK PyProof.Rows.boot_isinstance (Zc (jv 4) (Zc (Xu (n := "int") (by rfl) T.b_int PyProof.Rows.boot_int) Zb)))) (Ze (Qe [] 3 (qC PySem.F.plainAttrs_list PySem.F.slot_list_index PySem.F.type_list_index (zN hr.YW) (jv 1) (Zc (ZL (Zc (jv 2) (Zc (jv 4) Zb))) Zb)))) (Ze (Qe [] 3 (Zg G_l_set T.L_l_set (hr.mono (by omega)) Zh (Zc (jv 4) (Zc (jv 1) (Zc (jv 2) Zb)))))))))
   (Ze (Zt [3] (ZL (Zc (Zi (jv 0) Zd) (Zc (UW Qc (by rfl) T.b_tuple PyProof.Rows.boot_tuple (Zc (jv 3) Zb)) Zb))))))),fun xs q x h=>?_⟩)
 ·obtain ⟨k,ts,ms,w,rfl,_⟩:=h
  rfl
 ·obtain ⟨k,ts,ms,w,rfl,hp,hd,hs,hm,hq⟩:=h
  have hsz:aA=16777216:=rfl
  have tl:=Tr.Rx ts
  walk_at "rd"
  refine ⟨by decide,[],?_⟩
  walk_at "rd"
  refine Uj (fun i ds'=>∃ s4:L2.Slot,ds'=[.v (.tup [.int k,.tup (ts.map Tr.d)]),.v (.lst (ms.map prD)),.v (.int w),.own (((ts.take i).map (Tr.mp (mkI ms w))).map Tr.d),s4]) ⟨_,by rw [List.take_zero];rfl⟩ (fun i t ds N ht hd' hn=>?_) (fun ds hd'=>?_)
  ·obtain ⟨s4,rfl⟩:=hd'
   have htm:=mem_of_getElem? ht
   have il:i < ts.length:=(List.getElem?_eq_some_iff.mp ht).1
   have lt:(ts.take i).length<=i:=by rw [length_take];omega
   have nx:N [.v (.tup [.int k,.tup (ts.map Tr.d)]),.v (.lst (ms.map prD)),.v (.int w),.own (((ts.take i).map (Tr.mp (mkI ms w))).map Tr.d++[(t.mp (mkI ms w)).d]),.v t.d]:=hn _ ⟨.v t.d,by rw [take_add_one,ht];simp⟩
   have pl:t.pl=true:=Tr.EX (k:=0) (by unfold Tr.pl;exact hp) t htm
   cases t with
   | lf d =>
    obtain ⟨j,rfl⟩:=Tr.NV pl
    walk_at "rd"
    exact ⟨by decide,hm j (Tr.Ap htm (by simp [Tr.lv])),by omega,by rw [Tr.mp,Hf,Hf] at nx;exact nx⟩
   | nd k' us =>
    walk_at "rd"
    have d1:=Tr.Ji htm
    have d2:(Tr.nd k ts).de=1 + Tr.des ts:=by rw [Tr.de]
    have d3:(Tr.nd k' us).de=1 + Tr.des us:=by rw [Tr.de]
    have s1:=Tr.Jh htm
    have s2:(Tr.nd k' us).sz=1 + Tr.szs us:=by unfold Tr.sz;rfl
    obtain ⟨n',rfl⟩:∃ n',n=n' + 1:=⟨n - 1,by omega⟩
    refine ⟨k',us,ms,w,by rw [Kt],by unfold Tr.pl at pl;exact pl,by omega,by omega,fun i hi=>hm i (Tr.Ap htm (by unfold Tr.lv;exact hi)),by omega,?_⟩
    rw [Tr.mp] at nx
    rw [Kt (ts:=us)] at nx
    exact nx
  obtain ⟨s4,rfl⟩:=hd'
  walk_at "rd"
  refine ⟨by decide,?_⟩
  rw [take_length,<-Tr.Fx]
  rw [Kt] at hq
  exact hq
inductive Lf (rs:List Ru):List (Str × Int × Tr)->Nat->List Str->Prop
 | nil (c:Nat):Lf rs [] c []
 | leaf {w:Str}{ab:Int}{c:Nat}{rest:List (Str × Int × Tr)}{us:List Str}:XM w=false->Lf rs rest (c + 1) us->Lf rs ((w,ab,.lf (.int c))::rest) c (w::us)
 | node {k:Str}{ab j:Int}{ts:List Tr}{r:Ru}{rest:List (Str × Int × Tr)}{c:Nat}{us:List Str}:XM k=true->YY rs k ab (.nd j ts) = "" -> rs[j.toNat]?=some r->Lf rs (YF r.ps j ts++rest) c us->Lf rs ((k,ab,.nd j ts)::rest) c us
theorem Lf.app {rs:List Ru}{a b:List (Str × Int × Tr)}{c:Nat}{us vs:List Str}(h:Lf rs a c us) (g:Lf rs b (c + us.length) vs):Lf rs (a++b) c (us++vs):=by
 induction h with
 | nil c=>simpa using g
 | leaf hk _ ih=>exact .leaf hk (ih (by rw [length_cons] at g;rw [Nat.add_assoc,Nat.add_comm 1];exact g))
 | node hk hf hr _ ih=>exact .node hk hf hr (by have:=ih g;rw [append_assoc] at this;exact this)
theorem yo {rs:List Ru}{k:Str}{ab j:Int}{ts:List Tr}(f:Int->Int):YY rs k ab (.nd j (Tr.mps f ts))=YY rs k ab (.nd j ts):=by
 rw [Tr.Fx]
 unfold YY
 dsimp only
 rw [length_map]
noncomputable def mpS (f:Int->Int) (u:Str × Int × Tr):Str × Int × Tr:=(u.1,u.2.1,u.2.2.mp f)
theorem yp (ps:List Str) (j:Int) (ts:List Tr) (f:Int->Int):YF ps j (Tr.mps f ts)=(YF ps j ts).map (mpS f):=by
 unfold YF
 rw [Tr.Fx,List.zip_map_right,map_map,map_map]
 rfl
theorem Lf.run {rs:List Ru}{es:List Ed}{f:Int->Int}{pl:Nat->Int}{sk:List (Str × Int × Tr)}{c:Nat}{us:List Str}(h:Lf rs sk c us)
  (hf:∀ i w,c<=i->us[i - c]?=some w->∃ (j:Nat) (e:Ed),f i=j/\es[j]?=some e/\e.2.2.1=w/\e.1=pl i/\e.2.1=pl (i + 1)):Run rs es (sk.map (mpS f)) (pl c) (pl (c + us.length)):=by
 induction h with
 | nil c=>exact .nil _
 | @leaf w ab c rest us hk _ ih =>
  obtain ⟨j,e,h1,h2,h3,h4,h5⟩:=hf c w (Nat.le_refl _) (by rw [Nat.sub_self];rfl)
  have:=ih fun i w hi hw=>hf i w (by omega) (by rw [show i - c=(i - (c + 1)) + 1 by omega];exact hw)
  rw [<-h5,show c + 1 + us.length=c + (w::us).length by rw [length_cons];omega] at this
  have:=Run.leaf (ab:=ab) hk h2 h3 this
  rw [h4] at this
  rw [map_cons,show mpS f (w,ab,.lf (.int c))=(w,ab,.lf (.int j)) by unfold mpS;rw [<-h1];simp [Tr.mp]]
  exact this
 | @node k ab j ts r rest c us hk hg hr _ ih =>
  have:=ih hf
  rw [map_append,<-yp] at this
  have e:mpS f (k,ab,.nd j ts)=(k,ab,.nd j (Tr.mps f ts)):=by unfold mpS;simp [Tr.mp]
  rw [map_cons,e]
  exact .node hk (by rw [yo];exact hg) hr this
theorem uk (x:Str):(Txt.slice x none (some 1)).cps.toList=x.cps.toList.take 1:=by
 by_cases h:1<=x.cps.toList.length
 ·exact HG (by decide) (by omega)
 ·have e:x.cps.toList=[]:=List.eq_nil_of_length_eq_zero (by omega)
  have:=Txt.slice_le x none (some 1)
  rw [PX,PX,e] at this
  rw [e,List.eq_nil_of_length_eq_zero (l:=(Txt.slice x none (some 1)).cps.toList) (by simpa using this)]
  rfl
theorem qf {c:Nat}(h:nmS c=true):Txt.isupper ⟨#[c]⟩=grS c:=by
 have a1:∀ c∈Yi.cps.toList,c < 128/\PyProof.Rows.inR 65 90 ⟨#[c]⟩=grS c:=by decide +kernel
 have a2:∀ c∈ZC.cps.toList,c < 128/\PyProof.Rows.inR 65 90 ⟨#[c]⟩=grS c:=by decide +kernel
 have a3:∀ c∈Wm.cps.toList,c < 128/\PyProof.Rows.inR 65 90 ⟨#[c]⟩=grS c:=by decide +kernel
 have key:c < 128/\PyProof.Rows.inR 65 90 ⟨#[c]⟩=grS c:=by
  unfold nmS at h
  simp only [Bool.or_eq_true,decide_eq_true_eq] at h
  rcases h with (h | h) | h
  ·exact a1 c h
  ·exact a2 c h
  ·exact a3 c h
 rw [PyProof.Rows.one_isupper c key.1,key.2]
theorem um {p:Str}(h:isNm p=true):Txt.isupper (Txt.slice p none (some 1))=XM p:=by
 have hs:=uk p
 have hk:XM p=grS (fst p):=by unfold XM;rw [h,Bool.true_and]
 unfold isNm at h
 simp only [aF,decide_eq_true_eq] at h
 obtain ⟨⟨h1,_⟩,h3⟩:=h
 rw [hk]
 generalize Txt.slice p none (some 1)=y at hs
 obtain ⟨l⟩:=y
 obtain ⟨a⟩:=p
 obtain ⟨a⟩:=a
 cases a with
 | nil=>exact absurd h1 (by decide)
 | cons c r =>
  have:l=#[c]:=Array.ext' hs
  subst this
  exact qf (all_eq_true.mp h3 c (mem_cons_self ..))
noncomputable def stM (μ:Mu) (a b:Addr) (ns:List Int) (c:Int) (ws:List Str):Mu:=(μ.put a (.lst [.scr (ns.map .int),.int c,.rf b])).put b (.lst (ws.map .str))
class StB (μ:Mu) (a b:Addr):Prop where
 ne:a≠b
 ha:∃ m,μ.lookup a=some m
 hb:∃ m,μ.lookup b=some m
section
variable {μ:Mu}{a b:Addr} [h:StB μ a b] {ns:List Int}{c c':Int}{ws:List Str}{xs:List D}
theorem pw:((μ.put a (.lst xs)).lookup b).isSome=true:=by
 obtain ⟨m,hm⟩:=h.ha
 obtain ⟨n,hn⟩:=h.hb
 rw [Mu.Xx hm,if_neg (Ne.symm h.ne),hn]
 rfl
theorem zs_a:List.lookup a (stM μ a b ns c ws)=some (.lst [.scr (ns.map .int),.int c,.rf b]):=by
 obtain ⟨m,hm⟩:=h.ha
 obtain ⟨n,hn⟩:=Option.isSome_iff_exists.mp (pw (h:=h) (xs:=[.scr (ns.map .int),.int c,.rf b]))
 rw [stM,Mu.Xx hn,if_neg h.ne,Mu.Xx hm,if_pos rfl]
theorem zs_b:List.lookup b (stM μ a b ns c ws)=some (.lst (ws.map .str)):=by
 obtain ⟨n,hn⟩:=Option.isSome_iff_exists.mp (pw (h:=h) (xs:=[.scr (ns.map .int),.int c,.rf b]))
 rw [stM,Mu.Xx hn,if_pos rfl]
theorem zs_pa:(stM μ a b ns c ws).put a (.lst [.scr (ns.map .int),.int c',.rf b])=stM μ a b ns c' ws:=by
 have ne:=h.ne
 unfold stM Mu.put
 rw [map_map,map_map,map_map]
 refine map_congr_left fun x _=>?_
 simp only [Function.comp]
 by_cases e:x.1=a
 ·simp [e,ne]
 ·by_cases e':x.1=b
  ·have:¬ b=a:=Ne.symm ne
   simp [e',this]
  ·simp [e,e']
theorem nW {vs:List Str}:(stM μ a b ns c ws).put b (.lst (vs.map .str))=stM μ a b ns c vs:=by
 unfold stM Mu.put
 rw [map_map,map_map,map_map]
 refine map_congr_left fun x _=>?_
 simp only [Function.comp]
 have ne:=h.ne
 by_cases e:x.1=a
 ·simp [e,ne]
 ·by_cases e':x.1=b
  ·have:¬ b=a:=Ne.symm ne
   simp [e',this]
  ·simp [e,e']
theorem zs_pb {p:Str}:(stM μ a b ns c ws).put b (.lst (ws.map .str++[.str p]))=stM μ a b ns c (ws++[p]):=by
 rw [<-nW (vs:=ws++[p]),map_append]
 rfl
end
theorem z_at2 {x y z:D}{xs:List D}:atI (x::y::z::xs) (no_index 2)=some z:=by unfold atI;rw [length_cons,length_cons,length_cons,Iv (by decide) (by omega)];rfl
def rd13:String:=rd12 ++ " zs_a zs_b zs_pa zs_pb qV dUpp qR z_at2"
local macro_rules | `(tactic| walk_at "rd") => rdM rd13
noncomputable def yq:Nat->Mh
 | 0=>fun _ _ _=>False
 | n + 1=>fun xs μ q=>∃ (sc:Str) (kinds words:List Str) (rs:List Ru) (ns:List Int) (μ0:Mu) (a b:Addr) (c:Int) (ws:List Str) (kd:Str) (ab rm:Int),xs=[.lst (rs.map Xk),.str kd,.int ab,.int rm,.rf a]/\μ=stM μ0 a b ns c ws/\StB μ0 a b /\
  VE sc kinds words rs/\kd∈kinds/\CN rs ab/\0<=c/\c + 7 * rm<=100000 + kinds.idxOf kd/\1<=rm/\rm<=10/\3 * rm + 3<=(n:Int) + 1 + kinds.idxOf kd/\(ws.length:Int) + rm<=100 /\
  ∀ (j:Nat) (ts:List Tr) (us:List Str) (c':Int),Lf rs [(kd,ab,.nd j ts)] ws.length us->Tr.pls ts=true->(Tr.nd j ts).de<=n + 1->(Tr.nd j ts).sz + 3 + kinds.idxOf kd<=7 * us.length->1<=us.length->(us.length:Int)<=rm->c<=c'->c'<=c + (Tr.nd j ts).sz->(∀ u∈us,u∈words) ->
   q (Tr.nd j ts).d (stM μ0 a b ns c' (ws++us))
noncomputable def cw (kinds:List Str) (p:Str):Nat:=3 + if p∈kinds then kinds.idxOf p else 3
theorem cw_sum (kinds l:List Str):3 * l.length<=(l.map (cw kinds)).sum:=by
 induction l with
 | nil=>simp
 | cons y l ih =>
  have:3<=cw kinds y:=by unfold cw;omega
  rw [map_cons,sum_cons,length_cons]
  omega
theorem Bc {ps:List Str}{p:Str}{k:Int}{ts:List Tr}{t:Tr}(h:ps.length=ts.length):YF (ps++[p]) k (ts++[t])=YF ps k ts++[(p,k,t)]:=by
 unfold YF
 rw [List.zip_append h,map_append]
 rfl
theorem Tr.Fy (a b:List Tr):Tr.pls (a++b)=(Tr.pls a && Tr.pls b):=by rw [Tr.NU,Tr.NU,Tr.NU,List.all_append]
theorem Tr.Fz (a b:List Tr):Tr.des (a++b)=max (Tr.des a) (Tr.des b):=by
 induction a with
 | nil=>simp [Tr.des]
 | cons t a ih=>rw [cons_append,Tr.des,Tr.des,ih,Nat.max_assoc]
noncomputable def Iy (rs:List Ru) (kd:Str) (rm:Int) (j:Nat):Bool:=match rs[j]? with
 | some r=>decide (r.hd=kd) && decide ((r.ps.length:Int)<=rm)
 | none=>false
noncomputable def FA (rs:List Ru) (ab:Int) (j:Nat):Bool:=match rs[j]? with
 | some r=>stands rs r ab
 | none=>false
noncomputable def fitW (rs:List Ru) (j:Nat):Bool:=match rs[j]? with
 | some r=>decide (1 < (r.ps.length:Int))
 | none=>false
theorem Be {A:Adr}(T:Txt K mg A):∀ n,ZE P w K mg base (CXE P w) (2 + n) A.Sq A.MJ QX (spS K 4 (yq n)):=by
 intro n
 induction n with
 | zero=>exact ZE.never fun vs H Q E h=>by first | (obtain ⟨_,_,_,_,_,_,_,_,_,h,_⟩:=h;exact h) | (obtain ⟨_,_,_,_,_,_,h,_⟩:=h;exact h)
 | succ n ih=>?_
 have MS:=ih
 rw [show 2 + (n + 1)=(2 + n) + 1 by omega]
 have G_l_mix:=Vq (P:=P) (w:=w) (base:=base) T
 have G_l_at:=Th (P:=P) (w:=w) (base:=base) T
 have OI:=Kg (P:=P) (w:=w) (base:=base) T
 haveI:TxC K A:=⟨⟨_,T⟩⟩
 refine T.XJ.F.okS Ym (fun xs μ q h=>?_) (fun cdv Ar outer s H E hr=>⟨_,(Za (UX (i:=5) ["_law_k"] ["_law_kind", "_law_room", "_law_rows"] [1,3,0] Ym.nd rfl (Or.inl rfl) (YJ (by rfl) T.b_range (Zc (Yc ZJ (by rfl) T.b_len PySem.boot_len (Zc (jv 0) Zb)) Zb)) (fun _=>(Zk (i:=0) (show @Nodup Str ((["_law_k"]:List Str)++(["_law_kind", "_law_room", "_law_rows"]:List Str)) by decide +kernel) rfl (Or.inl rfl) (Or.inr rfl))) (fun _=>(Qd (RX (Oa (Zv (Xb hr.YW) (Zi (Zi (jv 3) (jv 0)) Zd) (jv 1) (Zu _)) (SL (Zv Qb (Yc ZJ (by rfl) T.b_len PySem.boot_len (Zc (Zi (Zi (jv 3) (jv 0)) Zd) Zb)) (jv 2) (Zu _))))))) (fun _=>(jv 0)))
   (Za (UX (i:=5) ["_law_k"] ["_law_rows", "_law_above"] [0,2] Ym.nd rfl (Or.inl rfl) (Yk (jv 5)) (fun _=>(Zk (i:=0) (show @Nodup Str ((["_law_k"]:List Str)++(["_law_rows", "_law_above"]:List Str)) by decide +kernel) rfl (Or.inl rfl) (Or.inr rfl))) (fun _=>(Qd (ZU (Zg OI T.UC (hr.mono (by omega)) Vc (Zc (jv 1) (Zc (jv 0) (Zc (jv 2) Zb))))))) (fun _=>(jv 0)))
   (Za (Zj (i:=6) Ym.nd rfl (Or.inl rfl) (Zg G_l_mix T.L_l_mix (hr.mono (by omega)) Zh (Zc (Zg G_l_at T.L_l_at (hr.mono (by omega)) Zh (Zc (Ul 4 (jvS 4) Zd) (Zc (Ul 4 (jvS 4) Zd) Zb))) (Zc (Ul 4 (jvS 4) Zd) Zb))))
   (Za (Af [] 4 (jvS 4) Zd (Zm ZP (Ul 4 (jvS 4) Zd) Zd))
   (Za (UX (i:=7) ["_law_k"] ["_law_rows"] [0] Ym.nd rfl (Or.inl rfl) (Yk (jv 5)) (fun _=>(Zk (i:=0) (show @Nodup Str ((["_law_k"]:List Str)++(["_law_rows"]:List Str)) by decide +kernel) rfl (Or.inl rfl) (Or.inr rfl))) (fun _=>(Qd (Zv El (Yc ZJ (by rfl) T.b_len PySem.boot_len (Zc (Zi (Zi (jv 1) (jv 0)) Zd) Zb)) Zd (Zu _)))) (fun _=>(jv 0)))
   (Za (Xr (Zz [] (RX (Oa (Zv (Ue hr.YW) (jv 7) (WH Zb) (Zu _)) (SL (Zv El (Zm Zr (jv 6) Zd) Zd (Zu _))))) (Ze (Zj (i:=5) Ym.nd rfl (Or.inl rfl) (jv 7))) Zn))
   (Za (Zj (i:=8) Ym.nd rfl (Or.inl rfl) (Zi (jv 5) (Zm Zr (Zm ZS (jv 6) Zd) (Yc ZJ (by rfl) T.b_len PySem.boot_len (Zc (jv 5) Zb)))))
   (Za (XZ (i:=9) Ym.nd rfl (Or.inl rfl) (We Zb))
   (Za (Xr (Vu PassesOwn.leaving (Yk (Zi (Zi (jv 0) (jv 8)) Zd)) (Zk (i:=10) Ym.nd rfl (Or.inl rfl)) (Za (Zj (i:=3) Ym.nd rfl (Or.inr rfl) (Zm SQ (jv 3) Zd))
   (Za (BU [9] (i:=11) Ym.nd rfl (Or.inl rfl) (Zm SQ (Zm SQ (Yc ZJ (by rfl) T.b_len PySem.boot_len (Zc (Zi (Zi (jv 0) (jv 8)) Zd) Zb)) (Yc ZJ (by rfl) T.b_len PySem.boot_len (Zc (jv 9) Zb))) Zd))
   (Ze (Zz [] (ZU (Cb PySem.F.plainAttrs_str PySem.F.slot_str_isupper PySem.F.type_str_isupper Oe (Wo (jv 10) Vb (XY Zd)))) (Za (Zj (i:=12) Ym.nd rfl (Or.inl rfl) (GX 4 (by rfl) T.b_len (Zc (Ul 4 (jvS 4) Zd) Zb)))
   (Za (Ah 9 4 4 (by decide) MS (hr.mono (by omega)) (by rfl) T.XJ.m T.XJ.F.kp T.XJ.a Zh (Zc (jv 0) (Zc (jv 10) (Zc (jv 8) (Zc (Zm SQ (Zm ZP (jv 3) Zd) (jv 11)) (Zc (jvS 4) Zb))))))
   (Ze (Zj (i:=3) Ym.nd rfl (Or.inr rfl) (Zm SQ (Zm ZP (jv 3) Zd) (Zm SQ (GX 4 (by rfl) T.b_len (Zc (Ul 4 (jvS 4) Zd) Zb)) (jv 12))))))) (Za (Qe [] 9 (GX 4 (by rfl) T.b_len (Zc (Ul 4 (jvS 4) Zd) Zb)))
   (Ze (rC 4 (Ul 4 (jvS 4) Zd) (jv 10))))))))))
   (Ze (GY [9] (ZL (Zc (jv 8) (Zc (UW Qc (by rfl) T.b_tuple PyProof.Rows.boot_tuple (Zc (jv 9) Zb)) Zb)))))))))))))),fun xs μ a q ha h=>?_⟩)
 ·obtain ⟨sc,kinds,words,rs,ns,μ0,a',b,c,ws,kd,ab,rm,rfl,_⟩:=h
  rfl
 ·obtain ⟨sc,kinds,words,rs,ns,μ0,a',b,c,ws,kd,ab,rm,rfl,rfl,hSt,hR,hkd,hab,c0,c1,r0,r1,hm,hw,hq⟩:=h
  have ea:a'=a:=by simpa using ha
  subst ea
  have hsz:aA=16777216:=rfl
  have hG:=hR.len
  have ikd0:kinds.idxOf kd < kinds.length:=idxOf_lt_length_of_mem hkd
  have k30:=hR.k3
  walk_at "rd"
  refine ⟨by omega,by omega,SV (c:=fun i:Nat => .int (0 + (i:Int))) (xs:=List.range rs.length) (Iy rs kd rm) (fun j => .int j) (by rw [length_range];omega) (fun j hj N hN=>?_) (fun j hj _ N hN=>?_) ?_⟩
  ·have hr:rs[j]?=some (rs[j]'(mem_range.mp hj)):=aC _
   generalize rs[j]'(mem_range.mp hj)=r at hr
   unfold Iy at hN
   rw [hr] at hN
   dsimp only at hN
   rw [Int.zero_add]
   walk_at "rd"
   refine ⟨_,Vy hr,?_⟩
   walk_at "rd"
   cases e:decide (r.hd=kd) with
   | false=>rw [e] at hN;exact hN
   | true =>
    rw [e] at hN
    walk_at "rd"
    exact ⟨_,Vy hr,by walk_at "rd";exact hN⟩
  ·walk_at "rd"
   rw [Int.zero_add]
   exact hN
  refine SV (c:=fun j:Nat => .int (j:Int)) (FA rs ab) (fun j => .int j) (by have:=List.length_filter_le (Iy rs kd rm) (List.range rs.length);rw [length_range] at this;omega) (fun j hj N hN=>?_) (fun j hj _ N hN=>?_) ?_
  ·have hr:rs[j]?=some (rs[j]'(mem_range.mp (mem_filter.mp hj).1)):=aC _
   generalize rs[j]'(mem_range.mp (mem_filter.mp hj).1)=r at hr
   unfold FA at hN
   rw [hr] at hN
   walk_at "rd"
   exact ⟨rs,j,r,ab,rfl,hr,hab,hN⟩
  ·walk_at "rd"
   exact hN
  have hF:∀ j∈((List.range rs.length).filter (Iy rs kd rm)).filter (FA rs ab),∃ r,rs[j]?=some r/\r.hd=kd/\(r.ps.length:Int)<=rm/\stands rs r ab=true:=fun j hj=>by
   obtain ⟨h1,h2⟩:=mem_filter.mp hj
   obtain ⟨h3,h4⟩:=mem_filter.mp h1
   have hr:rs[j]?=some (rs[j]'(mem_range.mp h3)):=aC _
   unfold FA at h2
   unfold Iy at h4
   rw [hr] at h2 h4
   simp only [aF,decide_eq_true_eq] at h4
   exact ⟨_,hr,h4.1,h4.2,h2⟩
  have hF0:kinds.idxOf kd∈((List.range rs.length).filter (Iy rs kd rm)).filter (FA rs ab):=by
   have hi:=idxOf_lt_length_of_mem hkd
   obtain ⟨r,h1,h2,h3,w',_,h4⟩:=hR.base _ hi
   rw [aC hi,getElem_idxOf hi] at h2
   have e2:r.hd=kd:=(Option.some.inj h2).symm
   refine mem_filter.mpr ⟨mem_filter.mpr ⟨mem_range.mpr (List.getElem?_eq_some_iff.mp h1).1,?_⟩,?_⟩
   ·unfold Iy
    rw [h1]
    simp only [e2,h4,decide_true,Bool.true_and]
    exact decide_eq_true (by simp;omega)
   ·unfold FA
    rw [h1]
    unfold stands
    simp only [h3]
  have hFl:(((List.range rs.length).filter (Iy rs kd rm)).filter (FA rs ab)).length<=9:=by
   have h1:=List.length_filter_le (FA rs ab) ((List.range rs.length).filter (Iy rs kd rm))
   have h2:=List.length_filter_le (Iy rs kd rm) (List.range rs.length)
   rw [length_range] at h2
   omega
  generalize ((List.range rs.length).filter (Iy rs kd rm)).filter (FA rs ab)=F at hF hF0 hFl
  refine ⟨by omega,by omega,by omega,SV (c:=fun j:Nat => .int (j:Int)) (fitW rs) (fun j => .int j) (by omega) (fun j hj N hN=>?_) (fun j hj _ N hN=>?_) ?_⟩
  ·obtain ⟨r,hr,_⟩:=hF j hj
   unfold fitW at hN
   rw [hr] at hN
   walk_at "rd"
   exact ⟨_,Vy hr,by walk_at "rd";exact hN⟩
  ·walk_at "rd"
   exact hN
  have hW:∀ j∈F.filter (fitW rs),j∈F:=fun j hj=>(mem_filter.mp hj).1
  generalize F.filter (fitW rs)=W at hW
  have m0:=Rt (atZ ns c) c
  generalize mix (atZ ns c) c=m at m0
  refine ⟨fun ds'=>∃ G:List Nat,ds'=[.v (.lst (rs.map Xk)),.v (.str kd),.v (.int ab),.v (.int rm),.st a' (stM μ0 a' b ns (c + 1) ws),.v (.lst (G.map fun j:Nat => .int j)),.v (.int m),.v (.lst (W.map fun j:Nat => .int j)),.un,.un,.un,.un,.un]/\G≠[]/\∀ j∈G,j∈F,?_,?_⟩
  ·walk_at "rd"
   refine ⟨by omega,?_⟩
   have two:∃ G:List Nat,(F.map fun j:Nat=>D.int j)=(G.map fun j:Nat=>D.int j)/\¬ G=[]/\∀ j,j∈G->j∈F:=⟨F,rfl,fun z=>(by rw [z] at hF0;cases hF0),fun _ h=>h⟩
   cases W with
   | nil=>exact ⟨rfl,by rw [if_neg (by decide)];exact two⟩
   | cons j W=>exact ⟨rfl,ifB (fun _=>⟨by decide,XR (fun _=>⟨_,rfl,by simp,hW⟩) (fun _=>two)⟩) (fun e=>absurd e (by show ¬ (true=false);decide))⟩
  rintro _ ⟨G,rfl,hG0,hGF⟩
  walk_at "rd"
  have gl:0 < G.length:=List.length_pos_iff.mpr hG0
  rw [Xw (show (0:Int) < G.length by omega)]
  obtain ⟨g1,g2⟩:=mod_lt (m / 4) gl
  obtain ⟨k,hk1,ek1⟩:=XS (fun j:Nat=>D.int j) G g1 g2
  obtain ⟨r,hr,hd,hle,hst⟩:=hF k (hGF k hk1)
  refine ⟨by decide,YZ (by decide) (by decide),by omega,_,ek1,by decide,?_⟩
  have hmem:=mem_of_getElem? hr
  have R:=hR.row r hmem
  have kl:k < rs.length:=(List.getElem?_eq_some_iff.mp hr).1
  have L1:=R.p1
  have L4:=R.p4
  refine ⟨fun ds'=>∃ (kids:List Tr) (us:List Str) (c2:Int) (s3 s10 s11 s12:L2.Slot),ds'=[.v (.lst (rs.map Xk)),.v (.str kd),.v (.int ab),s3,.st a' (stM μ0 a' b ns c2 (ws++us)),.v (.lst (G.map fun j:Nat => .int j)),.v (.int m),.v (.lst (W.map fun j:Nat => .int j)),.v (.int k),.own (kids.map Tr.d),s10,s11,s12]/\kids.length=r.ps.length/\Lf rs (YF r.ps k kids) ws.length us/\Tr.pls kids=true/\Tr.des kids<=n/\Tr.szs kids + (r.ps.map (cw kinds)).sum<=7 * us.length/\r.ps.length<=us.length/\(us.length:Int)<=rm/\c + 1<=c2/\c2<=c + 1 + Tr.szs kids/\(∀ u∈us,u∈words),?_,?_⟩
  ·refine ⟨[],?_⟩
   walk_at "rd"
   refine ⟨_,Vy hr,?_⟩
   walk_at "rd"
   refine Uj (fun i ds'=>∃ (kids:List Tr) (us:List Str) (c2:Int) (s10 s11 s12:L2.Slot),ds'=[.v (.lst (rs.map Xk)),.v (.str kd),.v (.int ab),.v (.int (rm - us.length)),.st a' (stM μ0 a' b ns c2 (ws++us)),.v (.lst (G.map fun j:Nat => .int j)),.v (.int m),.v (.lst (W.map fun j:Nat => .int j)),.v (.int k),.own (kids.map Tr.d),s10,s11,s12]/\kids.length=i/\Lf rs (YF (r.ps.take i) k kids) ws.length us/\Tr.pls kids=true/\Tr.des kids<=n/\Tr.szs kids + ((r.ps.take i).map (cw kinds)).sum<=7 * us.length/\i<=us.length/\(us.length:Int) + (r.ps.length - i)<=rm/\c + 1<=c2/\c2<=c + 1 + Tr.szs kids/\(∀ u∈us,u∈words)) ⟨[],[],c + 1,.un,.un,.un,by simp,rfl,.nil _,rfl,by simp [Tr.des],by simp [Tr.szs],by simp,by simpa using hle,by omega,by simp [Tr.szs],fun u hu=>by cases hu⟩ (fun i p ds N hp hd' hn=>?_) (fun ds hd'=>?_)
   ·obtain ⟨kids,us,c2,s10,s11,s12,rfl,kl',hLf,hpl,hde,hsz',hil,hrm,b1,b2,huw⟩:=hd'
    have hpm:=mem_of_getElem? hp
    have il:i < r.ps.length:=(List.getElem?_eq_some_iff.mp hp).1
    have nm:isNm p=true:=by
     rcases R.ps p hpm with z | z
     ·exact EZ (hR.kd p z)
     ·exact Iu (hR.wd p z)
    have pl:=UD nm
    have etk:r.ps.take (i + 1)=r.ps.take i++[p]:=by rw [take_add_one,hp];rfl
    have tlen:(r.ps.take i).length=kids.length:=by rw [length_take,kl'];omega
    have nxt:∀ (t:Tr) (vs:List Str) (c3:Int),Lf rs [(p,k,t)] (ws++us).length vs->t.pl=true->t.de<=n->t.sz + cw kinds p<=7 * vs.length->1<=vs.length->(vs.length:Int) + us.length + (r.ps.length - i - 1)<=rm->c2<=c3->c3<=c2 + t.sz->(∀ u∈vs,u∈words)->∀ s10 s11 s12:L2.Slot,N [.v (.lst (rs.map Xk)),.v (.str kd),.v (.int ab),.v (.int (rm - ((us++vs).length:Nat))),.st a' (stM μ0 a' b ns c3 (ws++us++vs)),.v (.lst (G.map fun j:Nat => .int j)),.v (.int m),.v (.lst (W.map fun j:Nat => .int j)),.v (.int k),.own (kids.map Tr.d++[t.d]),s10,s11,s12]:=fun t vs c3 a1 a2 a3 a4 a5 a6 a7 a8 a9 s10 s11 s12=>by
     refine hn _ ⟨kids++[t],us++vs,c3,s10,s11,s12,by rw [map_append,append_assoc];rfl,by rw [length_append,kl'];rfl,?_,by rw [Tr.Fy,hpl];simp [Tr.pls,a2],by rw [Tr.Fz];simp [Tr.des];omega,?_,by rw [length_append];omega,by rw [length_append];omega,by omega,?_,fun u hu=>?_⟩
     ·rw [etk,Bc tlen]
      exact hLf.app (by rw [length_append] at a1;exact a1)
     ·have e1:Tr.szs [t]=t.sz:=by simp [Tr.szs]
      have e2:(([p]:List Str).map (cw kinds)).sum=cw kinds p:=by simp
      rw [Tr.Pl,etk,map_append,List.sum_append,length_append,e1,e2]
      omega
     ·rw [Tr.Pl];simp [Tr.szs];omega
     ·rcases mem_append.mp hu with h | h
      ·exact huw u h
      ·exact a9 u h
    walk_at "rd"
    refine ⟨_,Vy hr,?_⟩
    walk_at "rd"
    refine ⟨by omega,?_⟩
    rw [um nm]
    have wl:(ws++us).length<=120:=by rw [length_append];omega
    refine ifB (fun e=>?_) (fun e=>?_)
    ·have hpk:p∈kinds:=by
      rcases R.ps p hpm with z | z
      ·exact z
      ·rw [MR (hR.wd p z)] at e;cases e
     have ip:kinds.idxOf p < kinds.length:=idxOf_lt_length_of_mem hpk
     have cs:=cw_sum kinds (r.ps.take i)
     rw [tlen] at cs
     have ecw:cw kinds p=3 + kinds.idxOf p:=by unfold cw;rw [if_pos hpk]
     have meas:3 * (rm - us.length - 1 + 1 - (r.ps.length - kids.length - 1)) + 3<=(n:Int) + kinds.idxOf p/\c2 + 7 * (rm - us.length - 1 + 1 - (r.ps.length - kids.length - 1))<=100000 + kinds.idxOf p:=by
      by_cases hL:r.ps.length=1
      ·obtain ⟨p',ep⟩:=List.length_eq_one_iff.mp hL
       have:p'=p:=by rw [ep] at hpm;exact (mem_singleton.mp hpm).symm
       subst this
       have:=R.one p' ep hpk
       rw [hd] at this
       omega
      ·omega
     obtain ⟨n',rfl⟩:∃ n',n=n' + 1:=⟨n - 1,by omega⟩
     refine ⟨by omega,⟨_,rfl⟩,sc,kinds,words,rs,ns,μ0,a',b,c2,ws++us,p,k,_,rfl,rfl,hSt,hR,hpk,.inr (by omega),by omega,meas.2,by omega,by omega,by have:=meas.1;omega,by rw [length_append];omega,fun j ts vs c3 a1 a2 a3 a4 a5 a6 a7 a8 a9=>?_⟩
     walk_at "rd"
     rw [show rm - (us.length:Int) - 1 + 1 - (((ws++us++vs).length:Int) - ((ws++us).length:Int))=rm - ((us++vs).length:Nat) by simp only [length_append];omega]
     have:=nxt (.nd j ts) vs c3 a1 (by unfold Tr.pl;exact a2) (by omega) (by omega) a5 (by omega) a7 a8 a9
     rw [Kt] at this
     exact this _ _ _
    ·have hpk:p∉kinds:=fun z=>by rw [hR.kd p z] at e;cases e
     have hpw:p∈words:=(R.ps p hpm).resolve_left hpk
     have:=nxt (.lf (.int ((ws++us).length:Nat))) [p] c2 (.leaf e (.nil _)) rfl (by simp [Tr.de]) (by unfold cw;rw [if_neg hpk];simp [Tr.sz]) (by simp) (by simp;omega) (by omega) (by simp [Tr.sz];omega) (fun u hu=>by rw [mem_singleton.mp hu];exact hpw)
     rw [Hf] at this
     refine ⟨by omega,by omega,?_⟩
     rw [show rm - (us.length:Int) - 1=rm - ((us++[p]).length:Nat) by simp only [length_append,length_cons,length_nil];omega]
     exact this _ _ _
   ·obtain ⟨kids,us,c2,s10,s11,s12,rfl,kl',hLf,hpl,hde,hsz',hil,hrm,b1,b2,huw⟩:=hd'
    rw [take_length] at hLf hsz'
    exact ⟨kids,us,c2,_,s10,s11,s12,rfl,kl',hLf,hpl,hde,hsz',hil,by omega,b1,b2,huw⟩
  rintro _ ⟨kids,us,c2,s3,s10,s11,s12,rfl,kl',hLf,hpl,hde,hsz',hil,hrm,b1,b2,huw⟩
  walk_at "rd"
  refine ⟨by decide,?_⟩
  have szt:(Tr.nd k kids).sz=1 + Tr.szs kids:=by simp [Tr.sz]
  have tot:4 + kinds.idxOf kd<=(r.ps.map (cw kinds)).sum:=by
   by_cases hL:r.ps.length=1
   ·obtain ⟨p',ep⟩:=List.length_eq_one_iff.mp hL
    have e2:(([p']:List Str).map (cw kinds)).sum=cw kinds p':=by simp
    rw [ep,e2]
    unfold cw
    split
    ·rename_i hpk
     have:=R.one p' ep hpk
     rw [hd] at this
     omega
    ·omega
   ·have:=cw_sum kinds r.ps
    omega
  have hf:YY rs kd ab (.nd k kids) = "" := by
   unfold YY
   dsimp only
   rw [if_pos ⟨by omega,by omega⟩,show ((k:Int)).toNat=k by omega,hr]
   dsimp only
   rw [if_neg (fun z=>z hd),if_neg (by rw [hst];decide),if_neg (fun z=>z kl')]
  have:=hq k kids us c2 (.node (hR.kd kd hkd) hf (by rw [show ((k:Int)).toNat=k by omega];exact hr) (by rw [append_nil];exact hLf)) hpl (by rw [Tr.de];omega) (by rw [szt];omega) (by omega) hrm (by omega) (by rw [szt];omega) huw
  rw [Kt] at this
  exact this
noncomputable def plW (sc:Str):Int × Int:=if sc = "chance" then (1,1) else (0,1)
noncomputable def edW (sc:Str) (pn:Bool) (ns:List Int) (p:Int × Int):Int × Int:=if pn=true then plW sc else (wP (atZ ns (13 + 5 * p.1 + p.2)) 6 sc,wQ (atZ ns (13 + 5 * p.1 + p.2)) 6 sc)
noncomputable def edF (sc:Str) (pn:Bool) (ns:List Int) (LS:List (List Str)) (n:Int) (p:Int × Int):Ed:=(p.2,(if p.2 + 1=((LS.getD p.1.toNat []).length:Nat) then n else p.2 + 1),(LS.getD p.1.toNat []).getD p.2.toNat "",edW sc pn ns p)
theorem Aq (sc:Str):atI [D.tup [D.int 0,D.int 1],D.tup [D.int 1,D.int 1]] (if decide (sc=Str.ofString "chance")=true then 1 else 0)=some (wD (plW sc).1 (plW sc).2):=by
 unfold plW
 by_cases h:sc=Str.ofString "chance"
 ·rw [decide_eq_true h,if_pos rfl,if_pos h];rfl
 ·rw [decide_eq_false h,if_neg (by decide),if_neg h];rfl
noncomputable def lsD (ws:List Str):D := .lst (ws.map .str)
noncomputable def Dn (LS:List (List Str)) (i j:Nat) (p:Int × Int):Prop:=∃ (a b:Nat) (ws:List Str),p=((a:Int),(b:Int))/\LS[a]?=some ws/\b < ws.length/\(a < i\/a=i/\b < j)
theorem MT {α β:Type}(f:α->β) (xs:List α) (k:Nat) (y:α):WG (xs.map f) k (f y)=(WG xs k y).map f:=by
 unfold WG
 rw [map_append,map_cons,map_take,List.map_drop]
theorem yr {α:Type}{xs:List α}{k:Nat}{y z:α}:z∈WG xs k y↔z∈xs\/z=y:=by
 unfold WG
 rw [mem_append,mem_cons]
 constructor
 ·rintro (h | h | h)
  ·exact .inl (mem_of_mem_take h)
  ·exact .inr h
  ·exact .inl (List.mem_of_mem_drop h)
 ·rintro (h | h)
  ·rw [<-List.take_append_drop k xs] at h
   rcases mem_append.mp h with h | h
   ·exact .inl h
   ·exact .inr (.inr h)
  ·exact .inr (.inl h)
theorem yt {α:Type}{xs:List α}{k:Nat}{y:α}:(WG xs k y).length=xs.length + 1:=by
 unfold WG
 rw [length_append,length_cons,length_take,length_drop]
 omega
def rd14:String:=rd13 ++ " vI dIns"
local macro_rules | `(tactic| walk_at "rd") => rdM rd14
noncomputable def uo:DSp:=fun xs q _=>∃ (ns:List Int) (sc:Str) (LS:List (List Str)) (pn:Bool),xs=[.scr (ns.map .int),.str sc,.lst (LS.map lsD),.bl pn]/\1<=LS.length/\LS.length<=2/\(∀ ws∈LS,1<=ws.length/\ws.length<=10) /\
 ∀ (n:Nat) (ms:List (Int × Int)),(∀ ws∈LS,ws.length<=n)->1<=n->n<=10->(∀ p,p∈ms↔Dn LS LS.length 0 p)->ms.length<=20->q (.tup [.int n,.lst ((ms.map (edF sc pn ns LS n)).map edD),.lst (ms.map prD)])
theorem yu {A:Adr}(T:Txt K mg A):ZE P w K mg base (CXE P w) 3 A.Qp A.Ic Nw (spD K uo):=by
 have G_l_at:=Th (P:=P) (w:=w) (base:=base) T
 have Ry:=Kf (P:=P) (w:=w) (base:=base) T
 have G_l_mix:=Vq (P:=P) (w:=w) (base:=base) T
 haveI:TxC K A:=⟨⟨_,T⟩⟩
 refine T.NQ.F.okJ YL (fun xs q x h=>?_) (fun cdv Ar outer s H E hr=>⟨_,(Za (Zj (i:=4) YL.nd rfl (Or.inl rfl) (Yc rG (by rfl) T.b_max PyProof.Rows.boot_max (Zc (Yw ["_law_words_here"] [] [] (Yk (jv 2)) (fun _=>(Zk (i:=0) (show @Nodup Str ((["_law_words_here"]:List Str)++([]:List Str)) by decide +kernel) rfl (Or.inl rfl) (Or.inr rfl))) (fun _=>Yu) (fun _=>(Yc ZJ (by rfl) T.b_len PySem.boot_len (Zc (jv 0) Zb)))) Zb)))
   (Za (XZ (i:=5) YL.nd rfl (Or.inl rfl) (We Zb))
   (Za (XZ (i:=6) YL.nd rfl (Or.inl rfl) (We Zb))
   (Za (Xr (Vu PassesOwn.leaving (YJ (by rfl) T.b_range (Zc (Yc ZJ (by rfl) T.b_len PySem.boot_len (Zc (jv 2) Zb)) Zb)) (Zk (i:=7) YL.nd rfl (Or.inl rfl)) (Ze (Xr (Vu PassesOwn.leaving (YJ (by rfl) T.b_range (Zc (Yc ZJ (by rfl) T.b_len PySem.boot_len (Zc (Zi (jv 2) (jv 7)) Zb)) Zb)) (Zk (i:=8) YL.nd rfl (Or.inl rfl)) (Za (Zj (i:=9) YL.nd rfl (Or.inl rfl) (Zg G_l_at T.L_l_at (hr.mono (by decide)) Zh (Zc (jv 0) (Zc (Zm ZP (Zm ZP Zd (Zm Oc Zd (jv 7))) (jv 8)) Zb))))
   (Za (Zj (i:=10) YL.nd rfl (Or.inl rfl) (Zi (WH (Zc (ZL (Zc Zd (Zc Zd Zb))) (Zc (ZL (Zc Zd (Zc Zd Zb))) Zb))) (UW Ca (by rfl) T.b_int PyProof.Rows.boot_int (Zc (WD (Xb hr.YW) (jv 1) ZQ (Zu _)) Zb))))
   (Za (Xr (Zz [] (Yj (ZU (jv 3))) (Ze (Zj (i:=10) YL.nd rfl (Or.inl rfl) (Zg Ry T.WU (hr.mono (by decide)) Zh (Zc (jv 9) (Zc Zd (Zc (jv 1) Zb)))))) Zn))
   (Za (Zj (i:=11) YL.nd rfl (Or.inl rfl) (Zm ZP (jv 8) Zd))
   (Za (Xr (Zz [] (Zv (Xb hr.YW) (jv 11) (Yc ZJ (by rfl) T.b_len PySem.boot_len (Zc (Zi (jv 2) (jv 7)) Zb)) (Zu _)) (Ze (Zj (i:=11) YL.nd rfl (Or.inl rfl) (jv 4))) Zn))
   (Za (BU [5] (i:=12) YL.nd rfl (Or.inl rfl) (Zm Zr (Zg G_l_mix T.L_l_mix (hr.mono (by decide)) Zh (Zc (jv 9) (Zc Zd Zb))) (Zm ZP (Yc ZJ (by rfl) T.b_len PySem.boot_len (Zc (jv 5) Zb)) Zd)))
   (Za (vF [] 5 (Zc (jv 12) (Zc (ZL (Zc (jv 8) (Zc (jv 11) (Zc (Zi (Zi (jv 2) (jv 7)) (jv 8)) (Zc (jv 10) Zb))))) Zb)))
   (Ze (vF [] 6 (Zc (jv 12) (Zc (ZL (Zc (jv 7) (Zc (jv 8) Zb))) Zb))))))))))))))))
   (Ze (Zt [5,6] (ZL (Zc (jv 4) (Zc (jv 5) (Zc (jv 6) Zb)))))))))),fun xs q x h=>?_⟩)
 ·obtain ⟨ns,sc,LS,pn,rfl,_⟩:=h
  rfl
 ·obtain ⟨ns,sc,LS,pn,rfl,hl1,hl2,hw,hq⟩:=h
  have hsz:aA=16777216:=rfl
  walk_at "rd"
  refine YB (fun ws => .int (ws.length:Nat)) (by omega) (fun ws hm N hN=>?_) ?_
  ·unfold lsD
   walk_at "rd"
   exact hN
  have em:(LS.map fun ws=>D.int (ws.length:Nat))=(LS.map fun ws=>((ws.length:Nat):Int)).map D.int:=by rw [map_map];rfl
  rw [em]
  refine ⟨_,ints_map _,by rw [length_map];omega,fun M hM hmax=>?_⟩
  obtain ⟨w0,hw0,rfl⟩:=mem_map.mp hM
  have hn:∀ ws∈LS,ws.length<=w0.length:=fun ws hm=>by have:=hmax _ (mem_map.mpr ⟨ws,hm,rfl⟩);omega
  have hw00:=hw w0 hw0
  generalize w0.length=n at hn hw00
  clear hmax hM em
  refine ⟨by decide,by decide,fun ds'=>∃ (ms:List (Int × Int)) (s7 s8 s9 s10 s11 s12:L2.Slot),ds'=[.v (.scr (ns.map .int)),.v (.str sc),.v (.lst (LS.map lsD)),.v (.bl pn),.v (.int n),.own ((ms.map (edF sc pn ns LS n)).map edD),.own (ms.map prD),s7,s8,s9,s10,s11,s12]/\(∀ p,p∈ms↔Dn LS LS.length 0 p)/\ms.length<=10 * LS.length,⟨[],?_⟩,?_⟩
  ·walk_at "rd"
   refine ⟨by omega,by omega,WK (fun i ds'=>∃ (ms:List (Int × Int)) (s7 s8 s9 s10 s11 s12:L2.Slot),ds'=[.v (.scr (ns.map .int)),.v (.str sc),.v (.lst (LS.map lsD)),.v (.bl pn),.v (.int n),.own ((ms.map (edF sc pn ns LS n)).map edD),.own (ms.map prD),s7,s8,s9,s10,s11,s12]/\(∀ p,p∈ms↔Dn LS i 0 p)/\ms.length<=10 * i) ⟨[],_,_,_,_,_,_,rfl,fun p=>⟨fun z=>(by cases z),fun ⟨a,b,ws,_,_,_,z⟩=>(by omega)⟩,by simp⟩ (fun i ds N hi hd hn'=>?_) (fun ds hd=>?_)⟩
   ·obtain ⟨ms0,s7,s8,s9,s10,s11,s12,rfl,hms0,hml0⟩:=hd
    obtain ⟨ws,hws⟩:∃ ws,LS[i]?=some ws:=⟨_,aC hi⟩
    have ewi:atI (LS.map lsD) (i:Int)=some (lsD ws):=Yv (by rw [getElem?_map,hws];rfl)
    have hwl:=hw ws (mem_of_getElem? hws)
    have egd:LS.getD i []=ws:=by rw [getD_eq_getElem?_getD,hws];rfl
    walk_at "rd"
    rw [Int.zero_add]
    refine ⟨fun ds'=>∃ (ms:List (Int × Int)) (s8 s9 s10 s11 s12:L2.Slot),ds'=[.v (.scr (ns.map .int)),.v (.str sc),.v (.lst (LS.map lsD)),.v (.bl pn),.v (.int n),.own ((ms.map (edF sc pn ns LS n)).map edD),.own (ms.map prD),.v (.int i),s8,s9,s10,s11,s12]/\(∀ p,p∈ms↔Dn LS i ws.length p)/\ms.length<=10 * i + ws.length,⟨[],?_⟩,?_⟩
    ·walk_at "rd"
     refine ⟨_,ewi,?_⟩
     unfold lsD
     walk_at "rd"
     refine ⟨by omega,by omega,WK (fun j ds'=>∃ (ms:List (Int × Int)) (s8 s9 s10 s11 s12:L2.Slot),ds'=[.v (.scr (ns.map .int)),.v (.str sc),.v (.lst (LS.map lsD)),.v (.bl pn),.v (.int n),.own ((ms.map (edF sc pn ns LS n)).map edD),.own (ms.map prD),.v (.int i),s8,s9,s10,s11,s12]/\(∀ p,p∈ms↔Dn LS i j p)/\ms.length<=10 * i + j) ⟨ms0,_,_,_,_,_,rfl,hms0,by omega⟩ (fun j ds N hj hd hn2=>?_) (fun ds hd=>?_)⟩
     ·obtain ⟨ms,s8,s9,s10,s11,s12,rfl,hms,hml⟩:=hd
      obtain ⟨w,hwj⟩:∃ w,ws[j]?=some w:=⟨_,aC hj⟩
      walk_at "rd"
      rw [Int.zero_add]
      refine ⟨.l (by decide) (by decide),by omega,by decide,by decide,by decide,_,Aq sc,fun ds'=>ds'=[.v (.scr (ns.map .int)),.v (.str sc),.v (.lst (LS.map lsD)),.v (.bl pn),.v (.int n),.own ((ms.map (edF sc pn ns LS n)).map edD),.own (ms.map prD),.v (.int i),.v (.int j),.v (.int (atZ ns (13 + 5 * (i:Int) + (j:Int)))),.v (wD (edW sc pn ns ((i:Int),(j:Int))).1 (edW sc pn ns ((i:Int),(j:Int))).2),s11,s12],?_,?_⟩
      ·walk_at "rd"
       unfold edW
       refine Pt (fun e=>?_) (fun e=>?_)
       ·rw [e,if_neg (by decide)]
        walk_at "rd"
        exact ⟨by decide,by decide⟩
       ·rw [e,if_pos rfl]
      rintro _ rfl
      walk_at "rd"
      refine ⟨fun ds'=>ds'=[.v (.scr (ns.map .int)),.v (.str sc),.v (.lst (LS.map lsD)),.v (.bl pn),.v (.int n),.own ((ms.map (edF sc pn ns LS n)).map edD),.own (ms.map prD),.v (.int i),.v (.int j),.v (.int (atZ ns (13 + 5 * (i:Int) + (j:Int)))),.v (wD (edW sc pn ns ((i:Int),(j:Int))).1 (edW sc pn ns ((i:Int),(j:Int))).2),.v (.int (if (j:Int) + 1=(ws.length:Nat) then (n:Int) else (j:Int) + 1)),s12],?_,?_⟩
      ·walk_at "rd"
       refine ⟨_,ewi,?_⟩
       unfold lsD
       walk_at "rd"
       refine XR (fun e=>?_) (fun e=>?_)
       ·rw [if_pos e]
       ·rw [if_neg e]
      rintro _ rfl
      walk_at "rd"
      rw [Xw (show (0:Int) < (ms.length:Int) + 1 by omega)]
      have p0:0<=mix (atZ ns (13 + 5 * (i:Int) + (j:Int))) 3 % ((ms.length:Int) + 1):=Int.emod_nonneg _ (by omega)
      have p1:mix (atZ ns (13 + 5 * (i:Int) + (j:Int))) 3 % ((ms.length:Int) + 1) < (ms.length:Int) + 1:=Int.emod_lt_of_pos _ (by omega)
      generalize mix (atZ ns (13 + 5 * (i:Int) + (j:Int))) 3 % ((ms.length:Int) + 1)=sp at p0 p1
      refine ⟨by decide,by decide,by omega,_,ewi,?_⟩
      unfold lsD
      walk_at "rd"
      refine ⟨_,Yv (by rw [getElem?_map,hwj];rfl),?_⟩
      walk_at "rd"
      refine ⟨by decide,by rfl,by omega,p0,by omega,by decide,by omega,p0,by omega,?_⟩
      have ee:D.tup [.int j,.int (if (j:Int) + 1=(ws.length:Nat) then (n:Int) else (j:Int) + 1),.str w,wD (edW sc pn ns ((i:Int),(j:Int))).1 (edW sc pn ns ((i:Int),(j:Int))).2]=edD (edF sc pn ns LS n ((i:Int),(j:Int))):=by
       unfold edD edF
       simp only [Int.toNat_natCast,egd]
       rw [getD_eq_getElem?_getD,hwj]
       rfl
      have ep:D.tup [.int i,.int j]=prD ((i:Int),(j:Int)):=rfl
      rw [ee,ep,MT,MT,MT]
      refine hn2 _ ⟨WG ms sp.toNat ((i:Int),(j:Int)),_,_,_,_,_,rfl,fun p=>?_,by rw [yt];omega⟩
      rw [yr,hms]
      constructor
      ·rintro (⟨a,b,ws',e,h1,h2,h3⟩ | e)
       ·exact ⟨a,b,ws',e,h1,h2,by omega⟩
       ·exact ⟨i,j,ws,e,hws,hj,.inr ⟨rfl,by omega⟩⟩
      ·rintro ⟨a,b,ws',e,h1,h2,h3⟩
       by_cases z:a=i/\b=j
       ·right;rw [e,z.1,z.2]
       ·exact .inl ⟨a,b,ws',e,h1,h2,by omega⟩
     ·obtain ⟨ms,s8,s9,s10,s11,s12,rfl,hms,hml⟩:=hd
      exact ⟨ms,s8,s9,s10,s11,s12,rfl,hms,hml⟩
    rintro _ ⟨ms,s8,s9,s10,s11,s12,rfl,hms,hml⟩
    refine hn' _ ⟨ms,_,s8,s9,s10,s11,s12,rfl,fun p=>?_,by omega⟩
    rw [hms]
    constructor
    ·rintro ⟨a,b,ws',e,h1,h2,h3⟩
     exact ⟨a,b,ws',e,h1,h2,.inl (by omega)⟩
    ·rintro ⟨a,b,ws',e,h1,h2,h3⟩
     refine ⟨a,b,ws',e,h1,h2,?_⟩
     by_cases z:a < i
     ·exact .inl z
     ·have z:a=i:=by omega
      subst z
      rw [hws] at h1
      cases h1
      exact .inr ⟨rfl,h2⟩
   ·obtain ⟨ms,s7,s8,s9,s10,s11,s12,rfl,hms,hml⟩:=hd
    exact ⟨ms,s7,s8,s9,s10,s11,s12,rfl,hms,hml⟩
  rintro _ ⟨ms,s7,s8,s9,s10,s11,s12,rfl,hms,hml⟩
  walk_at "rd"
  exact ⟨by decide,hq n ms hn (by omega) (by omega) hms (by omega)⟩
theorem uq (sc:Str):Low (plW sc).1 (plW sc).2/\Bd 64 (plW sc).1/\Bd 64 (plW sc).2/\(sc = "chance" -> 0 < (plW sc).1):=by
 unfold plW
 by_cases h:sc = "chance"
 ·rw [if_pos h]
  exact ⟨⟨by decide,by decide⟩,by unfold Bd;decide,by unfold Bd;decide,fun _=>by decide⟩
 ·rw [if_neg h]
  exact ⟨⟨by decide,by decide⟩,by unfold Bd;decide,by unfold Bd;decide,fun z=>absurd z h⟩
noncomputable def plR (sc:Str) (r:Ru):Ru:={ r with wa:=(plW sc).1,wb:=(plW sc).2 }
theorem VE.plain {sc:Str}{kinds words:List Str}{rs:List Ru}(h:VE sc kinds words rs):VE sc kinds words (rs.map (plR sc)):=by
 obtain ⟨a1,a2,a3,a4⟩:=uq sc
 have et:(rs.map (plR sc)).map (·.ti)=rs.map (·.ti):=by rw [map_map];rfl
 refine ⟨h.k,h.k1,h.k3,h.w,by rw [length_map];exact h.nk,by rw [length_map];exact h.len,?_,fun r hr=>?_,fun k hk=>?_⟩
 ·rw [et,length_map];exact h.ti
 ·obtain ⟨r,hr',rfl⟩:=mem_map.mp hr
  have R:=h.row r hr'
  rw [et]
  exact ⟨R.hd,R.p1,R.p4,R.ps,R.one,a1,a2,a3,a4,R.tg,R.un⟩
 ·obtain ⟨r,h1,h2,h3,h4⟩:=h.base k hk
  exact ⟨plR sc r,by rw [getElem?_map,h1];rfl,h2,h3,h4⟩
theorem qg {μ:Mu}{a b:Addr}{ns:List Int}{c:Int}{m:MO}(ha:μ.lookup a=some m) (hb:μ.lookup b=none):let ν:Mu:=(b,.lst [])::μ.put a (.lst [.scr (ns.map .int),.int c,.rf b]);ν=stM ν a b ns c []/\StB ν a b:=by
 have ne:b≠a:=fun z=>by rw [z,ha] at hb;cases hb
 have nb:∀ x∈μ.put a (.lst [.scr (ns.map .int),.int c,.rf b]),x.1≠b:=by
  intro x hx
  unfold Mu.put at hx
  obtain ⟨y,hy,rfl⟩:=mem_map.mp hx
  have:y.1≠b:=fun z=>by
   obtain ⟨k,v⟩:=y
   have z:k=b:=z
   subst z
   have:=List.lookup_eq_none_iff.mp hb _ hy
   simp at this
  split
  ·exact this
  ·exact this
 refine ⟨?_,Ne.symm ne,⟨.lst [.scr (ns.map .int),.int c,.rf b],?_⟩,⟨.lst [],by simp [List.lookup]⟩⟩
 ·have e1:Mu.put ((b,.lst [])::μ.put a (.lst [.scr (ns.map .int),.int c,.rf b])) a (.lst [.scr (ns.map .int),.int c,.rf b])=(b,.lst [])::μ.put a (.lst [.scr (ns.map .int),.int c,.rf b]):=by
   show List.map _ _=_
   rw [map_cons,if_neg ne]
   congr 1
   unfold Mu.put
   rw [map_map]
   refine map_congr_left fun x _=>?_
   simp only [Function.comp]
   by_cases e:x.1=a <;> simp [e]
  unfold stM
  rw [e1]
  show _=List.map _ _
  rw [map_cons,if_pos rfl]
  congr 1
  conv=>lhs;rw [<-List.map_id (μ.put a _)]
  refine map_congr_left fun x hx=>?_
  rw [if_neg (nb x hx)]
  rfl
 ·rw [lookup_cons,show (a == b)=false by simpa using Ne.symm ne]
  dsimp only
  rw [Mu.Xx ha,if_pos rfl]
theorem ur {a:Addr}{m:MO}{μ:Mu}:List.lookup a ((a,m)::μ:Mu)=some m:=by simp [List.lookup]
structure EdOk (sc:Str) (words:List Str) (n:Nat) (e:Ed):Prop where
 a0:0<=e.1
 ab:e.1 < e.2.1
 bn:e.2.1<=n
 w:e.2.2.1∈words
 low:Low e.2.2.2.1 e.2.2.2.2
 ba:Bd 64 e.2.2.2.1
 bb:Bd 64 e.2.2.2.2
 pos:sc = "chance" -> 0 < e.2.2.2.1
structure TrOk (rs:List Ru) (es:List Ed) (n:Nat) (t:Tr):Prop where
 nd:t.isNd=true
 pl:t.pl=true
 sz:t.sz<=67
 de:t.de<=40
 run:∃ r0,rs[0]?=some r0/\Run rs es [(r0.hd,-1,t)] 0 n
theorem Tr.nX {ts:List Tr}{i:Int}(h:i∈Tr.lvs ts):∃ t∈ts,i∈t.lv:=by
 induction ts with
 | nil=>rw [Tr.lvs] at h;cases h
 | cons t ts ih =>
  rw [Tr.lvs] at h
  rcases mem_append.mp h with h | h
  ·exact ⟨t,mem_cons_self ..,h⟩
  ·obtain ⟨u,hu,h'⟩:=ih h
   exact ⟨u,mem_cons_of_mem _ hu,h'⟩
theorem Dh {ps:List Str}{k:Int}{ts:List Tr}(hl:ts.length=ps.length) {t:Tr}(h:t∈ts):∃ p,(p,k,t)∈YF ps k ts:=by
 obtain ⟨i,hi,e⟩:=List.getElem_of_mem h
 refine ⟨ps[i]'(by omega),mem_map.mpr ⟨(ps[i]'(by omega),t),?_,rfl⟩⟩
 have:(ps.zip ts)[i]'(by rw [length_zip];omega)=(ps[i]'(by omega),t):=by rw [List.getElem_zip,e]
 rw [<-this]
 exact getElem_mem _
theorem Lf.lv {rs:List Ru}{sk:List (Str × Int × Tr)}{c:Nat}{us:List Str}(h:Lf rs sk c us):∀ u∈sk,∀ i∈u.2.2.lv,∃ m:Nat,i=m/\c<=m/\m < c + us.length:=by
 induction h with
 | nil c=>intro u hu;cases hu
 | @leaf w ab c rest us hk _ ih =>
  intro u hu i hi
  rw [length_cons]
  rcases mem_cons.mp hu with rfl | hu
  ·simp [Tr.lv] at hi
   exact ⟨c,hi,Nat.le_refl _,by omega⟩
  ·obtain ⟨m,h1,h2,h3⟩:=ih u hu i hi
   exact ⟨m,h1,by omega,by omega⟩
 | @node k ab j ts r rest c us hk hf hr _ ih =>
  intro u hu i hi
  rcases mem_cons.mp hu with rfl | hu
  ·have hi:i∈Tr.lvs ts:=by simpa [Tr.lv] using hi
   obtain ⟨t,ht,hi⟩:=Tr.nX hi
   obtain ⟨_,_,r',hr',_,_,hl⟩:=Ir hf
   rw [hr] at hr'
   cases hr'
   obtain ⟨p,hp⟩:=Dh (k:=j) hl ht
   exact ih _ (mem_append_left _ hp) i hi
  ·exact ih u (mem_append_right _ hu) i hi
mutual
theorem Tr.Av (f:Int->Int):∀ t:Tr,(t.mp f).sz=t.sz/\(t.mp f).de=t.de/\(t.mp f).pl=t.pl
 | .lf d=>by cases d <;> simp [Tr.mp,Tr.sz,Tr.de,Tr.pl]
 | .nd k ts=>by
  obtain ⟨h1,h2,h3⟩:=Tr.Di f ts
  simp only [Tr.mp,Tr.sz,Tr.de,Tr.pl,h1,h2,h3]
  exact ⟨trivial,trivial,trivial⟩
theorem Tr.Di (f:Int->Int):∀ ts:List Tr,Tr.szs (Tr.mps f ts)=Tr.szs ts/\Tr.des (Tr.mps f ts)=Tr.des ts/\Tr.pls (Tr.mps f ts)=Tr.pls ts
 | []=>by simp [Tr.mps]
 | t::ts=>by
  obtain ⟨h1,h2,h3⟩:=Tr.Av f t
  obtain ⟨g1,g2,g3⟩:=Tr.Di f ts
  simp only [Tr.mps,Tr.szs,Tr.des,Tr.pls,h1,h2,h3,g1,g2,g3]
  exact ⟨trivial,trivial,trivial⟩
end
mutual
theorem Tr.imm:∀ t:Tr,t.pl=true->t.d.imm=true
 | .lf d,h=>by
  obtain ⟨i,rfl⟩:=Tr.NV h
  rfl
 | .nd k ts,h=>by
  have:=Tr.Pm ts (by unfold Tr.pl at h;exact h)
  unfold Tr.d
  simp only [D.imm,D.Pm,this,Bool.true_and,Bool.and_true]
theorem Tr.Pm:∀ ts:List Tr,Tr.pls ts=true->D.Pm (Tr.ds ts)=true
 | [],_=>rfl
 | t::ts,h=>by
  unfold Tr.pls at h
  rw [aF] at h
  unfold Tr.ds
  rw [D.Pm,Tr.imm t h.1,Tr.Pm ts h.2]
  rfl
end
structure TL (rs:List Ru) (words:List Str) (hd:Str) (t:Tr) (us:List Str):Prop where
 nd:t.isNd=true
 pl:t.pl=true
 sz:t.sz<=67
 de:t.de<=40
 l1:1<=us.length
 l2:us.length<=10
 w:∀ u∈us,u∈words
 lf:Lf rs [(hd,-1,t)] 0 us
def rd15:String:=rd14 ++ " qW qX qY"
local macro_rules | `(tactic| walk_at "rd") => rdM rd15
noncomputable def Dj:DSp:=fun xs q _=>∃ (ns rms:List Int),xs=[.scr (ns.map .int),.lst (rms.map .int)]/\rms.length=2/\(∀ r∈rms,1<=r/\r<=10) /\
 ∀ (sc:Str) (kinds words:List Str) (rs:List Ru) (n:Nat) (es:List Ed) (ts:List Tr),sc = "cost" \/ sc = "chance" -> VE sc kinds words rs->1<=n->n<=10->1<=es.length/\es.length<=20->(∀ e∈es,EdOk sc words n e)->ts.length=2->(∀ t∈ts,TrOk rs es n t) ->
  q (.tup [.str sc,.lst (rs.map Xk),.int n,.lst (es.map edD),.lst (ts.map Tr.d)])
theorem FC {A:Adr}(T:Txt K mg A):ZE P w K mg base (CXE P w) 43 A.Vn A.Qq Ta (spD K Dj):=by
 have yw:=CU (P:=P) (w:=w) (base:=base) T
 have G_l_mix:=Vq (P:=P) (w:=w) (base:=base) T
 have uv:=yu (P:=P) (w:=w) (base:=base) T
 have G_l_at:=Th (P:=P) (w:=w) (base:=base) T
 have G_l_set:=uh (P:=P) (w:=w) (base:=base) T 40
 have MS:=Be (P:=P) (w:=w) (base:=base) T 40
 haveI:TxC K A:=⟨⟨_,T⟩⟩
 refine T.Tf.F.okJ ZR (fun xs q x h=>?_) (fun cdv Ar outer s H E hr=>⟨_,(Za (Zj (i:=2) ZR.nd rfl (Or.inl rfl) (Zi (WH (Zc ZQ (Zc ZQ Zb))) (Zm Zr (Zg G_l_at T.L_l_at (hr.mono (by decide)) Zh (Zc (jv 0) (Zc Zd Zb))) Zd)))
   (Za (Zj (i:=3) ZR.nd rfl (Or.inl rfl) (Zg yw T.Ph (hr.mono (by decide)) Zh (Zc (jv 0) (Zc (jv 2) Zb))))
   (Za (Zj (i:=4) ZR.nd rfl (Or.inl rfl) (Zg G_l_mix T.L_l_mix (hr.mono (by decide)) Zh (Zc (Zg G_l_at T.L_l_at (hr.mono (by decide)) Zh (Zc (jv 0) (Zc Zd Zb))) (Zc Zd Zb))))
   (Za (Xr (Zz [] (Zv (Xb hr.YW) (Zm Zr (jv 4) Zd) Zd (Zu _)) (Za (Zj (i:=5) ZR.nd rfl (Or.inr rfl) (Zi (WH (Zc (ZL (Zc Zd (Zc Zd Zb))) (Zc (ZL (Zc Zd (Zc Zd Zb))) Zb))) (UW Ca (by rfl) T.b_int PyProof.Rows.boot_int (Zc (WD (Xb hr.YW) (jv 2) ZQ (Zu _)) Zb))))
   (Ze (UX (i:=3) ["_law_row"] ["_law_alike"] [5] ZR.nd rfl (Or.inl rfl) (Yk (jv 3)) (fun _=>(Zk (i:=0) (show @Nodup Str ((["_law_row"]:List Str)++(["_law_alike"]:List Str)) by decide +kernel) rfl (Or.inl rfl) (Or.inr rfl))) (fun _=>Yu) (fun _=>(ZL (Zc (Zi (jv 0) Zd) (Zc (Zi (jv 0) Zd) (Zc (Zi (jv 0) Zd) (Zc (jv 1) (Zc (Zi (jv 0) Zd) (Zc (Zi (jv 0) Zd) Zb))))))))))) Zn))
   (Za (XZ (i:=6) ZR.nd rfl (Or.inl rfl) (We Zb))
   (Za (XZ (i:=7) ZR.nd rfl (Or.inr rfl) (We Zb))
   (Za (rD (i:=8) ZR.nd rfl (Or.inl rfl) (jn_c (jv 0) (jn_c Zd (rB (We Zb)))))
   (Za (Xr (Vu PassesOwn.leaving (Yk (jv 1)) (Zk (i:=9) ZR.nd rfl (Or.inl rfl)) (Za (rE 8 (jvS 8) Zd (We Zb))
   (Za (Ah 7 4 8 (by decide) MS (hr.mono (by decide)) (by rfl) T.XJ.m T.XJ.F.kp T.XJ.a Zh (Zc (jv 3) (Zc (Zi (Zi (jv 3) Zd) Zd) (Zc (Tj Zd) (Zc (jv 9) (Zc (jvS 8) Zb))))))
   (Ze (rF 8 6 (by decide) (Ul 8 (jvS 8) Zd)))))))
   (Za (tL [6] (Zg uv T.NQ (hr.mono (by decide)) Zh (Zc (jv 0) (Zc (jv 2) (Zc (jv 6) (Zc (WD (Xb hr.YW) (Zm Zr (Zm ZS (jv 4) Zd) Zd) Zd (Zu _)) Zb))))) (SR (n:=3) (ZM (Zk (i:=10) ZR.nd rfl (Or.inl rfl)) (ZM (Zk (i:=11) ZR.nd rfl (Or.inl rfl)) (ZM (Zk (i:=12) ZR.nd rfl (Or.inr rfl)) VH)))))
   (Za (wg (i:=7) [7] ZR.nd rfl (Or.inr rfl) (BQ ["_law_k"] ["_law_marks", "_law_trees"] [12,7] (YJ (by rfl) T.b_range (Zc (Yc ZJ (by rfl) T.b_len PySem.boot_len (Zc (jv 7) Zb)) Zb)) (fun _=>(Zk (i:=0) (show @Nodup Str ((["_law_k"]:List Str)++(["_law_marks", "_law_trees"]:List Str)) by decide +kernel) rfl (Or.inl rfl) (Or.inr rfl))) (fun _=>Yu) (fun _=>(Zg G_l_set T.L_l_set (hr.mono (by decide)) Vc (Zc (Zi (jv 2) (jv 0)) (Zc (jv 1) (Zc (jv 0) Zb)))))))
   (Ze (Zt [7] (ZL (Zc (jv 2) (Zc (jv 3) (Zc (jv 10) (Zc (jv 11) (Zc (jv 7) Zb)))))))))))))))))),fun xs q x h=>?_⟩)
 ·obtain ⟨ns,rms,rfl,_⟩:=h
  rfl
 ·obtain ⟨ns,rms,rfl,hrl,hrm,hq⟩:=h
  have hsz:aA=16777216:=rfl
  walk_at "rd"
  have nb:=mod_lt (n:=2) (atZ ns 0) (by decide)
  obtain ⟨sc,hsc,esc⟩:=XS D.str ["cost", "chance"] (i:=atZ ns 0 % 2) nb.1 nb.2
  have hsc:sc = "cost" \/ sc = "chance" := by simpa using hsc
  refine ⟨by decide,by decide,by decide,_,esc,ns,sc,rfl,fun kinds words rs0 hR0=>⟨by decide,by decide,by decide,?_⟩⟩
  generalize mix (atZ ns 21) 21=m
  refine ⟨fun ds'=>∃ (rs:List Ru) (s5:L2.Slot),ds'=[.v (.scr (ns.map .int)),.v (.lst (rms.map .int)),.v (.str sc),.v (.lst (rs.map Xk)),.v (.int m),s5,.un,.un,.un,.un,.un,.un,.un]/\VE sc kinds words rs,?_,?_⟩
  ·walk_at "rd"
   refine ⟨by decide,XR (fun e=>⟨by decide,by decide,by decide,_,Aq sc,?_⟩) (fun e=>⟨rs0,rfl,hR0⟩)⟩
   refine YB (fun r=>Xk (plR sc r)) (by have:=hR0.len;omega) (fun r hr N hN=>?_) ?_
   ·walk_at "rd"
    exact ⟨by decide,hN⟩
   ·rw [show (rs0.map fun r=>Xk (plR sc r))=(rs0.map (plR sc)).map Xk by rw [map_map];rfl]
    exact ⟨_,rfl,hR0.plain⟩
  rintro _ ⟨rs,s5,rfl,hR⟩
  walk_at "rd"
  obtain ⟨r0,hr0⟩:∃ r0,rs[0]?=some r0:=⟨_,aC (by have:=hR.nk;have:=hR.k1;omega)⟩
  have R0:=hR.row r0 (mem_of_getElem? hr0)
  refine ⟨by decide,by decide,by decide,by decide,fun a b hab=>⟨fun ds'=>∃ (μ:Mu) (ts:List Tr) (LS:List (List Str)) (s9:L2.Slot),ds'=[.v (.scr (ns.map .int)),.v (.lst (rms.map .int)),.v (.str sc),.v (.lst (rs.map Xk)),.v (.int m),s5,.own (LS.map lsD),.own (ts.map Tr.d),.st a μ,s9,.un,.un,.un]/\ts.length=2/\LS.length=2/\∀ (j:Nat) t,ts[j]?=some t->∃ us,LS[j]?=some us/\TL rs words r0.hd t us,⟨[],?_⟩,?_⟩⟩
  ·walk_at "rd"
   refine Uj (fun i ds'=>∃ (μ:Mu) (c:Int) (X:D) (ts:List Tr) (LS:List (List Str)) (s9:L2.Slot),ds'=[.v (.scr (ns.map .int)),.v (.lst (rms.map .int)),.v (.str sc),.v (.lst (rs.map Xk)),.v (.int m),s5,.own (LS.map lsD),.own (ts.map Tr.d),.st a μ,s9,.un,.un,.un]/\μ.lookup a=some (.lst [.scr (ns.map .int),.int c,X])/\0<=c/\c<=22 + 100 * i/\ts.length=i/\LS.length=i/\∀ (j:Nat) t,ts[j]?=some t->∃ us,LS[j]?=some us/\TL rs words r0.hd t us) ⟨_,22,.rf b,[],[],_,rfl,ur,by decide,by simp,rfl,rfl,fun j t z=>by cases z⟩ (fun i rm ds N hrm' hd hn=>?_) (fun ds hd=>?_)
   ·obtain ⟨μ,c,X,ts,LS,s9,rfl,hμ,c0,c1,tl,ll,hT⟩:=hd
    have hrmb:=hrm rm (mem_of_getElem? hrm')
    have il:i < rms.length:=(List.getElem?_eq_some_iff.mp hrm').1
    walk_at "rd"
    refine ⟨by decide,_,hμ,2,rfl,fun b' hb'=>⟨by omega,_,Vy hr0,?_⟩⟩
    walk_at "rd"
    obtain ⟨eS,hS⟩:=qg (ns:=ns) (c:=c) hμ hb'
    refine ⟨⟨_,rfl⟩,sc,kinds,words,rs,ns,_,a,b',c,[],r0.hd,-1,rm,rfl,eS,hS,hR,R0.hd,.inl rfl,c0,by omega,hrmb.1,hrmb.2,(by have:((39:Nat):Int)=39:=rfl;show 3 * rm + 3<=((39:Nat):Int) + 1 + _;omega),by simp;omega,fun j kids us c' a1 a2 a3 a4 a5 a6 a7 a8 a9=>?_⟩
    haveI:=hS
    walk_at "rd"
    refine ⟨by omega,hn _ ⟨_,c',.rf b',ts++[.nd j kids],LS++[us],_,by rw [map_append,map_append,<-Kt];rfl,by rw [Mu.Od,if_neg hS.ne,zs_a],by omega,by omega,by rw [length_append,tl];rfl,by rw [length_append,ll];rfl,fun i' t ht=>?_⟩⟩
    by_cases e:i' < ts.length
    ·rw [getElem?_append_left e] at ht
     rw [getElem?_append_left (by omega)]
     exact hT i' t ht
    ·rw [getElem?_append_right (by omega)] at ht
     rw [getElem?_append_right (by omega),ll,<-tl]
     cases e':i' - ts.length with
     | zero =>
      rw [e'] at ht
      cases ht
      exact ⟨us,rfl,rfl,by unfold Tr.pl;exact a2,by omega,by omega,a5,by omega,a9,a1⟩
     | succ z=>rw [e'] at ht;cases ht
   ·obtain ⟨μ,c,X,ts,LS,s9,rfl,hμ,c0,c1,tl,ll,hT⟩:=hd
    exact ⟨μ,ts,LS,s9,rfl,by omega,by omega,hT⟩
  rintro _ ⟨μ,ts,LS,s9,rfl,tl,ll,hT⟩
  walk_at "rd"
  have hLS:∀ (j:Nat) us,LS[j]?=some us->∃ t,ts[j]?=some t/\TL rs words r0.hd t us:=fun j us hu=>by
   have jl:j < LS.length:=(List.getElem?_eq_some_iff.mp hu).1
   obtain ⟨t,ht⟩:∃ t,ts[j]?=some t:=⟨_,aC (by omega)⟩
   obtain ⟨us',h1,h2⟩:=hT j t ht
   rw [hu] at h1
   cases h1
   exact ⟨t,ht,h2⟩
  refine ⟨by decide,YZ (by decide) (by decide),by decide,ns,sc,LS,_,rfl,by omega,by omega,fun ws hws=>?_,fun n ms hn n1 n10 hms hml=>?_⟩
  ·obtain ⟨j,hj⟩:=List.getElem?_of_mem hws
   obtain ⟨t,_,h⟩:=hLS j ws hj
   exact ⟨h.l1,h.l2⟩
  walk_at "rd"
  rw [show ((ts.length:Int)).toNat=ts.length by omega]
  have hset:∀ k,k < ts.length->∃ j kids,ts.getD k (.nd 0 []) = .nd j kids/\ts[k]?=some (.nd j kids)/\∃ us,LS[k]?=some us/\TL rs words r0.hd (.nd j kids) us/\∀ i∈Tr.lvs kids,((k:Int),i)∈ms:=fun k hk=>by
   obtain ⟨t,ht⟩:∃ t,ts[k]?=some t:=⟨_,aC hk⟩
   obtain ⟨us,hus,h⟩:=hT k t ht
   have eg:ts.getD k (.nd 0 [])=t:=by rw [getD_eq_getElem?_getD,ht];rfl
   cases t with
   | lf d=>cases h.nd
   | nd j kids =>
    refine ⟨j,kids,eg,ht,us,hus,h,fun i hi=>?_⟩
    obtain ⟨m,rfl,_,h3⟩:=h.lf.lv _ (mem_singleton.mpr rfl) i (by simpa [Tr.lv] using hi)
    exact (hms _).mpr ⟨k,m,us,rfl,hus,by omega,.inl (by have:=(List.getElem?_eq_some_iff.mp hus).1;omega)⟩
  refine ⟨by omega,by omega,Qv (fun k=>((ts.getD k (.nd 0 [])).mp (mkI ms k)).d) (by omega) (fun k hk N hN=>?_) ?_⟩
  ·obtain ⟨j,kids,eg,ht,us,hus,h,hlv⟩:=hset k hk
   rw [eg] at hN
   walk_at "rd"
   refine ⟨_,Yv (by rw [getElem?_map,ht];rfl),?_⟩
   have s1:=h.sz
   rw [Tr.sz] at s1
   exact ⟨j,kids,ms,k,rfl,by have:=h.pl;unfold Tr.pl at this;exact this,h.de,by omega,hlv,by rw [Tr.mp] at hN;exact hN⟩
  rw [show ((List.range ts.length).map fun k=>((ts.getD k (.nd 0 [])).mp (mkI ms k)).d)=((List.range ts.length).map fun k:Nat=>(ts.getD k (.nd 0 [])).mp (mkI ms k)).map Tr.d by rw [map_map];rfl]
  have hU:∀ u∈(List.range ts.length).map fun k:Nat=>(ts.getD k (.nd 0 [])).mp (mkI ms k),TrOk rs (ms.map (edF sc (decide (m / 3 % 2=0)) ns LS n)) n u:=fun u hu=>by
   obtain ⟨k,hk,rfl⟩:=mem_map.mp hu
   obtain ⟨j,kids,eg,ht,us,hus,h,hlv⟩:=hset k (mem_range.mp hk)
   rw [eg]
   obtain ⟨h1,h2,h3⟩:=Tr.Av (mkI ms k) (.nd j kids)
   refine ⟨by rw [Tr.mp];rfl,by rw [h3];exact h.pl,by rw [h1];exact h.sz,by rw [h2];exact h.de,r0,hr0,?_⟩
   have l1:=h.l1
   have run:=h.lf.run (f:=mkI ms k) (es:=ms.map (edF sc (decide (m / 3 % 2=0)) ns LS n)) (pl:=fun i=>if i=us.length then (n:Int) else (i:Int)) (fun i w _ hw=>?_)
   ·simp only [Nat.zero_add,if_true] at run
    rw [if_neg (by omega)] at run
    exact run
   ·rw [Nat.sub_zero] at hw
    have il:i < us.length:=(List.getElem?_eq_some_iff.mp hw).1
    have hm:((k:Int),(i:Int))∈ms:=(hms _).mpr ⟨k,i,us,rfl,hus,il,.inl (by have:=(List.getElem?_eq_some_iff.mp hus).1;omega)⟩
    have lt:=idxOf_lt_length_of_mem hm
    have egd:LS.getD k []=us:=by rw [getD_eq_getElem?_getD,hus];rfl
    refine ⟨ms.idxOf ((k:Int),(i:Int)),edF sc (decide (m / 3 % 2=0)) ns LS n ((k:Int),(i:Int)),rfl,?_,?_,?_,?_⟩
    ·rw [getElem?_map,aC lt,getElem_idxOf lt];rfl
    ·show (LS.getD (k:Int).toNat []).getD (i:Int).toNat "" = w
     rw [Int.toNat_natCast,Int.toNat_natCast,egd,getD_eq_getElem?_getD,hw];rfl
    ·show (i:Int)=if i=us.length then (n:Int) else (i:Int)
     rw [if_neg (by omega)]
    ·show (if (i:Int) + 1=((LS.getD (k:Int).toNat []).length:Nat) then (n:Int) else (i:Int) + 1)=if i + 1=us.length then (n:Int) else ((i + 1:Nat):Int)
     rw [Int.toNat_natCast,egd]
     by_cases e:i + 1=us.length
     ·rw [if_pos e,if_pos (by omega)]
     ·rw [if_neg e,if_neg (by omega)];omega
  have hE:∀ e∈ms.map (edF sc (decide (m / 3 % 2=0)) ns LS n),EdOk sc words n e:=fun e he=>by
   obtain ⟨p,hp,rfl⟩:=mem_map.mp he
   obtain ⟨a,b,ws,rfl,ha,hb,_⟩:=(hms p).mp hp
   have egd:LS.getD a []=ws:=by rw [getD_eq_getElem?_getD,ha];rfl
   obtain ⟨t,_,h⟩:=hLS a ws ha
   have hwn:=hn ws (mem_of_getElem? ha)
   have ew:Low (edW sc (decide (m / 3 % 2=0)) ns ((a:Int),(b:Int))).1 (edW sc (decide (m / 3 % 2=0)) ns ((a:Int),(b:Int))).2/\Bd 64 (edW sc (decide (m / 3 % 2=0)) ns ((a:Int),(b:Int))).1/\Bd 64 (edW sc (decide (m / 3 % 2=0)) ns ((a:Int),(b:Int))).2/\(sc = "chance" -> 0 < (edW sc (decide (m / 3 % 2=0)) ns ((a:Int),(b:Int))).1):=by
    unfold edW
    split
    ·exact uq sc
    ·exact wLow _ 6 sc
   have e21:(edF sc (decide (m / 3 % 2=0)) ns LS n ((a:Int),(b:Int))).2.1=if (b:Int) + 1=(ws.length:Nat) then (n:Int) else (b:Int) + 1:=by
    show (if (b:Int) + 1=((LS.getD (a:Int).toNat []).length:Nat) then (n:Int) else (b:Int) + 1)=_
    rw [Int.toNat_natCast,egd]
   refine ⟨by show (0:Int)<=(b:Int);omega,?_,?_,?_,ew.1,ew.2.1,ew.2.2.1,ew.2.2.2⟩
   ·rw [e21]
    show (b:Int) < _
    split <;> omega
   ·rw [e21]
    split <;> omega
   ·show (LS.getD (a:Int).toNat []).getD (b:Int).toNat "" ∈ words
    rw [Int.toNat_natCast,Int.toNat_natCast,egd,getD_eq_getElem?_getD,aC hb]
    exact h.w _ (getElem_mem hb)
  have ul:((List.range ts.length).map fun k:Nat=>(ts.getD k (.nd 0 [])).mp (mkI ms k)).length=2:=by rw [length_map,length_range];exact tl
  generalize (List.range ts.length).map (fun k:Nat=>(ts.getD k (.nd 0 [])).mp (mkI ms k))=U at hU ul
  have himm:D.Pm (U.map Tr.d)=true:=by
   rw [<-Tr.vZ]
   exact Tr.Pm U (by rw [Tr.NU,all_eq_true];exact fun t ht=>(hU t ht).pl)
  rw [himm]
  walk_at "rd"
  have m1:1<=ms.length:=by
   obtain ⟨us,hus⟩:∃ us,LS[0]?=some us:=⟨_,aC (by omega)⟩
   obtain ⟨t,_,h⟩:=hLS 0 us hus
   exact List.length_pos_of_mem ((hms ((0:Nat),(0:Nat))).mpr ⟨0,0,us,rfl,hus,h.l1,.inl (by omega)⟩)
  exact ⟨by decide,hq sc kinds words rs n _ U hsc hR n1 n10 (by rw [length_map];exact ⟨m1,hml⟩) hE ul hU⟩
noncomputable def Vs (es:List Ed) (w:Str) (pl:Int):Tr->Str
 | .lf (.int i)=>if 0<=i/\i < es.length then (match es[i.toNat]? with
  | some e=>if e.2.2.1≠w then "edge" else if e.1≠pl then "place" else ""
  | none => "edge") else "edge"
 | _ => "edge"
noncomputable def Hi (es:List Ed):Tr->Int
 | .lf (.int i)=>match es[i.toNat]? with
  | some e=>e.2.1
  | none=>0
 | _=>0
-- the first fault,and the place behind
mutual
noncomputable def ftT (rs:List Ru) (es:List Ed) (kd:Str) (ab pl:Int):Tr->Str × Int
 | .lf _=>("rule",pl)
 | .nd k ts=>if YY rs kd ab (.nd k ts) ≠ "" then (YY rs kd ab (.nd k ts),pl) else ftS rs es ((rs[k.toNat]?.map (·.ps)).getD []) k pl ts
noncomputable def ftS (rs:List Ru) (es:List Ed) (ps:List Str) (k pl:Int):List Tr->Str × Int
 | []=>("",pl)
 | t::ts=>match ps with
  | []=>("",pl)
  | p::ps =>
   let r:=if XM p=true then ftT rs es p k pl t else if Vs es p pl t ≠ "" then (Vs es p pl t,pl) else ("",Hi es t)
   if r.1 ≠ "" then r else ftS rs es ps k r.2 ts
end
noncomputable def ftU (rs:List Ru) (es:List Ed) (u:Str × Int × Tr) (pl:Int):Str × Int:=if XM u.1=true then ftT rs es u.1 u.2.1 pl u.2.2 else if Vs es u.1 pl u.2.2 ≠ "" then (Vs es u.1 pl u.2.2,pl) else ("",Hi es u.2.2)
noncomputable def ftW (rs:List Ru) (es:List Ed):List (Str × Int × Tr)->Int->Str × Int
 | [],pl=>("",pl)
 | u::sk,pl=>if (ftU rs es u pl).1 ≠ "" then ftU rs es u pl else ftW rs es sk (ftU rs es u pl).2
section
variable {rs:List Ru}{es:List Ed}
theorem uw (ps:List Str) (k:Int) (ts:List Tr):∀ pl,ftS rs es ps k pl ts=ftW rs es (YF ps k ts) pl:=by
 induction ts generalizing ps with
 | nil=>intro pl;cases ps <;> rfl
 | cons t ts ih =>
  intro pl
  cases ps with
  | nil=>rfl
  | cons p ps =>
   show (if (ftU rs es (p,k,t) pl).1 ≠ "" then ftU rs es (p,k,t) pl else ftS rs es ps k (ftU rs es (p,k,t) pl).2 ts)=_
   rw [ih]
   rfl
theorem qi (a b:List (Str × Int × Tr)):∀ pl,ftW rs es (a++b) pl=if (ftW rs es a pl).1 ≠ "" then ftW rs es a pl else ftW rs es b (ftW rs es a pl).2:=by
 induction a with
 | nil=>intro pl;rw [if_neg (fun z=>z rfl)];rfl
 | cons u a ih =>
  intro pl
  rw [cons_append,ftW,ftW]
  by_cases h:(ftU rs es u pl).1 ≠ ""
  ·rw [if_pos h,if_pos h,if_pos h]
  ·rw [if_neg h,if_neg h,ih]
noncomputable def ftE (rs:List Ru) (es:List Ed) (n:Int) (sk:List (Str × Int × Tr)) (pl:Int):Str:=if (ftW rs es sk pl).1 ≠ "" then (ftW rs es sk pl).1 else if (ftW rs es sk pl).2=n then "" else "end"
theorem Aw {n:Int}{u:Str × Int × Tr}{sk:List (Str × Int × Tr)}{pl:Int}(h:(ftU rs es u pl).1 ≠ ""):ftE rs es n (u::sk) pl=(ftU rs es u pl).1:=by
 unfold ftE
 rw [ftW,if_pos h,if_pos h]
theorem ux {n:Int}{p:Str}{ab:Int}{t:Tr}{sk:List (Str × Int × Tr)}{pl:Int}(hk:XM p=false) (h:Vs es p pl t = ""):ftE rs es n ((p,ab,t)::sk) pl=ftE rs es n sk (Hi es t):=by
 have e:ftU rs es (p,ab,t) pl=(("" : Str),Hi es t):=by unfold ftU;rw [if_neg (by rw [hk];decide),if_neg (fun z=>z h)]
 have e2:ftW rs es ((p,ab,t)::sk) pl=ftW rs es sk (Hi es t):=by rw [ftW,e];exact if_neg (fun z=>z rfl)
 unfold ftE
 rw [e2]
theorem nY {n:Int}{p:Str}{ab k:Int}{ts:List Tr}{r:Ru}{sk:List (Str × Int × Tr)}{pl:Int}(hk:XM p=true) (h:YY rs p ab (.nd k ts) = "") (hr:rs[k.toNat]?=some r):ftE rs es n ((p,ab,.nd k ts)::sk) pl=ftE rs es n (YF r.ps k ts++sk) pl:=by
 have e:ftU rs es (p,ab,.nd k ts) pl=ftW rs es (YF r.ps k ts) pl:=by unfold ftU;rw [if_pos hk,ftT,if_neg (fun z=>z h),hr];exact uw _ _ _ _
 unfold ftE
 rw [ftW,e,qi]
end
noncomputable def FD (A:Adr):DSp:=fun xs q _=>∃ (n:Int) (es:List Ed) (w:Str) (pl:Int) (t:Tr),xs=[Nt A n es,.str w,.int pl,t.d]/\t.pl=true/\q (.str (Vs es w pl t))
theorem Hj {A:Adr}(T:Txt K mg A):ZE P w K mg base (CXE P w) 1 A.Wu A.Rn VM (spD K (FD A)):=by
 haveI:TxC K A:=⟨⟨_,T⟩⟩
 refine T.VR.F.okJ IQ (fun xs q x h=>?_) (fun cdv Ar outer s H E hr=>⟨_,(Za (Zz [] (RX (UU (ZU (Yc (Wd (K:=K) rfl) (by rfl) T.ZK PyProof.Rows.boot_isinstance (Zc (jv 3) (Zc (Xu (n := "tuple") (by rfl) T.b_tuple PyProof.Rows.boot_tuple) Zb)))) (UU (Yj (TU Qb PJ Zd (jv 3) (Yc ZJ (by rfl) T.b_len PySem.boot_len (Zc (ZX (K:=K) rfl (jv 0)) Zb)))) (Uc (Zv (Ue hr.YW) (Zi (Zi (ZX (K:=K) rfl (jv 0)) (jv 3)) Zd) (jv 1) (Zu _)))))) (Ze (Zt [] ZQ)) Zn)
   (Za (Zz [] (Zv (Ue hr.YW) (Zi (Zi (ZX (K:=K) rfl (jv 0)) (jv 3)) Zd) (jv 2) (Zu _)) (Ze (Zt [] ZQ)) Zn)
   (Ze (Zt [] ZQ)))),fun xs q x h=>?_⟩)
 ·obtain ⟨n,es,w,pl,t,rfl,_⟩:=h
  rfl
 ·obtain ⟨n,es,w,pl,t,rfl,hp,hq⟩:=h
  cases t with
  | nd k ts =>
   walk_at "rd"
   exact hq
  | lf d =>
   obtain ⟨i,rfl⟩:=Tr.NV hp
   unfold Vs at hq
   dsimp only at hq
   walk_at "rd"
   by_cases hk:0<=i/\i < es.length
   ·rw [if_pos hk] at hq
    obtain ⟨e,he⟩:∃ e,es[i.toNat]?=some e:=⟨_,aC (by omega)⟩
    rw [he] at hq
    dsimp only at hq
    have ae:atI (es.map edD) i=some (edD e):=by
     have:=Yv (xs:=es.map edD) (j:=i.toNat) (v:=edD e) (by rw [getElem?_map,he];rfl)
     rw [Int.toNat_of_nonneg hk.1] at this
     exact this
    rw [decide_eq_true hk.1,if_pos rfl,decide_eq_true hk.2,if_neg (by decide)]
    refine ⟨_,ae,?_⟩
    walk_at "rd"
    refine Ox (fun e1=>by rw [if_pos e1] at hq;exact hq) (fun e1=>?_)
    rw [if_neg (fun z=>z e1)] at hq
    refine ⟨_,ae,?_⟩
    walk_at "rd"
    refine Ox (fun e2=>by rw [if_pos e2] at hq;exact hq) (fun e2=>?_)
    rw [if_neg (fun z=>z e2)] at hq
    exact hq
   ·rw [if_neg hk] at hq
    refine XR (fun e1=>Pt (fun e2=>hq) (fun e2=>absurd ⟨e1,of_decide_eq_true e2⟩ hk)) (fun e1=>hq)
noncomputable def FE (A:Adr):DSp:=fun xs q _=>∃ (z st:Str) (rs:List Ru) (n:Int) (es:List Ed) (t:Tr),xs=[Gr A z st rs,Nt A n es,t.d]/\st.length<=1000/\Rus rs/\t.pl=true/\t.sz<=1000000/\q (.str (ftE rs es n [(st,-1,t)] 0))
theorem qk {es:List Ed}{w:Str}{pl:Int}{t:Tr}(h:Vs es w pl t = ""):∃ (i:Nat) (e:Ed),t = .lf (.int i)/\es[i]?=some e/\e.2.2.1=w/\e.1=pl:=by
 unfold Vs at h
 split at h
 ·rename_i i
  by_cases hk:0<=i/\i < es.length
  ·rw [if_pos hk] at h
   obtain ⟨e,he⟩:∃ e,es[i.toNat]?=some e:=⟨_,aC (by omega)⟩
   rw [he] at h
   dsimp only at h
   refine ⟨i.toNat,e,by rw [Int.toNat_of_nonneg hk.1],he,?_⟩
   by_cases e1:e.2.2.1=w
   ·rw [if_neg (fun z=>z e1)] at h
    by_cases e2:e.1=pl
    ·exact ⟨e1,e2⟩
    ·rw [if_pos e2] at h;exact absurd h (by decide +kernel)
   ·rw [if_pos e1] at h;exact absurd h (by decide +kernel)
  ·rw [if_neg hk] at h;exact absurd h (by decide +kernel)
 ·exact absurd h (by decide +kernel)
theorem Hk {A:Adr}(T:Txt K mg A):ZE P w K mg base (CXE P w) 4 A.Ws A.Rl VJ (spD K (FE A)):=by
 have Sx:=OA (P:=P) (w:=w) (base:=base) T
 have FH:=Hg (P:=P) (w:=w) (base:=base) T
 have FI:=Hj (P:=P) (w:=w) (base:=base) T
 have Hl:=Iq (P:=P) (w:=w) (base:=base) T
 haveI:TxC K A:=⟨⟨_,T⟩⟩
 refine T.VP.F.okJ Yq (fun xs q x h=>?_) (fun cdv Ar outer s H E hr=>⟨_,(Za (Zj (i:=3) Yq.nd rfl (Or.inl rfl) Zd)
   (Za (XZ (i:=4) Yq.nd rfl (Or.inl rfl) (We (Zc (ZL (Zc (ZX (K:=K) rfl (jv 0)) (Zc (Tj Zd) (Zc (jv 2) Zb)))) Zb)))
   (Za (JH [4] PassesOwn.leaving (ZU (jv 4)) (Za (oO 4 (SR (n:=3) (ZM (Zk (i:=5) Yq.nd rfl (Or.inl rfl)) (ZM (Zk (i:=6) Yq.nd rfl (Or.inl rfl)) (ZM (Zk (i:=7) Yq.nd rfl (Or.inl rfl)) VH)))))
   (Za (Zz [] (ZU (Zg Sx T.VX (hr.mono (by decide)) Zh (Zc (jv 5) Zb))) (Za (Zj (i:=8) Yq.nd rfl (Or.inl rfl) (Zg FH T.VQ (hr.mono (by decide)) Zh (Zc (jv 0) (Zc (jv 5) (Zc (jv 6) (Zc (jv 7) Zb))))))
   (Ze (Zz [] (Zv (Xb hr.YW) (jv 8) ZQ (Zu _)) (Ze (wm [] 4 (rJ (Zg Hl T.Vi (hr.mono (by decide)) Zh (Zc (jv 0) (Zc (jv 7) Zb))) (Tj Zd)))) Zn))) (Za (Zj (i:=8) Yq.nd rfl (Or.inl rfl) (Zg FI T.VR (hr.mono (by decide)) Zh (Zc (jv 1) (Zc (jv 5) (Zc (jv 3) (Zc (jv 7) Zb))))))
   (Ze (Zz [] (Zv (Xb hr.YW) (jv 8) ZQ (Zu _)) (Ze (Zj (i:=3) Yq.nd rfl (Or.inl rfl) (Zi (Zi (ZX (K:=K) rfl (jv 1)) (jv 7)) Zd))) Zn))))
   (Ze (Zz [] (Zv (Ue hr.YW) (jv 8) ZQ (Zu _)) (Ze (Zt [] (jv 8))) Zn)))))
   (Ze (Zt [] (qA (Zv (Xb hr.YW) (jv 3) (ZX (K:=K) rfl (jv 1)) (Zu _)) ZQ ZQ)))))),fun xs q x h=>?_⟩)
 ·obtain ⟨z,st,rs,n,es,t,rfl,_⟩:=h
  rfl
 ·obtain ⟨z,st,rs,n,es,t,rfl,hst,⟨l1,l2⟩,hp,hs,hq⟩:=h
  have hsz:aA=16777216:=rfl
  walk_at "rd"
  refine ⟨by decide,by decide,fun m ds'=>∃ (sk:List (Str × Int × Tr)) (pl:Int) (s5 s6 s7 s8:L2.Slot),ds'=[.v (Gr A z st rs),.v (Nt A n es),.v t.d,.v (.int pl),.own (sk.reverse.map Ip),s5,s6,s7,s8]/\m=Tr.szs (sk.map (·.2.2))/\(∀ u∈sk,u.1.length<=1000/\CN rs u.2.1/\u.2.2.pl=true)/\ftE rs es n sk pl=ftE rs es n [(st,-1,t)] 0/\Tr.szs (sk.map (·.2.2))<=1000000,⟨_,[(st,-1,t)],_,_,_,_,_,rfl,rfl,fun u hu=>?_,rfl,?_⟩,?_⟩
  ·rw [mem_singleton.mp hu];exact ⟨hst,.inl rfl,hp⟩
  ·simp [Tr.szs];exact hs
  rintro m _ ⟨sk,pl,s5,s6,s7,s8,rfl,rfl,hw,hF,hb⟩
  walk_at "rd"
  cases sk with
  | nil =>
   rw [if_neg (show ¬ (!(([]:List (Str × Int × Tr)).reverse.map Ip).isEmpty)=true by decide)]
   have e0:ftE rs es n [] pl=if pl=n then ("" : Str) else ("end" : Str):=by unfold ftE;rw [ftW,if_neg (fun z=>z rfl)]
   rw [<-hF,e0] at hq
   refine XR (fun e=>?_) (fun e=>?_)
   ·rw [if_pos e] at hq;exact hq
   ·rw [if_neg e] at hq;exact hq
  | cons u rest =>
   obtain ⟨p,ab,th⟩:=u
   have ne:(((p,ab,th)::rest).reverse.map Ip).isEmpty=false:=by simp
   rw [ne]
   walk_at "rd"
   refine ⟨rest.reverse.map Ip,Ip (p,ab,th),by simp,?_⟩
   rw [nQ]
   walk_at "rd"
   obtain ⟨u1,u2,u3⟩:=hw _ (mem_cons_self ..)
   have u1:p.length<=1000:=u1
   have hw':∀ u∈rest,u.1.length<=1000/\CN rs u.2.1/\u.2.2.pl=true:=fun u hu=>hw u (mem_cons_of_mem _ hu)
   refine ⟨by omega,?_⟩
   rw [map_cons,Tr.szs] at hb
   have hb:th.sz + Tr.szs (rest.map (·.2.2))<=1000000:=hb
   have hsz1:Tr.szs (th::rest.map (·.2.2))=th.sz + Tr.szs (rest.map (·.2.2)):=by rw [Tr.szs]
   refine ifB (fun hk=>?_) (fun hk=>?_)
   ·refine ⟨z,st,rs,p,ab,th,rfl,u2,u3,?_⟩
    walk_at "rd"
    by_cases hf:YY rs p ab th = ""
    ·cases th with
     | lf d=>exact absurd hf (show ¬ (Str.ofString "rule" = Str.ofString "") by decide +kernel)
     | nd j ts =>
      rw [hf]
      walk_at "rd"
      obtain ⟨k0,k1,r,hj,hd,hst',hlen⟩:=Ir hf
      have szt:(Tr.nd j ts).sz=1 + Tr.szs ts:=by unfold Tr.sz;rfl
      have tl:=Tr.Rx ts
      obtain ⟨m1,m2,m3,m4⟩:=l2 r (mem_of_getElem? hj)
      refine ⟨z,st,rs,j,ts,r,by rw [Kt],k0,hj,by omega,?_⟩
      walk_at "rd"
      unfold wExt
      simp only [length_map,List.length_reverse]
      have sl:(YF r.ps j ts).length<=ts.length:=by unfold YF;rw [length_map,length_zip];omega
      have rl:=Tr.Rx (rest.map (·.2.2))
      rw [length_map] at rl
      have ss:=zZ r.ps j ts
      rw [nY hk hf hj] at hF
      refine ⟨by omega,_,?_,YF r.ps j ts++rest,by simp,rfl,fun u hu=>?_,hF,?_⟩
      ·rw [hsz1,map_append,Tr.Pl];omega
      ·rcases mem_append.mp hu with h | h
       ·obtain ⟨h1,h2,h3⟩:=yc h
        exact ⟨m3.2 _ h1,.inr (by rw [h2];exact ⟨k0,k1⟩),Tr.EX u3 _ h3⟩
       ·exact hw' u h
      ·rw [map_append,Tr.Pl];omega
    ·have e:(ftU rs es (p,ab,th) pl).1=YY rs p ab th:=by
      unfold ftU
      rw [if_pos hk]
      cases th with
      | lf d=>rfl
      | nd j ts=>rw [ftT,if_pos hf]
     rw [Aw (by rw [e];exact hf),e] at hF
     rw [<-hF] at hq
     rw [decide_eq_false hf]
     exact hq
   ·refine ⟨n,es,p,pl,th,rfl,u3,?_⟩
    walk_at "rd"
    by_cases hf:Vs es p pl th = ""
    ·obtain ⟨i,e,rfl,he,_,_⟩:=qk hf
     rw [hf]
     walk_at "rd"
     rw [ux hk hf,show Hi es (.lf (.int i))=e.2.1 by unfold Hi;dsimp only;rw [Int.toNat_natCast,he]] at hF
     refine ⟨_,Yv (by rw [getElem?_map,he];rfl),?_⟩
     walk_at "rd"
     have:=(Tr.lf (.int i)).Ft
     exact ⟨_,by rw [hsz1];omega,rest,rfl,rfl,hw',hF,by omega⟩
    ·have e:(ftU rs es (p,ab,th) pl).1=Vs es p pl th:=by
      unfold ftU
      rw [if_neg (by rw [hk];decide),if_pos hf]
     rw [Aw (by rw [e];exact hf),e] at hF
     rw [<-hF] at hq
     rw [decide_eq_false hf]
     exact hq
-- SPLIT
theorem drop_cons {α:Type}{xs:List α}{i:Nat}{x:α}(h:xs[i]?=some x):xs.drop i=x::xs.drop (i + 1):=by
 obtain ⟨h1,h2⟩:=List.getElem?_eq_some_iff.mp h
 rw [drop_eq_getElem_cons h1,h2]
theorem Bf {p:Str}{ps:List Str}{k:Int}{t:Tr}{ts:List Tr}:YF (p::ps) k (t::ts)=(p,k,t)::YF ps k ts:=rfl
noncomputable def yx:Nat->DSp
 | 0=>fun _ _ _=>False
 | n + 1=>fun xs q _=>∃ (sc:Str) (kinds words:List Str) (rs:List Ru) (es:List Ed) (t:Tr) (kd:Str) (ab pl:Int),xs=[.lst (rs.map Xk),.lst (es.map edD),t.d,.str kd,.int ab,.int pl]/\VE sc kinds words rs/\t.pl=true/\CN rs ab/\t.de<=n/\t.sz<=100000/\q (.tup [.str (ftT rs es kd ab pl t).1,.int (ftT rs es kd ab pl t).2])
theorem Bg {A:Adr}(T:Txt K mg A):∀ n,ZE P w K mg base (CXE P w) (2 + n) A.Sr A.MK QY (spD K (yx n)):=by
 intro n
 induction n with
 | zero=>exact ZE.never fun vs H Q E h=>by first | (obtain ⟨_,_,_,_,_,_,_,_,_,h,_⟩:=h;exact h) | (obtain ⟨_,_,_,_,_,_,h,_⟩:=h;exact h)
 | succ n ih=>?_
 have MU:=ih
 rw [show 2 + (n + 1)=(2 + n) + 1 by omega]
 have OI:=Kg (P:=P) (w:=w) (base:=base) T
 haveI:TxC K A:=⟨⟨_,T⟩⟩
 refine T.Sv.F.okJ YX (fun xs q x h=>?_) (fun cdv Ar outer s H E hr=>⟨_,(Za (Zz [] (RX (UU (ZU (Yc (Wd (K:=K) rfl) (by rfl) T.ZK PyProof.Rows.boot_isinstance (Zc (jv 2) (Zc (Xu (n := "int") (by rfl) T.b_int PyProof.Rows.boot_int) Zb)))) (Uc (Yj (TU Qb PJ Zd (Zi (jv 2) Zd) (Yc ZJ (by rfl) T.b_len PySem.boot_len (Zc (jv 0) Zb))))))) (Ze (Zt [] (ZL (Zc ZQ (Zc (jv 5) Zb))))) Zn)
   (Za (Zz [] (Zv (Ue hr.YW) (Zi (Zi (jv 0) (Zi (jv 2) Zd)) Zd) (jv 3) (Zu _)) (Ze (Zt [] (ZL (Zc ZQ (Zc (jv 5) Zb))))) Zn)
   (Za (Zz [] (Yj (ZU (Zg OI T.UC (hr.mono (by omega)) Zh (Zc (jv 0) (Zc (Zi (jv 2) Zd) (Zc (jv 4) Zb)))))) (Ze (Zt [] (ZL (Zc ZQ (Zc (jv 5) Zb))))) Zn)
   (Za (Zz [] (Zv (Ue hr.YW) (Yc ZJ (by rfl) T.b_len PySem.boot_len (Zc (Zi (jv 2) Zd) Zb)) (Yc ZJ (by rfl) T.b_len PySem.boot_len (Zc (Zi (Zi (jv 0) (Zi (jv 2) Zd)) Zd) Zb)) (Zu _)) (Ze (Zt [] (ZL (Zc ZQ (Zc (jv 5) Zb))))) Zn)
   (Za (Xr (Vu PassesOwn.leaving (YJ (by rfl) T.b_range (Zc (Yc ZJ (by rfl) T.b_len PySem.boot_len (Zc (Zi (jv 2) Zd) Zb)) Zb)) (Zk (i:=6) YX.nd rfl (Or.inl rfl)) (Za (Zj (i:=7) YX.nd rfl (Or.inl rfl) (Zi (Zi (jv 2) Zd) (jv 6)))
   (Za (Zj (i:=8) YX.nd rfl (Or.inl rfl) (Zi (Zi (Zi (jv 0) (Zi (jv 2) Zd)) Zd) (jv 6)))
   (Za (Zj (i:=9) YX.nd rfl (Or.inl rfl) (ZL (Zc ZQ (Zc (jv 5) Zb))))
   (Za (Xr (Zz [] (ZU (Cb PySem.F.plainAttrs_str PySem.F.slot_str_isupper PySem.F.type_str_isupper Oe (Wo (jv 8) Vb (XY Zd)))) (Ze (Zj (i:=9) YX.nd rfl (Or.inl rfl) (Zg MU T.Sv (hr.mono (by omega)) Zh (Zc (jv 0) (Zc (jv 1) (Zc (jv 7) (Zc (jv 8) (Zc (Zi (jv 2) Zd) (Zc (jv 5) Zb))))))))) (Ze (Zz [] (RX (UU (Yj (ZU (Yc (Wd (K:=K) rfl) (by rfl) T.ZK PyProof.Rows.boot_isinstance (Zc (jv 7) (Zc (Xu (n := "int") (by rfl) T.b_int PyProof.Rows.boot_int) Zb))))) (UU (Yj (TU Qb PJ Zd (jv 7) (Yc ZJ (by rfl) T.b_len PySem.boot_len (Zc (jv 1) Zb)))) (Uc (Zv (Ue hr.YW) (Zi (Zi (jv 1) (jv 7)) Zd) (jv 8) (Zu _)))))) (Ze (Zj (i:=9) YX.nd rfl (Or.inl rfl) (ZL (Zc ZQ (Zc (jv 5) Zb))))) (Ze (Zz [] (Zv (Ue hr.YW) (Zi (Zi (jv 1) (jv 7)) Zd) (jv 5) (Zu _)) (Ze (Zj (i:=9) YX.nd rfl (Or.inl rfl) (ZL (Zc ZQ (Zc (jv 5) Zb))))) (Ze (Zj (i:=5) YX.nd rfl (Or.inl rfl) (Zi (Zi (jv 1) (jv 7)) Zd)))))))))
   (Za (Zz [] (Zv (Ue hr.YW) (Zi (jv 9) Zd) ZQ (Zu _)) (Ze (Zt [] (jv 9))) Zn)
   (Ze (Xr (Zz [] (ZU (Cb PySem.F.plainAttrs_str PySem.F.slot_str_isupper PySem.F.type_str_isupper Oe (Wo (jv 8) Vb (XY Zd)))) (Ze (Zj (i:=5) YX.nd rfl (Or.inl rfl) (Zi (jv 9) Zd))) Zn))))))))))
   (Ze (Zt [] (ZL (Zc ZQ (Zc (jv 5) Zb)))))))))),fun xs q x h=>?_⟩)
 ·obtain ⟨sc,kinds,words,rs,es,t,kd,ab,pl,rfl,_⟩:=h
  rfl
 ·obtain ⟨sc,kinds,words,rs,es,t,kd,ab,pl,rfl,hR,hp,hab,hd,hs,hq⟩:=h
  have hsz:aA=16777216:=rfl
  cases t with
  | lf d =>
   obtain ⟨i,rfl⟩:=Tr.NV hp
   rw [ftT] at hq
   walk_at "rd"
   exact ⟨by decide,hq⟩
  | nd k ts =>
   have szt:(Tr.nd k ts).sz=1 + Tr.szs ts:=by rw [Tr.sz]
   have det:(Tr.nd k ts).de=1 + Tr.des ts:=by rw [Tr.de]
   have tl:=Tr.Rx ts
   have hpk:=Tr.EX hp
   rw [ftT] at hq
   have hFd:YY rs kd ab (.nd k ts)=YY rs kd ab (.nd k ts):=rfl
   conv at hFd=>rhs;unfold YY
   dsimp only at hFd
   have bad:∀ s:Str,s ≠ "" -> YY rs kd ab (.nd k ts)=s->q (.tup [.str s,.int pl]):=fun s h e=>by
    rw [e,if_pos h] at hq
    exact hq
   walk_at "rd"
   by_cases hk:0<=k/\k < rs.length
   ·rw [if_pos hk] at hFd
    obtain ⟨r,hr⟩:∃ r,rs[k.toNat]?=some r:=⟨_,aC (by omega)⟩
    rw [hr] at hFd
    dsimp only at hFd
    obtain ⟨j,rfl⟩:∃ j:Nat,k=j:=⟨k.toNat,by omega⟩
    rw [Int.toNat_natCast] at hr
    rw [decide_eq_true hk.1,if_pos rfl,decide_eq_true hk.2,if_neg (by decide)]
    refine ⟨_,Vy hr,?_⟩
    walk_at "rd"
    refine Ox (fun e1=>⟨by decide,bad _ (by decide +kernel) (by rw [hFd,if_pos e1])⟩) (fun e1=>?_)
    rw [if_neg (fun z=>z e1)] at hFd
    refine ⟨rs,j,r,ab,rfl,hr,hab,?_⟩
    walk_at "rd"
    refine Pt (fun e2=>⟨by decide,bad _ (by decide +kernel) (by rw [hFd,if_pos e2])⟩) (fun e2=>?_)
    rw [if_neg (by rw [e2];decide)] at hFd
    refine ⟨_,Vy hr,?_⟩
    walk_at "rd"
    refine Ox (fun e3=>⟨by decide,bad _ (by decide +kernel) (by rw [hFd,if_pos (by omega)])⟩) (fun e3=>?_)
    rw [if_neg (fun z=>z (by omega))] at hFd
    rw [hFd,if_neg (fun z=>z rfl),Int.toNat_natCast,hr,uw] at hq
    have hq:q (.tup [.str (ftW rs es (YF r.ps j ts) pl).1,.int (ftW rs es (YF r.ps j ts) pl).2]):=hq
    have R:=hR.row r (mem_of_getElem? hr)
    have L4:=R.p4
    have hlen:ts.length=r.ps.length:=by omega
    refine ⟨fun ds'=>∃ (at':Int) (s6 s7 s8 s9:L2.Slot),ds'=[.v (.lst (rs.map Xk)),.v (.lst (es.map edD)),.v (.tup [.int j,.tup (ts.map Tr.d)]),.v (.str kd),.v (.int ab),.v (.int at'),s6,s7,s8,s9]/\ftW rs es (YF r.ps j ts) pl=(("" : Str),at'),⟨[],?_⟩,?_⟩
    ·walk_at "rd"
     rw [show ((ts.length:Int)).toNat=ts.length by omega]
     refine ⟨by omega,by omega,WK (fun i ds'=>∃ (at':Int) (s6 s7 s8 s9:L2.Slot),ds'=[.v (.lst (rs.map Xk)),.v (.lst (es.map edD)),.v (.tup [.int j,.tup (ts.map Tr.d)]),.v (.str kd),.v (.int ab),.v (.int at'),s6,s7,s8,s9]/\ftW rs es (YF (r.ps.drop i) j (ts.drop i)) at'=ftW rs es (YF r.ps j ts) pl) ⟨pl,_,_,_,_,rfl,rfl⟩ (fun i ds N hi hd' hn=>?_) (fun ds hd'=>?_)⟩
     ·obtain ⟨at',s6,s7,s8,s9,rfl,hW⟩:=hd'
      obtain ⟨t,ht⟩:∃ t,ts[i]?=some t:=⟨_,aC hi⟩
      obtain ⟨p,hpi⟩:∃ p,r.ps[i]?=some p:=⟨_,aC (by omega)⟩
      have htm:=mem_of_getElem? ht
      have hpt:=hpk t htm
      have s1:=Tr.Jh htm
      have d1:=Tr.Ji htm
      have nm:isNm p=true:=by
       rcases R.ps p (mem_of_getElem? hpi) with z | z
       ·exact EZ (hR.kd p z)
       ·exact Iu (hR.wd p z)
      have pl1:=UD nm
      have ups:=um nm
      have eti:atI (ts.map Tr.d) (i:Int)=some t.d:=Yv (by rw [getElem?_map,ht];rfl)
      have epi:atI (r.ps.map D.str) (i:Int)=some (.str p):=Yv (by rw [getElem?_map,hpi];rfl)
      rw [drop_cons ht,drop_cons hpi,Bf,ftW] at hW
      walk_at "rd"
      rw [Int.zero_add]
      refine ⟨_,eti,_,Vy hr,?_⟩
      walk_at "rd"
      refine ⟨_,epi,?_⟩
      obtain ⟨M,hM,hM'⟩:∃ M:DSt->Prop,(∀ a2 fp:Int,((ftU rs es (p,(j:Int),t) at').1 ≠ "" -> fp=(ftU rs es (p,(j:Int),t) at').2)->(XM p=true->fp=(ftU rs es (p,(j:Int),t) at').2)->(XM p=false->(ftU rs es (p,(j:Int),t) at').1 = "" -> a2=(ftU rs es (p,(j:Int),t) at').2)->M [.v (.lst (rs.map Xk)),.v (.lst (es.map edD)),.v (.tup [.int j,.tup (ts.map Tr.d)]),.v (.str kd),.v (.int ab),.v (.int a2),.v (.int i),.v t.d,.v (.str p),.v (.tup [.str (ftU rs es (p,(j:Int),t) at').1,.int fp])])/\∀ ds',M ds'->∃ a2 fp:Int,ds'=[.v (.lst (rs.map Xk)),.v (.lst (es.map edD)),.v (.tup [.int j,.tup (ts.map Tr.d)]),.v (.str kd),.v (.int ab),.v (.int a2),.v (.int i),.v t.d,.v (.str p),.v (.tup [.str (ftU rs es (p,(j:Int),t) at').1,.int fp])]/\((ftU rs es (p,(j:Int),t) at').1 ≠ "" -> fp=(ftU rs es (p,(j:Int),t) at').2)/\(XM p=true->fp=(ftU rs es (p,(j:Int),t) at').2)/\(XM p=false->(ftU rs es (p,(j:Int),t) at').1 = "" -> a2=(ftU rs es (p,(j:Int),t) at').2):=⟨fun ds'=>∃ a2 fp:Int,ds'=[.v (.lst (rs.map Xk)),.v (.lst (es.map edD)),.v (.tup [.int j,.tup (ts.map Tr.d)]),.v (.str kd),.v (.int ab),.v (.int a2),.v (.int i),.v t.d,.v (.str p),.v (.tup [.str (ftU rs es (p,(j:Int),t) at').1,.int fp])]/\((ftU rs es (p,(j:Int),t) at').1 ≠ "" -> fp=(ftU rs es (p,(j:Int),t) at').2)/\(XM p=true->fp=(ftU rs es (p,(j:Int),t) at').2)/\(XM p=false->(ftU rs es (p,(j:Int),t) at').1 = "" -> a2=(ftU rs es (p,(j:Int),t) at').2),fun a2 fp h1 h2 h3=>⟨a2,fp,rfl,h1,h2,h3⟩,fun _ h=>h⟩
      refine ⟨by decide,M,?_,fun ds' hds=>?_⟩
      ·walk_at "rd"
       rw [ups]
       refine ⟨by omega,ifB (fun e=>?_) (fun e=>?_)⟩
       ·have eU:(ftU rs es (p,(j:Int),t) at')=ftT rs es p j at' t:=by unfold ftU;rw [if_pos e]
        obtain ⟨n',rfl⟩:∃ n',n=n' + 1:=⟨n - 1,by omega⟩
        refine ⟨sc,kinds,words,rs,es,t,p,j,at',rfl,hR,hpt,.inr (by omega),by omega,by omega,?_⟩
        have:=hM at' (ftU rs es (p,(j:Int),t) at').2 (fun _=>rfl) (fun _=>rfl) (fun z=>by rw [e] at z;cases z)
        rw [eU] at this
        exact this
       ·have eU:(ftU rs es (p,(j:Int),t) at')=if Vs es p at' t ≠ "" then (Vs es p at' t,at') else (("" : Str),Hi es t):=by unfold ftU;rw [if_neg (by rw [e];decide)]
        generalize (ftU rs es (p,(j:Int),t) at')=U at eU hM
        have badE:∀ f:Str,f ≠ "" -> Vs es p at' t=f->2<=aA/\M [.v (.lst (rs.map Xk)),.v (.lst (es.map edD)),.v (.tup [.int j,.tup (ts.map Tr.d)]),.v (.str kd),.v (.int ab),.v (.int at'),.v (.int i),.v t.d,.v (.str p),.v (.tup [.str f,.int at'])]:=fun f h1 h2=>by
         rw [h2,if_pos h1] at eU
         have:=hM at' at' (fun _=>by rw [eU]) (fun z=>by rw [e] at z;cases z) (fun _ _=>by rw [eU])
         rw [eU] at this
         exact ⟨by decide,this⟩
        cases t with
        | nd k' us =>
         rw [Kt] at badE
         walk_at "rd"
         exact badE _ (by decide +kernel) rfl
        | lf d =>
         obtain ⟨i',rfl⟩:=Tr.NV hpt
         have eF:Vs es p at' (.lf (.int i'))=Vs es p at' (.lf (.int i')):=rfl
         conv at eF=>rhs;unfold Vs
         dsimp only at eF
         rw [Hf] at badE
         walk_at "rd"
         by_cases hk':0<=i'/\i' < es.length
         ·rw [if_pos hk'] at eF
          obtain ⟨ed,he⟩:∃ ed,es[i'.toNat]?=some ed:=⟨_,aC (by omega)⟩
          rw [he] at eF
          dsimp only at eF
          have ae:atI (es.map edD) i'=some (edD ed):=by
           have:=Yv (xs:=es.map edD) (j:=i'.toNat) (v:=edD ed) (by rw [getElem?_map,he];rfl)
           rw [Int.toNat_of_nonneg hk'.1] at this
           exact this
          rw [decide_eq_true hk'.1,if_pos rfl,decide_eq_true hk'.2,if_neg (by decide)]
          refine ⟨_,ae,?_⟩
          walk_at "rd"
          refine Ox (fun e1=>badE _ (by decide +kernel) (by rw [eF,if_pos e1])) (fun e1=>?_)
          rw [if_neg (fun z=>z e1)] at eF
          refine ⟨_,ae,?_⟩
          walk_at "rd"
          refine Ox (fun e2=>badE _ (by decide +kernel) (by rw [eF,if_pos e2])) (fun e2=>?_)
          rw [if_neg (fun z=>z e2)] at eF
          refine ⟨_,ae,?_⟩
          walk_at "rd"
          rw [eF,if_neg (fun z=>z rfl),show Hi es (.lf (.int i'))=ed.2.1 by unfold Hi;dsimp only;rw [he]] at eU
          have:=hM ed.2.1 at' (fun z=>absurd (by rw [eU]) z) (fun z=>by rw [e] at z;cases z) (fun _ _=>by rw [eU])
          rw [eU,Hf] at this
          exact this
         ·rw [if_neg hk'] at eF
          exact XR (fun e1=>Pt (fun e2=>badE _ (by decide +kernel) eF) (fun e2=>absurd ⟨e1,of_decide_eq_true e2⟩ hk')) (fun e1=>badE _ (by decide +kernel) eF)
      obtain ⟨a2,fp,rfl,f1,f2,f3⟩:=hM' _ hds
      clear hM hM' hds
      generalize ftU rs es (p,(j:Int),t) at'=U at hW f1 f2 f3
      walk_at "rd"
      refine Ox (fun e=>?_) (fun e=>?_)
      ·rw [if_pos e] at hW
       rw [<-hW,<-f1 e] at hq
       exact hq
      ·rw [if_neg (fun z=>z e)] at hW
       refine ⟨fun ds'=>ds'=[.v (.lst (rs.map Xk)),.v (.lst (es.map edD)),.v (.tup [.int j,.tup (ts.map Tr.d)]),.v (.str kd),.v (.int ab),.v (.int U.2),.v (.int i),.v t.d,.v (.str p),.v (.tup [.str U.1,.int fp])],?_,?_⟩
       ·walk_at "rd"
        rw [ups]
        exact ⟨by omega,ifB (fun e'=>by rw [f2 e']) (fun e'=>by rw [f3 e' e])⟩
       rintro _ rfl
       exact hn _ ⟨_,_,_,_,_,rfl,hW⟩
     ·obtain ⟨at',s6,s7,s8,s9,rfl,hW⟩:=hd'
      rw [List.drop_length] at hW
      refine ⟨at',s6,s7,s8,s9,rfl,?_⟩
      rw [<-hW]
      cases r.ps.drop ts.length <;> rfl
    rintro _ ⟨at',s6,s7,s8,s9,rfl,hW⟩
    walk_at "rd"
    rw [hW] at hq
    exact ⟨by decide,hq⟩
   ·rw [if_neg hk] at hFd
    refine XR (fun e1=>Pt (fun e2=>⟨by decide,bad _ (by decide +kernel) hFd⟩) (fun e2=>absurd ⟨e1,of_decide_eq_true e2⟩ hk)) (fun e1=>⟨by decide,bad _ (by decide +kernel) hFd⟩)
theorem ql {α β:Type}{c:α->D}{f:β->D}{da:DA}{p:Nat}{gs:Mh}{q:List D->Mu->Prop}{xs:List α}{caps:DSt}(P:α->β->Prop) (M:Mu->Prop)
  (hs:∀ x∈xs,∀ (μ:Mu) (N:D->Mu->Prop),M μ->(∀ y μ',P x y->M μ'->N (f y) μ')->da (.v (c x)::caps) (fun as=>(∃ a,as[p]?=some (.rf a))/\gs as μ N) (fun _=>False)) :
  ∀ {s:L2.Slot}{acc:List D}{μ:Mu},M μ->acc.length + xs.length<=aA->(∀ (ys:List β) μ',ys.length=xs.length->(∀ (i:Nat) x y,xs[i]?=some x->ys[i]?=some y->P x y)->M μ'->q (acc++ys.map f) μ')->LZ (Xv 0) da p gs q (xs.map c) (s::caps) μ acc:=by
 induction xs with
 | nil=>intro s acc μ hM _ hq;have:=hq [] μ rfl (fun i x y h=>by cases h) hM;rw [List.map_nil,append_nil] at this;exact this
 | cons x xs ih =>
  intro s acc μ hM hl hq
  rw [length_cons] at hl
  rw [map_cons]
  unfold LZ
  refine hs x (mem_cons_self ..) μ (fun d μ'=>acc.length < aA/\LZ (Xv 0) da p gs q (xs.map c) (.v (c x)::caps) μ' (acc++[d])) hM (fun y μ' hy hM'=>⟨by omega,ih (fun x hx=>hs x (mem_cons_of_mem _ hx)) hM' (by rw [length_append,List.length_singleton];omega) (fun ys μ2 h1 h2 h3=>?_)⟩)
  have:=hq (y::ys) μ2 (by rw [length_cons,length_cons,h1]) (fun i x' y' hx hy'=>by
   cases i with
   | zero=>cases hx;cases hy';exact hy
   | succ i=>exact h2 i x' y' hx hy') h3
  simpa using this
theorem qm (xs:List D) {i:Int}(h0:0<=i):cutD xs (some i) none=xs.drop i.toNat:=by
 obtain ⟨f,rfl⟩:=Int.eq_ofNat_of_zero_le h0
 unfold cutD
 rw [HT.KY,HT.FQ,show (f:Int).toNat=f from rfl]
 by_cases h:f<=xs.length
 ·rw [Nat.min_eq_left h]
  exact List.take_of_length_le (by rw [length_drop];exact Nat.le_refl _)
 ·rw [Nat.min_eq_right (by omega),List.drop_of_length_le (Nat.le_refl _),List.drop_of_length_le (by omega)]
  exact List.take_nil
-- no rule without kids
mutual
noncomputable def Tr.ne:Tr->Bool
 | .lf _=>true
 | .nd _ ts => !ts.isEmpty && Tr.nes ts
noncomputable def Tr.nes:List Tr->Bool
 | []=>true
 | t::ts=>t.ne && Tr.nes ts
end
theorem Tr.Ax (ts:List Tr):Tr.nes ts=ts.all Tr.ne:=by
 induction ts with
 | nil=>rfl
 | cons t ts ih=>rw [Tr.nes,ih];rfl
theorem Tr.pz {k:Int}{ts:List Tr}(h:(Tr.nd k ts).ne=true):ts≠[]/\∀ t∈ts,t.ne=true:=by
 rw [Tr.ne,aF] at h
 refine ⟨fun z=>by rw [z] at h;exact absurd h.1 (by decide),?_⟩
 have:=h.2
 rw [Tr.Ax,all_eq_true] at this
 exact this
theorem Run.ne {rs:List Ru}{es:List Ed}{sk:List (Str × Int × Tr)}{p p':Int}(h:Run rs es sk p p') (hr:∀ r∈rs,1<=r.ps.length):∀ u∈sk,u.2.2.ne=true:=by
 induction h with
 | nil p=>intro u hu;cases hu
 | @leaf w ab i e rest p' hk he hw _ ih =>
  intro u hu
  rcases mem_cons.mp hu with rfl | hu
  ·rfl
  ·exact ih u hu
 | @node k ab j ts r rest p p' hk hf hj _ ih =>
  intro u hu
  rcases mem_cons.mp hu with rfl | hu
  ·obtain ⟨h1,h2,r',hr',_,_,hl⟩:=Ir hf
   rw [hj] at hr'
   cases hr'
   have l1:=hr r (mem_of_getElem? hj)
   rw [Tr.ne,aF]
   refine ⟨?_,?_⟩
   ·cases ts with
    | nil=>simp at hl;omega
    | cons _ _=>rfl
   rw [Tr.Ax,all_eq_true]
   intro t ht
   obtain ⟨p,hp⟩:=Dh (k:=j) hl ht
   exact ih _ (mem_append_left _ hp)
  ·exact ih u (mem_append_right _ hu)
noncomputable def uy:Nat->DSp
 | 0=>fun _ _ _=>False
 | n + 1=>fun xs q _=>∃ t:Tr,xs=[t.d]/\t.pl=true/\t.de<=n/\t.sz<=100000/\q (.int t.sz)
theorem yy {A:Adr}(T:Txt K mg A):∀ n,ZE P w K mg base (CXE P w) (1 + n) A.Qt A.Ie Nz (spD K (uy n)):=by
 intro n
 induction n with
 | zero=>exact ZE.never fun vs H Q E h=>by first | (obtain ⟨_,_,_,_,_,_,_,_,_,h,_⟩:=h;exact h) | (obtain ⟨_,_,_,_,_,_,h,_⟩:=h;exact h)
 | succ n ih=>?_
 have Iz:=ih
 rw [show 1 + (n + 1)=(1 + n) + 1 by omega]
 haveI:TxC K A:=⟨⟨_,T⟩⟩
 refine T.Qu.F.okJ zQ (fun xs q x h=>?_) (fun cdv Ar outer s H E hr=>⟨_,(Za (Zz [] (ZU (Yc (Wd (K:=K) rfl) (by rfl) T.ZK PyProof.Rows.boot_isinstance (Zc (jv 0) (Zc (Xu (n := "int") (by rfl) T.b_int PyProof.Rows.boot_int) Zb)))) (Ze (Zt [] Zd)) Zn)
   (Ze (Zt [] (Zm ZP Zd (Yc nH (by rfl) T.b_sum PyProof.Rows.boot_sum (Zc (Yw ["_law_kid"] [] [] (Yk (Zi (jv 0) Zd)) (fun _=>(Zk (i:=0) (show @Nodup Str ((["_law_kid"]:List Str)++([]:List Str)) by decide +kernel) rfl (Or.inl rfl) (Or.inr rfl))) (fun _=>Yu) (fun _=>(Zg Iz T.Qu (hr.mono (by omega)) Vc (Zc (jv 0) Zb)))) Zb)))))),fun xs q x h=>?_⟩)
 ·obtain ⟨t,rfl,_⟩:=h
  rfl
 ·obtain ⟨t,rfl,hp,hd,hs,hq⟩:=h
  have hsz:aA=16777216:=rfl
  cases t with
  | lf d =>
   obtain ⟨i,rfl⟩:=Tr.NV hp
   rw [Tr.sz] at hq
   walk_at "rd"
   exact hq
  | nd k ts =>
   have szt:(Tr.nd k ts).sz=1 + Tr.szs ts:=by rw [Tr.sz]
   have det:(Tr.nd k ts).de=1 + Tr.des ts:=by rw [Tr.de]
   have tl:=Tr.Rx ts
   have hpk:=Tr.EX hp
   walk_at "rd"
   refine YB (fun t:Tr => .int (t.sz:Nat)) (by omega) (fun t ht N hN=>?_) ?_
   ·have s1:=Tr.Jh ht
    have d1:=Tr.Ji ht
    obtain ⟨n',rfl⟩:∃ n',n=n' + 1:=⟨n - 1,by omega⟩
    walk_at "rd"
    exact ⟨t,rfl,hpk t ht,by omega,by omega,hN⟩
   have em:(ts.map fun t:Tr=>D.int (t.sz:Nat))=(ts.map fun t:Tr=>((t.sz:Nat):Int)).map D.int:=by rw [map_map];rfl
   have es:(ts.map fun t:Tr=>((t.sz:Nat):Int)).sum=(Tr.szs ts:Nat):=by
    clear em hpk tl det szt hp hd hs hq
    induction ts with
    | nil=>rfl
    | cons t ts ih=>rw [map_cons,sum_cons,ih,Tr.szs];omega
   rw [em]
   refine ⟨_,ints_map _,?_⟩
   rw [es]
   walk_at "rd"
   rw [szt] at hq
   rw [show (1:Int) + (Tr.szs ts:Nat)=((1 + Tr.szs ts:Nat):Int) by omega]
   exact hq
noncomputable def qo:DSp:=fun xs q _=>∃ (t:Tr) (m R E:Int),xs=[t.d,.int m,.int R,.int E]/\t.pl=true/\t.ne=true/\0<=m/\1<=R/\R<=1000/\1<=E/\E<=1000/\t.sz<=1000/\∀ t':Tr,t'.pl=true->t'.sz<=t.sz + 2->t'.de<=t.de + 1->q t'.d
theorem uz {A:Adr}(T:Txt K mg A):ZE P w K mg base (CXE P w) 1 A.f_l_odd A.d_l_odd Je (spD K qo):=by
 haveI:TxC K A:=⟨⟨_,T⟩⟩
 refine T.L_l_odd.F.okJ Ia (fun xs q x h=>?_) (fun cdv Ar outer s H E hr=>⟨_,(Za (Zj (i:=4) Ia.nd rfl (Or.inl rfl) (Zm ZS (jv 1) Zd))
   (Za (Zz [] (ZU (Yc (Wd (K:=K) rfl) (by rfl) T.ZK PyProof.Rows.boot_isinstance (Zc (jv 0) (Zc (Xu (n := "int") (by rfl) T.b_int PyProof.Rows.boot_int) Zb)))) (Za (Zj (i:=5) Ia.nd rfl (Or.inl rfl) (WH (Zc (Zm SQ (Tj Zd) (Zm Zr (jv 4) Zd)) (Zc (Zm ZP (jv 3) (Zm Zr (jv 4) (Zm GB Zd Zd))) (Zc (Zm Zr (jv 4) (jv 3)) (Zc (Zm Zr (jv 4) (jv 3)) (Zc (ZL (Zc (Zm Zr (jv 4) (jv 2)) (Zc (ZL (Zc (jv 0) Zb)) Zb))) Zb)))))))
   (Ze (Zt [] (Zi (jv 5) (Zm Zr (jv 1) Zd))))) Zn)
   (Za (Zz [] (Zv (Xb hr.YW) (Zm Zr (jv 1) Zd) Zd (Zu _)) (Ze (Zt [] (Zm Zr (jv 4) (jv 3)))) Zn)
   (Za (Zz [] (Zv (Xb hr.YW) (Zm Zr (jv 1) Zd) Zd (Zu _)) (Ze (Zt [] (ZL (Zc (Zi (WH (Zc (Tj Zd) (Zc (jv 2) (Zc (Zm ZP (jv 2) (Zm Zr (jv 4) (Zm GB Zd Zd))) (Zc (Zm SQ (Tj Zd) (Zm Zr (jv 4) (jv 2))) Zb))))) (Zm Zr (jv 4) Zd)) (Zc (Zi (jv 0) Zd) Zb))))) Zn)
   (Za (Zz [] (Zv PJ (Zm Zr (jv 1) Zd) Zd (Zu _)) (Ze (Zt [] (ZL (Zc (Zm Zr (jv 4) (jv 2)) (Zc (Zi (jv 0) Zd) Zb))))) Zn)
   (Za (Zz [] (Zv (Xb hr.YW) (Zm Zr (jv 1) Zd) Zd (Zu _)) (Ze (Zt [] (ZL (Zc (Zi (jv 0) Zd) (Zc (HW (Zi (jv 0) Zd) (XY Zd) Vb) Zb))))) Zn)
   (Ze (Zt [] (ZL (Zc (Zi (jv 0) Zd) (Zc (Zm ZP (Zi (jv 0) Zd) (ZL (Zc (Zm Zr (jv 4) (jv 3)) Zb))) Zb))))))))))),fun xs q x h=>?_⟩)
 ·obtain ⟨t,m,R,E,rfl,_⟩:=h
  rfl
 ·obtain ⟨t,m,R,E,rfl,hp,hne,m0,r0,r1,e0,e1,hs,hq⟩:=h
  have hsz:aA=16777216:=rfl
  cases t with
  | lf d =>
   obtain ⟨i,rfl⟩:=Tr.NV hp
   have lf:∀ j:Int,q (.int j):=fun j=>by have:=hq (.lf (.int j)) rfl (by simp [Tr.sz]) (by simp [Tr.de]);rw [Hf] at this;exact this
   walk_at "rd"
   have nb:=mod_lt (n:=5) m (by decide)
   obtain ⟨d,hd,ed⟩:=XS (fun x:D=>x) [D.int (-1 - m / 30 % 3),D.int (E + RY (m / 30) (10 ^ Int.toNat 9)),D.int (RY (m / 30) E),D.int (RY (m / 30) E),D.tup [D.int (RY (m / 30) R),D.tup [D.int i]]] (i:=m % 5) nb.1 nb.2
   refine ⟨by decide,YZ (by decide) (by decide),by decide,⟨by decide,by decide,by decide⟩,by decide,by omega,by omega,by omega,by decide,by decide,by decide,by decide,d,ed,?_⟩
   simp only [mem_cons,not_mem_nil,or_false] at hd
   rcases hd with rfl | rfl | rfl | rfl | rfl
   ·exact lf _
   ·exact lf _
   ·exact lf _
   ·exact lf _
   ·have:=hq (.nd (RY (m / 30) R) [.lf (.int i)]) rfl (by simp [Tr.sz,Tr.szs]) (by simp [Tr.de,Tr.des])
    rw [Kt] at this
    exact this
  | nd k ts =>
   have hpk:Tr.pls ts=true:=by unfold Tr.pl at hp;exact hp
   have szt:(Tr.nd k ts).sz=1 + Tr.szs ts:=by rw [Tr.sz]
   have det:(Tr.nd k ts).de=1 + Tr.des ts:=by rw [Tr.de]
   have tl:=Tr.Rx ts
   have nd:∀ (j:Int) (us:List Tr),Tr.pls us=true->Tr.szs us<=Tr.szs ts + 1->Tr.des us<=Tr.des ts->q (.tup [.int j,.tup (us.map Tr.d)]):=fun j us h1 h2 h3=>by
    have:=hq (.nd j us) (by unfold Tr.pl;exact h1) (by rw [szt,Tr.sz];omega) (by rw [det,Tr.de];omega)
    rw [Kt] at this
    exact this
   have nd1:∀ j:Int,q (.tup [.int j,.tup (ts.map Tr.d)]):=fun j=>nd j ts hpk (by omega) (Nat.le_refl _)
   walk_at "rd"
   refine ⟨by decide,YZ (by decide) (by decide),by decide,XR (fun _=>⟨by omega,?_⟩) (fun _=>⟨by decide,XR (fun _=>?_) (fun _=>⟨by decide,XR (fun _=>⟨by omega,by decide,nd1 _⟩) (fun _=>⟨by decide,XR (fun _=>⟨by decide,?_⟩) (fun _=>?_)⟩)⟩)⟩)⟩
   ·have:=hq (.lf (.int (RY (m / 30) E))) rfl (by simp [Tr.sz]) (by simp [Tr.de])
    rw [Hf] at this
    exact this
   ·have nb:=mod_lt (n:=4) (m / 30) (by decide)
    obtain ⟨d,hd,ed⟩:=XS D.int [-1,R,R + RY (m / 30) (10 ^ Int.toNat 9),-1 - RY (m / 30) R] (i:=m / 30 % 4) nb.1 nb.2
    exact ⟨⟨by decide,by decide,by decide⟩,by decide,by omega,by decide,by decide,_,ed,by decide,nd1 _⟩
   ·rw [qm _ (by decide),<-List.map_drop,show Int.toNat 1=1 from rfl]
    have dz:=Tr.Pl (ts.take 1) (ts.drop 1)
    have dd:=Tr.Fz (ts.take 1) (ts.drop 1)
    have dp:=Tr.Fy (ts.take 1) (ts.drop 1)
    rw [List.take_append_drop] at dz dd dp
    rw [hpk] at dp
    exact nd _ _ (by have:=dp.symm;rw [aF] at this;exact this.2) (by omega) (by omega)
   ·refine ⟨by omega,by decide,fun z=>(Tr.pz hne).1 (List.map_eq_nil_iff.mp z),by omega,by decide,?_⟩
    have:=nd k (ts++[.lf (.int (RY (m / 30) E))]) (by rw [Tr.Fy,hpk];rfl) (by rw [Tr.Pl];simp [Tr.szs,Tr.sz]) (by rw [Tr.Fz];simp [Tr.des,Tr.de])
    rw [map_append,List.map_singleton,Hf] at this
    exact this
noncomputable def Dk:Nat->Mh
 | 0=>fun _ _ _=>False
 | n + 1=>fun xs μ q=>∃ (t:Tr) (a:Addr) (c m R E:Int),xs=[t.d,.rf a,.int m,.int R,.int E]/\μ=[(a,.lst [.int c])]/\t.pl=true/\t.ne=true/\0<=m/\1<=R/\R<=1000/\1<=E/\E<=1000/\t.sz<=300/\t.de<=n /\
  ∀ (t':Tr) (c':Int),t'.pl=true->t'.sz<=3 * t.sz->t'.de<=t.de + 1->q t'.d [(a,.lst [.int c'])]
theorem Tr.spl {ts us:List Tr}(hl:us.length=ts.length) (h:∀ (i:Nat) t u,ts[i]?=some t->us[i]?=some u->u.pl=true/\u.sz<=3 * t.sz/\u.de<=t.de + 1):Tr.pls us=true/\Tr.szs us<=3 * Tr.szs ts/\Tr.des us<=Tr.des ts + 1:=by
 induction us generalizing ts with
 | nil=>exact ⟨rfl,by simp [Tr.szs],by simp [Tr.des]⟩
 | cons u us ih =>
  cases ts with
  | nil=>cases hl
  | cons t ts =>
   obtain ⟨a1,a2,a3⟩:=h 0 t u rfl rfl
   obtain ⟨b1,b2,b3⟩:=ih (by simpa using hl) fun i t' u' h1 h2=>h (i + 1) t' u' h1 h2
   rw [Tr.pls,Tr.szs,Tr.szs,Tr.des,Tr.des,a1,b1]
   exact ⟨rfl,by omega,by omega⟩
def rd16:String:=rd15 ++ " Cv Ka"
local macro_rules | `(tactic| walk_at "rd") => rdM rd16
theorem FJ {A:Adr}(T:Txt K mg A):∀ n,ZE P w K mg base (CXE P w) (2 + n) A.Vp A.Qs Tc (spS K 1 (Dk n)):=by
 intro n
 induction n with
 | zero=>exact ZE.never fun vs H Q E h=>by first | (obtain ⟨_,_,_,_,_,_,_,_,_,h,_⟩:=h;exact h) | (obtain ⟨_,_,_,_,_,_,h,_⟩:=h;exact h)
 | succ n ih=>?_
 have QB:=ih
 rw [show 2 + (n + 1)=(2 + n) + 1 by omega]
 have G_l_odd:=uz (P:=P) (w:=w) (base:=base) T
 haveI:TxC K A:=⟨⟨_,T⟩⟩
 refine T.YT.F.okS Fi (fun xs μ q h=>?_) (fun cdv Ar outer s H E hr=>⟨_,(Za (Af [] 1 (jvS 1) Zd (Zm SQ (Ul 1 (jvS 1) Zd) Zd))
   (Za (Zz [] (Zv (Xb hr.YW) (Ul 1 (jvS 1) Zd) (Tj Zd) (Zu _)) (Ze (GY [] (Zg G_l_odd T.L_l_odd (hr.mono (by omega)) Zh (Zc (jv 0) (Zc (jv 2) (Zc (jv 3) (Zc (jv 4) Zb))))))) Zn)
   (Za (Zz [] (ZU (Yc (Wd (K:=K) rfl) (by rfl) T.ZK PyProof.Rows.boot_isinstance (Zc (jv 0) (Zc (Xu (n := "int") (by rfl) T.b_int PyProof.Rows.boot_int) Zb)))) (Ze (GY [] (jv 0))) Zn)
   (Ze (rM 1 (rN 1 (Zi (jv 0) Zd) (rO 1 (by rfl) T.b_tuple PyProof.Rows.boot_tuple (rP 1 1 ["_law_kid"] ["_law_left", "_law_spoil", "_law_rules_here", "_law_edges"] [1,2,3,4] (Yk (Zi (jv 0) Zd)) (fun _=>(Zk (i:=0) (show @Nodup Str ((["_law_kid"]:List Str)++(["_law_left", "_law_spoil", "_law_rules_here", "_law_edges"]:List Str)) by decide +kernel) rfl (Or.inl rfl) (Or.inr rfl))) (fun _=>(Zc (jv 0) (Zc (jv 1) (Zc (jv 2) (Zc (jv 3) (Zc (jv 4) Zb)))))) QB (hr.mono (by omega)) (fun _=>by rfl) T.YT.m T.YT.F.kp T.YT.a (fun _=>Vc))))))))),fun xs μ a q ha h=>?_⟩)
 ·obtain ⟨t,a',c,m,R,E,rfl,_⟩:=h
  rfl
 ·obtain ⟨t,a',c,m,R,E,rfl,rfl,hp,hne,m0,r0,r1,e0,e1,hs,hd,hq⟩:=h
  have ea:a'=a:=by simpa using ha
  subst ea
  have hsz:aA=16777216:=rfl
  have p1:=t.Ft
  walk_at "rd"
  refine XR (fun _=>⟨t,m,R,E,rfl,hp,hne,m0,r0,r1,e0,e1,by omega,fun t' a1 a2 a3=>hq t' _ a1 (by omega) a3⟩) (fun _=>?_)
  cases t with
  | lf d =>
   obtain ⟨i,rfl⟩:=Tr.NV hp
   have:=hq (.lf (.int i)) (c - 1) rfl (by omega) (by omega)
   rw [Hf] at this
   walk_at "rd"
   exact this
  | nd k ts =>
   have szt:(Tr.nd k ts).sz=1 + Tr.szs ts:=by rw [Tr.sz]
   have det:(Tr.nd k ts).de=1 + Tr.des ts:=by rw [Tr.de]
   have tl:=Tr.Rx ts
   have hpk:=Tr.EX hp
   obtain ⟨_,hnk⟩:=Tr.pz hne
   walk_at "rd"
   refine ql (f:=Tr.d) (fun t u=>u.pl=true/\u.sz<=3 * t.sz/\u.de<=t.de + 1) (fun μ=>∃ c:Int,μ=[(a',.lst [.int c])]) (fun t ht μ N hM hN=>?_) ⟨_,rfl⟩ (by simp;omega) (fun us μ' hl hP hM=>?_)
   ·obtain ⟨c2,rfl⟩:=hM
    have s1:=Tr.Jh ht
    have d1:=Tr.Ji ht
    obtain ⟨n',rfl⟩:∃ n',n=n' + 1:=⟨n - 1,by omega⟩
    walk_at "rd"
    exact ⟨⟨_,rfl⟩,t,a',c2,m,R,E,rfl,rfl,hpk t ht,hnk t ht,m0,r0,r1,e0,e1,by omega,by omega,fun t' c' b1 b2 b3=>hN t' _ ⟨b1,b2,b3⟩ ⟨c',rfl⟩⟩
   ·obtain ⟨c2,rfl⟩:=hM
    obtain ⟨b1,b2,b3⟩:=Tr.spl hl hP
    rw [List.nil_append]
    have:=hq (.nd k us) c2 (by unfold Tr.pl;exact b1) (by rw [szt,Tr.sz];omega) (by rw [det,Tr.de];omega)
    rw [Kt] at this
    exact this
theorem qp {rs:List Ru}{es:List Ed}{n:Int}{kd:Str}{ab pl:Int}{t:Tr}(hk:XM kd=true):ftE rs es n [(kd,ab,t)] pl=if (ftT rs es kd ab pl t).1 ≠ "" then (ftT rs es kd ab pl t).1 else if (ftT rs es kd ab pl t).2=n then ("" : Str) else ("end" : Str):=by
 have e:ftU rs es (kd,ab,t) pl=ftT rs es kd ab pl t:=by unfold ftU;rw [if_pos hk]
 unfold ftE
 rw [ftW,e]
 by_cases h:(ftT rs es kd ab pl t).1 ≠ ""
 ·rw [if_pos h,if_pos h]
 ·rw [if_neg h,if_neg h,ftW,if_neg (fun z=>z rfl)]
theorem nZ {A:Adr}(T:Txt K mg A):ZE P w K mg base (CXE P w) 53 A.f_law A.d_law vN (spD K gLaw):=by
 have Dl:=FC (P:=P) (w:=w) (base:=base) T
 have G_l_mix:=Vq (P:=P) (w:=w) (base:=base) T
 have MU:=Bg (P:=P) (w:=w) (base:=base) T 50
 have FK:=Hk (P:=P) (w:=w) (base:=base) T
 have G_l_at:=Th (P:=P) (w:=w) (base:=base) T
 have QB:=FJ (P:=P) (w:=w) (base:=base) T 45
 have Dm:=Fw (P:=P) (w:=w) (base:=base) T
 have IA:=Ku (P:=P) (w:=w) (base:=base) T
 have Iz:=yy (P:=P) (w:=w) (base:=base) T 45
 haveI:TxC K A:=⟨⟨_,T⟩⟩
 refine T.L_law.F.okJ XQ (fun xs q x h=>?_) (fun cdv Ar outer s H E hr=>⟨_,(Za (Zj (i:=1) XQ.nd rfl (Or.inl rfl) (WH (Zc (Zm ZP Zd (Zm Zr (Zg G_l_mix T.L_l_mix (hr.mono (by decide)) Zh (Zc (Zg G_l_at T.L_l_at (hr.mono (by decide)) Zh (Zc (jv 0) (Zc Zd Zb))) (Zc Zd Zb))) Zd)) (Zc (Zm ZP Zd (Zm Zr (Zg G_l_mix T.L_l_mix (hr.mono (by decide)) Zh (Zc (Zg G_l_at T.L_l_at (hr.mono (by decide)) Zh (Zc (jv 0) (Zc Zd Zb))) (Zc Zd Zb))) Zd)) Zb))))
   (Za (JD (Zg Dl T.Tf (hr.mono (by decide)) Zh (Zc (jv 0) (Zc (jv 1) Zb))) (SR (n:=5) (ZM (Zk (i:=2) XQ.nd rfl (Or.inl rfl)) (ZM (Zk (i:=3) XQ.nd rfl (Or.inl rfl)) (ZM (Zk (i:=4) XQ.nd rfl (Or.inl rfl)) (ZM (Zk (i:=5) XQ.nd rfl (Or.inl rfl)) (ZM (Zk (i:=6) XQ.nd rfl (Or.inl rfl)) VH)))))))
   (Za (Zj (i:=7) XQ.nd rfl (Or.inl rfl) (Zg G_l_mix T.L_l_mix (hr.mono (by decide)) Zh (Zc (Zg G_l_at T.L_l_at (hr.mono (by decide)) Zh (Zc (jv 0) (Zc Zd Zb))) (Zc Zd Zb))))
   (Za (Zj (i:=8) XQ.nd rfl (Or.inl rfl) (Zi (jv 6) (Zm Zr (jv 7) Zd)))
   (Za (Xr (Zz [] (Zv El (Zm Zr (Zm ZS (jv 7) Zd) Zd) Zd (Zu _)) (Za (rz [] (i:=9) XQ.nd rfl (Or.inl rfl) (We (Zc (Zm Zr (Zm ZS (jv 7) Zd) (Zg Iz T.Qu (hr.mono (by decide)) Zh (Zc (jv 8) Zb))) Zb)))
   (Ze (vG (i:=8) 1 9 QB (hr.mono (by decide)) (by rfl) T.YT.m T.YT.F.kp T.YT.a Zh (Zc (jv 8) (Zc (jvS 9) (Zc (Zg G_l_mix T.L_l_mix (hr.mono (by decide)) Zh (Zc (Zg G_l_at T.L_l_at (hr.mono (by decide)) Zh (Zc (jv 0) (Zc Zd Zb))) (Zc Zd Zb))) (Zc (Yc ZJ (by rfl) T.b_len PySem.boot_len (Zc (jv 3) Zb)) (Zc (Yc ZJ (by rfl) T.b_len PySem.boot_len (Zc (jv 5) Zb)) Zb))))) XQ.nd rfl (Or.inl rfl)))) Zn))
   (Za (Xr (Zz [] (Zv (Xb hr.YW) (Zm Zr (Zm ZS (jv 7) Zd) Zd) Zd (Zu _)) (Ze (Zj (i:=4) XQ.nd rfl (Or.inl rfl) (Zm ZP (jv 4) Zd))) Zn))
   (Za (JD (Zg MU T.Sv (hr.mono (by decide)) Zh (Zc (jv 3) (Zc (jv 5) (Zc (jv 8) (Zc (Zi (Zi (jv 3) Zd) Zd) (Zc (Tj Zd) (Zc Zd Zb))))))) (SR (n:=2) (ZM (Zk (i:=10) XQ.nd rfl (Or.inl rfl)) (ZM (Zk (i:=11) XQ.nd rfl (Or.inl rfl)) VH))))
   (Za (Xr (Zz [] (RX (Oa (Zv (Xb hr.YW) (jv 10) ZQ (Zu _)) (SL (Zv (Ue hr.YW) (jv 11) (jv 4) (Zu _))))) (Ze (Zj (i:=10) XQ.nd rfl (Or.inl rfl) ZQ)) Zn))
   (Za (Zj (i:=12) XQ.nd rfl (Or.inl rfl) (Zg FK T.VP (hr.mono (by decide)) Zh (Zc (Zg Dm T.Tg (hr.mono (by decide)) Zh (Zc (jv 2) (Zc (jv 3) Zb))) (Zc (GN (dvs:=[]) (dds:=[]) T.mk_Net IA (hr.mono (by decide)) (by rfl) T.M_Net T.Xg .nil (fun _=>rfl) Zh (Zc (jv 4) (Zc (UW BK (by rfl) T.b_list PyProof.Rows.boot_list (Zc (jv 5) Zb)) Zb))) (Zc (jv 8) Zb)))))
   (Ze (Zt [] (Ob (Yc (Wd (K:=K) rfl) (by rfl) T.ZK PyProof.Rows.boot_isinstance (Zc (jv 12) (Zc (Xu (n := "str") (by rfl) T.b_str PyProof.Rows.boot_str) Zb))) (SM (WD (Xb hr.YW) (jv 12) (jv 10) (Zu _))))))))))))))),fun xs q x h=>?_⟩)
 ·obtain ⟨ns,rfl,_⟩:=h
  rfl
 ·obtain ⟨ns,rfl,hl,hq⟩:=h
  have hsz:aA=16777216:=rfl
  walk_at "rd"
  have b1:=mod_lt (n:=9) (mix (atZ ns 20) 20) (by decide)
  have b2:=mod_lt (n:=9) (mix (atZ ns 19) 19) (by decide)
  refine ⟨by decide,by decide,by decide,by decide,by decide,by decide,by decide,by decide,by decide,?_⟩
  refine ⟨ns,[1 + mix (atZ ns 20) 20 % 9,1 + mix (atZ ns 19) 19 % 9],rfl,rfl,fun r hr=>?_,fun sc kinds words rs n es ts hsc hR n1 n10 el hE tl hT=>?_⟩
  ·simp only [mem_cons,not_mem_nil,or_false] at hr
   omega
  walk_at "rd"
  have nb:=mod_lt (n:=2) (mix (atZ ns 18) 18) (by decide)
  obtain ⟨t,ht,et⟩:=XS Tr.d ts (i:=mix (atZ ns 18) 18 % 2) nb.1 (by rw [tl];exact nb.2)
  generalize mix (atZ ns 18) 18=sh at et
  refine ⟨by decide,by decide,by decide,by decide,_,et,?_⟩
  have h:=hT t ht
  have hs:=h.sz
  have hde:=h.de
  have p1:=t.Ft
  have rl:=hR.len
  obtain ⟨r0,hr0,run⟩:=h.run
  have R0:=hR.row r0 (mem_of_getElem? hr0)
  have hG:=hR.good R0.hd hsc
  have hkd:=hR.kd _ R0.hd
  have hnm:=UD (EZ hkd)
  have r1:1<=rs.length:=by have:=hR.nk;have:=hR.k1;omega
  have hne:=run.ne (fun r hr=>(hR.row r hr).p1) _ (mem_singleton.mpr rfl)
  refine ⟨fun ds'=>∃ (t':Tr) (s9:L2.Slot),ds'=[.v (.scr (ns.map .int)),.v (.lst [.int (1 + mix (atZ ns 20) 20 % 9),.int (1 + mix (atZ ns 19) 19 % 9)]),.v (.str sc),.v (.lst (rs.map Xk)),.v (.int n),.v (.lst (es.map edD)),.v (.lst (ts.map Tr.d)),.v (.int sh),.v t'.d,s9,.un,.un,.un]/\t'.pl=true/\t'.sz<=201/\t'.de<=41,?_,?_⟩
  ·walk_at "rd"
   refine ⟨by decide,YZ (by decide) (by decide),by decide,XR (fun _=>?_) (fun _=>⟨t,rfl,h.pl,by omega,by omega⟩)⟩
   refine ⟨by decide,YZ (by decide) (by decide),t,rfl,h.pl,by show t.de<=44;omega,by omega,?_⟩
   walk_at "rd"
   exact ⟨by omega,by decide,fun a=>⟨by decide,by decide,by decide,⟨_,rfl⟩,t,a,_,_,_,_,rfl,rfl,h.pl,hne,Rt _ _,by omega,by omega,by omega,by omega,by omega,by show t.de<=44;omega,fun t' c' a1 a2 a3=>⟨t',rfl,a1,by omega,by omega⟩⟩⟩
  rintro _ ⟨t',s9,rfl,tp,ts',td⟩
  walk_at "rd"
  refine ⟨fun ds'=>∃ np:Nat,ds'=[.v (.scr (ns.map .int)),.v (.lst [.int (1 + mix (atZ ns 20) 20 % 9),.int (1 + mix (atZ ns 19) 19 % 9)]),.v (.str sc),.v (.lst (rs.map Xk)),.v (.int np),.v (.lst (es.map edD)),.v (.lst (ts.map Tr.d)),.v (.int sh),.v t'.d,s9,.un,.un,.un]/\n<=np/\np<=n + 1,?_,?_⟩
  ·walk_at "rd"
   exact ⟨by decide,YZ (by decide) (by decide),by decide,XR (fun _=>⟨n + 1,by omega,by omega,by omega⟩) (fun _=>⟨n,rfl,by omega,by omega⟩)⟩
  rintro _ ⟨np,rfl,q1,q2⟩
  walk_at "rd"
  refine ⟨_,Vy hr0,?_⟩
  walk_at "rd"
  refine ⟨sc,kinds,words,rs,es,t',r0.hd,-1,0,rfl,hR,tp,.inl rfl,by show t'.de<=49;omega,by omega,?_⟩
  walk_at "rd"
  refine ⟨fun ds'=>ds'=[.v (.scr (ns.map .int)),.v (.lst [.int (1 + mix (atZ ns 20) 20 % 9),.int (1 + mix (atZ ns 19) 19 % 9)]),.v (.str sc),.v (.lst (rs.map Xk)),.v (.int np),.v (.lst (es.map edD)),.v (.lst (ts.map Tr.d)),.v (.int sh),.v t'.d,s9,.v (.str (ftE rs es np [(r0.hd,-1,t')] 0)),.v (.int (ftT rs es r0.hd (-1) 0 t').2),.un],?_,?_⟩
  ·rw [qp hkd]
   walk_at "rd"
   refine XR (fun e1=>Ox (fun e2=>?_) (fun e2=>?_)) (fun e1=>by rw [if_pos e1])
   ·rw [if_neg (fun z=>z e1),if_neg e2]
   ·rw [if_neg (fun z=>z e1),if_pos e2,e1]
  rintro _ rfl
  walk_at "rd"
  refine ⟨sc,rs,r0,rfl,hsc,hr0,hG,?_⟩
  walk_at "rd"
  refine ⟨np,es,rfl,by omega,by omega,fun e he=>⟨(hE e he).a0,(hE e he).ab,by have:=(hE e he).bn;omega,hR.wd _ (hE e he).w⟩,?_⟩
  refine ⟨sc,r0.hd,rs,np,es,t',rfl,by omega,hG.fit,tp,by omega,?_⟩
  walk_at "rd"
  exact hq
end
theorem all_mk {l:PySem.W.OpenLaw}{w:World}{K:aj}{h:Heap}{mg:Str->Option Value}{fa:Addr}(X:K.In h) (G:h.Ns mainGlobals mg) (hfa:mg "law" = some (.ref fa))
  {VV:Addr}
  {TZ:Addr}
  {WM:Addr}
  {C_Twice:Addr}
  {WN:Addr}
  {Sa:Addr}
  {C_Ring:Addr}
  {C_NoNet:Addr}
  {C_Cost:Addr}
  {Ys:Addr}
  {C_Rule:Addr}
  {ZG:Addr}
  {C_Net:Addr}
  {ZO:Addr}{MV MX:Option Addr}{MY:Array (Option Value)}{MZ La Lb Lc Sz Ld:Value}
  {ZD:Addr}{Pw Px:Option Addr}{Py:Array (Option Value)}{Pz PB PC PD VF PF:Value}
  {ZZ:Addr}{Kw Kx:Option Addr}{Ky:Array (Option Value)}{Kz KA KB KC RU KD:Value}
  {Yy:Addr}{Hm Hn:Option Addr}{Ho:Array (Option Value)}{Hq Hr Hs Ht PN Hu:Value}
  {Yg:Addr}{KG KH:Option Addr}{KJ:Array (Option Value)}{KL KM KN KO RV KP:Value}
  {Uu:Addr}
  {Xz:Addr}
  {Sb:Addr}
  {Sd:Addr}
  {Se:Addr}
  {Vl:Addr}
  {Wr:Addr}
  {ZV:Addr}
  {Yt:Addr}
  {XU:Addr}
  {XW:Addr}
  {Xe:Addr}
  {Vm:Addr}
  {Ws:Addr}
  {Wt:Addr}
  {Wu:Addr}
  {XX:Addr}
  {Uw:Addr}
  {Sf:Addr}
  {f_l_at:Addr}
  {f_l_mix:Addr}
  {Sg:Addr}
  {Sh:Addr}
  {Si:Addr}
  {Ux:Addr}
  {Uy:Addr}
  {Uz:Addr}
  {Sl:Addr}
  {Sn:Addr}
  {UA:Addr}
  {Sq:Addr}
  {Qp:Addr}
  {f_l_set:Addr}
  {Vn:Addr}
  {Vo:Addr}
  {Sr:Addr}
  {f_l_odd:Addr}
  {Vp:Addr}
  {Qt:Addr}
  {f_law:Addr}{od_law an_law:Option Addr}{sl_law:Array (Option Value)}{oc_law kV_law dc_law pm_law cd_law ct_law:Value}
  (aC_Cost:PySem.W.nsIn K mainGlobals "Cost" = some (some (.ref C_Cost))) (pg_Cost:plainGet K C_Cost Str.empty=true) (hd_Cost:hasDictIn K C_Cost=true) (po_Cost:plainOver K C_Cost=true) (sa_Cost:findIn K (.ref C_Cost) "__setattr__" = some (some (.builtin "object.__setattr__"))) (mk_Cost:makesIn K C_Cost=true) (in_Cost:findIn K (.ref C_Cost) "__init__" = some (some (.builtin "object.__init__"))) (kc_Cost:keepIn K (.ref C_Cost)=true)
  (Le:PySem.W.nsIn K mainGlobals "Chance" = some (some (.ref Ys))) (Lg:plainGet K Ys Str.empty=true) (Lh:hasDictIn K Ys=true) (Li:plainOver K Ys=true) (Lj:findIn K (.ref Ys) "__setattr__" = some (some (.builtin "object.__setattr__"))) (Ss:makesIn K Ys=true) (Lk:findIn K (.ref Ys) "__init__" = some (some (.builtin "object.__init__"))) (Ln:keepIn K (.ref Ys)=true)
  (aC_Rule:PySem.W.nsIn K mainGlobals "Rule" = some (some (.ref C_Rule))) (pg_Rule:plainGet K C_Rule Str.empty=true) (hd_Rule:hasDictIn K C_Rule=true) (po_Rule:plainOver K C_Rule=true) (sa_Rule:findIn K (.ref C_Rule) "__setattr__" = some (some (.builtin "object.__setattr__"))) (mk_Rule:makesIn K C_Rule=true) (kc_Rule:keepIn K (.ref C_Rule)=true) (Tw:findIn K (.ref C_Rule) "title" = some none) (RA:findIn K (.ref C_Rule) "head" = some none) (Tx:findIn K (.ref C_Rule) "parts" = some none) (UI:findIn K (.ref C_Rule) "weight" = some none) (QC:findIn K (.ref C_Rule) "tag" = some none) (Tz:findIn K (.ref C_Rule) "under" = some none)
  (OJ:PySem.W.nsIn K mainGlobals "Grammar" = some (some (.ref ZG))) (OL:plainGet K ZG Str.empty=true) (OM:hasDictIn K ZG=true) (OO:plainOver K ZG=true) (OQ:findIn K (.ref ZG) "__setattr__" = some (some (.builtin "object.__setattr__"))) (UB:makesIn K ZG=true) (OS:keepIn K (.ref ZG)=true) (WV:findIn K (.ref ZG) "scale" = some none) (WW:findIn K (.ref ZG) "start" = some none) (WX:findIn K (.ref ZG) "rules" = some none)
  (aC_Net:PySem.W.nsIn K mainGlobals "Net" = some (some (.ref C_Net))) (pg_Net:plainGet K C_Net Str.empty=true) (hd_Net:hasDictIn K C_Net=true) (po_Net:plainOver K C_Net=true) (sa_Net:findIn K (.ref C_Net) "__setattr__" = some (some (.builtin "object.__setattr__"))) (mk_Net:makesIn K C_Net=true) (kc_Net:keepIn K (.ref C_Net)=true) (TC:findIn K (.ref C_Net) "places" = some none) (RB:findIn K (.ref C_Net) "edges" = some none)
  (OT:ExK K "NoScale" VV)
  (Lp:ExK K "NoRule" TZ)
  (QD:ExK K "NoWeight" WM)
  (xk_Twice:ExK K "Twice" C_Twice)
  (OU:ExK K "NoTitle" WN)
  (Lq:ExK K "NoKind" Sa)
  (xk_Ring:ExK K "Ring" C_Ring)
  (xk_NoNet:ExK K "NoNet" C_NoNet)
  {WY:Addr}{Lr:Option Addr}{dn_Rule___init__:Nat}{dsl_Rule___init__:Array (Option Value)}{Yn:Tok}
  (YN:findIn K (.ref C_Rule) "__init__" = some (some (.ref ZO))) (Wb:isFn K (.ref ZO)=true) (Vz:K.lookup ZO=some ⟨MZ,MV,.func (PySem.W.fnOf "__init__" "Rule.__init__" (Xh YK) (Yd YK) (Zf YK) (.ref WY) La Lb Lc MX Sz Ld),MY⟩) (VA:PySem.W.codeIn K Sz "Rule.__init__" = true) (Wc:keepIn K (.ref ZO)=true)
  (WZ:K.lookup WY=some ⟨.type "tuple",Lr,.seq ([.str "" Yn,.none]:List Value).toArray dn_Rule___init__,dsl_Rule___init__⟩)
  (Yo:findIn K (.ref ZG) "__init__" = some (some (.ref ZD))) (Xl:isFn K (.ref ZD)=true) (Wi:K.lookup ZD=some ⟨Pz,Pw,.func (PySem.W.fnOf "__init__" "Grammar.__init__" (Xh Yl) (Yd Yl) (Zf Yl) .none PB PC PD Px VF PF),Py⟩) (Wj:PySem.W.codeIn K VF "Grammar.__init__" = true) (Xm:keepIn K (.ref ZD)=true)
  (Xg:findIn K (.ref C_Net) "__init__" = some (some (.ref ZZ))) (Wz:isFn K (.ref ZZ)=true) (UJ:K.lookup ZZ=some ⟨Kz,Kw,.func (PySem.W.fnOf "__init__" "Net.__init__" (Xh Xc) (Yd Xc) (Zf Xc) .none KA KB KC Kx RU KD),Ky⟩) (UK:PySem.W.codeIn K RU "Net.__init__" = true) (WB:keepIn K (.ref ZZ)=true)
  (Ww:findIn K (.ref C_Cost) "takes" = some (some (.ref Yy))) (RC:isFn K (.ref Yy)=true) (RD:K.lookup Yy=some ⟨Hq,Hm,.func (PySem.W.fnOf "takes" "Cost.takes" (Xh XG) (Yd XG) (Zf XG) .none Hr Hs Ht Hn PN Hu),Ho⟩) (RE:PySem.W.codeIn K PN "Cost.takes" = true) (VU:keepIn K (.ref Yy)=true)
  (XC:findIn K (.ref Ys) "takes" = some (some (.ref Yg))) (UL:isFn K (.ref Yg)=true) (UM:K.lookup Yg=some ⟨KL,KG,.func (PySem.W.fnOf "takes" "Chance.takes" (Xh Xd) (Yd Xd) (Zf Xd) .none KM KN KO KH RV KP),KJ⟩) (UN:PySem.W.codeIn K RV "Chance.takes" = true) (WC:keepIn K (.ref Yg)=true)
  (OV:LkB K "scale_of" Og SX Uu)
  (UO:LkB K "is_name_sign" Um Wq Xz)
  (Ls:LkB K "is_name" Ml QN Sb)
  (Lw:LkB K "is_kind" Mm QO Sd)
  (Lx:LkB K "is_word" Mo QP Se)
  (QF:LkB K "are_parts" Qh UY Vl)
  (RG:LkB K "are_titles" SY VI Wr)
  (YG:LkB K "check_weights_and_titles" YC Ye ZV)
  (XD:LkB K "check_titles_under" Xy YR Yt)
  (TF:LkB K "check_kinds" Tn Vd XU)
  (TH:LkB K "check_rings" Tp Ve XW)
  (Va:LkB K "heads_in_order" WL XH Xe)
  (QG:LkB K "may_stand" Qj UZ Vm)
  (RH:LkB K "tree_fault" Ra VJ Ws)
  (RJ:LkB K "rule_fault" Rb VL Wt)
  (RK:LkB K "edge_fault" Rc VM Wu)
  (TJ:LkB K "seated_kids" Ts Vf XX)
  (OW:LkB K "is_whole" Oh Re Uw)
  (Ly:LkB K "is_edge" Mp QQ Sf)
  (h_l_at:LkB K "_law_at" CA Fe f_l_at)
  (h_l_mix:LkB K "_law_mix" Ff Jc f_l_mix)
  (Lz:LkB K "_law_names" Mq QR Sg)
  (LA:LkB K "_law_kinds" Mr QT Sh)
  (LD:LkB K "_law_words" Ms QU Si)
  (OX:LkB K "_law_titles" Oi Rf Ux)
  (OY:LkB K "_law_lowest" Oj Rg Uy)
  (OZ:LkB K "_law_weight" Ol Rh Uz)
  (LI:LkB K "_law_parts" Mt QV Sl)
  (LJ:LkB K "_law_rules" Mv QW Sn)
  (Nb:LkB K "_law_stands" Om Ri UA)
  (LK:LkB K "_law_grown" Mw QX Sq)
  (IB:LkB K "_law_laid" JY Nw Qp)
  (h_l_set:LkB K "_law_set" Fg Jd f_l_set)
  (QH:LkB K "_law_setting" Qk Ta Vn)
  (QI:LkB K "_law_grammar" Ql Tb Vo)
  (LL:LkB K "_law_fault" Mx QY Sr)
  (h_l_odd:LkB K "_law_odd" Fh Je f_l_odd)
  (QJ:LkB K "_law_spoiled" Qm Tc Vp)
  (IC:LkB K "_law_size" Ib Nz Qt)
  (a_law:PySem.W.nsIn K mainGlobals "law" = some (some (.ref f_law))) (l_law:K.lookup f_law=some ⟨oc_law,od_law,.func (PySem.W.fnOf "law" "law" (Xh NB) (Yd NB) (Zf NB) .none kV_law dc_law pm_law an_law cd_law ct_law),sl_law⟩) (c_law:PySem.W.codeIn K cd_law "law" = true) (k_law:keepIn K (.ref f_law)=true)
  {KQ:Tok}(VB:PySem.W.nsIn K mainGlobals "SMALL_LETTERS" = some (some (.str Yi KQ)))
  {KR:Tok}(VC:PySem.W.nsIn K mainGlobals "GREAT_LETTERS" = some (some (.str ZC KR)))
  {yz:Tok}(LN:PySem.W.nsIn K mainGlobals "FIGURES" = some (some (.str Wm yz)))
  {IE:Tok}(UQ:PySem.W.nsIn K mainGlobals "LONGEST_NAME" = some (some (.int 12 IE)))
  {FL:Tok}(RL:PySem.W.nsIn K mainGlobals "MOST_PARTS" = some (some (.int 4 FL)))
  (z_tuple:PySem.W.nsIn K mainGlobals "tuple" = some none) (HR:PySem.W.nsIn K mainGlobals "all" = some none) (RM:PySem.W.nsIn K mainGlobals "isinstance" = some none) (Ez:PySem.W.nsIn K mainGlobals "str" = some none) (z_len:PySem.W.nsIn K mainGlobals "len" = some none) (z_list:PySem.W.nsIn K mainGlobals "list" = some none) (z_set:PySem.W.nsIn K mainGlobals "set" = some none) (z_dict:PySem.W.nsIn K mainGlobals "dict" = some none) (z_zip:PySem.W.nsIn K mainGlobals "zip" = some none) (Ey:PySem.W.nsIn K mainGlobals "int" = some none) (z_bool:PySem.W.nsIn K mainGlobals "bool" = some none) (z_range:PySem.W.nsIn K mainGlobals "range" = some none) (Ew:PySem.W.nsIn K mainGlobals "abs" = some none) (Ex:PySem.W.nsIn K mainGlobals "max" = some none) (Ai:PySem.W.nsIn K mainGlobals "sum" = some none) :
  ∃ fd:FuncData,(∀ (s:Shared) (v:Value),BindsTo s fd ⟨[v],[]⟩ [("_law_script",v)])/\∀ base:Heap,K.In base->base.Ns mainGlobals mg->ZE l.prog w K mg base CX0 53 fa fd ["_law_script"] (BZ K):=by
 have e:=hfa.symm.trans (mg_of X G a_law)
 cases e
 have YM:Eb K "__init__" "Rule.__init__" YK ZO _ [.str "" Yn,.none]:=⟨⟨_,_,_,_,_,_,_,_,_,WY,_,_,rfl,Vz,VA,WZ,rfl⟩,Wc⟩
 have KU:=YM.binds (ps:=["self", "title", "head", "parts", "weight", "tag", "under"]) (ds':=[]) fun D o n kV doc pm an cdv ct s us hD ho hl=>match us,(show us.length=7 by simpa using hl) with | [_,_,_,_,_,_,_],_=>BindsTo.of_defaults rfl hD ho rfl rfl
 have LQ:=YM.binds (ps:=["self", "title", "head", "parts", "weight", "tag", "under"]) (ds':=[.none]) fun D o n kV doc pm an cdv ct s us hD ho hl=>match us,(show us.length=6 by simpa using hl) with | [_,_,_,_,_,_],_=>BindsTo.of_defaults rfl hD ho rfl rfl
 have LR:=YM.binds (ps:=["self", "title", "head", "parts", "weight", "tag", "under"]) (ds':=[.str "" Yn,.none]) fun D o n kV doc pm an cdv ct s us hD ho hl=>match us,(show us.length=5 by simpa using hl) with | [_,_,_,_,_],_=>BindsTo.of_defaults rfl hD ho rfl rfl
 have Xj:=PV (st:=Yl) Wi Wj Xm
 have Nf:=Xj.binds (ps:=["self", "scale", "start", "rules"]) fun _ _ _ _ _ _=>us4 fun _ _ _ _=>rfl
 have Wv:=PV (st:=Xc) UJ UK WB
 have IG:=Wv.binds (ps:=["self", "places", "edges"]) fun _ _ _ _ _ _=>us3 fun _ _ _=>rfl
 have VN:=PV (st:=XG) RD RE VU
 have FM:=VN.binds (ps:=["self", "weight"]) fun _ _ _ _ _ _=>us2 fun _ _=>rfl
 have Wx:=PV (st:=Xd) UM UN WC
 have II:=Wx.binds (ps:=["self", "weight"]) fun _ _ _ _ _ _=>us2 fun _ _=>rfl
 obtain ⟨Oo,Ro⟩:=OV.get X G
 obtain ⟨Uv,Wy⟩:=UO.get X G
 obtain ⟨Mz,VW⟩:=Ls.get X G
 obtain ⟨MB,VX⟩:=Lw.get X G
 obtain ⟨MC,WR⟩:=Lx.get X G
 obtain ⟨Qn,Td⟩:=QF.get X G
 obtain ⟨Rk,VO⟩:=RG.get X G
 obtain ⟨YD,Yh⟩:=YG.get X G
 obtain ⟨XA,YS⟩:=XD.get X G
 obtain ⟨Tt,Vg⟩:=TF.get X G
 obtain ⟨Tu,Vh⟩:=TH.get X G
 obtain ⟨WO,XI⟩:=Va.get X G
 obtain ⟨Qo,Te⟩:=QG.get X G
 obtain ⟨Rl,VP⟩:=RH.get X G
 obtain ⟨Rm,VQ⟩:=RJ.get X G
 obtain ⟨Rn,VR⟩:=RK.get X G
 obtain ⟨Tv,Vi⟩:=TJ.get X G
 obtain ⟨Oq,WT⟩:=OW.get X G
 obtain ⟨MD,QZ⟩:=Ly.get X G
 obtain ⟨d_l_at,L_l_at⟩:=h_l_at.get X G
 obtain ⟨d_l_mix,L_l_mix⟩:=h_l_mix.get X G
 obtain ⟨ME,VY⟩:=Lz.get X G
 obtain ⟨MF,Pa⟩:=LA.get X G
 obtain ⟨MG,Pb⟩:=LD.get X G
 obtain ⟨Ot,Rq⟩:=OX.get X G
 obtain ⟨Ou,Rr⟩:=OY.get X G
 obtain ⟨Ov,WU⟩:=OZ.get X G
 obtain ⟨MH,Pg⟩:=LI.get X G
 obtain ⟨MI,Ph⟩:=LJ.get X G
 obtain ⟨Ow,UC⟩:=Nb.get X G
 obtain ⟨MJ,XJ⟩:=LK.get X G
 obtain ⟨Ic,NQ⟩:=IB.get X G
 obtain ⟨d_l_set,L_l_set⟩:=h_l_set.get X G
 obtain ⟨Qq,Tf⟩:=QH.get X G
 obtain ⟨Qr,Tg⟩:=QI.get X G
 obtain ⟨MK,Sv⟩:=LL.get X G
 obtain ⟨d_l_odd,L_l_odd⟩:=h_l_odd.get X G
 obtain ⟨Qs,YT⟩:=QJ.get X G
 obtain ⟨Ie,Qu⟩:=IC.get X G
 have F_law:=PV (st:=NB) l_law c_law k_law
 have b_law:=F_law.binds (ps:=["_law_script"]) fun _ _ _ _ _ _=>us1 fun _=>rfl
 have T:Txt K mg ⟨VV,TZ,WM,C_Twice,WN,Sa,C_Ring,C_NoNet,C_Cost,Ys,C_Rule,ZG,C_Net,ZO,_,ZD,_,ZZ,_,Yy,_,Yg,_,Uu,_,Xz,_,Sb,_,Sd,_,Se,_,Vl,_,Wr,_,ZV,_,Yt,_,XU,_,XW,_,Xe,_,Vm,_,Ws,_,Wt,_,Wu,_,XX,_,Uw,_,Sf,_,f_l_at,_,f_l_mix,_,Sg,_,Sh,_,Si,_,Ux,_,Uy,_,Uz,_,Sl,_,Sn,_,UA,_,Sq,_,Qp,_,f_l_set,_,Vn,_,Vo,_,Sr,_,f_l_odd,_,Vp,_,Qt,_,fa,_,Yn⟩:=⟨⟨pg_Cost,hd_Cost,po_Cost,sa_Cost⟩,mg_of X G aC_Cost,⟨mk_Cost,in_Cost,kc_Cost⟩,⟨Lg,Lh,Li,Lj⟩,mg_of X G Le,⟨Ss,Lk,Ln⟩,⟨pg_Rule,hd_Rule,po_Rule,sa_Rule⟩,mg_of X G aC_Rule,⟨mk_Rule,YN,Wb,kc_Rule⟩,Tw,RA,Tx,UI,QC,Tz,⟨OL,OM,OO,OQ⟩,mg_of X G OJ,⟨UB,Yo,Xl,OS⟩,WV,WW,WX,⟨pg_Net,hd_Net,po_Net,sa_Net⟩,mg_of X G aC_Net,⟨mk_Net,Xg,Wz,kc_Net⟩,TC,RB,OT.get X G,Lp.get X G,QD.get X G,xk_Twice.get X G,OU.get X G,Lq.get X G,xk_Ring.get X G,xk_NoNet.get X G,YM,LQ,LR,⟨YN,Wb,Wc⟩,KU,Xj,⟨Yo,Xl,Xm⟩,Nf,Wv,⟨Xg,Wz,WB⟩,IG,VN,⟨Ww,RC,VU⟩,FM,Wx,⟨XC,UL,WC⟩,II,Ro,Wy,VW,VX,WR,Td,VO,Yh,YS,Vg,Vh,XI,Te,VP,VQ,VR,Vi,WT,QZ,L_l_at,L_l_mix,VY,Pa,Pb,Rq,Rr,WU,Pg,Ph,UC,XJ,NQ,L_l_set,Tf,Tg,Sv,L_l_odd,YT,Qu,⟨F_law,mg_of X G a_law,b_law⟩,⟨_,mg_of X G VB⟩,⟨_,mg_of X G VC⟩,⟨_,mg_of X G LN⟩,⟨_,mg_of X G UQ⟩,⟨_,mg_of X G RL⟩,mg_none_of X G z_tuple,mg_none_of X G HR,mg_none_of X G RM,mg_none_of X G Ez,mg_none_of X G z_len,mg_none_of X G z_list,mg_none_of X G z_set,mg_none_of X G z_dict,mg_none_of X G z_zip,mg_none_of X G Ey,mg_none_of X G z_bool,mg_none_of X G z_range,mg_none_of X G Ew,mg_none_of X G Ex,mg_none_of X G Ai⟩
 exact ⟨PySem.W.fnOf "law" "law" (Xh NB) (Yd NB) (Zf NB) .none kV_law dc_law pm_law an_law cd_law ct_law,fun s v => .of_eq rfl,fun base _ _=>(nZ T).law⟩
theorem walk {l:PySem.W.OpenLaw}{q:Program}{loose:List Str}{XP:(Str->Option Value)->Heap->Prop}{YP:World->Heap->Prop}{d:DefRec}{K:Params->aj}(hn:l.most=some 63) (hdf:d.params.defaults=[])
  (hY:∀ (w:World) (h:Heap),YP w h->(K w.params).In h)
  (F:∀ (w:World) (mg:Str->Option Value) (fa:Addr) (h:Heap),(K w.params).In h->h.Ns mainGlobals mg->mg d.name=some (.ref fa) ->
   ∃ fd:FuncData,(∀ (s:Shared) (u:Value),BindsTo s fd ⟨[u],[]⟩ [("_law_script",u)])/\∀ base:Heap,(K w.params).In base->base.Ns mainGlobals mg->ZE l.prog w (K w.params) mg base CX0 53 fa fd ["_law_script"] (BZ (K w.params))) :
  PySem.W.WalkO q loose XP YP l.row.toRowW d [] (fun f vs=>PySem.call f vs) :=
 L2.Br (n:=63) (k:=53) (x := "_law_script") (CX:=fun _=>CX0) (sp:=fun w=>BZ (K w.params)) hn (by decide) hdf ⟨rfl,by decide,by decide⟩ hY F (fun _ _ a ns hl _ hS=>⟨a,ns,rfl,hS,hl,fun _=>rfl⟩) fun _ _ _ _ _ z=>z
end My
local macro_rules | `(tactic| walk_at "lk") => `(tactic| (refine' L2.nI ?a ?l ?c ?k ?b; (case a => k_is); (case l => k_is); (case c => k_is); (case k => k_is); (case b => (intro _ _ _ _ _ _; first | (refine L2.us1 fun _ => ?_; rfl) | (refine L2.us2 fun _ _ => ?_; rfl) | (refine L2.us3 fun _ _ _ => ?_; rfl) | (refine L2.us4 fun _ _ _ _ => ?_; rfl) | (refine L2.us5 fun _ _ _ _ _ => ?_; rfl) | (refine L2.us6 fun _ _ _ _ _ _ => ?_; rfl)))))
local macro_rules | `(tactic| walk_at "xk") => `(tactic| (refine' L2.nJ ?a ?b ?c ?d ?e ?f ?g ?h; (case a => k_is); (case b => k_exc); (case c => k_is); (case d => k_is); (case e => k_is); (case f => k_is); (case g => k_is); (case h => k_is)))
namespace PySem.W.Fast
def tw32324282390570026:=0
def tw40907201445306600:=0
def tw122120448170128466:=0
def tw174366816718852908:=0
def tw177281255435757781:=0
def tw181195861441977277:=0
def tw352155731376495895:=0
def tw357495026102317785:=0
def tw358981552198602099:=0
def tw381790712304983901:=0
def tw430956059454741202:=0
def tw446080727922093389:=0
def tw459398820566157106:=0
def tw477662832727744340:=0
def tw584628962047133194:=0
def tw599444021781391962:=0
def tw605049507373992000:=0
def tw607487332024614763:=0
def tw655231606109308085:=0
def tw668773129008030146:=0
def tw757946046102288016:=0
def tw776034620145019415:=0
def tw777951505296854788:=0
def tw801312312552718729:=0
def tw801586643557904265:=0
def tw802982680667381014:=0
def tw817154657831245013:=0
def tw870895669973629265:=0
def tw923930105733179004:=0
def tw974018071948856429:=0
def tw976962993329474923:=0
def tw1012239767217751086:=0
def tw1045738337635256647:=0
def tw1058341142769448253:=0
def tw1132070369221487154:=0
def tw1180072094790158795:=0
def tw1180702101324577817:=0
def tw1205559326654013013:=0
def tw1252801566246208244:=0
def tw1315433081506941039:=0
def tw1318543764721162708:=0
def tw1337162773817222550:=0
def tw1358650799360666128:=0
def tw1425098171413778448:=0
def tw1429166705524266977:=0
def tw1474531931459565694:=0
def tw1499306105618292496:=0
def tw1501581604868694522:=0
def tw1529752340590821371:=0
def tw1558092065639867093:=0
def tw1559229277500510632:=0
def tw1588283802960260209:=0
def tw1609271250563420120:=0
def tw1656621491945806167:=0
def tw1657330185996947205:=0
def tw1684508751429166074:=0
def tw1689784795423985296:=0
def tw1714399335428020147:=0
def tw1738767384640657398:=0
def tw1738940096084667990:=0
def tw1793705785791065963:=0
def tw1832204733125757861:=0
def tw1877716791966227968:=0
def tw1896219645044377304:=0
def tw1911104334243143690:=0
def tw1944487376143361994:=0
def tw1992451053209189799:=0
def tw2070244354249961621:=0
def tw2114746145903046735:=0
def tw2122468567783106062:=0
def tw2287268123498334271:=0
def tw2302819060670905816:=0
def tw2315087174335595214:=0
def tw2394019196167780334:=0
def tw2413446262208230989:=0
def tw2462229011397154387:=0
def tw2502730597767953090:=0
def tw2583891356315310839:=0
def tw2598242195093223538:=0
def tw2606342426027075330:=0
def tw2765623000145176828:=0
def tw2828391921925817691:=0
def tw2829188029146337145:=0
def tw2869426146501224482:=0
def tw2891050843793116710:=0
def tw2897101494923935552:=0
def tw2916148669339448115:=0
def tw2929623628207740811:=0
def tw2934836894153234964:=0
def tw2989855360726949727:=0
def tw3004611788780312638:=0
def tw3012163317056377970:=0
def tw3013299282329879871:=0
def tw3016898460033059333:=0
def tw3021576779926086641:=0
def tw3076998991771487432:=0
def tw3080486647896751646:=0
def tw3156431002054751580:=0
def tw3165974596325824134:=0
def tw3174439214084408223:=0
def tw3178219858717320661:=0
def tw3205358607762571830:=0
def tw3215034338621682212:=0
def tw3315070818384500657:=0
def tw3326485988586151555:=0
def tw3357026922046142249:=0
def tw3390219259591363666:=0
def tw3415748762030069967:=0
def tw3417193967805781312:=0
def tw3453899214794159196:=0
def tw3468230685976528090:=0
def tw3472749611938602125:=0
def tw3567184122513725694:=0
def tw3569945676722443655:=0
def tw3597865638323778625:=0
def tw3623227381786944418:=0
def tw3692452613321781580:=0
def tw3733328661644370286:=0
def tw3751256735860057443:=0
def tw3822487877814724752:=0
def tw3831347170525098145:=0
def tw3838474288981707742:=0
def tw3890140036848274236:=0
def tw3891431375651443116:=0
def tw3912069990837382846:=0
def tw3912585213917650783:=0
def tw4019456440576157044:=0
def tw4027275032064831548:=0
def tw4072849443855754368:=0
def tw4151666237395229271:=0
def tw4384298427788804702:=0
def tw4482802195907515185:=0
def tw4504868428617241943:=0
def tw4554826374499308721:=0
def tw4586115104865523364:=0
def tw4602747040543053349:=0
def tw4625831401789106127:=0
def tw4629590667629350405:=0
def tw4717731914474577789:=0
def tw4720662416639770905:=0
def tw4731148098434868918:=0
def tw4761219911141830452:=0
def tw4783657825964311549:=0
def tw4790531647144669183:=0
def tw4790889697225997610:=0
def tw4842827394273666493:=0
def tw4846078057867639022:=0
def tw4884508287501492986:=0
def tw4944761197359318316:=0
def tw4948176941270072970:=0
def tw4964364185842105861:=0
def tw4972292944858278433:=0
def tw4996836160961218163:=0
def tw5013772021771952370:=0
def tw5034791204824517175:=0
def tw5071248840555120770:=0
def tw5215414650892873542:=0
def tw5227219163750211203:=0
def tw5247390123038804412:=0
def tw5254811432448652407:=0
def tw5268494384370426426:=0
def tw5282532113318031286:=0
def tw5322912737155832946:=0
def tw5343309623207036610:=0
def tw5369105430279106552:=0
def tw5375909993410959359:=0
def tw5412781667768606018:=0
def tw5413304766855319891:=0
def tw5414808612886685143:=0
def tw5437064166008146016:=0
def tw5467587931720358370:=0
def tw5529676774229706351:=0
def tw5545317533735410550:=0
def tw5550283952565858064:=0
def tw5562406133298531254:=0
def tw5577876095595120018:=0
def tw5582329600124879866:=0
def tw5596537134272465362:=0
def tw5598226233342764119:=0
def tw5603978182211655192:=0
def tw5643910930214780161:=0
def tw5653103416423448411:=0
def tw5677063768619602875:=0
def tw5688450367897100694:=0
def tw5802553417842373018:=0
def tw5849352300393121870:=0
def tw5856664143153843545:=0
def tw5868089450563912486:=0
def tw5880221122275358330:=0
def tw5918723556586590676:=0
def tw5943897305202883152:=0
def tw5948435524455376479:=0
def tw5986468740928995606:=0
def tw6006656192776545597:=0
def tw6014611689440038598:=0
def tw6016133457258216620:=0
def tw6061008036767601167:=0
def tw6114879261671291782:=0
def tw6131557779817071964:=0
def tw6193539293386477019:=0
def tw6207104010199980486:=0
def tw6211965923895595500:=0
def tw6227687711802796499:=0
def tw6276441015600740328:=0
def tw6279168460970959223:=0
def tw6309711366080191645:=0
def tw6365423011996744082:=0
def tw6368063066741468322:=0
def tw6391602665804547538:=0
def tw6475036661994004919:=0
def tw6486566335027208155:=0
def tw6558982396912443091:=0
def tw6564348673311875737:=0
def tw6568524918981257187:=0
def tw6589551807853663865:=0
def tw6590156912405765611:=0
def tw6625632756743511670:=0
def tw6633847569048624359:=0
def tw6718178928921608707:=0
def tw6738355658841072525:=0
def tw6765690895286024519:=0
def tw6770954164883439812:=0
def tw6773371765539488245:=0
def tw6839579446472959496:=0
def tw6855424605237906800:=0
def tw6875284642582339342:=0
def tw6917785799484043441:=0
def tw6980977221759686575:=0
def tw7001076070642560117:=0
def tw7054127721811241672:=0
def tw7057260200347146121:=0
def tw7114689902464268507:=0
def tw7139937934603926118:=0
def tw7246160376849602695:=0
def tw7255576868984044815:=0
def tw7256171992611392363:=0
def tw7307724269996046554:=0
def tw7309420601596466019:=0
def tw7313471474903726167:=0
def tw7333510923602236068:=0
def tw7355917447918061854:=0
def tw7362163501184992252:=0
def tw7367723726484996218:=0
def tw7385325306150684146:=0
def tw7433203976988242763:=0
def tw7475379005060651243:=0
def tw7515465441057078301:=0
def tw7531565725389420579:=0
def tw7540423964098008939:=0
def tw7558123588059547618:=0
def tw7612806863424851314:=0
def tw7627158177525511643:=0
def tw7716526570358850665:=0
def tw7729482580921809847:=0
def tw7796383052860346494:=0
def tw7876125612707746225:=0
def tw7879673609728744520:=0
def tw7880704663137311048:=0
def tw7893898383821709129:=0
def tw7894954223700569899:=0
def tw7916494981962225281:=0
def tw7959813591733055908:=0
def tw8001927810620396192:=0
def tw8016084226832411405:=0
def tw8057852665641298665:=0
def tw8089810782708383042:=0
def tw8104316085464855696:=0
def tw8111111077849023278:=0
def tw8147950665542992719:=0
def tw8196539610606387529:=0
def tw8239947428208930449:=0
def tw8270951062766527596:=0
def tw8282528128841891252:=0
def tw8287986979631382076:=0
def tw8289743464631950485:=0
def tw8293270833283695269:=0
def tw8352680030530915673:=0
def tw8360226830161406820:=0
def tw8366320073736272225:=0
def tw8367175530688518023:=0
def tw8369150905217281055:=0
def tw8372052310801535970:=0
def tw8400710510646514821:=0
def tw8440628344237226924:=0
def tw8444373424253795807:=0
def tw8455474344046046279:=0
def tw8469290024389627048:=0
def tw8606654108740806270:=0
def tw8638308471122088916:=0
def tw8641989550794001701:=0
def tw8648570577501660867:=0
def tw8671808847190915712:=0
def tw8696946064549118280:=0
def tw8717623188003559039:=0
def tw8729879374991651742:=0
def tw8746590392502082294:=0
def tw8824487724969195726:=0
def tw8852600810857613728:=0
def tw8878464553041556598:=0
def tw8885707714978132855:=0
def tw8887852532681606064:=0
def tw8926224701071352997:=0
def tw9050704858696585431:=0
def tw9104383530318400769:=0
def tw9121286121299707455:=0
def tw9143679446790133310:=0
def tw9164582716844481634:=0
def tw9218727121990069732:=0
def tw9275874633260895780:=0
def tw9300809214937454760:=0
def tw9311063861170516864:=0
def tw9333203303805222464:=0
def tw9357545655599013719:=0
def tw9357648651142670228:=0
def tw9372869255799415895:=0
def tw9404852791357279560:=0
def tw9468850420499408862:=0
def tw9473125616061755432:=0
def tw9533123807230853617:=0
def tw9560400701844483764:=0
def tw9561618090665385615:=0
def tw9642345385858258033:=0
def tw9660242097769427630:=0
def tw9667892857159917378:=0
def tw9747742782882629526:=0
def tw9749916347569235374:=0
def tw9760947313437096512:=0
def tw9765507838920088220:=0
def tw9774530874451590772:=0
def tw9789265983080890627:=0
def tw9818955965242430404:=0
def tw9882003950681524662:=0
def tw9910388688148234921:=0
def tw9945956601992252249:=0
def tw9965038851054624950:=0
def tw9988197189780416307:=0
def tw10012868715649467355:=0
def tw10032288600020501080:=0
def tw10066207521751395291:=0
def tw10067258276908666080:=0
def tw10118471988481369520:=0
def tw10125958529946567825:=0
def tw10143100947763777253:=0
def tw10157233421214684728:=0
def tw10177073712322698157:=0
def tw10258611955979288179:=0
def tw10294960884030345156:=0
def tw10314705188044515403:=0
def tw10344777275071657945:=0
def tw10375039132565604215:=0
def tw10400201220460303402:=0
def tw10438015534691482121:=0
def tw10443514046842042056:=0
def tw10463782407681124531:=0
def tw10470926377811510862:=0
def tw10582608234524912348:=0
def tw10595081408994656366:=0
def tw10605476118036856841:=0
def tw10605697916609870919:=0
def tw10607789108241740927:=0
def tw10696449541322197171:=0
def tw10714753247054528751:=0
def tw10718257733606380441:=0
def tw10760444923538471398:=0
def tw10763674564787574194:=0
def tw10773180702049362409:=0
def tw10844219676006635916:=0
def tw10892939740235867528:=0
def tw10906172547180294031:=0
def tw10906366978318454089:=0
def tw10918693538936617416:=0
def tw10936835389882714833:=0
def tw10990779672668449248:=0
def tw11027335985221264895:=0
def tw11052145559474661471:=0
def tw11104235154909781279:=0
def tw11117073815587727023:=0
def tw11124340794434659371:=0
def tw11155100304710326909:=0
def tw11170111282428761446:=0
def tw11230154673480028790:=0
def tw11262436969004895042:=0
def tw11267512893433446865:=0
def tw11287365801806039101:=0
def tw11296399163423846399:=0
def tw11312610735688483938:=0
def tw11318167659741366548:=0
def tw11324018391880735425:=0
def tw11359160430431712148:=0
def tw11415420698581659095:=0
def tw11417150591887277625:=0
def tw11445657081509396044:=0
def tw11486026967337008510:=0
def tw11554131080342864218:=0
def tw11585764374698032028:=0
def tw11587402793370989191:=0
def tw11601558879235500206:=0
def tw11604113666130576700:=0
def tw11667533711355506266:=0
def tw11669052704807025538:=0
def tw11669774550739206315:=0
def tw11683286192518868346:=0
def tw11714701139815690750:=0
def tw11716256139823089404:=0
def tw11722453776103601686:=0
def tw11737107295919487141:=0
def tw11743070657049959308:=0
def tw11752587156351053342:=0
def tw11861729533095683267:=0
def tw11874136886599862504:=0
def tw11892041414603200982:=0
def tw11955315757719177330:=0
def tw12010735473113386567:=0
def tw12210836631298222610:=0
def tw12218813747078029023:=0
def tw12232512070368034964:=0
def tw12232952211199084298:=0
def tw12270981289102947191:=0
def tw12274484061554040095:=0
def tw12284621328217366630:=0
def tw12304189148345212163:=0
def tw12331980704925115882:=0
def tw12342660098064176369:=0
def tw12363888377571799374:=0
def tw12401553490031666114:=0
def tw12404431399492472267:=0
def tw12426049411346474657:=0
def tw12434013704009819776:=0
def tw12444592589711771999:=0
def tw12529784667070397642:=0
def tw12563498741419328520:=0
def tw12590786913756084805:=0
def tw12609895688869964011:=0
def tw12627494272125084559:=0
def tw12730381772587275499:=0
def tw12732794182268022793:=0
def tw12746913888103989329:=0
def tw12801545113611741751:=0
def tw12827793066187323462:=0
def tw12913193029099959990:=0
def tw12945814783011533293:=0
def tw12948946141892106391:=0
def tw12956769246965821566:=0
def tw13001410040214625566:=0
def tw13009263451189428471:=0
def tw13056704187096015887:=0
def tw13078499770669200480:=0
def tw13111280767093398612:=0
def tw13144470399767605299:=0
def tw13165471878548557937:=0
def tw13190019313992084892:=0
def tw13205708845562806903:=0
def tw13236108835738770823:=0
def tw13244945416981018374:=0
def tw13304939947163646660:=0
def tw13322291986230806044:=0
def tw13331370314840509103:=0
def tw13335422179069096087:=0
def tw13415576838358982173:=0
def tw13432352304646561971:=0
def tw13455176326046203964:=0
def tw13493285796718595697:=0
def tw13529829445934566375:=0
def tw13538691504698209573:=0
def tw13553579514116977421:=0
def tw13562429592349605896:=0
def tw13577497638877061558:=0
def tw13631507476017112731:=0
def tw13656120603832253566:=0
def tw13720828427927502714:=0
def tw13736180453623910497:=0
def tw13755000357588719214:=0
def tw13768955175006797353:=0
def tw13776143963578402736:=0
def tw13791197817416191105:=0
def tw13804494467865806592:=0
def tw13805798376606685206:=0
def tw13840864393608420763:=0
def tw13919659920969581937:=0
def tw13943274303221465575:=0
def tw13943597107993759719:=0
def tw14013766040149558295:=0
def tw14058402510934669345:=0
def tw14107760278028636699:=0
def tw14113003183913574713:=0
def tw14178547857137926960:=0
def tw14211335690714025803:=0
def tw14213760150216780560:=0
def tw14305809672637697773:=0
def tw14319684740387388544:=0
def tw14365107886940899034:=0
def tw14369049876564426364:=0
def tw14372862331679128743:=0
def tw14408828159453547002:=0
def tw14428311198915682587:=0
def tw14435144592494028490:=0
def tw14501142269112219776:=0
def tw14622090649857555607:=0
def tw14637990299873239881:=0
def tw14643267410759410199:=0
def tw14667499798678903490:=0
def tw14705670310210818325:=0
def tw14717706077353393156:=0
def tw14769783434319446101:=0
def tw14773045102730589775:=0
def tw14787894388378417388:=0
def tw14806264703677179379:=0
def tw14813806148593443761:=0
def tw14826062261017885919:=0
def tw14841839064086497667:=0
def tw14859766507176656564:=0
def tw14905837880914616674:=0
def tw14942268369393030933:=0
def tw14954294726517211037:=0
def tw15153444607259935754:=0
def tw15168902697371126394:=0
def tw15226537013140849804:=0
def tw15236988860429441058:=0
def tw15247323702361460023:=0
def tw15278876642206199388:=0
def tw15337472765472671199:=0
def tw15379322243668869982:=0
def tw15415041971651165621:=0
def tw15425075562042753784:=0
def tw15431888910645896646:=0
def tw15448765722291397013:=0
def tw15460114037626039325:=0
def tw15466500588826761552:=0
def tw15490688952172099837:=0
def tw15492098015197824230:=0
def tw15526043809866574509:=0
def tw15555000553524815280:=0
def tw15560689859072169175:=0
def tw15563687733387583406:=0
def tw15579586477382190378:=0
def tw15595987059481929587:=0
def tw15618466285981566657:=0
def tw15681391684674828480:=0
def tw15776844048644758114:=0
def tw15907551986449513708:=0
def tw15913287057397852428:=0
def tw15980295411624185356:=0
def tw15984740111901556880:=0
def tw15988776709468700758:=0
def tw16081349401675651659:=0
def tw16090601985723519840:=0
def tw16167755897404032764:=0
def tw16243359641679734071:=0
def tw16271416769945662788:=0
def tw16276094056235609736:=0
def tw16276319000664107176:=0
def tw16303785771898915900:=0
def tw16313808555270509788:=0
def tw16315174962112385923:=0
def tw16348211437203200683:=0
def tw16353108842158811618:=0
def tw16364239550155920211:=0
def tw16374869732057488257:=0
def tw16377114565604520564:=0
def tw16438314282299909727:=0
def tw16445693891498279805:=0
def tw16538612597398142728:=0
def tw16581789879279445569:=0
def tw16643274950736397647:=0
def tw16644951993784446315:=0
def tw16655098653985565962:=0
def tw16703318051788627097:=0
def tw16706254683694206092:=0
def tw16714642812258128106:=0
def tw16741066484760070969:=0
def tw16767440097675376838:=0
def tw16776422772380297938:=0
def tw16849012762832563204:=0
def tw16879149404511931640:=0
def tw16919482792857211499:=0
def tw16929390749884604030:=0
def tw16930108251553970409:=0
def tw16943589856559705624:=0
def tw16967213360965008429:=0
def tw17008435692674092500:=0
def tw17026162440605944937:=0
def tw17043356085521400303:=0
def tw17133550701296263004:=0
def tw17139221921472515121:=0
def tw17143185189794102224:=0
def tw17148805546905906219:=0
def tw17189272926699989942:=0
def tw17212140989351765229:=0
def tw17227713540105100218:=0
def tw17261693375423815925:=0
def tw17314525494894285146:=0
def tw17323604975455852546:=0
def tw17351199153546436606:=0
def tw17422549400396254924:=0
def tw17445548157936520644:=0
def tw17516224232712645030:=0
def tw17565713360864700545:=0
def tw17578977835058201330:=0
def tw17584671497615649397:=0
def tw17602104604691457397:=0
def tw17613217658263772023:=0
def tw17654434576904107585:=0
def tw17688518011163292657:=0
def tw17762484214934535491:=0
def tw17771835241450376423:=0
def tw17818124812249794572:=0
def tw17822472575493991239:=0
def tw17833457698499240331:=0
def tw17837633102263086802:=0
def tw17859626038011073600:=0
def tw17862380336737808034:=0
def tw17884804552175270290:=0
def tw17932772747591492277:=0
def tw17960916810787219154:=0
def tw17968832349601787730:=0
def tw18019347813577438830:=0
def tw18060050087208532529:=0
def tw18061037622500788439:=0
def tw18068626302502895091:=0
def tw18094517290294245731:=0
def tw18127443814648167222:=0
def tw18148939175104442047:=0
def tw18197169094658478512:=0
def tw18250180046123833569:=0
def tw18282355855993625977:=0
def tw18368477987959631729:=0
def tw18411396511066271886:=0
def tw18427310286257940467:=0
def tw18442535885135211829:=0
end PySem.W.Fast
open PySem PySem.W PyProof.Rows
set_option maxRecDepth 100000 in
set_option maxHeartbeats 0 in
theorem PySem.Challenge.cw_kbestwood_k22_the_first_fault_holds : PySem.Challenge.rw_kbestwood_k22_the_first_fault.Holds := by
  w_on; o_law; k_head; (case hw => w_witness2)
  k_fill
  refine My.walk (l := PySem.Challenge.rw_kbestwood_k22_the_first_fault) rfl rfl (fun w h Y => PySem.W.kIn_of Y) ?F
  case F =>
    intro w mg fa h KX G hmg
    refine' My.all_mk KX G hmg ?aC_Cost ?pg_Cost ?hd_Cost ?po_Cost ?sa_Cost ?mk_Cost ?in_Cost ?kc_Cost ?Le ?Lg ?Lh ?Li ?Lj ?Ss ?Lk ?Ln ?aC_Rule ?pg_Rule ?hd_Rule ?po_Rule ?sa_Rule ?mk_Rule ?kc_Rule ?Tw ?RA ?Tx ?UI ?QC ?Tz ?OJ ?OL ?OM ?OO ?OQ ?UB ?OS ?WV ?WW ?WX ?aC_Net ?pg_Net ?hd_Net ?po_Net ?sa_Net ?mk_Net ?kc_Net ?TC ?RB ?OT ?Lp ?QD ?xk_Twice ?OU ?Lq ?xk_Ring ?xk_NoNet ?YN ?Wb ?Vz ?VA ?Wc ?WZ ?Yo ?Xl ?Wi ?Wj ?Xm ?Xg ?Wz ?UJ ?UK ?WB ?Ww ?RC ?RD ?RE ?VU ?XC ?UL ?UM ?UN ?WC ?OV ?UO ?Ls ?Lw ?Lx ?QF ?RG ?YG ?XD ?TF ?TH ?Va ?QG ?RH ?RJ ?RK ?TJ ?OW ?Ly ?h_l_at ?h_l_mix ?Lz ?LA ?LD ?OX ?OY ?OZ ?LI ?LJ ?Nb ?LK ?IB ?h_l_set ?QH ?QI ?LL ?h_l_odd ?QJ ?IC ?a_law ?l_law ?c_law ?k_law ?VB ?VC ?LN ?UQ ?RL ?z_tuple ?HR ?RM ?Ez ?z_len ?z_list ?z_set ?z_dict ?z_zip ?Ey ?z_bool ?z_range ?Ew ?Ex ?Ai
    (case aC_Cost => k_is)
    (case pg_Cost => k_is)
    (case hd_Cost => k_is)
    (case po_Cost => k_is)
    (case sa_Cost => k_is)
    (case mk_Cost => k_is)
    (case in_Cost => k_is)
    (case kc_Cost => k_is)
    (case Le => k_is)
    (case Lg => k_is)
    (case Lh => k_is)
    (case Li => k_is)
    (case Lj => k_is)
    (case Ss => k_is)
    (case Lk => k_is)
    (case Ln => k_is)
    (case aC_Rule => k_is)
    (case pg_Rule => k_is)
    (case hd_Rule => k_is)
    (case po_Rule => k_is)
    (case sa_Rule => k_is)
    (case mk_Rule => k_is)
    (case kc_Rule => k_is)
    (case Tw => k_is)
    (case RA => k_is)
    (case Tx => k_is)
    (case UI => k_is)
    (case QC => k_is)
    (case Tz => k_is)
    (case OJ => k_is)
    (case OL => k_is)
    (case OM => k_is)
    (case OO => k_is)
    (case OQ => k_is)
    (case UB => k_is)
    (case OS => k_is)
    (case WV => k_is)
    (case WW => k_is)
    (case WX => k_is)
    (case aC_Net => k_is)
    (case pg_Net => k_is)
    (case hd_Net => k_is)
    (case po_Net => k_is)
    (case sa_Net => k_is)
    (case mk_Net => k_is)
    (case kc_Net => k_is)
    (case TC => k_is)
    (case RB => k_is)
    (case OT => walk_at "xk")
    (case Lp => walk_at "xk")
    (case QD => walk_at "xk")
    (case xk_Twice => walk_at "xk")
    (case OU => walk_at "xk")
    (case Lq => walk_at "xk")
    (case xk_Ring => walk_at "xk")
    (case xk_NoNet => walk_at "xk")
    (case YN => k_is)
    (case Wb => k_is)
    (case Vz => k_is)
    (case VA => k_is)
    (case Wc => k_is)
    (case WZ => k_is)
    (case Yo => k_is)
    (case Xl => k_is)
    (case Wi => k_is)
    (case Wj => k_is)
    (case Xm => k_is)
    (case Xg => k_is)
    (case Wz => k_is)
    (case UJ => k_is)
    (case UK => k_is)
    (case WB => k_is)
    (case Ww => k_is)
    (case RC => k_is)
    (case RD => k_is)
    (case RE => k_is)
    (case VU => k_is)
    (case XC => k_is)
    (case UL => k_is)
    (case UM => k_is)
    (case UN => k_is)
    (case WC => k_is)
    (case OV => walk_at "lk")
    (case UO => walk_at "lk")
    (case Ls => walk_at "lk")
    (case Lw => walk_at "lk")
    (case Lx => walk_at "lk")
    (case QF => walk_at "lk")
    (case RG => walk_at "lk")
    (case YG => walk_at "lk")
    (case XD => walk_at "lk")
    (case TF => walk_at "lk")
    (case TH => walk_at "lk")
    (case Va => walk_at "lk")
    (case QG => walk_at "lk")
    (case RH => walk_at "lk")
    (case RJ => walk_at "lk")
    (case RK => walk_at "lk")
    (case TJ => walk_at "lk")
    (case OW => walk_at "lk")
    (case Ly => walk_at "lk")
    (case h_l_at => walk_at "lk")
    (case h_l_mix => walk_at "lk")
    (case Lz => walk_at "lk")
    (case LA => walk_at "lk")
    (case LD => walk_at "lk")
    (case OX => walk_at "lk")
    (case OY => walk_at "lk")
    (case OZ => walk_at "lk")
    (case LI => walk_at "lk")
    (case LJ => walk_at "lk")
    (case Nb => walk_at "lk")
    (case LK => walk_at "lk")
    (case IB => walk_at "lk")
    (case h_l_set => walk_at "lk")
    (case QH => walk_at "lk")
    (case QI => walk_at "lk")
    (case LL => walk_at "lk")
    (case h_l_odd => walk_at "lk")
    (case QJ => walk_at "lk")
    (case IC => walk_at "lk")
    (case a_law => k_is)
    (case l_law => k_is)
    (case c_law => k_is)
    (case k_law => k_is)
    (case VB => k_is)
    (case VC => k_is)
    (case LN => k_is)
    (case UQ => k_is)
    (case RL => k_is)
    (case z_tuple => k_is)
    (case HR => k_is)
    (case RM => k_is)
    (case Ez => k_is)
    (case z_len => k_is)
    (case z_list => k_is)
    (case z_set => k_is)
    (case z_dict => k_is)
    (case z_zip => k_is)
    (case Ey => k_is)
    (case z_bool => k_is)
    (case z_range => k_is)
    (case Ew => k_is)
    (case Ex => k_is)
    (case Ai => k_is)
