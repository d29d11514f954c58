import PyProof.Rows.All
import Wide.All
import OpenK.AllK
import Wide.FinOn
import Lean
import PyProof.EqAt
import PyProof.EqKinds
import PyProof.TupleCall
import PyProof.NeKinds
import PyProof.EnumFor
import PyProof.EnumMake
import PyProof.NsDelKeeps
import OpenK.KOwn
import KE.KIsBytes
import PyProof.CompFree
import PyProof.StrWalks
import PyProof.ConsumeWalk
import PyProof.StrBlockI
import KE.KRevIter
import KE.KDictList
import PyProof.ZipIter
import KE.KIntText
import PySem.Challenge.RW_kbestwood_k44_shares_learnt
set_option Elab.async false
set_option linter.all false
set_option maxRecDepth 100000
set_option maxHeartbeats 4000000
open PySem.W (instObj methodObj hideAll lookIn plainGet hasDictIn findIn plainGet_of isFn plainOver takerIn Looks makesIn typeIn emptyDict makes_of looks_findIn keepIn takesIn mroIn kitOne kia_one kitx_list mg_of subIn kitCls callWith_K excIn nsOkIn isClsIn clsIn kitAny kia_tup mg_none_of)
open List (mem_filter mem_range filterMap_cons mem_cons_self mem_cons_of_mem mem_cons mem_append mem_append_left getElem?_set_ne mem_append_right size_toArray length_cons map_cons length_map append_nil nodup_cons of_mem_zip replicate length length_take getElem?_append_right getElem?_replicate getElem?_append_left getElem?_map mem_of_getElem? length_append length_replicate length_set all_cons any_cons reverse_cons replicate_succ flatten_cons foldl append_assoc foldl_cons nil_append find?_cons length_nil filter_cons all_eq_true lookup_cons forIn_cons all_map sum_cons mem_of_mem_take cons_append sum_append any_map not_mem_nil map_map foldl_append take_length take_add_one mem_singleton zipIdx_cons zipIdx_nil forIn_nil length_zip find?_cons_of_neg getD_eq_getElem?_getD Nodup all_append mem_map map_append getElem_mem reverse_reverse take_zero idxOf_lt_length_of_mem)
open PySem.W renaming Frag→aj
open PySem renaming wpAny_bind→ak
open PySem renaming wpAny_pure→ao
open PySem.Heap renaming get?_push_of_some→aq
open PySem.Heap renaming get?_push_size→au
open PySem.Heap renaming lt_size→az
open PySem renaming sizeLine→aA
open List renaming getElem?_eq_getElem→aB
open Bool renaming false_ne_true→aC
open Bool renaming and_eq_true→aD
open PySem.Heap renaming SameBut→aF
def auR:Lean.Syntax:=.node .none `Lean.Parser.Tactic.tacticSeq #[.node .none `Lean.Parser.Tactic.tacticSeq1Indented #[.node .none `null #[.node .none `Lean.Parser.Tactic.tacticRfl #[.atom .none "rfl"]]]]
def auD:Lean.Syntax:=.node .none `Lean.Parser.Tactic.tacticSeq #[.node .none `Lean.Parser.Tactic.tacticSeq1Indented #[.node .none `null #[.node .none `Lean.Parser.Tactic.decide #[.atom .none "decide",.node .none `Lean.Parser.Tactic.optConfig #[.node .none `null #[]]]]]]
noncomputable section
namespace L2
open PySem PySem.Spec PyProof.Rows
abbrev Key:=Sum Int Str
noncomputable def Tn:Key→Value→Bool
 | .inl k,v=>Value.isInt k v
 | .inr x,v=>Value.isStrOf x v
noncomputable def keyH (w:World):Key→Int
 | .inl k=>hashInt k
 | .inr x=>hashStr w x
theorem Yf:∀ {k:Key}{v:Value},Tn k v=true→(∃ i t,k=Sum.inl i∧v=Value.int i t)∨(∃ x t,k=Sum.inr x∧v=Value.str x t)
 | .inl i,v,h=>by
  obtain ⟨t,e⟩:=Value.isInt_shape (k:=i) (v:=v) h
  exact .inl ⟨i,t,rfl,e⟩
 | .inr x,v,h=>by
  obtain ⟨t,e⟩:=Value.isStrOf_shape (x:=x) (v:=v) h
  exact .inr ⟨x,t,rfl,e⟩
theorem Mo (i:Int) (t:Tok):Tn (.inl i) (.int i t)=true:=by simp [Tn,Value.isInt]
theorem Mp (x:Str) (t:Tok):Tn (.inr x) (.str x t)=true:=by simp [Tn,Value.isStrOf]
theorem pO (a b:Int):decide ((Sum.inl a:Key)=Sum.inl b)=(a == b):=by
 by_cases e:a=b
 ·subst e;simp
 ·have h:¬ (Sum.inl a:Key)=Sum.inl b:=fun q=>e (Sum.inl.inj q)
  rw [decide_eq_false h]
  exact (beq_eq_false_iff_ne.mpr e).symm
theorem pP (a b:Str):decide ((Sum.inr a:Key)=Sum.inr b)=decide (a=b):=by
 by_cases e:a=b
 ·subst e;simp
 ·have h:¬ (Sum.inr a:Key)=Sum.inr b:=fun q=>e (Sum.inr.inj q)
  rw [decide_eq_false h,decide_eq_false e]
theorem pQ (a:Int) (b:Str):decide ((Sum.inl a:Key)=Sum.inr b)=false:=decide_eq_false (fun q=>nomatch q)
theorem pR (a:Str) (b:Int):decide ((Sum.inr a:Key)=Sum.inl b)=false:=decide_eq_false (fun q=>nomatch q)
noncomputable def ZE (prog:Program) (w:World):PySem.KeyKind prog w Key where
 is:=Tn
 hash:=keyH w
 inj:=fun v a b ha hb=>by
  rcases Yf ha with ⟨i,t,rfl,rfl⟩ | ⟨x,t,rfl,rfl⟩
  ·rcases Yf hb with ⟨j,u,rfl,e⟩ | ⟨y,u,rfl,e⟩
   ·injection e with e1 _;rw [e1]
   ·exact nomatch e
  ·rcases Yf hb with ⟨j,u,rfl,e⟩ | ⟨y,u,rfl,e⟩
   ·exact nomatch e
   ·injection e with e1 _;rw [e1]
 byValue:=fun k v h=>by
  rcases Yf h with ⟨i,t,rfl,rfl⟩ | ⟨x,t,rfl,rfl⟩ <;> rfl
 pyHash:=fun hv h=>by
  rcases Yf hv with ⟨i,t,rfl,rfl⟩ | ⟨x,t,rfl,rfl⟩
  ·exact wpAny_pyHash_int h
  ·exact wpAny_pyHash_str h
 eqBool:=fun hu hv h=>by
  rcases Yf hu with ⟨i,t,rfl,rfl⟩ | ⟨x,t,rfl,rfl⟩
  ·rcases Yf hv with ⟨j,u,rfl,rfl⟩ | ⟨y,u,rfl,rfl⟩
   ·rw [pO] at h;exact wpAny_eqBool_int h
   ·rw [pQ] at h;exact SeqAt.EqAt.int_str i t y u _ _ _ _ h
  ·rcases Yf hv with ⟨j,u,rfl,rfl⟩ | ⟨y,u,rfl,rfl⟩
   ·rw [pR] at h;exact SeqAt.EqAt.str_int x t j u _ _ _ _ h
   ·rw [pP] at h;exact wpAny_eqBool_str h
 «strs»:=fun k x t v h=>by
  rcases Yf h with ⟨i,u,rfl,e⟩ | ⟨y,u,rfl,e⟩
  ·exact nomatch e
  ·injection e with e1 _
   subst e1
   cases v <;> rfl
theorem FQ (prog:Program) (w:World) (i:Int) (t:Tok):(ZE prog w).is (.inl i) (.int i t)=true:=Mo i t
theorem FR (prog:Program) (w:World) (x:Str) (t:Tok):(ZE prog w).is (.inr x) (.str x t)=true:=Mp x t
inductive V where
 | non | bl (b:Bool) | int (i:Int) | str (x:Str) | byt (b:Array UInt8) | flt (b:UInt64) | ref (a:Addr) | ty (n:String)
 deriving DecidableEq
noncomputable def RelV:V→Value→Prop
 | .non,u=>u=Value.none
 | .bl b,u=>u=Value.bool b
 | .int i,u=>∃ t,u=Value.int i t
 | .str x,u=>∃ t,u=Value.str x t
 | .byt b,u=>∃ t,u=Value.bytes b t
 | .flt b,u=>∃ t,u=Value.float b t
 | .ref a,u=>u=Value.ref a
 | .ty n,u=>u=Value.type n
abbrev Vals:List V→List Value→Prop:=Paired RelV
theorem Vals.length {xs:List V}{us:List Value}(r:Vals xs us):xs.length=us.length:=Paired.length r
theorem Vals.get:∀ {xs:List V}{us:List Value}{i:Nat}{x:V},Vals xs us→xs[i]?=some x→∃ u,us[i]?=some u∧RelV x u
 | _,_,_,_,.nil,e=>by simp at e
 | _,_,0,_,.cons r _,e=>by simp at e;subst e;exact ⟨_,rfl,r⟩
 | _,_,i + 1,x,.cons _ t,e=>by
  obtain ⟨u,h1,h2⟩:=Vals.get (i:=i) (x:=x) t (by simpa using e)
  exact ⟨u,by simpa using h1,h2⟩
theorem Vals.set {x:V}{u:Value}(r:RelV x u):∀ {xs:List V}{us:List Value}(i:Nat),Vals xs us→Vals (xs.set i x) (us.set i u)
 | _,_,_,.nil => .nil
 | _,_,0,.cons _ t => .cons r t
 | _,_,i + 1,.cons q t => .cons q (Vals.set r i t)
theorem Vals.append:∀ {xs ys:List V}{us ws:List Value},Vals xs us→Vals ys ws→Vals (xs++ys) (us++ws)
 | _,_,_,_,.nil,s=>s
 | _,_,_,_,.cons r t,s => .cons r (Vals.append t s)
theorem Vals.take:∀ {xs:List V}{us:List Value}(n:Nat),Vals xs us→Vals (xs.take n) (us.take n)
 | _,_,0,_ => .nil
 | _,_,_ + 1,.nil => .nil
 | _,_,n + 1,.cons r t => .cons r (Vals.take n t)
theorem Vals.drop:∀ {xs:List V}{us:List Value}(n:Nat),Vals xs us→Vals (xs.drop n) (us.drop n)
 | _,_,0,r=>r
 | _,_,_ + 1,.nil => .nil
 | _,_,n + 1,.cons _ t=>Vals.drop n t
noncomputable def RG:Option V→Option Value→Prop
 | some v,some u=>RelV v u
 | none,none=>True
 | _,_=>False
noncomputable def KV {κ:Type}:List (κ × V)→List (κ × Value)→Prop:=Paired fun (p:κ × V) (q:κ × Value)=>p.1=q.1∧RelV p.2 q.2
noncomputable def kV:Key→V
 | .inl i => .int i
 | .inr x => .str x
inductive HO where
 /-- a list -/
 | lst (xs:List V)
 /-- a tuple (never changes) -/
 | tup (xs:List V)
 /-- a dict whose keys are ints and texts;one whose keys are tuples of ints and texts (the empty one is both) -/
 | dK (kvs:List (Key × V)) | dT (kvs:List (List Key × V))
 /-- a set of ints: its members,its size -/
 | set (S:Int→Bool) (n:Nat)
 /-- an instance of the class at C,its dict at dx,its attributes -/
 | ins (C dx:Addr) (fs:List (Str × V))
 /-- the dict of the instance at x -/
 | own (x:Addr)
 /-- the dict of an exception -/
 | xd (fs:List (Str × V))
 /-- a bound method,f of x -/
 | met (f x:Addr)
 /-- a range object lo,lo + 1,.. below hi -/
 | rng (lo hi:Int)
 /-- a thing that is known to the object (the script;a dict while a loop walks it): read,never written while it is so -/
 | frz (o:Obj) (u:HO)
 /-- a code object's table -/
 | tbl (ps:Array Value)
 /-- any other thing,by what is true of its one object (a def of one's own: SetO a S n:=HO.ext fun h => ..) -/
 | ext (φ:Heap→Prop)
abbrev Hp:=Addr→Option HO
noncomputable def upd (H:Hp) (a:Addr) (o:HO):Hp:=fun b=>if b=a then some o else H b
theorem Zu {H:Hp}{a:Addr}{o:HO}:upd H a o a=some o:=by unfold upd;rw [if_pos rfl]
theorem Zk {H:Hp}{a b:Addr}{o:HO}(h:b≠a):upd H a o b=H b:=by unfold upd;rw [if_neg h]
theorem ne_of {H:Hp}{a b:Addr}{o u:HO}(h:H a=some o) (h':H b=some u) (d:o≠u):a≠b:=by
 intro e;subst e;rw [h] at h';exact d (Option.some.inj h')
theorem Zx {H:Hp}{a b:Addr}{o:HO}(h:H a=some o) (h':H b=none):a≠b:=by
 intro e;subst e;rw [h] at h';cases h'
section
variable (P:Program) (w:World)
noncomputable def ZZ (H:Hp) (h:Heap) (a:Addr):HO→Prop
 | .lst xs=>xs.length≤aA∧∃ (its:List Value) (n:Nat),Vals xs its∧h.get? a=some { cls := .type "list",data := .seq its.toArray n }
 | .tup xs=>xs.length≤aA∧∃ its:List Value,Vals xs its∧IsTup h a its.toArray
 | .dK kvs=>kvs.length≤aA∧(a == sysModules)=false∧∃ vs,KV kvs vs∧h.DictOf (ZE P w) a vs
 | .dT kvs=>kvs.length≤aA∧(a == sysModules)=false∧∃ xs:List (List Key × Addr × Value),
   Paired (fun (p:List Key × V) (q:List Key × Addr × Value)=>p.1=q.1∧H q.2.1=some (.tup (p.1.map kV))∧RelV p.2 q.2.2) kvs xs ∧
   ∃ o es ep,h.get? a=some o∧o.ExactDict∧o.data = .dict es ep∧es.toList=xs.map (entryOfKey (tupleKind (ZE P w)))∧(xs.map (·.1)).Nodup
 | .set S n=>h.SetOf (intKind P w) a S n
 | .ins C dx fs=>H dx=some (.own a)∧fs.length≤1000∧dx≠a∧h.get? a=some (instObj C dx) ∧
   ∃ mA,h.Ns1 dx mA∧(∀ f,RG (fs.lookup f) (mA f))∧PySem.Within mA (fs.map (·.1))
 | .own _=>∃ o,h.get? a=some o
 | .xd fs=>∃ mA,h.Ns1 a mA∧∀ f,RG (fs.lookup f) (mA f)
 | .rng lo hi=>∃ t u v,h.get? a=some { cls := .type "range",data := .fields #[.int lo t,.int hi u,.int 1 v] }
 | .frz o u=>h.get? a=some o∧ZZ H h a u
 | .tbl ps=>h.get? a=some { cls := .none,data := .fields ps }
 | .met f x=>h.get? a=some (methodObj (.ref f) (.ref x))
 | .ext φ=>φ h∧(∃ o,h.get? a=some o)∧∀ h1 h2:Heap,φ h1→(∀ o,h1.get? a=some o→h2.get? a=some o)→φ h2
noncomputable def HOk (H:Hp) (h:Heap):Prop:=∀ a o,H a=some o→ZZ P w H h a o
end
section
variable {P:Program}{w:World}{H H':Hp}{h h':Heap}{a:Addr}{o:HO}
theorem ZZ.lt (x:ZZ P w H h a o):a < h.objs.size:=by
 cases o with
 | lst xs=>obtain ⟨_,_,_,_,e⟩:=x;exact az e
 | tup xs=>obtain ⟨_,_,_,p⟩:=x;exact p.lt
 | dK kvs=>obtain ⟨_,_,_,_,o,_,_,e,_⟩:=x;exact az e
 | dT kvs=>obtain ⟨_,_,_,_,o,_,_,e,_⟩:=x;exact az e
 | set S n=>obtain ⟨o,_,_,_,e,_⟩:=x;exact az e
 | ins C dx fs=>obtain ⟨_,_,_,e,_⟩:=x;exact az e
 | own y=>obtain ⟨_,e⟩:=x;exact az e
 | xd fs=>obtain ⟨_,⟨_,_,_,e,_⟩,_⟩:=x;exact az e
 | rng lo hi=>obtain ⟨_,_,_,e⟩:=x;exact az e
 | frz ob u=>obtain ⟨e,_⟩:=x;exact az e
 | tbl ps=>exact az (show h.get? a=some _ from x)
 | met f y=>exact az (show h.get? a=some _ from x)
 | ext φ=>obtain ⟨_,⟨_,e⟩,_⟩:=x;exact az e
theorem Paired.mapP {α β:Type}{F G:α→β→Prop}:∀ {l₁:List α}{l₂:List β},Paired F l₁ l₂→(∀ a b,F a b→G a b)→Paired G l₁ l₂
 | _,_,.nil,_ => .nil
 | _,_,.cons r t,f => .cons (f _ _ r) (Paired.mapP t f)
theorem ZZ.stay (x:ZZ P w H h a o) (k:∀ b u,(b=a∨H b=some (.own a))→h.get? b=some u→h'.get? b=some u)
  (ho:∀ b,H b=some (.own a)→H' b=some (.own a)) (ht:∀ b xs,H b=some (.tup xs)→H' b=some (.tup xs)):ZZ P w H' h' a o:=by
 induction o with
 | lst xs=>obtain ⟨z,its,n,r,e⟩:=x;exact ⟨z,its,n,r,k _ _ (.inl rfl) e⟩
 | tup xs=>obtain ⟨z,its,r,ob,e,c⟩:=x;exact ⟨z,its,r,ob,k _ _ (.inl rfl) e,c⟩
 | dK kvs=>obtain ⟨z,y,vs,r,ob,es,ep,e,c⟩:=x;exact ⟨z,y,vs,r,ob,es,ep,k _ _ (.inl rfl) e,c⟩
 | dT kvs =>
  obtain ⟨z,y,xs,r,ob,es,ep,e,c⟩:=x
  exact ⟨z,y,xs,Paired.mapP r fun p q z=>⟨z.1,ht _ _ z.2.1,z.2.2⟩,ob,es,ep,k _ _ (.inl rfl) e,c⟩
 | set S n=>obtain ⟨ob,es,ep,t,e,c⟩:=x;exact ⟨ob,es,ep,t,k _ _ (.inl rfl) e,c⟩
 | ins C dx fs =>
  obtain ⟨d,z,ne,e,mA,⟨od,es,ep,e2,c⟩,r⟩:=x
  exact ⟨ho _ d,z,ne,k _ _ (.inl rfl) e,mA,⟨od,es,ep,k _ _ (.inr d) e2,c⟩,r⟩
 | own y=>obtain ⟨ob,e⟩:=x;exact ⟨ob,k _ _ (.inl rfl) e⟩
 | xd fs=>obtain ⟨mA,⟨od,es,ep,e,c⟩,r⟩:=x;exact ⟨mA,⟨od,es,ep,k _ _ (.inl rfl) e,c⟩,r⟩
 | rng lo hi=>obtain ⟨t,u,v,e⟩:=x;exact ⟨t,u,v,k _ _ (.inl rfl) e⟩
 | frz ob u ih=>obtain ⟨e,q⟩:=x;exact ⟨k _ _ (.inl rfl) e,ih q⟩
 | tbl ps =>
  have e:h.get? a=some { cls := .none,data := .fields ps }:=x
  show h'.get? a=some { cls := .none,data := .fields ps }
  exact k a _ (.inl rfl) e
 | met f y =>
  have e:h.get? a=some (methodObj (.ref f) (.ref y)):=x
  show h'.get? a=some (methodObj (.ref f) (.ref y))
  exact k a _ (.inl rfl) e
 | ext φ=>obtain ⟨p,⟨o,e⟩,st⟩:=x;exact ⟨st _ _ p fun o q=>k _ _ (.inl rfl) q,⟨o,k _ _ (.inl rfl) e⟩,st⟩
theorem HOk.lt (x:HOk P w H h) (e:H a=some o):a < h.objs.size:=(x a o e).lt
theorem HOk.fresh (x:HOk P w H h) (e:h.objs.size≤a):H a=none:=by
 cases q:H a with
 | none=>rfl
 | some u=>exact absurd (Nat.lt_of_lt_of_le (x.lt q) e) (Nat.lt_irrefl _)
theorem HOk.kept (x:HOk P w H h) (k:∀ b u,h.get? b=some u→h'.get? b=some u):HOk P w H h':=fun a o e =>
 (x a o e).stay (fun b u _ q=>k b u q) (fun _ q=>q) fun _ _ q=>q
theorem HOk.laid (x:HOk P w H h) (k:∀ b u,h.get? b=some u→h'.get? b=some u) (hp:h.objs.size≤a) (new:ZZ P w (upd H a o) h' a o):HOk P w (upd H a o) h':=fun b u e=>by
 have hn:=x.fresh hp
 by_cases hb:b=a
 ·subst hb;rw [Zu] at e;cases e;exact new
 ·rw [Zk hb] at e
  exact (x b u e).stay (fun c v _ q=>k c v q) (fun c q=>by rw [Zk (Zx q hn)];exact q) fun c xs q=>by rw [Zk (Zx q hn)];exact q
end
noncomputable def Rd (H:Hp) (a:Addr) (u:HO):Prop:=H a=some u∨∃ o,H a=some (.frz o u)
theorem Rd.of {H:Hp}{a:Addr}{u:HO}(h:H a=some u):Rd H a u := .inl h
theorem Rd.ok {P:Program}{w:World}{H:Hp}{h:Heap}{a:Addr}{u:HO}(r:Rd H a u) (x:HOk P w H h):ZZ P w H h a u:=by
 rcases r with r | ⟨o,r⟩
 ·exact x a u r
 ·obtain ⟨_,q⟩:=x a _ r
  exact q
noncomputable def Mut:Option HO→Prop
 | some (.lst _)=>True
 | some (.dK _)=>True
 | some (.dT _)=>True
 | some (.set _ _)=>True
 | some (.ins _ _ _)=>True
 | some (.ext _)=>True
 | _=>False
section
variable {P:Program}{w:World}{H:Hp}{h h':Heap}{x e:Addr}{o':HO}
theorem HOk.write (ok:HOk P w H h) (mu:Mut (H x)) (he:e=x∨H e=some (.own x)) (k:∀ b u,b≠e→h.get? b=some u→h'.get? b=some u) (heo:∃ u,h'.get? e=some u)
  (new:ZZ P w (upd H x o') h' x o'):HOk P w (upd H x o') h':=fun b u q=>by
 have nown:∀ c y,H c=some (.own y)→c≠x:=fun c y r z=>by subst z;rw [r] at mu;exact mu
 have ntup:∀ c xs,H c=some (.tup xs)→c≠x:=fun c xs r z=>by subst z;rw [r] at mu;exact mu
 by_cases hb:b=x
 ·subst hb;rw [Zu] at q;cases q;exact new
 ·rw [Zk hb] at q
  by_cases hbe:b=e
  ·have q':H b=some (.own x):=by
    rcases he with z | z
    ·exact absurd (hbe.trans z) hb
    ·rw [hbe];exact z
   rw [q] at q';cases q'
   obtain ⟨v,hv⟩:=heo
   exact ⟨v,by rw [hbe];exact hv⟩
  ·refine (ok b u q).stay (fun c v hc r=>k c v ?_ r) (fun c r=>by rw [Zk (nown c b r)];exact r) fun c xs r=>by rw [Zk (ntup c xs r)];exact r
   rcases hc with rfl | hc
   ·exact hbe
   ·rintro rfl
    rcases he with z | z
    ·exact nown c b hc z
    ·rw [hc] at z;cases z;exact hb rfl
end
structure Un (fs ex:List Addr) (H H':Hp) (h h':Heap):Prop where
 keep:∀ b o,h.get? b=some o→H b=none→b∉fs→b∉ex→h'.get? b=some o
 slot:∀ b o,h.get? b=some o→H b=none→b∈fs→b∉ex→∃ sl,h'.get? b=some { o with slots:=sl }
 free:∀ b o,h.get? b=some o→H b=none→b∉ex→H' b=none
 there:∀ b o,h.get? b=some o→b∉ex→∃ o',h'.get? b=some o'
 tups:∀ b xs,H b=some (.tup xs)→H' b=some (.tup xs)
 frzs:∀ b o u,H b=some (.frz o u)→H' b=some (.frz o u)
 tbls:∀ b ps,H b=some (.tbl ps)→∃ more,H' b=some (.tbl (ps++more))
section
variable {fs fs' ex ex':List Addr}{H H1 H2:Hp}{h h1 h2 h':Heap}{a x e:Addr}{o:HO}
theorem Un.any (u:Un fs ex H H1 h h1) {b:Addr}{ob:Obj}(q:h.get? b=some ob) (n:H b=none) (hx:b∉ex):∃ sl,h1.get? b=some { ob with slots:=sl }:=by
 by_cases hb:b∈fs
 ·exact u.slot b ob q n hb hx
 ·exact ⟨ob.slots,u.keep b ob q n hb hx⟩
theorem Un.trans (a:Un fs ex H H1 h h1) (b:Un fs ex H1 H2 h1 h2):Un fs ex H H2 h h2 where
 keep:=fun c ob q n hc hx=>b.keep c ob (a.keep c ob q n hc hx) (a.free c ob q n hx) hc hx
 slot:=fun c ob q n hc hx=>by
  obtain ⟨sl,e1⟩:=a.slot c ob q n hc hx
  obtain ⟨sl',e2⟩:=b.slot c _ e1 (a.free c ob q n hx) hc hx
  exact ⟨sl',e2⟩
 free:=fun c ob q n hx=>by
  obtain ⟨o',e1⟩:=a.there c ob q hx
  exact b.free c o' e1 (a.free c ob q n hx) hx
 there:=fun c ob q hx=>by
  obtain ⟨o',e1⟩:=a.there c ob q hx
  exact b.there c o' e1 hx
 tups:=fun c xs q=>b.tups c xs (a.tups c xs q)
 frzs:=fun c ob xs q=>b.frzs c ob xs (a.frzs c ob xs q)
 tbls:=fun c ps q=>by
  obtain ⟨m1,e1⟩:=a.tbls c ps q
  obtain ⟨m2,e2⟩:=b.tbls c _ e1
  exact ⟨m1++m2,by rw [e2,Array.append_assoc]⟩
theorem Un.kept (k:∀ b u,h.get? b=some u→h'.get? b=some u):Un fs ex H H h h' :=
 ⟨fun b ob q _ _ _=>k b ob q,fun b ob q _ _ _=>⟨ob.slots,k b ob q⟩,fun _ _ _ n _=>n,fun b ob q _=>⟨ob,k b ob q⟩,fun _ _ q=>q,fun _ _ _ q=>q,fun _ ps q=>⟨#[],by rw [q];simp⟩⟩
theorem Un.refl:Un fs ex H H h h:=Un.kept fun _ _ q=>q
theorem Un.laid (k:∀ b u,h.get? b=some u→h'.get? b=some u) (hp:h.objs.size≤a) (hn:H a=none):Un fs ex H (upd H a o) h h' where
 keep:=fun b u q _ _ _=>k b u q
 slot:=fun b u q _ _ _=>⟨u.slots,k b u q⟩
 free:=fun b u q n _=>by rw [Zk (Nat.ne_of_lt (Nat.lt_of_lt_of_le (az q) hp))];exact n
 there:=fun b u q _=>⟨u,k b u q⟩
 tups:=fun b xs q=>by rw [Zk (Zx q hn)];exact q
 frzs:=fun b u xs q=>by rw [Zk (Zx q hn)];exact q
 tbls:=fun b ps q=>⟨#[],by rw [Zk (Zx q hn),q];simp⟩
theorem Un.write (mu:Mut (H x)) (he:e=x∨H e=some (.own x)) (k:∀ b u,b≠e→h.get? b=some u→h'.get? b=some u) (heo:∃ u,h'.get? e=some u):Un fs ex H (upd H x o) h h':=by
 have hx:∀ b,H b=none→b≠x:=fun b n z=>by subst z;rw [n] at mu;exact mu
 have hb:∀ b,H b=none→b≠e:=fun b n z=>by
  subst z
  rcases he with r | r
  ·exact hx b n r
  ·rw [n] at r;cases r
 have hm:∀ b u,H b=some u→¬ Mut (some u)→b≠x:=fun b u q nm z=>by subst z;rw [q] at mu;exact nm mu
 refine ⟨fun b u q n _ _=>k b u (hb b n) q,fun b u q n _ _=>⟨u.slots,k b u (hb b n) q⟩,fun b u q n _=>by rw [Zk (hx b n)];exact n,fun b u q _=>?_,
  fun b xs q=>by rw [Zk (hm b _ q fun z=>z)];exact q,fun b u xs q=>by rw [Zk (hm b _ q fun z=>z)];exact q,fun b ps q=>⟨#[],by rw [Zk (hm b _ q fun z=>z),q];simp⟩⟩
 by_cases hbe:b=e
 ·subst hbe;exact heo
 ·exact ⟨u,k b u hbe q⟩
theorem Un.mono (u:Un fs ex H H1 h h1) (hs:∀ b∈fs,b∈fs') (hx:∀ b∈ex,b∈ex'):Un fs' ex' H H1 h h1 :=
 ⟨fun b ob q n hb he=>u.keep b ob q n (fun z=>hb (hs b z)) fun z=>he (hx b z),fun _ _ q n _ he=>u.any q n fun z=>he (hx _ z),fun b ob q n he=>u.free b ob q n fun z=>he (hx b z),fun b ob q he=>u.there b ob q fun z=>he (hx b z),u.tups,u.frzs,u.tbls⟩
end
noncomputable def trk (h:Heap) (H:Hp):List Addr:=(List.range h.objs.size).filter fun a=>(H a).isSome
noncomputable def Gp (h:Heap) (H:Hp):Heap:=hideAll h (trk h H)
theorem AI (h:Heap) (H:Hp):(Gp h H).objs.size=h.objs.size:=PySem.W.hideAll_size _ _
theorem yH {h:Heap}{H:Hp}{b:Addr}{o:Obj}(e:h.get? b=some o) (n:H b=none):(Gp h H).get? b=some o :=
 PySem.W.hideAll_get _ e fun hm=>by
  have q:(H b).isSome=true:=(mem_filter.mp hm).2
  rw [n] at q;simp at q
theorem uI {h:Heap}{H:Hp}{b:Addr}{o:Obj}(e:(Gp h H).get? b=some o):h.get? b=some o∧H b=none:=by
 have e':h.get? b=some o:=PySem.W.of_hideAll (trk h H) e
 refine ⟨e',?_⟩
 cases q:H b with
 | none=>rfl
 | some x =>
  have hm:b∈trk h H:=mem_filter.mpr ⟨mem_range.mpr (az e'),by simp [q]⟩
  have z:(Gp h H).get? b=none:=PySem.W.hideAll_none (trk h H) hm
  rw [z] at e;cases e
noncomputable def uJ (g h:Heap) (L:Addr):List (Addr × Obj):=(List.range h.objs.size).filterMap fun a=>if a=L∨(g.get? a).isSome=true then none else (h.get? a).map fun o=>(a,o)
noncomputable def rest (g h:Heap) (L d:Addr):List (Addr × Obj):=(uJ g h L).filter fun p=>decide (p.1≠d)
structure Mod (K:aj) (mg:Str→Option Value) (base:Heap):Prop where
 kin:K.In base
 glob:base.Ns mainGlobals mg
 blt:∃ mb,base.Ns builtinsNs mb∧∀ x:Str,x ≠ "__name__" → mb x=bootBuiltins x
 nolimit:base.NoLimit
structure Cx where
 prog:Program
 w:World
 K:aj
 mg:Str→Option Value
 base:Heap
 A:Around
 N:List Str
 s₀:Shared
 H₀:Hp
 env:Env
 outer:List Env
 stack:List Env
 ex:List Addr
 fn:Str→Bool
 calm:Bool
 pn:List (Addr × Obj)
 xe:Value→Shared→Prop
noncomputable def frs (l:List Env):List Addr:=l.filterMap (·.frame)
abbrev Cx.fs (X:Cx):List Addr:=frs X.outer
noncomputable def Vis (sc:Scope) (x:Str):Prop:=sc.names.lookup x=some .local∨sc.names.lookup x=some .cell∨sc.names.lookup x=some .free
noncomputable def Loc (sc:Scope) (x:Str):Prop:=sc.names.lookup x=some .local∨sc.names.lookup x=some .cell
noncomputable def Look (env:Env) (h:Heap) (m:Str→Option Value) (x:Str) (u:Value):Prop :=
 (env.kindOf x=some .local∧m x=some u)∨((env.kindOf x=some .cell∨env.kindOf x=some .free)∧∃ c,env.cells.lookup x=some c∧h.IsCell c (some u))
structure Cx.Ok (X:Cx):Prop where
 mod:Mod X.K X.mg X.base
 kind:X.env.scope.kind = .function
 glob:X.env.globals=mainGlobals
 blt:X.env.builtins=builtinsNs
 above:X.s₀.heap.objs.size≤X.env.locals
 inj:∀ x y c,X.env.cells.lookup x=some c→X.env.cells.lookup y=some c→x=y
 has:∀ x,(X.env.kindOf x=some .cell∨X.env.kindOf x=some .free)→∃ c,X.env.cells.lookup x=some c
 cab:∀ x c,X.fn x=true→X.env.cells.lookup x=some c→X.s₀.heap.objs.size≤c
 hd:X.calm=true→X.A.handled=none
 frames:X.A.frames=some X.stack
 stk:X.stack=X.outer∨(X.stack=X.env::X.outer∧X.env.frame=some X.env.locals)
 exf:∀ b∈X.ex,b≠X.env.locals∧∀ x c,X.env.cells.lookup x=some c→c≠b
 bs:∀ b o,X.base.get? b=some o→X.s₀.heap.get? b=some o∧X.H₀ b=none
 bsz:X.base.objs.size≤X.s₀.heap.objs.size
 noex:∀ b o,X.base.get? b=some o→b∉X.ex
 exfs:∀ b∈X.ex,b∉X.fs
 Np:X.s₀.heap.FunFrames X.base X.outer
 frf:∀ b∈X.fs,X.H₀ b=none
structure Inv (X:Cx) (pins:List (Addr × Obj)) (σ:List (Option V)) (H:Hp) (s:Shared):Prop where
 ok:X.Ok
 os:s.os=X.s₀.os
 bare:AllBare s.gens
 base:Un X.fs X.ex X.H₀ H X.s₀.heap s.heap
 loc:∃ m,s.heap.Ns X.env.locals m∧∀ (i:Nat) (x:Str) (v:V),X.N[i]?=some x→σ[i]?=some (some v)→Vis X.env.scope x→∃ u,RelV v u∧Look X.env s.heap m x u
 cell:∀ x c,X.env.cells.lookup x=some c→∃ v,s.heap.IsCell c v
 free:H X.env.locals=none
 freeC:∀ x c,X.env.cells.lookup x=some c→H c=none
 pin:∀ p∈X.pn++pins,s.heap.get? p.1=some p.2∧H p.1=none∧p.1≠X.env.locals∧p.1∉X.fs∧∀ v,p.2.data ≠ .cell v
 hok:HOk X.prog X.w H s.heap
 len:σ.length=X.N.length
section
variable {X:Cx}{pins:List (Addr × Obj)}{σ:List (Option V)}{H H':Hp}{s:Shared}{h':Heap}
theorem Cx.Ok.nofr (ok:X.Ok) {b:Addr}{o:Obj}(e:X.base.get? b=some o):b∉X.fs:=fun hb=>by
 have:=(ok.Np.mem hb).1
 rw [e] at this;cases this
theorem Inv.bs (I:Inv X pins σ H s):∀ b o,X.base.get? b=some o→s.heap.get? b=some o∧H b=none:=fun b o e =>
 ⟨I.base.keep b o (I.ok.bs b o e).1 (I.ok.bs b o e).2 (I.ok.nofr e) (I.ok.noex b o e),I.base.free b o (I.ok.bs b o e).1 (I.ok.bs b o e).2 (I.ok.noex b o e)⟩
theorem Inv.bk (I:Inv X pins σ H s):∀ b o,X.base.get? b=some o→s.heap.get? b=some o:=fun b o e=>(I.bs b o e).1
theorem Inv.mod (I:Inv X pins σ H s):Mod X.K X.mg X.base:=I.ok.mod
theorem Inv.kIn (I:Inv X pins σ H s):X.K.In s.heap:=I.ok.mod.kin.keeps I.bk
theorem Inv.fr (I:Inv X pins σ H s):∃ m,Fr X.base X.env.locals s.heap m :=
 let ⟨m,hn,_⟩:=I.loc
 ⟨m,hn,I.bk,Nat.le_trans I.ok.bsz I.ok.above⟩
theorem Inv.lt (I:Inv X pins σ H s):X.env.locals < s.heap.objs.size:=let ⟨_,hn,_⟩:=I.loc;hn.lt
theorem Inv.sz (I:Inv X pins σ H s):X.s₀.heap.objs.size≤s.heap.objs.size:=Nat.le_trans I.ok.above (Nat.le_of_lt I.lt)
theorem Inv.nofs (I:Inv X pins σ H s) {a:Addr}(h:s.heap.objs.size≤a):a∉X.fs:=fun hb=>by
 obtain ⟨_,o,ho,_⟩:=I.ok.Np.mem hb
 exact absurd (Nat.lt_of_lt_of_le (az ho) (Nat.le_trans I.sz h)) (Nat.lt_irrefl _)
theorem Inv.cne (I:Inv X pins σ H s):∀ x c,X.env.cells.lookup x=some c→c≠X.env.locals:=fun x c e z=>by
 obtain ⟨v,o,ho,hd⟩:=I.cell x c e
 obtain ⟨m,⟨o',es,ep,ho',hd',_⟩,_⟩:=I.loc
 rw [z,ho'] at ho;cases ho;rw [hd'] at hd;cases hd
theorem Inv.Np (I:Inv X pins σ H s):s.heap.FunFrames X.base X.outer:=by
 have all:∀ (l:List Env),(∀ b∈frs l,b∈X.fs)→X.s₀.heap.FunFrames X.base l→s.heap.FunFrames X.base l:=by
  intro l
  induction l with
  | nil=>intro _ _;trivial
  | cons env r ih =>
   intro hs hl
   obtain ⟨hk,⟨L,o,hf,hn,ho,hd⟩,hr⟩:=hl
   have hL:L∈X.fs:=hs L (by unfold frs;rw [filterMap_cons,hf];exact mem_cons_self)
   obtain ⟨sl,e⟩:=I.base.slot L o ho (I.ok.frf L hL) hL fun z=>I.ok.exfs L z hL
   exact ⟨hk,⟨L,_,hf,hn,e,hd⟩,ih (fun b hb=>hs b (by unfold frs;rw [filterMap_cons,hf];exact mem_cons_of_mem _ hb)) hr⟩
 exact all X.outer (fun _ hb=>hb) I.ok.Np
theorem Inv.stack (I:Inv X pins σ H s):s.heap.FunFrames X.base X.stack:=by
 rcases I.ok.stk with e | ⟨e,hf⟩
 ·rw [e];exact I.Np
 ·rw [e]
  obtain ⟨m,hn,_⟩:=I.loc
  refine .cons (by rw [I.ok.kind];decide) hf hn ?_ I.Np
  exact Heap.get?_none_of_le (Nat.le_trans I.ok.bsz I.ok.above)
theorem Inv.Gq (I:Inv X pins σ H s):∀ b∈frs X.stack,b∈X.env.locals::X.fs:=fun b hb=>by
 rcases I.ok.stk with e | ⟨e,hf⟩
 ·rw [e] at hb;exact mem_cons_of_mem _ hb
 ·rw [e] at hb
  unfold frs at hb
  rw [filterMap_cons,hf] at hb
  exact hb
theorem Inv.Bw (I:Inv X pins σ H s):∀ b∈frs X.stack,H b=none:=fun b hb=>by
 rcases mem_cons.mp (I.Gq b hb) with e | hb
 ·rw [e];exact I.free
 ·obtain ⟨_,o,ho,_⟩:=I.ok.Np.mem hb
  exact I.base.free b o ho (I.ok.frf b hb) fun z=>I.ok.exfs b z hb
theorem Inv.step {g':Array GenState}{t':Nat}{d':Drawn}{ch:List Addr}(I:Inv X pins σ H s)
  (hch:∀ b∈ch,(b∈X.ex∨X.s₀.heap.objs.size≤b)∧b≠X.env.locals∧(∀ x c,X.env.cells.lookup x=some c→c≠b)∧∀ p∈X.pn++pins,p.1≠b)
  (keep:∀ b o,b≠X.env.locals→b∉X.fs→b∉ch→s.heap.get? b=some o→H b=none→h'.get? b=some o)
  (slot:∀ b o,b≠X.env.locals→b∈X.fs→b∉ch→s.heap.get? b=some o→H b=none→∃ sl,h'.get? b=some { o with slots:=sl }) (free:∀ b o,b∉ch→s.heap.get? b=some o→H b=none→H' b=none)
  (there:∀ b o,b∉ch→s.heap.get? b=some o→∃ o',h'.get? b=some o')
  (tups:∀ b xs,H b=some (.tup xs)→H' b=some (.tup xs)) (frzs:∀ b o u,H b=some (.frz o u)→H' b=some (.frz o u)) (tbls:∀ b ps,H b=some (.tbl ps)→∃ more,H' b=some (.tbl (ps++more)))
  (ns:∀ m,s.heap.Ns X.env.locals m→h'.Ns X.env.locals m) (hok:HOk X.prog X.w H' h') (hg:AllBare g') :
  Inv X pins σ H' { s with heap:=h',gens:=g',drawn:=d',toks:=t' }:=by
 have neL:∀ b o,X.s₀.heap.get? b=some o→b≠X.env.locals:=fun b o e=>Nat.ne_of_lt (Nat.lt_of_lt_of_le (az e) I.ok.above)
 have neC:∀ b o,X.s₀.heap.get? b=some o→b∉X.ex→b∉ch:=fun b o e hx hb=>by
  rcases (hch b hb).1 with z | z
  ·exact hx z
  ·exact absurd (Nat.lt_of_lt_of_le (az e) z) (Nat.lt_irrefl _)
 have cellK:∀ x c,X.env.cells.lookup x=some c→∀ v,s.heap.IsCell c v→h'.IsCell c v:=fun x c e v ⟨o,ho,hd⟩=>by
  have nch:c∉ch:=fun z=>(hch c z).2.2.1 x c e rfl
  by_cases hc:c∈X.fs
  ·obtain ⟨sl,q⟩:=slot c o (I.cne x c e) hc nch ho (I.freeC x c e)
   exact ⟨_,q,hd⟩
  ·exact ⟨o,keep c o (I.cne x c e) hc nch ho (I.freeC x c e),hd⟩
 refine ⟨I.ok,I.os,hg,⟨fun b o e n hb hx=>?_,fun b o e n hb hx=>?_,fun b o e n hx=>?_,fun b o e hx=>?_,fun b xs e=>tups b xs (I.base.tups b xs e),fun b o xs e=>frzs b o xs (I.base.frzs b o xs e),fun b ps e=>?_⟩,?_,fun x c e=>?_,?_,fun x c e=>?_,fun p hp=>?_,hok,I.len⟩
 ·exact keep b o (neL b o e) hb (neC b o e hx) (I.base.keep b o e n hb hx) (I.base.free b o e n hx)
 ·obtain ⟨sl,e1⟩:=I.base.slot b o e n hb hx
  obtain ⟨sl',e2⟩:=slot b _ (neL b o e) hb (neC b o e hx) e1 (I.base.free b o e n hx)
  exact ⟨sl',e2⟩
 ·obtain ⟨o',e1⟩:=I.base.there b o e hx
  exact free b o' (neC b o e hx) e1 (I.base.free b o e n hx)
 ·obtain ⟨o',e1⟩:=I.base.there b o e hx
  exact there b o' (neC b o e hx) e1
 ·obtain ⟨m1,e1⟩:=I.base.tbls b ps e
  obtain ⟨m2,e2⟩:=tbls b _ e1
  exact ⟨m1++m2,by rw [e2,Array.append_assoc]⟩
 ·obtain ⟨m,hn,hl⟩:=I.loc
  refine ⟨m,ns m hn,fun i x v e1 e2 e3=>?_⟩
  obtain ⟨u,r,l⟩:=hl i x v e1 e2 e3
  refine ⟨u,r,?_⟩
  rcases l with l | ⟨k,c,e,z⟩
  ·exact .inl l
  ·exact .inr ⟨k,c,e,cellK x c e _ z⟩
 ·obtain ⟨v,z⟩:=I.cell x c e
  exact ⟨v,cellK x c e v z⟩
 ·obtain ⟨m,⟨o,_,_,ho,_⟩,_⟩:=I.loc
  exact free _ o (fun z=>(hch _ z).2.1 rfl) ho I.free
 ·obtain ⟨v,o,ho,hd⟩:=I.cell x c e
  exact free c o (fun z=>(hch c z).2.2.1 x c e rfl) ho (I.freeC x c e)
 ·obtain ⟨e,n,ne,nf,d⟩:=I.pin p hp
  have nch:p.1∉ch:=fun z=>(hch p.1 z).2.2.2 p hp rfl
  exact ⟨keep p.1 p.2 ne nf nch e n,free p.1 p.2 nch e n,ne,nf,d⟩
theorem Inv.un {t':Nat}(I:Inv X pins σ H s) (u:Un X.fs [] H H' s.heap h') (hok:HOk X.prog X.w H' h'):Inv X pins σ H' { s with heap:=h',toks:=t' }:=by
 obtain ⟨m,⟨o,es,ep,ho,r⟩,_⟩:=id I.loc
 obtain ⟨sl,hL⟩:=u.any ho I.free (by simp)
 exact I.step (g':=s.gens) (d':=s.drawn) (ch:=[]) (fun _ z=>nomatch z) (fun b o _ hb _ e n=>u.keep b o e n hb (by simp)) (fun b o _ hb _ e n=>u.slot b o e n hb (by simp)) (fun b o _ e n=>u.free b o e n (by simp)) (fun b o _ e=>u.there b o e (by simp)) u.tups u.frzs u.tbls (fun m' hm=>by
  obtain ⟨o',es',ep',ho',r'⟩:=hm
  rw [ho] at ho';cases ho'
  exact ⟨_,es',ep',hL,r'⟩) hok I.bare
theorem Inv.call {g':Array GenState}{t':Nat}{d':Drawn}{ch:List Addr}(I:Inv X pins σ H s) (u:Un (frs X.stack) ch H H' s.heap h') (hok:HOk X.prog X.w H' h') (hg:AllBare g')
  (hch:∀ b∈ch,(b∈X.ex∨X.s₀.heap.objs.size≤b)∧b≠X.env.locals∧(∀ x c,X.env.cells.lookup x=some c→c≠b)∧∀ p∈X.pn++pins,p.1≠b) :
  Inv X pins σ H' { s with heap:=h',gens:=g',drawn:=d',toks:=t' }:=by
 obtain ⟨m,⟨o,es,ep,ho,r⟩,_⟩:=id I.loc
 obtain ⟨sl,hL⟩:=u.any ho I.free fun z=>(hch _ z).2.1 rfl
 exact I.step (ch:=ch) hch (fun b o hL hb hc e n=>u.keep b o e n (fun z=>(mem_cons.mp (I.Gq b z)).elim hL hb) hc) (fun b o _ _ hc e n=>u.any e n hc) (fun b o hc e n=>u.free b o e n hc) (fun b o hc e=>u.there b o e hc) u.tups u.frzs u.tbls (fun m' hm=>by
  obtain ⟨o',es',ep',ho',r'⟩:=hm
  rw [ho] at ho';cases ho'
  exact ⟨_,es',ep',hL,r'⟩) hok hg
theorem Inv.turned {t':Nat}{it:Addr}(I:Inv X pins σ H s) (k:∀ b o,b≠it→s.heap.get? b=some o→h'.get? b=some o) (hn:H it=none) (hL:it≠X.env.locals)
  (h1:it∈X.ex∨X.s₀.heap.objs.size≤it) (h2:∀ x c,X.env.cells.lookup x=some c→c≠it) (h3:∀ p∈X.pn++pins,p.1≠it):Inv X pins σ H { s with heap:=h',toks:=t' }:=by
 have nit:∀ b u,H b=some u→b≠it:=fun b u e z=>by rw [z,hn] at e;cases e
 refine I.step (g':=s.gens) (d':=s.drawn) (ch:=[it]) (fun b hb=>?_) (fun b o _ _ hc e _=>k b o (fun z=>hc (by simp [z])) e) (fun b o _ _ hc e _=>⟨o.slots,k b o (fun z=>hc (by simp [z])) e⟩) (fun _ _ _ _ n=>n)
  (fun b o hc e=>⟨o,k b o (fun z=>hc (by simp [z])) e⟩) (fun _ _ e=>e) (fun _ _ _ e=>e) (fun b ps e=>⟨#[],by rw [e];simp⟩) (fun m hm=>?_) (fun b u e=>?_) I.bare
 ·have e:b=it:=by simpa using hb
  subst e
  exact ⟨h1,hL,h2,h3⟩
 ·obtain ⟨o,es,ep,ho,r⟩:=hm
  exact ⟨o,es,ep,k _ o (Ne.symm hL) ho,r⟩
 ·refine (I.hok b u e).stay (fun c v hc q=>k c v ?_ q) (fun _ q=>q) fun _ _ q=>q
  rcases hc with z | z
  ·rw [z];exact nit b u e
  ·exact nit c _ z
theorem Inv.tok (I:Inv X pins σ H s) (t:Nat):Inv X pins σ H { s with toks:=t }:=I.un (h':=s.heap) (t':=t) Un.refl I.hok
theorem Inv.kept {t':Nat}(I:Inv X pins σ H s) (k:∀ b u,s.heap.get? b=some u→h'.get? b=some u):Inv X pins σ H { s with heap:=h',toks:=t' }:=I.un (Un.kept k) (I.hok.kept k)
theorem Inv.laid {a:Addr}{o:HO}{t':Nat}(I:Inv X pins σ H s) (k:∀ b u,s.heap.get? b=some u→h'.get? b=some u) (hp:s.heap.objs.size≤a) (new:ZZ X.prog X.w (upd H a o) h' a o) :
  Inv X pins σ (upd H a o) { s with heap:=h',toks:=t' }:=I.un (Un.laid k hp (I.hok.fresh hp)) (I.hok.laid k hp new)
theorem Inv.write {x e:Addr}{o:HO}{t':Nat}(I:Inv X pins σ H s) (mu:Mut (H x)) (he:e=x∨H e=some (.own x)) (k:∀ b u,b≠e→s.heap.get? b=some u→h'.get? b=some u) (heo:∃ u,h'.get? e=some u)
  (new:ZZ X.prog X.w (upd H x o) h' x o):Inv X pins σ (upd H x o) { s with heap:=h',toks:=t' }:=I.un (Un.write mu he k heo) (I.hok.write mu he k heo new)
theorem Inv.Bx {pins':List (Addr × Obj)}(I:Inv X pins σ H s) (h:∀ p∈pins',s.heap.get? p.1=some p.2∧H p.1=none∧p.1≠X.env.locals∧p.1∉X.fs∧∀ v,p.2.data ≠ .cell v):Inv X pins' σ H s :=
 ⟨I.ok,I.os,I.bare,I.base,I.loc,I.cell,I.free,I.freeC,fun p hp=>(mem_append.mp hp).elim (fun z=>I.pin p (mem_append_left _ z)) (h p),I.hok,I.len⟩
theorem FT {N:List Str}(hN:N.Nodup) {i j:Nat}{x:Str}(a:N[i]?=some x) (b:N[j]?=some x):i=j:=by
 obtain ⟨h1,e1⟩:=List.getElem?_eq_some_iff.mp a
 obtain ⟨h2,e2⟩:=List.getElem?_eq_some_iff.mp b
 exact (List.getElem_inj hN).mp (e1.trans e2.symm)
theorem HH {M:Model}{A:Around}{E:Value→Shared→Prop}{i:Nat}{x:Str}{v:V}{u:Value}{Q:Unit→Shared→Prop}(I:Inv X pins σ H s) (hN:X.N.Nodup) (hi:X.N[i]?=some x) (hx:Loc X.env.scope x) (r:RelV v u)
  (h:∀ s',Inv X pins (σ.set i (some v)) H s'→(∃ a,aF a s.heap s'.heap∧(a=X.env.locals∨X.env.cells.lookup x=some a))→Q () s') (hf:X.fn x=true∨X.env.scope.names.lookup x=some .local:=by first | exact .inl rfl | exact .inr rfl | assumption):wpAny M A (storeName X.env x u) Q E s:=by
 obtain ⟨m,hn,hl⟩:=id I.loc
 have hcls:(X.env.scope.kind == .class || (X.env.scope.kind == .module && X.env.locals != X.env.globals))=false:=by rw [I.ok.kind];rfl
 have hiσ:i < σ.length:=by rw [I.len];exact (List.getElem?_eq_some_iff.mp hi).1
 have cne:=I.cne
 have tracked:∀ {a:Addr}{h':Heap},(∃ o,s.heap.get? a=some o∧H a=none)→aF a s.heap h'→HOk X.prog X.w H h':=fun {a h'} ha hs b ob e=>by
  obtain ⟨_,_,hfree⟩:=ha
  refine (I.hok b ob e).stay (fun c w' hc q=>(hs.2 c ?_).trans q) (fun _ q=>q) fun _ _ q=>q
  rintro rfl
  rcases hc with rfl | hc
  ·rw [hfree] at e;cases e
  ·rw [hfree] at hc;cases hc
 rcases hx with hk | hk
 ·refine wpAny_storeName_local hk hn (fun h' hn' hs=>?_) hcls
  obtain ⟨oL,_,_,hoL,_⟩:=id hn
  refine h _ ⟨I.ok,I.os,I.bare,⟨fun b o e n hb hx=>?_,fun b o e n hb hx=>?_,I.base.free,fun b o e hx=>?_,I.base.tups,I.base.frzs,I.base.tbls⟩,⟨_,hn',fun j y v' e1 e2 e3=>?_⟩,fun y c e=>?_,I.free,I.freeC,fun p hp=>?_,tracked ⟨oL,hoL,I.free⟩ hs,by simpa using I.len⟩ ⟨_,hs,.inl rfl⟩
  ·exact (hs.2 b (Nat.ne_of_lt (Nat.lt_of_lt_of_le (az e) I.ok.above))).trans (I.base.keep b o e n hb hx)
  ·obtain ⟨sl,e1⟩:=I.base.slot b o e n hb hx
   exact ⟨sl,(hs.2 b (Nat.ne_of_lt (Nat.lt_of_lt_of_le (az e) I.ok.above))).trans e1⟩
  ·obtain ⟨o',e1⟩:=I.base.there b o e hx
   exact ⟨o',(hs.2 b (Nat.ne_of_lt (Nat.lt_of_lt_of_le (az e) I.ok.above))).trans e1⟩
  ·by_cases hj:j=i
   ·subst hj
    rw [hi] at e1;cases e1
    rw [List.getElem?_set_self hiσ] at e2
    cases e2
    exact ⟨u,r,.inl ⟨hk,by simp⟩⟩
   ·rw [getElem?_set_ne (Ne.symm hj)] at e2
    obtain ⟨u',r',q⟩:=hl j y v' e1 e2 e3
    refine ⟨u',r',?_⟩
    rcases q with ⟨k,e⟩ | ⟨k,c,e,z⟩
    ·refine .inl ⟨k,?_⟩
     have:y≠x:=fun e=>hj (FT hN e1 (e ▸ hi))
     simp [this,e]
    ·exact .inr ⟨k,c,e,z.sameBut hs (cne y c e)⟩
  ·obtain ⟨w',z⟩:=I.cell y c e
   exact ⟨w',z.sameBut hs (cne y c e)⟩
  ·obtain ⟨e,n,ne,nf,d⟩:=I.pin p hp
   exact ⟨(hs.2 p.1 ne).trans e,n,ne,nf,d⟩
 ·have hfn:X.fn x=true:=by
   rcases hf with z | z
   ·exact z
   ·rw [z] at hk;cases hk
  obtain ⟨c,hc⟩:=I.ok.has x (.inl hk)
  obtain ⟨w',z⟩:=I.cell x c hc
  refine wpAny_storeName_cell I.ok.kind hk hc z (fun h' hc' hs=>?_)
  obtain ⟨oc,hoc,hocd⟩:=id z
  refine h { s with heap:=h' } ⟨I.ok,I.os,I.bare,⟨fun b o e n hb hx=>?_,fun b o e n hb hx=>?_,I.base.free,fun b o e hx=>?_,I.base.tups,I.base.frzs,I.base.tbls⟩,⟨m,hn.sameBut hs (Ne.symm (cne x c hc)),fun j y v' e1 e2 e3=>?_⟩,fun y c' e=>?_,I.free,I.freeC,fun p hp=>?_,tracked ⟨oc,hoc,I.freeC x c hc⟩ hs,by simpa using I.len⟩ ⟨c,hs,.inr hc⟩
  ·exact (hs.2 b (Nat.ne_of_lt (Nat.lt_of_lt_of_le (az e) (I.ok.cab x c hfn hc)))).trans (I.base.keep b o e n hb hx)
  ·obtain ⟨sl,e1⟩:=I.base.slot b o e n hb hx
   exact ⟨sl,(hs.2 b (Nat.ne_of_lt (Nat.lt_of_lt_of_le (az e) (I.ok.cab x c hfn hc)))).trans e1⟩
  ·obtain ⟨o',e1⟩:=I.base.there b o e hx
   exact ⟨o',(hs.2 b (Nat.ne_of_lt (Nat.lt_of_lt_of_le (az e) (I.ok.cab x c hfn hc)))).trans e1⟩
  ·by_cases hj:j=i
   ·subst hj
    rw [hi] at e1;cases e1
    rw [List.getElem?_set_self hiσ] at e2
    cases e2
    exact ⟨u,r,.inr ⟨.inl hk,c,hc,hc'⟩⟩
   ·rw [getElem?_set_ne (Ne.symm hj)] at e2
    obtain ⟨u',r',q⟩:=hl j y v' e1 e2 e3
    refine ⟨u',r',?_⟩
    rcases q with q | ⟨k,c',e,z'⟩
    ·exact .inl q
    ·refine .inr ⟨k,c',e,z'.sameBut hs ?_⟩
     rintro rfl
     exact hj (FT hN e1 (I.ok.inj _ _ _ e hc ▸ hi))
  ·by_cases hcc:c'=c
   ·subst hcc;exact ⟨_,hc'⟩
   ·obtain ⟨w2,z2⟩:=I.cell y c' e
    exact ⟨w2,z2.sameBut hs hcc⟩
  ·obtain ⟨e,n,ne,nf,d⟩:=I.pin p hp
   refine ⟨(hs.2 p.1 ?_).trans e,n,ne,nf,d⟩
   intro q
   rw [q,hoc] at e
   have q':oc=p.2:=Option.some.inj e
   exact d w' (by rw [←q'];exact hocd)
theorem Nq {M:Model}{A:Around}{E:Value→Shared→Prop}{i:Nat}{x:Str}{v:V}{u:Value}{Q:Unit→Shared→Prop}(I:Inv X pins σ H s) (hN:X.N.Nodup) (hi:X.N[i]?=some x) (hx:Loc X.env.scope x) (r:RelV v u)
  (h:∀ s',Inv X pins (σ.set i (some v)) H s'→Q () s') (hf:X.fn x=true∨X.env.scope.names.lookup x=some .local:=by first | exact .inl rfl | exact .inr rfl | assumption):wpAny M A (storeName X.env x u) Q E s :=
 HH I hN hi hx r (fun s' I' _=>h s' I') hf
theorem Inv.call' {s':Shared}{ch:List Addr}(I:Inv X pins σ H s) (ho:s'.os=s.os) (u:Un (frs X.stack) ch H H' s.heap s'.heap) (hok:HOk X.prog X.w H' s'.heap) (hg:AllBare s'.gens)
  (hch:∀ b∈ch,(b∈X.ex∨X.s₀.heap.objs.size≤b)∧b≠X.env.locals∧(∀ x c,X.env.cells.lookup x=some c→c≠b)∧∀ p∈X.pn++pins,p.1≠b):Inv X pins σ H' s':=by
 obtain ⟨h',g',d',t',o'⟩:=s'
 have e:o'=s.os:=ho
 subst e
 exact I.call (g':=g') (t':=t') (d':=d') u hok hg hch
end
abbrev XK:=Value→Option Addr→Hp→Prop
abbrev St:=List (Option V)
abbrev VK:=V→Hp→Prop
abbrev TE:=St→Hp→VK→Prop
abbrev TT:=St→Hp→(Bool→Hp→Prop)→Prop
abbrev TA:=St→Hp→(List V→Hp→Prop)→Prop
structure Ends where
 nx:St→Hp→Prop
 rt:VK
 bk:St→Hp→Prop:=fun _ _=>False
 ct:St→Hp→Prop:=fun _ _=>False
abbrev TS:=Ends→St→Hp→Prop
noncomputable def EP (X:Cx) (pins:List (Addr × Obj)) (σ:St) (Q:VK) (u:Value) (s':Shared):Prop:=∃ v H',Inv X pins σ H' s'∧RelV v u∧Q v H'
noncomputable def TP (X:Cx) (pins:List (Addr × Obj)) (σ:St) (Q:Bool→Hp→Prop) (b:Bool) (s':Shared):Prop:=∃ H',Inv X pins σ H' s'∧Q b H'
noncomputable def AP (X:Cx) (pins:List (Addr × Obj)) (σ:St) (Q:List V→Hp→Prop) (us:List Value) (s':Shared):Prop:=∃ vs H',Inv X pins σ H' s'∧Vals vs us∧Q vs H'
noncomputable def SP (X:Cx) (pins:List (Addr × Obj)) (D:Ends) (f:Flow) (s':Shared):Prop :=
 match f with
 | .next=>∃ σ' H',Inv X pins σ' H' s'∧D.nx σ' H'
 | .brk=>∃ σ' H',Inv X pins σ' H' s'∧D.bk σ' H'
 | .cont=>∃ σ' H',Inv X pins σ' H' s'∧D.ct σ' H'
 | .ret u=>∃ v σ' H',Inv X pins σ' H' s'∧RelV v u∧D.rt v H'
noncomputable def PE (X:Cx) (e:Expr) (t:TE):Prop :=
 ∀ (pins:List (Addr × Obj)) (s:Shared) (σ:St) (H:Hp) (Q:VK),Inv X pins σ H s→t σ H Q→wpAny (model X.prog X.w) X.A (eval e X.env) (EP X pins σ Q) X.xe s
noncomputable def PT (X:Cx) (e:Expr) (t:TT):Prop :=
 ∀ (pins:List (Addr × Obj)) (s:Shared) (σ:St) (H:Hp) (Q:Bool→Hp→Prop),Inv X pins σ H s→t σ H Q→wpAny (model X.prog X.w) X.A (isTrue e X.env (eval e X.env)) (TP X pins σ Q) X.xe s
noncomputable def PW (X:Cx) (e:Expr) (t:TT):Prop :=
 ∀ (whole:Sem Value) (pins:List (Addr × Obj)) (s:Shared) (σ:St) (H:Hp) (Q:Bool→Hp→Prop),Inv X pins σ H s→t σ H Q→wpAny (model X.prog X.w) X.A (isTrue e X.env whole) (TP X pins σ Q) X.xe s
theorem PW.pt {X:Cx}{e:Expr}{t:TT}(h:PW X e t):PT X e t:=h _
noncomputable def PA (X:Cx) (es:List Expr) (t:TA):Prop :=
 ∀ (pos:Pos) (pins:List (Addr × Obj)) (s:Shared) (σ:St) (H:Hp) (Q:List V→Hp→Prop),Inv X pins σ H s→t σ H Q→wpAny (model X.prog X.w) X.A (spliced (backTo pos (starEach es X.env))) (AP X pins σ Q) X.xe s
noncomputable def PS (X:Cx) (st:Stmt) (t:TS):Prop :=
 ∀ (pins:List (Addr × Obj)) (s:Shared) (σ:St) (H:Hp) (D:Ends),Inv X pins σ H s→t D σ H→wpAny (model X.prog X.w) X.A (exec st X.env) (SP X pins D) X.xe s
noncomputable def PSs (X:Cx) (st:List Stmt) (t:TS):Prop :=
 ∀ (pins:List (Addr × Obj)) (s:Shared) (σ:St) (H:Hp) (D:Ends),Inv X pins σ H s→t D σ H→wpAny (model X.prog X.w) X.A (execs st X.env) (SP X pins D) X.xe s
theorem thn {α:Type}{t:Sem α}{Q Q':α→Shared→Prop}{M:Model}{A:Around}{E:Value→Shared→Prop}{s:Shared}(h:wpAny M A t Q E s) (hQ:∀ a s,Q a s→Q' a s):wpAny M A t Q' E s:=wpAny_mono h hQ fun _ _ x=>x
section
variable {X:Cx}
theorem bin {a b:Expr}{ta tb:TE}(ha:PE X a ta) (hb:PE X b tb) {pins:List (Addr × Obj)}{s:Shared}{σ:St}{H:Hp}{R:V→V→Hp→Prop}(I:Inv X pins σ H s) (h:ta σ H fun x H1=>tb σ H1 fun y H2=>R x y H2)
  {α:Type}{Q:α→Shared→Prop}{f:Value→Value→Sem α}
  (hf:∀ v u s2 x y H2,Inv X pins σ H2 s2→RelV x v→RelV y u→R x y H2→wpAny (model X.prog X.w) X.A (f v u) Q X.xe s2) :
  wpAny (model X.prog X.w) X.A (eval a X.env) (fun v s₁=>wpAny (model X.prog X.w) X.A (eval b X.env) (fun u s₂=>wpAny (model X.prog X.w) X.A (f v u) Q X.xe s₂) X.xe s₁) X.xe s:=by
 refine thn (ha pins s σ H _ I h) fun v s1 ⟨x,H1,I1,r1,q1⟩=>?_
 refine thn (hb pins s1 σ H1 _ I1 q1) fun u s2 ⟨y,H2,I2,r2,q2⟩=>?_
 exact hf v u s2 x y H2 I2 r1 r2 q2
noncomputable def tVar (i:Nat):TE:=fun σ H Q=>∃ v,σ[i]?=some (some v)∧Q v H
noncomputable def tC (v:V):TE:=fun _ H Q=>Q v H
theorem pS {i:Nat}{x:Str}{pos:Pos}(hN:X.N[i]?=some x) (hv:Vis X.env.scope x) (hd:autoParam ((x == ("__debug__" : Str))=false) auD) (hcd:autoParam ((x == ("__classdict__" : Str))=false) auD):PE X (.Name x pos) (tVar i):=by
 intro pins s σ H Q I h
 obtain ⟨v,e,h⟩:=h
 obtain ⟨m,hn,hl⟩:=I.loc
 obtain ⟨u,r,l⟩:=hl i x v hN e hv
 have fin:EP X pins σ Q u s:=⟨v,H,I,r,h⟩
 rcases l with ⟨hk,hm⟩ | ⟨hk,c,hc,hcell⟩
 ·exact wpAny_Name (wpAny_loadName_local I.ok.kind hk hn hm fin) hd
 ·rcases hk with hk | hk
  ·exact wpAny_Name (wpAny_loadName_cell I.ok.kind hk hc hcell fin) hd
  ·exact wpAny_Name (wpAny_loadName_free I.ok.kind hk hc hcell fin hcd) hd
theorem pT {i j pos}:PE X (.Constant (.int i) j pos) (tC (.int i)):=fun _ _ _ H _ I h=>wpAny_Constant_int ⟨.int i,H,I.tok _,⟨_,rfl⟩,h⟩
theorem pe_bl {b j pos}:PE X (.Constant (.bool b) j pos) (tC (.bl b)):=fun _ _ _ H _ I h=>Constant_bool ⟨.bl b,H,I,rfl,h⟩
theorem pU {j pos}:PE X (.Constant .none j pos) (tC .non):=fun _ _ _ H _ I h=>Constant_none ⟨.non,H,I,rfl,h⟩
theorem pV {x j pos}:PE X (.Constant (.str x) j pos) (tC (.str x)):=fun _ _ _ H _ I h=>Calls.Constant_str ⟨.str x,H,I.tok _,⟨_,rfl⟩,h⟩
noncomputable def Gl (X:Cx) (x:Str):Prop:=X.env.kindOf x=some .globalImplicit
theorem Nr {E:Value→Shared→Prop}{pins:List (Addr × Obj)}{s:Shared}{σ:St}{H:Hp}{x:Str}{u:Value}{pos:Pos}{Q:Value→Shared→Prop}(I:Inv X pins σ H s) (hg:Gl X x) (hm:X.mg x=some u) (h:Q u s)
  (hd:autoParam ((x == ("__debug__" : Str))=false) auD):wpAny (model X.prog X.w) X.A (eval (.Name x pos) X.env) Q E s :=
 Calls.Name_function_global I.ok.kind hg (Calls.loadGlobal_global (by rw [I.ok.glob];exact I.mod.glob.keeps I.bk) hm h) hd
theorem PR {E:Value→Shared→Prop}{pins:List (Addr × Obj)}{s:Shared}{σ:St}{H:Hp}{x:Str}{u:Value}{pos:Pos}{Q:Value→Shared→Prop}(I:Inv X pins σ H s) (hg:Gl X x) (hm:X.mg x=none) (hv:bootBuiltins x=some u) (h:Q u s)
  (hn:autoParam (x ≠ "__name__" ) auD) (hd:autoParam ((x == ("__debug__" : Str))=false) auD):wpAny (model X.prog X.w) X.A (eval (.Name x pos) X.env) Q E s:=by
 obtain ⟨mb,h1,h2⟩:=I.mod.blt
 exact Calls.Name_function_global I.ok.kind hg (Calls.loadGlobal_builtin (by rw [I.ok.glob];exact I.mod.glob.keeps I.bk) hm (by rw [I.ok.blt];exact h1.keeps I.bk) ((h2 x hn).trans hv) h) hd
theorem uK {x:Str}{v:V}{u:Value}{pos:Pos}(hg:Gl X x) (hm:X.mg x=some u) (r:RelV v u) (hd:autoParam ((x == ("__debug__" : Str))=false) auD):PE X (.Name x pos) (tC v) :=
 fun _ _ _ H _ I h=>Nr I hg hm ⟨v,H,I,r,h⟩ hd
theorem uL {x:Str}{v:V}{u:Value}{pos:Pos}(hg:Gl X x) (hm:X.mg x=none) (hv:bootBuiltins x=some u) (r:RelV v u) (hn:autoParam (x ≠ "__name__" ) auD) (hd:autoParam ((x == ("__debug__" : Str))=false) auD):PE X (.Name x pos) (tC v) :=
 fun _ _ _ H _ I h=>PR I hg hm hv ⟨v,H,I,r,h⟩ hn hd
variable {a b:Expr}{ta tb:TE}{pos:Pos}
variable {tA tB':TT}{rest:List Expr}
noncomputable def tAnd (t u:TT):TT:=fun σ H Q=>t σ H fun c H1=>if c=true then u σ H1 Q else Q false H1
noncomputable def tOr (t u:TT):TT:=fun σ H Q=>t σ H fun c H1=>if c=true then Q true H1 else u σ H1 Q
noncomputable def tNot (t:TT):TT:=fun σ H Q=>t σ H fun c H1=>Q (!c) H1
theorem pw_and1 (ha:PT X a tA):PW X (.BoolOp .And [a] pos) tA:=by
 intro wh pins s σ H Q I h
 refine isTrue_and (thn (ha pins s σ H Q I h) fun c s1 e=>?_)
 cases c with
 | true=>exact isTrue_and_nil e
 | false=>exact e
theorem pw_or1 (ha:PT X a tA):PW X (.BoolOp .Or [a] pos) tA:=by
 intro wh pins s σ H Q I h
 refine isTrue_or (thn (ha pins s σ H Q I h) fun c s1 e=>?_)
 cases c with
 | false=>exact isTrue_or_nil e
 | true=>exact e
theorem pw_and (ha:PT X a tA) (hb:PW X (.BoolOp .And (b::rest) pos) tB'):PW X (.BoolOp .And (a::b::rest) pos) (tAnd tA tB'):=by
 intro wh pins s σ H Q I h
 refine isTrue_and (thn (ha pins s σ H _ I h) fun c s1 ⟨H1,I1,q1⟩=>?_)
 cases c with
 | true=>exact hb wh pins s1 σ H1 Q I1 q1
 | false=>exact ⟨H1,I1,q1⟩
theorem pw_or (ha:PT X a tA) (hb:PW X (.BoolOp .Or (b::rest) pos) tB'):PW X (.BoolOp .Or (a::b::rest) pos) (tOr tA tB'):=by
 intro wh pins s σ H Q I h
 refine isTrue_or (thn (ha pins s σ H _ I h) fun c s1 ⟨H1,I1,q1⟩=>?_)
 cases c with
 | true=>exact ⟨H1,I1,q1⟩
 | false=>exact hb wh pins s1 σ H1 Q I1 q1
theorem pW (ha:PT X a tA):PT X (.UnaryOp .Not a pos) (tNot tA):=by
 intro pins s σ H Q I h
 exact isTrue_not (ha pins s σ H (fun c H1=>Q (!c) H1) I h)
noncomputable def tAndV (ta tb:TE):TE:=fun σ H Q=>ta σ H fun x H1=>∃ c,x = .bl c∧if c=true then tb σ H1 Q else Q (.bl false) H1
noncomputable def tOrV (ta tb:TE):TE:=fun σ H Q=>ta σ H fun x H1=>∃ c,x = .bl c∧if c=true then Q (.bl true) H1 else tb σ H1 Q
noncomputable def tNotV (ta:TE):TE:=fun σ H Q=>ta σ H fun x H1=>∃ c,x = .bl c∧Q (.bl (!c)) H1
theorem pX {op}{t:TE}(h:PE X a t):PE X (.BoolOp op [a] pos) t:=fun pins s σ H Q I hw=>BoolOp_one (h pins s σ H Q I hw)
theorem pY (ha:PE X a ta) (hb:PE X (.BoolOp .And (b::rest) pos) tb):PE X (.BoolOp .And (a::b::rest) pos) (tAndV ta tb):=by
 intro pins s σ H Q I h
 refine BoolOp_and (thn (ha pins s σ H _ I h) fun v s1 ⟨x,H1,I1,r1,q1⟩=>?_)
 obtain ⟨c,rfl,q1⟩:=q1
 cases r1
 refine wpAny_truthy_bool ?_
 cases c with
 | true=>exact hb pins s1 σ H1 Q I1 q1
 | false=>exact ⟨.bl false,H1,I1,rfl,q1⟩
theorem pe_or (ha:PE X a ta) (hb:PE X (.BoolOp .Or (b::rest) pos) tb):PE X (.BoolOp .Or (a::b::rest) pos) (tOrV ta tb):=by
 intro pins s σ H Q I h
 refine BoolOp_or (thn (ha pins s σ H _ I h) fun v s1 ⟨x,H1,I1,r1,q1⟩=>?_)
 obtain ⟨c,rfl,q1⟩:=q1
 cases r1
 refine wpAny_truthy_bool ?_
 cases c with
 | false=>exact hb pins s1 σ H1 Q I1 q1
 | true=>exact ⟨.bl true,H1,I1,rfl,q1⟩
theorem pZ (ha:PE X a ta):PE X (.UnaryOp .Not a pos) (tNotV ta):=by
 intro pins s σ H Q I h
 refine UnaryOp_ (thn (ha pins s σ H _ I h) fun v s1 ⟨x,H1,I1,r1,q1⟩=>?_)
 obtain ⟨c,rfl,q1⟩:=q1
 cases r1
 exact not_of (wpAny_truthy_bool ⟨.bl (!c),H1,I1,rfl,q1⟩)
noncomputable def tIf (t:TT) (ta tb:TE):TE:=fun σ H Q=>t σ H fun c H1=>if c=true then ta σ H1 Q else tb σ H1 Q
theorem yI {c:Expr}(hc:PT X c tA) (ha:PE X a ta) (hb:PE X b tb):PE X (.IfExp c a b pos) (tIf tA ta tb):=by
 intro pins s σ H Q I h
 refine wpAny_IfExp (thn (hc pins s σ H _ I h) fun d s1 ⟨H1,I1,q1⟩=>?_)
 cases d with
 | true=>exact ha pins s1 σ H1 Q I1 q1
 | false=>exact hb pins s1 σ H1 Q I1 q1
end
noncomputable def SqL (K:aj) (H:Hp) (a:Addr) (xs:List V):Prop :=
 Rd H a (.lst xs) ∨
  ∃ (o:Obj) (its:Array Value) (n:Nat),K.lookup a=some o∧o.cls = .type "list" ∧ o.dict=none∧o.data = .seq its n∧its.size≤aA∧Vals xs its.toList
noncomputable def SqT (K:aj) (H:Hp) (a:Addr) (xs:List V):Prop :=
 Rd H a (.tup xs) ∨
  ∃ (o:Obj) (its:Array Value) (n:Nat),K.lookup a=some o∧o.cls = .type "tuple" ∧ o.data = .seq its n∧its.size≤aA∧Vals xs its.toList
noncomputable def absV:Value→Option V
 | .none=>some .non
 | .bool b=>some (.bl b)
 | .int i _=>some (.int i)
 | .str x _=>some (.str x)
 | .bytes b _=>some (.byt b)
 | .float b _=>some (.flt b)
 | .ref a=>some (.ref a)
 | .type n=>some (.ty n)
 | _=>none
theorem RelV.abs {x:V}{u:Value}(r:RelV x u):absV u=some x:=by
 cases x with
 | non=>cases r;rfl
 | bl _=>cases r;rfl
 | int _=>obtain ⟨t,rfl⟩:=r;rfl
 | str _=>obtain ⟨t,rfl⟩:=r;rfl
 | byt _=>obtain ⟨t,rfl⟩:=r;rfl
 | flt _=>obtain ⟨t,rfl⟩:=r;rfl
 | ref _=>cases r;rfl
 | ty _=>cases r;rfl
theorem RelV.inj {x y:V}{u:Value}(r:RelV x u) (q:RelV y u):x=y:=Option.some.inj (r.abs.symm.trans q.abs)
theorem Vals.inj:∀ {xs ys:List V}{us:List Value},Vals xs us→Vals ys us→xs=ys
 | _,_,_,.nil,.nil=>rfl
 | _,_,_,.cons r t,.cons r' t'=>by rw [r.inj r',Vals.inj t t']
section
variable {X:Cx}{pins:List (Addr × Obj)}{σ:St}{H:Hp}{s:Shared}{a:Addr}{xs ys:List V}
theorem SqL.of {K:aj}(h:H a=some (.lst xs)):SqL K H a xs := .inl (.inl h)
theorem SqT.of {K:aj}(h:H a=some (.tup xs)):SqT K H a xs := .inl (.inl h)
theorem Inv.list (I:Inv X pins σ H s) (h:SqL X.K H a xs):∃ its:List Value,Vals xs its∧PlainL s.heap a its.toArray∧xs.length≤aA:=by
 rcases h with h | ⟨o,its,n,hk,hc,hd,hs,hz,r⟩
 ·obtain ⟨z,its,n,r,e⟩:=h.ok I.hok
  exact ⟨its,r,⟨_,n,e,rfl,rfl,rfl⟩,z⟩
 ·refine ⟨its.toList,r,⟨o,n,I.kIn a o hk,hc,hd,by simpa using hs⟩,?_⟩
  have e:=r.length
  simp only [Array.length_toList] at e
  omega
theorem Inv.tuple (I:Inv X pins σ H s) (h:SqT X.K H a xs):∃ its:List Value,Vals xs its∧IsTup s.heap a its.toArray∧xs.length≤aA:=by
 rcases h with h | ⟨o,its,n,hk,hc,hs,hz,r⟩
 ·obtain ⟨z,its,r,p⟩:=h.ok I.hok
  exact ⟨its,r,p,z⟩
 ·refine ⟨its.toList,r,⟨o,I.kIn a o hk,hc,n,by simpa using hs⟩,?_⟩
  have e:=r.length
  simp only [Array.length_toList] at e
  omega
theorem Inv.RK (I:Inv X pins σ H s) (h:SqL X.K H a xs) (h':SqL X.K H a ys):xs=ys:=by
 obtain ⟨its,r,⟨o,n,e,_,_,d⟩,_⟩:=I.list h
 obtain ⟨its',r',⟨o',n',e',_,_,d'⟩,_⟩:=I.list h'
 rw [e] at e';cases e'
 rw [d] at d'
 injection d' with d1 _
 have:its=its':=by simpa using congrArg Array.toList d1
 subst this
 exact r.inj r'
theorem Inv.QF (I:Inv X pins σ H s) (h:SqT X.K H a xs) (h':SqT X.K H a ys):xs=ys:=by
 obtain ⟨its,r,⟨o,e,_,n,d⟩,_⟩:=I.tuple h
 obtain ⟨its',r',⟨o',e',_,n',d'⟩,_⟩:=I.tuple h'
 rw [e] at e';cases e'
 rw [d] at d'
 injection d' with d1 _
 have:its=its':=by simpa using congrArg Array.toList d1
 subst this
 exact r.inj r'
end
abbrev Cx.wish (X:Cx) (E:Value→Shared→Prop):Cx:={ X with xe:=E }
abbrev Cx.nox (X:Cx):Cx:=X.wish fun _ _=>False
theorem Cx.Ok.wish {X:Cx}(ok:X.Ok) (E:Value→Shared→Prop):(X.wish E).Ok :=
 ⟨ok.mod,ok.kind,ok.glob,ok.blt,ok.above,ok.inj,ok.has,ok.cab,ok.hd,ok.frames,ok.stk,ok.exf,ok.bs,ok.bsz,ok.noex,ok.exfs,ok.Np,ok.frf⟩
theorem Cx.Ok.UO {X:Cx}{E:Value→Shared→Prop}(ok:(X.wish E).Ok):X.Ok :=
 ⟨ok.mod,ok.kind,ok.glob,ok.blt,ok.above,ok.inj,ok.has,ok.cab,ok.hd,ok.frames,ok.stk,ok.exf,ok.bs,ok.bsz,ok.noex,ok.exfs,ok.Np,ok.frf⟩
section
variable {X:Cx}{pins:List (Addr × Obj)}{σ:St}{H:Hp}{s:Shared}{E:Value→Shared→Prop}
theorem Inv.wish (I:Inv X pins σ H s) (E:Value→Shared→Prop):Inv (X.wish E) pins σ H s:=⟨I.ok.wish E,I.os,I.bare,I.base,I.loc,I.cell,I.free,I.freeC,I.pin,I.hok,I.len⟩
theorem Inv.UO (I:Inv (X.wish E) pins σ H s):Inv X pins σ H s:=⟨I.ok.UO,I.os,I.bare,I.base,I.loc,I.cell,I.free,I.freeC,I.pin,I.hok,I.len⟩
theorem SP.UO {D:Ends}{f:Flow}{s':Shared}(h:SP (X.wish E) pins D f s'):SP X pins D f s':=by
 cases f with
 | next=>obtain ⟨σ',H',I,q⟩:=h;exact ⟨σ',H',I.UO,q⟩
 | brk=>obtain ⟨σ',H',I,q⟩:=h;exact ⟨σ',H',I.UO,q⟩
 | cont=>obtain ⟨σ',H',I,q⟩:=h;exact ⟨σ',H',I.UO,q⟩
 | ret u=>obtain ⟨v,σ',H',I,r,q⟩:=h;exact ⟨v,σ',H',I.UO,r,q⟩
theorem PE.nox {e:Expr}{t:TE}(h:PE X.nox e t):PE X e t:=fun pins s σ H Q I hw =>
 wpAny_mono (h pins s σ H Q (I.wish _) hw) (fun _ _ ⟨v,H',I',r,q⟩=>⟨v,H',I'.UO,r,q⟩) fun _ _ z=>False.elim z
theorem PT.nox {e:Expr}{t:TT}(h:PT X.nox e t):PT X e t:=fun pins s σ H Q I hw =>
 wpAny_mono (h pins s σ H Q (I.wish _) hw) (fun _ _ ⟨H',I',q⟩=>⟨H',I'.UO,q⟩) fun _ _ z=>False.elim z
theorem PSs.nox {st:List Stmt}{t:TS}(h:PSs X.nox st t):PSs X st t:=fun pins s σ H D I hw =>
 wpAny_mono (h pins s σ H D (I.wish _) hw) (fun _ _ q=>q.UO) fun _ _ z=>False.elim z
end
section
variable {X:Cx}{st:Stmt}{rest:List Stmt}{t u:TS}{e:Expr}{te:TE}{pos:Pos}
noncomputable def tNext:TS:=fun D σ H=>D.nx σ H
noncomputable def tSeq (t u:TS):TS:=fun D σ H=>t { D with nx:=u D } σ H
theorem uM:PSs X [] tNext:=fun _ _ σ H _ I h=>wpAny_execs_nil ⟨σ,H,I,h⟩
theorem yJ (h1:PS X st t) (h2:PSs X rest u):PSs X (st::rest) (tSeq t u):=by
 intro pins s σ H D I h
 refine wpAny_execs_cons (thn (h1 pins s σ H { D with nx:=u D } I h) fun f s1 q=>?_)
 cases f with
 | next =>
  obtain ⟨σ',H',I',q⟩:=q
  exact h2 pins s1 σ' H' D I' q
 | ret v=>exact q
 | brk=>exact q
 | cont=>exact q
theorem uN (h1:PS X st t):PSs X [st] t:=by
 intro pins s σ H D I h
 refine wpAny_execs_cons (thn (h1 pins s σ H D I h) fun f s1 q=>?_)
 cases f with
 | next=>exact wpAny_execs_nil q
 | ret v=>exact q
 | brk=>exact q
 | cont=>exact q
theorem Inv.quiet {pins:List (Addr × Obj)}{σ:St}{H:Hp}{s:Shared}(I:Inv X pins σ H s):interactive X.env=false:=by simp [interactive,I.ok.kind]
noncomputable def tDrop (te:TE):TS:=fun D σ H=>te σ H fun _ H1=>D.nx σ H1
theorem Nt (he:PE X e te) (hs:autoParam (swapsWith e none pos.line X.env=pure false) auR):PS X (.Expr e pos) (tDrop te):=by
 intro pins s σ H D I h
 exact wpAny_Expr_any (thn (he pins s σ H _ I h) fun v s1 ⟨x,H1,I1,r1,q1⟩=>⟨σ,H1,I1,q1⟩) I.quiet hs
noncomputable def tRet (te:TE):TS:=fun D σ H=>te σ H D.rt
theorem Jx (he:PE X e te):PS X (.Return (some e) pos) (tRet te):=by
 intro pins s σ H D I h
 exact wpAny_Return_some (thn (he pins s σ H _ I h) fun v s1 ⟨x,H1,I1,r1,q1⟩=>⟨x,σ,H1,I1,r1,q1⟩)
noncomputable def tIfS (c:TT) (t u:TS):TS:=fun D σ H=>c σ H fun b H1=>if b=true then t D σ H1 else u D σ H1
theorem ps_if {c:Expr}{a b:List Stmt}{tc:TT}(hc:PT X c tc) (ha:PSs X a t) (hb:PSs X b u):PS X (.If c a b pos) (tIfS tc t u):=by
 intro pins s σ H D I h
 refine wpAny_If (thn (hc pins s σ H _ I h) fun d s1 ⟨H1,I1,q1⟩=>?_)
 cases d with
 | true=>exact ha pins s1 σ H1 D I1 q1
 | false=>exact hb pins s1 σ H1 D I1 q1
end
abbrev TG:=V→St→Hp→(St→Hp→Prop)→Prop
abbrev TGs:=List V→St→Hp→(St→Hp→Prop)→Prop
noncomputable def PG (X:Cx) (target:Expr) (t:TG):Prop :=
 ∀ (pins:List (Addr × Obj)) (s:Shared) (σ:St) (H:Hp) (v:V) (u:Value) (Q:St→Hp→Prop),Inv X pins σ H s→RelV v u→t v σ H Q →
  wpAny (model X.prog X.w) X.A (assign target X.env u) (fun _ s'=>∃ σ' H',Inv X pins σ' H' s'∧Q σ' H') X.xe s
noncomputable def PGs (X:Cx) (ts:List Expr) (t:TGs):Prop :=
 ∀ (pins:List (Addr × Obj)) (s:Shared) (σ:St) (H:Hp) (vs:List V) (us:List Value) (Q:St→Hp→Prop),Inv X pins σ H s→Vals vs us→t vs σ H Q →
  wpAny (model X.prog X.w) X.A (assignInOrder ((assignEach ts X.env).map (·.2)) us) (fun _ s'=>∃ σ' H',Inv X pins σ' H' s'∧Q σ' H') X.xe s
abbrev yK:=V→V→V→Hp→(Hp→Prop)→Prop
noncomputable def PSet (X:Cx) (t:yK):Prop :=
 ∀ (pins:List (Addr × Obj)) (s:Shared) (σ:St) (H:Hp) (o i v:V) (ov iv u:Value) (Q:Hp→Prop),Inv X pins σ H s→RelV o ov→RelV i iv→RelV v u→t o i v H Q →
  wpAny (model X.prog X.w) X.A (setItem ov iv u) (fun _ s'=>∃ H',Inv X pins σ H' s'∧Q H') X.xe s
abbrev TIp:=V→V→Hp→VK→Prop
noncomputable def PIp (X:Cx) (op:Operator) (t:TIp):Prop :=
 ∀ (pins:List (Addr × Obj)) (s:Shared) (σ:St) (H:Hp) (x y:V) (v u:Value) (Q:VK),Inv X pins σ H s→RelV x v→RelV y u→t x y H Q →
  wpAny (model X.prog X.w) X.A (inplaceOp op v u) (EP X pins σ Q) X.xe s
section
variable {X:Cx}{pos:Pos}
noncomputable def Jy (i:Nat):TG:=fun v σ H Q=>Q (σ.set i (some v)) H
theorem uO {i:Nat}{x:Str}(hN:X.N.Nodup) (hi:X.N[i]?=some x) (hx:Loc X.env.scope x) (hf:X.fn x=true∨X.env.scope.names.lookup x=some .local:=by first | exact .inl rfl | exact .inr rfl | assumption):PG X (.Name x pos) (Jy i):=by
 intro pins s σ H v u Q I r h
 exact wpAny_assign_Name (Nq I hN hi hx r (fun s' I'=>⟨_,H,I',h⟩) hf)
noncomputable def gNil:TGs:=fun vs σ H Q=>vs=[]∧Q σ H
noncomputable def gCons (t:TG) (u:TGs):TGs:=fun vs σ H Q=>∃ v r,vs=v::r∧t v σ H fun σ' H'=>u r σ' H' Q
theorem uQ:PGs X [] gNil:=by
 intro pins s σ H vs us Q I r h
 obtain ⟨e,h⟩:=h
 subst e
 cases r
 exact assignInOrder_nil ⟨σ,H,I,h⟩
theorem yL {e:Expr}{es:List Expr}{t:TG}{u:TGs}(h1:PG X e t) (h2:PGs X es u)
  (hs:autoParam ((assignEach (e::es) X.env).map (·.2)=assign e X.env::(assignEach es X.env).map (·.2)) auR):PGs X (e::es) (gCons t u):=by
 intro pins s σ H vs us Q I r h
 obtain ⟨v,vr,e1,h⟩:=h
 subst e1
 cases r with
 | cons r rr =>
  rw [hs]
  refine assignInOrder_cons (thn (h1 pins s σ H _ _ _ I r h) fun _ s1 ⟨σ1,H1,I1,q1⟩=>?_)
  exact h2 pins s1 σ1 H1 _ _ Q I1 rr q1
noncomputable def gTup (K:aj) (n:Nat) (t:TGs):TG:=fun v σ H Q=>∃ a xs,v = .ref a∧SqT K H a xs∧xs.length=n∧t xs σ H Q
theorem og {es:List Expr}{k:Nat}{t:TGs}{n:Nat}(hc:X.calm=true) (h:PGs X es t)
  (hn:autoParam ((assignEach es X.env).length=n) auR) (hst:autoParam ((assignEach es X.env).findIdx? (·.1)=none) auR):PG X (.Tuple es k pos) (gTup X.K n t):=by
 intro pins s σ H v u Q I r hw
 obtain ⟨a,xs,e1,hq,hl,hw⟩:=hw
 subst e1
 cases r
 obtain ⟨its,rv,ht,hz⟩:=I.tuple hq
 refine assign_Tuple_tuple (I.ok.hd hc) ht (by simp [hn,←hl,rv.length]) hst fun h' hx=>?_
 have I1:Inv X pins σ H { s with heap:=h' }:=I.kept (t':=s.toks) fun b o e=>hx b o (Nat.ne_of_lt (az e)) e
 exact h pins _ σ H xs _ Q I1 (by simpa using rv) hw
noncomputable def gSub (to ti:TE) (t:yK):TG:=fun v σ H Q=>to σ H fun o H1=>ti σ H1 fun i H2=>t o i v H2 fun H3=>Q σ H3
theorem yM {o i:Expr}{to ti:TE}{t:yK}(ho:PE X o to) (hi:PE X i ti) (hs:PSet X t)
  (ha:∀ v,assign (.Subscript o i pos) X.env v=(do
   let ov ← holding [v] (eval o X.env)
   let iv ← holding [v,ov] (eval i X.env)
   standAt pos
   holding [v,ov,iv] (setItem ov iv v)
   release [v,ov,iv] []):=by intro _;rfl):PG X (.Subscript o i pos) (gSub to ti t):=by
 intro pins s σ H v u Q I r h
 rw [ha]
 refine ak (wpAny_holding (thn (ho pins s σ H _ I h) fun ov s1 ⟨x,H1,I1,r1,q1⟩=>?_))
 refine ak (wpAny_holding (thn (hi pins s1 σ H1 _ I1 q1) fun iv s2 ⟨y,H2,I2,r2,q2⟩=>?_))
 refine ak (wpAny_standAt (ak (wpAny_holding (thn (hs pins s2 σ H2 x y v ov iv u _ I2 r1 r2 r q2) fun _ s3 ⟨H3,I3,q3⟩=>?_))))
 exact wpAny_release ⟨σ,H3,I3,q3⟩
noncomputable def Gs (te:TE) (g:TG):TS:=fun D σ H=>te σ H fun x H1=>g x σ H1 D.nx
theorem Gu {tg e:Expr}{te:TE}{g:TG}(he:PE X e te) (hg:PG X tg g) (hs:autoParam (swapsWithSole [tg] e pos.line X.env=pure false) auR) (hw:autoParam (swappedStores [tg] e X.env=pure none) auR)
  (h1:autoParam ((assignEach [tg] X.env).map (·.2)=[assign tg X.env]) auR):PS X (.Assign [tg] e pos) (Gs te g):=by
 intro pins s σ H D I h
 refine wpAny_Assign_stores (thn (he pins s σ H _ I h) fun v s1 ⟨x,H1,I1,r1,q1⟩=>?_) hs hw
 rw [h1]
 exact thn (hg pins s1 σ H1 x v _ I1 r1 q1) fun _ s2 q=>q
theorem Mq {i:Nat}{x:Str}{e:Expr}{te:TE}{pos':Pos}(hN:X.N.Nodup) (hi:X.N[i]?=some x) (hx:Loc X.env.scope x) (he:PE X e te) (hs:autoParam (swapsWith e (some (.Name x pos')) pos.line X.env=pure false) auR) (hf:X.fn x=true∨X.env.scope.names.lookup x=some .local:=by first | exact .inl rfl | exact .inr rfl | assumption) :
  PS X (.Assign [.Name x pos'] e pos) (Gs te (Jy i)):=by
 intro pins s σ H D I h
 refine wpAny_Assign_Name (thn (he pins s σ H _ I h) fun v s1 ⟨y,H1,I1,r1,q1⟩=>?_) hs
 exact Nq I1 hN hi hx r1 (fun s2 I2=>⟨_,H1,I2,q1⟩) hf
noncomputable def tPar (i j:Nat) (ta:TA):TS:=fun D σ H=>ta σ H fun vs H1=>∃ v w,vs=[v,w]∧D.nx ((σ.set i (some v)).set j (some w)) H1
theorem oh {i j:Nat}{x y:Str}{a b:Expr}{ta:TA}{px py pt:Pos}{kt k2 pt2}(hc:X.calm=true) (hN:X.N.Nodup) (hi:X.N[i]?=some x) (hj:X.N[j]?=some y) (hij:i≠j)
  (hx:X.env.scope.names.lookup x=some .local) (hy:X.env.scope.names.lookup y=some .local) (ha:PA X [a,b] ta)
  (hw:swappedStores [.Tuple [.Name x px,.Name y py] kt pt] (.Tuple [a,b] k2 pt2) X.env=pure (some [x,y]))
  (hs:autoParam (swapsWithSole [.Tuple [.Name x px,.Name y py] kt pt] (.Tuple [a,b] k2 pt2) pos.line X.env=pure false) auR) :
  PS X (.Assign [.Tuple [.Name x px,.Name y py] kt pt] (.Tuple [a,b] k2 pt2) pos) (tPar i j ta):=by
 intro pins s σ H D I h
 rw [exec_Assign_arm]
 refine ak (wpAny_standAt ?_)
 rw [hs]
 refine ak (ao ?_)
 rw [if_neg (by decide)]
 refine ak (Tuple_ (thn (ha _ pins s σ H _ I h) fun us s1 ⟨vs,H1,I1,r1,q1⟩=>?_))
 obtain ⟨v,w,e1,q1⟩:=q1
 subst e1
 obtain ⟨u1,u2,rfl,rv,rw'⟩:∃ u1 u2,us=[u1,u2]∧RelV v u1∧RelV w u2:=by
  cases r1 with
  | cons p q =>
   cases q with
   | cons p' q' =>
    cases q'
    exact ⟨_,_,rfl,p,p'⟩
 refine wpAny_newObj_type ?_ (by show 2≤aA;decide)
 have I2:Inv X pins σ H1 { s1 with heap:=s1.heap.push { cls := .type "tuple",data := .seq [u1,u2].toArray } }:=I1.kept (t':=s1.toks) fun b o e=>aq _ e
 rw [hw]
 refine ak (ao ?_)
 show wpAny (model X.prog X.w) X.A (do rule "assign.swapped-stores";let items ← unpackItems (.ref s1.heap.objs.size) 2 none;assignInOrder [fun v=>bindName X.env y v,fun v=>bindName X.env x v] items.reverse;pure Flow.next) _ _ _
 refine ak (wpAny_rule (ak (unpackItems_tuple (items:=#[u1,u2]) (I.ok.hd hc) (IsTup.new s1.heap _) fun h' hx'=>?_)))
 have I3:=I2.kept (h':=h') (t':=s1.toks) fun b o e=>hx' b o (Nat.ne_of_lt (az e)) e
 show wpAny _ _ (assignInOrder [fun v=>bindName X.env y v,fun v=>bindName X.env x v] [u2,u1] >>= fun _=>pure Flow.next) _ _ _
 refine ak (assignInOrder_cons (wpAny_bindName (Nq I3 hN hj (.inl hy) rw' (fun s2 I4=>?_) (.inr hy))))
 refine assignInOrder_cons (wpAny_bindName (Nq I4 hN hi (.inl hx) rv (fun s3 I5=>assignInOrder_nil (ao ?_)) (.inr hx)))
 rw [List.set_comm _ _ (Ne.symm hij)] at I5
 exact ⟨_,H1,I5,q1⟩
noncomputable def tAugS (to ti te:TE) (tget:V→V→Hp→VK→Prop) (tip:TIp) (tset:yK):TS:=fun D σ H=>to σ H fun o H1=>ti σ H1 fun i H2=>tget o i H2 fun x H3=>te σ H3 fun y H4=>tip x y H4 fun z H5=>tset o i z H5 fun H6=>D.nx σ H6
noncomputable def PGet (X:Cx) (t:V→V→Hp→VK→Prop):Prop :=
 ∀ (pins:List (Addr × Obj)) (s:Shared) (σ:St) (H:Hp) (o i:V) (ov iv:Value) (Q:VK),Inv X pins σ H s→RelV o ov→RelV i iv→t o i H Q →
  wpAny (model X.prog X.w) X.A (getItem ov iv) (EP X pins σ Q) X.xe s
theorem uR {o i e:Expr}{to ti te:TE}{tget:V→V→Hp→VK→Prop}{tip:TIp}{tset:yK}{op:Operator}{tpos:Pos}(ho:PE X o to) (hi:PE X i ti) (hg:PGet X tget) (he:PE X e te) (hp:PIp X op tip) (hs:PSet X tset)
  (ha:∀ ov iv new,augStore i ov iv new=(do holding [new,ov,iv] (setItem ov iv new);release [new,ov,iv] [];pure .next):=by intros;rfl):PS X (.AugAssign (.Subscript o i tpos) op e pos) (tAugS to ti te tget tip tset):=by
 intro pins s σ H D I h
 refine wpAny_AugAssign_SubscriptAny (thn (ho pins s σ H _ I h) fun ov s1 ⟨x1,H1,I1,r1,q1⟩=>?_) ha
 refine thn (hi pins s1 σ H1 _ I1 q1) fun iv s2 ⟨x2,H2,I2,r2,q2⟩=>?_
 refine thn (hg pins s2 σ H2 x1 x2 ov iv _ I2 r1 r2 q2) fun old s3 ⟨x3,H3,I3,r3,q3⟩=>?_
 refine thn (he pins s3 σ H3 _ I3 q3) fun v s4 ⟨x4,H4,I4,r4,q4⟩=>?_
 refine thn (hp pins s4 σ H4 x3 x4 old v _ I4 r3 r4 q4) fun new s5 ⟨x5,H5,I5,r5,q5⟩=>?_
 exact thn (hs pins s5 σ H5 x1 x2 x5 ov iv new _ I5 r1 r2 r5 q5) fun _ s6 ⟨H6,I6,q6⟩=>⟨σ,H6,I6,q6⟩
noncomputable def ipI (f:Int→Int→Int):TIp:=fun x y H Q=>∃ i j,x = .int i∧y = .int j∧Q (.int (f i j)) H
theorem oi:PIp X .Add (ipI fun i j=>i + j):=by
 intro pins s σ H x y v u Q I r1 r2 h
 obtain ⟨i,j,e1,e2,q⟩:=h
 subst e1;subst e2
 obtain ⟨t,rfl⟩:=r1
 obtain ⟨t',rfl⟩:=r2
 exact iadd_int ⟨.int _,H,I.tok _,⟨_,rfl⟩,q⟩
end
section
variable {X:Cx}{pos:Pos}
noncomputable def om (c:TT) (tb:TS):TS:=fun D σ H=>∃ W:Nat→St→Hp→Prop,(∃ m,W m σ H)∧∀ m σ H,W m σ H →
 c σ H fun b H1=>if b=true then ∃ N:St→Hp→Prop,(∀ σ' H',N σ' H'→∃ m',m' < m∧W m' σ' H')∧tb { D with nx:=N,ct:=N,bk:=D.nx } σ H1 else D.nx σ H1
theorem yN {c:Expr}{body:List Stmt}{tc:TT}{tb:TS}(hp:PassesOwn (model X.prog X.w) X.A X.env X.xe) (hc:PT X c tc) (hb:PSs X body tb):PS X (.While c body [] pos) (om tc tb):=by
 intro pins s σ H D I h
 obtain ⟨W,⟨m0,w0⟩,turn⟩:=h
 refine wpAny_While (codeAny_whileLoop (fun n s'=>∃ σ' H',Inv X pins σ' H' s'∧W n σ' H') ?_ m0 ⟨σ,H,I,w0⟩)
 rintro n s1 ⟨σ1,H1,I1,w1⟩
 refine wpAny_passesOwn hp (thn (hc pins s1 σ1 H1 _ I1 (turn n σ1 H1 w1)) fun b s2 ⟨H2,I2,q2⟩=>?_)
 cases b with
 | true =>
  obtain ⟨N,hN,q2⟩:=q2
  rw [if_pos rfl]
  refine wpAny_passesOwn hp (thn (hb pins s2 σ1 H2 _ I2 q2) fun f s3 q3=>?_)
  cases f with
  | next =>
   obtain ⟨σ3,H3,I3,n3⟩:=q3
   obtain ⟨m',hm,w3⟩:=hN σ3 H3 n3
   exact ⟨m',hm,σ3,H3,I3,w3⟩
  | cont =>
   obtain ⟨σ3,H3,I3,n3⟩:=q3
   obtain ⟨m',hm,w3⟩:=hN σ3 H3 n3
   exact ⟨m',hm,σ3,H3,I3,w3⟩
  | brk=>exact q3
  | ret v=>exact q3
 | false =>
  rw [if_neg aC]
  exact wpAny_execs_nil ⟨σ1,H2,I2,q2⟩
end
structure It where
 go:Nat→Hp→Prop
 yld:Nat→Hp→V→Hp→Prop
 stop:Nat→Hp→Prop
noncomputable def PU (X:Cx) (pins:List (Addr × Obj)) (H:Hp) (b:Addr):Prop :=
 H b=none∧b≠X.env.locals∧b∉X.fs∧(b∈X.ex∨X.s₀.heap.objs.size≤b)∧(∀ x c,X.env.cells.lookup x=some c→c≠b)∧∀ p∈X.pn++pins,p.1≠b
theorem Inv.Gv {X:Cx}{pins:List (Addr × Obj)}{σ:St}{H H':Hp}{s:Shared}{b:Addr}(I:Inv X pins σ H s) (hb:s.heap.objs.size≤b) (hn:H' b=none):PU X pins H' b:=by
 refine ⟨hn,Nat.ne_of_gt (Nat.lt_of_lt_of_le I.lt hb),I.nofs hb,.inr (Nat.le_trans I.sz hb),fun x c e z=>?_,fun p hp z=>?_⟩
 ·obtain ⟨v,q⟩:=I.cell x c e
  exact absurd (Nat.lt_of_lt_of_le q.lt (by rw [z];exact hb)) (Nat.lt_irrefl _)
 ·exact absurd (Nat.lt_of_lt_of_le (az (I.pin p hp).1) (by rw [z];exact hb)) (Nat.lt_irrefl _)
structure Turn (P:Program) (w:World) (K:aj) (tg:Expr) (J:It) (fp:List Addr) (it:Addr) (tn:Nat→Heap→Prop):Prop where
 mem:it∈fp
 obj:∀ i h,tn i h→∀ b∈fp,∃ o,h.get? b=some o∧∀ v,o.data ≠ .cell v
 keep:∀ i h h',tn i h→(∀ b∈fp,∀ o,h.get? b=some o→h'.get? b=some o)→tn i h'
 item:∀ (X:Cx),X.prog=P→X.w=w→X.K=K→X.calm=true→∀ (i:Nat) (pins:List (Addr × Obj)) (s:Shared) (σ:St) (H:Hp) (E:Value→Shared→Prop),Inv X pins σ H s→(∀ b∈fp,PU X pins H b)→tn i s.heap→J.go i H →
  wpAny (model P w) X.A (pyNext (.ref it)) (fun r s1=>∃ u,r=some u ∧
   wpAny (model P w) X.A (letOwnedTupleGo tg (.ref it) u) (fun _ s2=>∃ x H',Inv X pins σ H' s2∧RelV x u∧J.yld i H x H'∧tn (i + 1) s2.heap∧∀ b∈fp,H' b=none) E s1) E s
 done:∀ (X:Cx),X.prog=P→X.w=w→X.K=K→X.calm=true→∀ (i:Nat) (pins:List (Addr × Obj)) (s:Shared) (σ:St) (H:Hp) (E:Value→Shared→Prop),Inv X pins σ H s→(∀ b∈fp,PU X pins H b)→tn i s.heap→J.stop i H →
  wpAny (model P w) X.A (pyNext (.ref it)) (fun r s1=>r=none∧Inv X pins σ H s1) E s
 self:∀ (A:Around) (i:Nat) (s:Shared) (Q:Value→Shared→Prop) (E:Value→Shared→Prop),tn i s.heap→Q (.ref it) s→wpAny (model P w) A (pyIter (.ref it)) Q E s
abbrev TI:=St→Hp→(It→Hp→Prop)→Prop
noncomputable def PIE (X:Cx) (pins:List (Addr × Obj)) (σ:St) (tg:Expr) (R:It→Hp→Prop) (itv:Value) (s2:Shared):Prop :=
 ∃ (it:Addr) (fp:List Addr) (tn:Nat→Heap→Prop) (J:It) (H':Hp),itv = .ref it∧Inv X pins σ H' s2∧Turn X.prog X.w X.K tg J fp it tn∧tn 0 s2.heap∧(∀ b∈fp,PU X pins H' b)∧R J H'
noncomputable def PI (X:Cx) (tg iter:Expr) (wi:TI):Prop :=
 ∀ (pins:List (Addr × Obj)) (s:Shared) (σ:St) (H:Hp) (R:It→Hp→Prop),Inv X pins σ H s→wi σ H R →
  wpAny (model X.prog X.w) X.A (eval iter X.env) (fun v s1=>wpAny (model X.prog X.w) X.A (pyIter v) (PIE X pins σ tg R) X.xe s1) X.xe s
theorem Bz {M:Model}{A:Around}{E:Value→Shared→Prop}{s:Shared}{tg:Expr}{it:Addr}{u:Value}{o:Obj}{n:String}{vs:Array Value}{Q:Unit→Shared→Prop}(ho:s.heap.get? it=some o) (hc:o.cls = .type n) (hd:o.data = .fields vs)
    (hn:["enumerate", "zip", "dict_itemiterator", "dict_reverseitemiterator", "odict_iterator", "itertools.zip_longest", "itertools.pairwise"].contains n=false) (hQ:Q () s):wpAny M A (letOwnedTupleGo tg (.ref it) u) Q E s:=by
  unfold letOwnedTupleGo
  cases tg <;> first
    | exact ao hQ
    | (cases u <;> first
        | exact ao hQ
        | (refine ak (wpAny_load ho ?_)
           rw [hc,hd]
           show wpAny M A (if (["enumerate", "zip", "dict_itemiterator", "dict_reverseitemiterator", "odict_iterator", "itertools.zip_longest", "itertools.pairwise"].contains n && vs[0]? == some (rawInt _))=true then _ else _) Q E s
           rw [if_neg (by intro h;rw [hn,Bool.false_and] at h;cases h)]
           exact ao hQ))
noncomputable def Itl (K:aj) (a:Addr):It :=
 ⟨fun i H=>∃ xs x,SqL K H a xs∧xs[i]?=some x,fun i H x H'=>H'=H∧∀ xs,SqL K H a xs→xs[i]?=some x,fun i H=>∃ xs,SqL K H a xs∧xs.length≤i⟩
noncomputable def Itt (K:aj) (a:Addr):It :=
 ⟨fun i H=>∃ xs x,SqT K H a xs∧xs[i]?=some x,fun i H x H'=>H'=H∧∀ xs,SqT K H a xs→xs[i]?=some x,fun i H=>∃ xs,SqT K H a xs∧xs.length≤i⟩
noncomputable def Itr (lo:Int) (n:Nat):It:=⟨fun i _=>i < n,fun i H x H'=>H'=H∧x = .int (lo + i),fun i _=>n≤i⟩
theorem HI {P:Program}{w:World}{K:aj}{tg:Expr}(a it:Addr):Turn P w K tg (Itl K a) [it] it (fun i h=>h.IsListIter it a i) where
 mem:=by simp
 obj:=fun i h st b hb=>by
  have e:b=it:=by simpa using hb
  subst e
  obtain ⟨o,e,c,d⟩:=st
  exact ⟨o,e,fun v z=>by rw [d] at z;cases z⟩
 keep:=fun i h h' st k=>st.at fun o e=>k it (by simp) o e
 item:=by
  intro X hP hw hK hc i pins s σ H E I hf st hg
  subst hP hw hK
  obtain ⟨xs,x,hq,hx⟩:=hg
  obtain ⟨its,rv,p,hz⟩:=I.list hq
  obtain ⟨u,hu,ru⟩:=rv.get hx
  obtain ⟨f0,f1,f2,f3,f4,f5⟩:=hf it (by simp)
  refine wpAny_pyNext_list_item st p.isList (x:=u) (by simpa using hu) fun h' st' sb=>?_
  have I1:Inv X pins σ H { s with heap:=h' }:=I.turned (t':=s.toks) (fun b o hb e=>(sb.2 b hb).trans e) f0 f1 f3 f4 f5
  obtain ⟨o,e,c,d⟩:=id st'
  exact ⟨u,rfl,Bz (s:={ s with heap:=h' }) e c d (by decide) ⟨x,H,I1,ru,⟨rfl,fun ys hy=>by rw [I.RK hy hq];exact hx⟩,st',fun b hb=>(hf b hb).1⟩⟩
 done:=by
  intro X hP hw hK hc i pins s σ H E I hf st hg
  subst hP hw hK
  obtain ⟨xs,hq,hx⟩:=hg
  obtain ⟨its,rv,p,hz⟩:=I.list hq
  obtain ⟨f0,f1,f2,f3,f4,f5⟩:=hf it (by simp)
  have hl:=rv.length
  exact wpAny_pyNext_list_end (I.ok.hd hc) st p.isList (by simp;omega) fun h' eb=>⟨rfl,I.turned (t':=s.toks) (fun b o hb e=>eb b o hb e) f0 f1 f3 f4 f5⟩
 self:=fun _ _ _ _ _ st h=>wpAny_pyIter_listiter st h
theorem DL {P:Program}{w:World}{K:aj}{tg:Expr}(a it:Addr):Turn P w K tg (Itt K a) [it] it (fun i h=>h.IsTupleIter it a i) where
 mem:=by simp
 obj:=fun i h st b hb=>by
  have e:b=it:=by simpa using hb
  subst e
  obtain ⟨o,e,c,d⟩:=st
  exact ⟨o,e,fun v z=>by rw [d] at z;cases z⟩
 keep:=fun i h h' st k=>st.at fun o e=>k it (by simp) o e
 item:=by
  intro X hP hw hK hc i pins s σ H E I hf st hg
  subst hP hw hK
  obtain ⟨xs,x,hq,hx⟩:=hg
  obtain ⟨its,rv,p,hz⟩:=I.tuple hq
  obtain ⟨u,hu,ru⟩:=rv.get hx
  obtain ⟨f0,f1,f2,f3,f4,f5⟩:=hf it (by simp)
  refine wpAny_pyNext_tuple_item st (show s.heap.IsTuple a its.toArray from p) (x:=u) (by simpa using hu) fun h' st' sb=>?_
  have I1:Inv X pins σ H { s with heap:=h' }:=I.turned (t':=s.toks) (fun b o hb e=>(sb.2 b hb).trans e) f0 f1 f3 f4 f5
  obtain ⟨o,e,c,d⟩:=id st'
  exact ⟨u,rfl,Bz (s:={ s with heap:=h' }) e c d (by decide) ⟨x,H,I1,ru,⟨rfl,fun ys hy=>by rw [I.QF hy hq];exact hx⟩,st',fun b hb=>(hf b hb).1⟩⟩
 done:=by
  intro X hP hw hK hc i pins s σ H E I hf st hg
  subst hP hw hK
  obtain ⟨xs,hq,hx⟩:=hg
  obtain ⟨its,rv,p,hz⟩:=I.tuple hq
  obtain ⟨f0,f1,f2,f3,f4,f5⟩:=hf it (by simp)
  have hl:=rv.length
  exact wpAny_pyNext_tuple_end (I.ok.hd hc) st (show s.heap.IsTuple a its.toArray from p) (by simp;omega) fun h' eb=>⟨rfl,I.turned (t':=s.toks) (fun b o hb e=>eb b o hb e) f0 f1 f3 f4 f5⟩
 self:=fun _ _ _ _ _ st h=>wpAny_pyIter_tupleiter st h
theorem DM {P:Program}{w:World}{K:aj}{tg:Expr}(it:Addr) (lo:Int) (n:Nat):Turn P w K tg (Itr lo n) [it] it (fun i h=>IsRangeIter h it (lo + (i:Nat) * 1) ((n:Int) - (i:Nat)) 1) where
 mem:=by simp
 obj:=fun i h st b hb=>by
  have e:b=it:=by simpa using hb
  subst e
  exact ⟨_,st,fun v z=>by
   have z':Data.fields _=Data.cell v:=z
   cases z'⟩
 keep:=fun i h h' st k=>k it (by simp) _ st
 item:=by
  intro X hP hw hK hc i pins s σ H E I hf st hg
  subst hP hw hK
  obtain ⟨f0,f1,f2,f3,f4,f5⟩:=hf it (by simp)
  have W:=Walks.range (prog:=X.prog) (w:=X.w) (I.ok.hd hc) it lo 1 n
  refine W.item i s _ _ hg st fun v h' tk hv st' kk=>?_
  obtain ⟨t,rfl⟩:=hv
  have I1:Inv X pins σ H { s with heap:=h',toks:=tk }:=I.turned (fun b o hb e=>kk b o (by simpa using hb) e) f0 f1 f3 f4 f5
  refine ⟨_,rfl,Bz (s:={ s with heap:=h',toks:=tk }) (n := "range_iterator") st' rfl rfl (by decide) ⟨.int (lo + i),H,I1,⟨t,?_⟩,⟨rfl,rfl⟩,st',fun b hb=>(hf b hb).1⟩⟩
  rw [Int.mul_one]
 done:=by
  intro X hP hw hK hc i pins s σ H E I hf st hg
  subst hP hw hK
  obtain ⟨f0,f1,f2,f3,f4,f5⟩:=hf it (by simp)
  exact wpAny_pyNext_range_end (I.ok.hd hc) st (by have:n≤i:=hg;omega) fun h' eb=>⟨rfl,I.turned (t':=s.toks) (fun b o hb e=>eb b o hb e) f0 f1 f3 f4 f5⟩
 self:=fun _ _ _ _ _ st h=>wpAny_pyIter_rangeiter st h
section
variable {X:Cx}{tg:Expr}
noncomputable def iList (K:aj) (tl:TE):TI:=fun σ H R=>tl σ H fun x H1=>∃ a,x = .ref a∧(∃ xs,SqL K H1 a xs)∧R (Itl K a) H1
theorem uS {l:Expr}{tl:TE}(hl:PE X l tl):PI X tg l (iList X.K tl):=by
 intro pins s σ H R I h
 refine thn (hl pins s σ H _ I h) fun v s1 ⟨x,H1,I1,r1,q1⟩=>?_
 obtain ⟨a,e,⟨xs,hq⟩,q⟩:=q1
 subst e
 cases r1
 obtain ⟨its,rv,p,hz⟩:=I1.list hq
 refine wpAny_pyIter_list p.isList ?_
 refine ⟨s1.heap.objs.size,[s1.heap.objs.size],_,_,H1,rfl,I1.kept (t':=s1.toks) fun b o e=>aq _ e,HI a _,⟨_,au _ rfl,rfl,rfl⟩,fun b hb=>?_,q⟩
 have e:b=s1.heap.objs.size:=by simpa using hb
 subst e
 exact I1.Gv (Nat.le_refl _) (I1.hok.fresh (Nat.le_refl _))
theorem yO {pins:List (Addr × Obj)}{σ:St}{H:Hp}{s:Shared}{R:It→Hp→Prop}{E:Value→Shared→Prop}{lo hi:Int}{t u v:Tok}{tk:Nat}(I:Inv X pins σ H s) (h1 : -(2 ^ 62)≤lo) (h2:lo < 2 ^ 62) (h3 : -(2 ^ 62)≤hi) (h4:hi < 2 ^ 62)
  (q:R (Itr lo (hi - lo).toNat) H):wpAny (model X.prog X.w) X.A (pyIter (.ref s.heap.objs.size)) (PIE X pins σ tg R) E { s with heap:=s.heap.push { cls := .type "range",data := .fields #[.int lo t,.int hi u,.int 1 v] },toks:=tk }:=by
 refine wpAny_pyIter_range (IsRange.new ..) (small_one h1 h2 h3 h4) ?_
 have I1:Inv X pins σ H { s with heap:=s.heap.push { cls := .type "range",data := .fields #[.int lo t,.int hi u,.int 1 v] },toks:=tk }:=I.kept fun b o e=>aq _ e
 refine ⟨(s.heap.push { cls := .type "range",data := .fields #[.int lo t,.int hi u,.int 1 v] }).objs.size,[(s.heap.push { cls := .type "range",data := .fields #[.int lo t,.int hi u,.int 1 v] }).objs.size],_,_,H,rfl,
  I1.kept (t':=tk) fun b o e=>aq _ e,DM _ lo (hi - lo).toNat,?_,fun b hb=>?_,q⟩
 ·have e1:lo + ((0:Nat):Int) * 1=lo:=by simp
  have e2:(((hi - lo).toNat:Nat):Int) - ((0:Nat):Int)=Builtin.Range.rangeSize lo hi 1:=by rw [rangeSize_one];split <;> omega
  show IsRangeIter _ _ (lo + ((0:Nat):Int) * 1) ((((hi - lo).toNat:Nat):Int) - ((0:Nat):Int)) 1
  rw [e1,e2]
  exact au _ rfl
 ·have e:b=(s.heap.push { cls := .type "range",data := .fields #[.int lo t,.int hi u,.int 1 v] }).objs.size:=by simpa using hb
  subst e
  exact I1.Gv (Nat.le_refl _) (I1.hok.fresh (Nat.le_refl _))
noncomputable def iRng1 (ta:TA):TI:=fun σ H R=>ta σ H fun vs H1=>∃ j:Int,vs=[.int j] ∧ -(2 ^ 62)≤j∧j < 2 ^ 62∧R (Itr 0 j.toNat) H1
theorem AJ {a:Expr}{ta:TA}{p pos:Pos}(hg:Gl X "range") (hm:X.mg "range" = none) (ha:PA X [a] ta) (hs:autoParam (starEach [a] X.env=[(false,eval a X.env)]) auR):PI X tg (.Call (.Name "range" p) [a] [] pos) (iRng1 ta):=by
 intro pins s σ H R I h
 refine Call_ (PR I hg hm boot_range (PyProof.Rows.callWith_type1 (thn (ha pos pins s σ H _ I h) fun us s1 ⟨vs,H1,I1,r1,q1⟩=>?_) hs rfl))
 obtain ⟨j,e,q1,q2,q⟩:=q1
 subst e
 cases r1 with
 | cons r rr =>
  cases rr
  obtain ⟨t,rfl⟩:=r
  exact call_range_1 (yO I1 (by omega) (by omega) q1 q2 (by simpa using q))
noncomputable def tFor (wi:TI) (g:TG) (tb:TS):TS:=fun D σ H=>wi σ H fun J H1=>∃ W:Nat→Nat→St→Hp→Prop,(∃ m,W 0 m σ H1)∧∀ i m σ H,W i m σ H →
 (J.stop i H∧D.nx σ H)∨(J.go i H∧∃ N:St→Hp→Prop,(∀ σ' H',N σ' H'→∃ m',m' < m∧W (i + 1) m' σ' H')∧∀ x H',J.yld i H x H'→g x σ H' fun σ2 H2=>tb { D with nx:=N,ct:=N,bk:=D.nx } σ2 H2)
noncomputable def Jz (fp:List Addr) (h:Heap):List (Addr × Obj):=fp.filterMap fun b=>(h.get? b).map fun o=>(b,o)
theorem Ss {fp:List Addr}{h:Heap}{b:Addr}{o:Obj}(hb:b∈fp) (e:h.get? b=some o):(b,o)∈Jz fp h:=List.mem_filterMap.mpr ⟨b,hb,by rw [e];rfl⟩
theorem AK {fp:List Addr}{h:Heap}{p:Addr × Obj}(hp:p∈Jz fp h):p.1∈fp∧h.get? p.1=some p.2:=by
 obtain ⟨b,hb,e⟩:=List.mem_filterMap.mp hp
 cases q:h.get? b with
 | none=>rw [q] at e;cases e
 | some o =>
  rw [q] at e
  have e':(b,o)=p:=Option.some.inj e
  subst e'
  exact ⟨hb,q⟩
theorem Inv.pinned {pins:List (Addr × Obj)}{σ:St}{H:Hp}{s:Shared}{fp:List Addr}(I:Inv X pins σ H s) (hf:∀ b∈fp,PU X pins H b) (ho:∀ b∈fp,∃ o,s.heap.get? b=some o∧∀ v,o.data ≠ .cell v):Inv X (pins++Jz fp s.heap) σ H s :=
 I.Bx fun p hp=>(mem_append.mp hp).elim (fun z=>I.pin p (mem_append_right _ z)) fun z=>by
  obtain ⟨hb,e⟩:=AK z
  obtain ⟨f0,f1,f2,_⟩:=hf p.1 hb
  obtain ⟨o,e',d⟩:=ho p.1 hb
  rw [e] at e';cases e'
  exact ⟨e,f0,f1,f2,d⟩
theorem Inv.Nu {pins pl:List (Addr × Obj)}{σ:St}{H:Hp}{s:Shared}(I:Inv X (pins++pl) σ H s):Inv X pins σ H s:=I.Bx fun p hp=>I.pin p (mem_append_right _ (mem_append_left _ hp))
theorem oo {iter:Expr}{body:List Stmt}{wi:TI}{g:TG}{tb:TS}{pos:Pos}(hp:PassesOwn (model X.prog X.w) X.A X.env X.xe) (hc:X.calm=true) (hi:PI X tg iter wi) (hg:PG X tg g) (hb:PSs X body tb)
  (hs:∀ x,foldedSetIterable iter X.env x=pure x:=by intro _;rfl):PS X (.For tg iter body [] pos) (tFor wi g tb):=by
 intro pins s σ H D I h
 refine wpAny_For (thn (hi pins s σ H _ I h) fun v s1 h1=>thn h1 fun itv s2 h2=>?_) hs
 obtain ⟨it,fp,tn,J,H2,e,I2,T,st2,f2,W,⟨m0,w0⟩,turn⟩:=h2
 subst e
 -- what stays true of the iterator's objects through the loop
 have stat:∀ {H':Hp},(∀ b∈fp,H' b=none)→∀ b∈fp,PU X pins H' b:=fun hn b hb=>⟨hn b hb,(f2 b hb).2⟩
 refine codeAny_forLoop_any (fun n s'=>∃ i σ' H',Inv X pins σ' H' s'∧tn i s'.heap∧(∀ b∈fp,H' b=none)∧W i n σ' H') ?_ m0 ⟨0,σ,H2,I2,st2,fun b hb=>(f2 b hb).1,w0⟩
 rintro n s3 ⟨i,σ3,H3,I3,st3,fr3,w3⟩
 rcases turn i n σ3 H3 w3 with ⟨stop,qn⟩ | ⟨go,N,hN,step⟩
 ·refine wpAny_passesOwn hp (thn (T.done X rfl rfl rfl hc i pins s3 σ3 H3 X.xe I3 (stat fr3) st3 stop) fun r s4 ⟨hr,I4⟩=>?_)
  subst hr
  exact wpAny_execs_nil ⟨σ3,H3,I4,qn⟩
 ·refine wpAny_passesOwn hp (thn (T.item X rfl rfl rfl hc i pins s3 σ3 H3 X.xe I3 (stat fr3) st3 go) fun r s4 ⟨u,hr,h4⟩=>?_)
  subst hr
  refine wpAny_passesOwn hp (thn h4 fun _ s5 ⟨x,H5,I5,r5,y5,st5,fr5⟩=>?_)
  have I5':=I5.pinned (stat fr5) (T.obj _ _ st5)
  refine wpAny_passesOwn hp (thn (hg _ s5 σ3 H5 x u _ I5' r5 (step x H5 y5)) fun _ s6 ⟨σ6,H6,I6,q6⟩=>?_)
  refine wpAny_passesOwn hp (thn (hb _ s6 σ6 H6 _ I6 q6) fun f s7 q7=>?_)
  have again:∀ {σ7:St}{H7:Hp},Inv X (pins++Jz fp s5.heap) σ7 H7 s7→N σ7 H7→∃ m,m < n∧∃ i σ' H',Inv X pins σ' H' s7∧tn i s7.heap∧(∀ b∈fp,H' b=none)∧W i m σ' H':=fun {σ7 H7} I7 n7=>by
   obtain ⟨m',hm,w7⟩:=hN σ7 H7 n7
   refine ⟨m',hm,i + 1,σ7,H7,I7.Nu,T.keep _ _ _ st5 fun b hb o e=>(I7.pin (b,o) (mem_append_right _ (mem_append_right _ (Ss hb e)))).1,fun b hb=>?_,w7⟩
   obtain ⟨o,e,d⟩:=T.obj _ _ st5 b hb
   exact (I7.pin (b,o) (mem_append_right _ (mem_append_right _ (Ss hb e)))).2.1
  cases f with
  | next=>obtain ⟨σ7,H7,I7,n7⟩:=q7;exact again I7 n7
  | cont=>obtain ⟨σ7,H7,I7,n7⟩:=q7;exact again I7 n7
  | brk=>obtain ⟨σ7,H7,I7,q7⟩:=q7;exact ⟨σ7,H7,I7.Nu,q7⟩
  | ret v=>obtain ⟨x7,σ7,H7,I7,r7,q7⟩:=q7;exact ⟨x7,σ7,H7,I7.Nu,r7,q7⟩
end
abbrev R2:=V→V→Hp→VK→Prop
noncomputable def OpR (X:Cx) (f:Value→Value→Sem Value) (r:R2):Prop :=
 ∀ (pins:List (Addr × Obj)) (s:Shared) (σ:St) (H:Hp) (x y:V) (v u:Value) (Q:VK),Inv X pins σ H s→RelV x v→RelV y u→r x y H Q →
  wpAny (model X.prog X.w) X.A (f v u) (EP X pins σ Q) X.xe s
noncomputable def UnR (X:Cx) (f:Value→Sem Value) (r:V→Hp→VK→Prop):Prop :=
 ∀ (pins:List (Addr × Obj)) (s:Shared) (σ:St) (H:Hp) (x:V) (v:Value) (Q:VK),Inv X pins σ H s→RelV x v→r x H Q →
  wpAny (model X.prog X.w) X.A (f v) (EP X pins σ Q) X.xe s
noncomputable def YW (X:Cx) (f:Value) (r:List V→Hp→VK→Prop):Prop :=
 ∀ (pins:List (Addr × Obj)) (s:Shared) (σ:St) (H:Hp) (xs:List V) (us:List Value) (Q:VK),Inv X pins σ H s→Vals xs us→r xs H Q →
  wpAny (model X.prog X.w) X.A (call f us) (EP X pins σ Q) X.xe s
noncomputable def TruR (X:Cx) (r:V→Hp→(Bool→Hp→Prop)→Prop):Prop :=
 ∀ (pins:List (Addr × Obj)) (s:Shared) (σ:St) (H:Hp) (x:V) (v:Value) (Q:Bool→Hp→Prop),Inv X pins σ H s→RelV x v→r x H Q →
  wpAny (model X.prog X.w) X.A (truthy v) (TP X pins σ Q) X.xe s
noncomputable def tOp (r:R2) (ta tb:TE):TE:=fun σ H Q=>ta σ H fun x H1=>tb σ H1 fun y H2=>r x y H2 Q
noncomputable def tUn (r:V→Hp→VK→Prop) (ta:TE):TE:=fun σ H Q=>ta σ H fun x H1=>r x H1 Q
noncomputable def rI (C:Int→Int→Prop) (g:Int→Int→V):R2:=fun x y H Q=>∃ i j,x = .int i∧y = .int j∧C i j∧Q (g i j) H
noncomputable def rI0 (g:Int→Int→V):R2:=fun x y H Q=>∃ i j,x = .int i∧y = .int j∧Q (g i j) H
noncomputable def rU (g:Int→V):V→Hp→VK→Prop:=fun x H Q=>∃ i,x = .int i∧Q (g i) H
section
variable {X:Cx}{a b c:Expr}{ta tb tc:TE}{pos:Pos}
theorem binT (ha:PE X a ta) (hb:PE X b tb) {pins:List (Addr × Obj)}{s:Shared}{σ:St}{H:Hp}{R:V→V→Hp→Prop}(I:Inv X pins σ H s)
  (h:ta σ H fun x H1=>tb σ H1 fun y H2=>R x y H2) {Q:Value→Shared→Prop}{f:Value→Value→Sem Value}
  (hf:∀ v u s2 x y H2,Inv X pins σ H2 s2→RelV x v→RelV y u→R x y H2→wpAny (model X.prog X.w) X.A (f v u) Q X.xe s2) :
  wpAny (model X.prog X.w) X.A (eval a X.env) (fun v s₁=>wpAny (model X.prog X.w) X.A (eval b X.env) (fun u s₂=>wpAny (model X.prog X.w) X.A (f v u) Q X.xe s₂) X.xe s₁) X.xe s:=by
 refine thn (ha pins s σ H _ I h) fun v s1 ⟨x,H1,I1,r1,q1⟩=>?_
 refine thn (hb pins s1 σ H1 _ I1 q1) fun u s2 ⟨y,H2,I2,r2,q2⟩=>?_
 exact hf v u s2 x y H2 I2 r1 r2 q2
theorem yP {op:Operator}{r:R2}(ho:OpR X (binaryOp op) r) (ha:PE X a ta) (hb:PE X b tb):PE X (.BinOp a op b pos) (tOp r ta tb):=by
 intro pins s σ H Q I h
 exact wpAny_BinOp (binT ha hb I h fun v u s2 x y H2 I2 rx ry q=>ho pins s2 σ H2 x y v u Q I2 rx ry q)
theorem pe_un {op:UnaryOp}{r:V→Hp→VK→Prop}(ho:UnR X (unaryOp op) r) (ha:PE X a ta):PE X (.UnaryOp op a pos) (tUn r ta):=by
 intro pins s σ H Q I h
 exact UnaryOp_ (thn (ha pins s σ H _ I h) fun v s1 ⟨x,H1,I1,r1,q1⟩=>ho pins s1 σ H1 x v Q I1 r1 q1)
theorem opI {f:Value→Value→Sem Value}{C:Int→Int→Prop}{g:Int→Int→Int}
  (rule:∀ (i j:Int) (t u:Tok) (s:Shared) (Q:Value→Shared→Prop) (E:Value→Shared→Prop),C i j→Q (.int (g i j) s.toks) { s with toks:=s.toks + 1 }→wpAny (model X.prog X.w) X.A (f (.int i t) (.int j u)) Q E s) :
  OpR X f (rI C fun i j => .int (g i j)):=by
 intro pins s σ H x y v u Q I rx ry h
 obtain ⟨i,j,rfl,rfl,hc,q⟩:=h
 obtain ⟨t,rfl⟩:=rx
 obtain ⟨t',rfl⟩:=ry
 exact rule i j t t' s _ _ hc ⟨.int (g i j),H,I.tok _,⟨_,rfl⟩,q⟩
theorem opI0 {f:Value→Value→Sem Value}{g:Int→Int→Int}
  (rule:∀ (i j:Int) (t u:Tok) (s:Shared) (Q:Value→Shared→Prop) (E:Value→Shared→Prop),Q (.int (g i j) s.toks) { s with toks:=s.toks + 1 }→wpAny (model X.prog X.w) X.A (f (.int i t) (.int j u)) Q E s) :
  OpR X f (rI0 fun i j => .int (g i j)):=by
 intro pins s σ H x y v u Q I rx ry h
 obtain ⟨i,j,rfl,rfl,q⟩:=h
 obtain ⟨t,rfl⟩:=rx
 obtain ⟨t',rfl⟩:=ry
 exact rule i j t t' s _ _ ⟨.int (g i j),H,I.tok _,⟨_,rfl⟩,q⟩
theorem opB0 {f:Value→Value→Sem Value}{g:Int→Int→Bool}
  (rule:∀ (i j:Int) (t u:Tok) (s:Shared) (Q:Value→Shared→Prop) (E:Value→Shared→Prop),Q (.bool (g i j)) s→wpAny (model X.prog X.w) X.A (f (.int i t) (.int j u)) Q E s) :
  OpR X f (rI0 fun i j => .bl (g i j)):=by
 intro pins s σ H x y v u Q I rx ry h
 obtain ⟨i,j,rfl,rfl,q⟩:=h
 obtain ⟨t,rfl⟩:=rx
 obtain ⟨t',rfl⟩:=ry
 exact rule i j t t' s _ _ ⟨.bl (g i j),H,I,rfl,q⟩
noncomputable def CPow (i j:Int):Prop:=0≤j∧j≤1000000∧i.natAbs < 2 ^ 64
noncomputable def CMul (i j:Int):Prop:=(-(2 ^ 64) < i∧i < 2 ^ 64)∨(-(2 ^ 64) < j∧j < 2 ^ 64)
theorem CMul.ok {i j:Int}(h:CMul i j):IntMulOk i j:=by
 rcases h with ⟨h1,h2⟩ | ⟨h1,h2⟩
 ·exact .of_left (intBits_le_64 h1 h2)
 ·exact .of_right (intBits_le_64 h1 h2)
theorem oq:OpR X (binaryOp .Add) (rI0 fun i j => .int (i + j)):=opI0 fun _ _ _ _ _ _ _ q=>add_int q
theorem ot:OpR X (binaryOp .Sub) (rI0 fun i j => .int (i - j)):=opI0 fun _ _ _ _ _ _ _ q=>sub_int q
theorem uT:OpR X (binaryOp .Mod) (rI (fun _ j=>j≠0) fun i j => .int (i.fmod j)):=opI fun _ _ _ _ _ _ _ hc q=>mod_int' hc q
theorem ou:OpR X (binaryOp .Pow) (rI CPow fun i j => .int (i ^ j.toNat)):=opI fun _ _ _ _ _ _ _ hc q=>pow_int_small hc.1 hc.2.1 hc.2.2 q
theorem unI {f:Value→Sem Value}{g:Int→Int}
  (rule:∀ (i:Int) (t:Tok) (s:Shared) (Q:Value→Shared→Prop) (E:Value→Shared→Prop),Q (.int (g i) s.toks) { s with toks:=s.toks + 1 }→wpAny (model X.prog X.w) X.A (f (.int i t)) Q E s) :
  UnR X f (rU fun i => .int (g i)):=by
 intro pins s σ H x v Q I rx h
 obtain ⟨i,rfl,q⟩:=h
 obtain ⟨t,rfl⟩:=rx
 exact rule i t s _ _ ⟨.int (g i),H,I.tok _,⟨_,rfl⟩,q⟩
theorem ow:UnR X (unaryOp .USub) (rU fun i => .int (-i)):=unI fun _ _ _ _ _ q=>neg_int q
end
noncomputable def scal:V→V→Bool
 | .non,.non=>true | .non,.int _=>true | .int _,.non=>true | .non,.bl _=>true | .bl _,.non=>true | .non,.str _=>true | .str _,.non=>true
 | .int _,.int _=>true | .bl _,.bl _=>true | .str _,.str _=>true | .byt _,.byt _=>true
 | .int _,.str _=>true | .str _,.int _=>true | .bl _,.str _=>true | .str _,.bl _=>true
 | _,_=>false
noncomputable def rEq:R2:=fun x y H Q=>scal x y=true∧Q (.bl (decide (x=y))) H
noncomputable def rNe:R2:=fun x y H Q=>scal x y=true∧Q (.bl (!decide (x=y))) H
theorem BA {i j:Int}:decide (V.int i=V.int j)=(i == j):=by
 rw [Bool.eq_iff_iff]
 simp
theorem yQ {i j:Bool}:decide (V.bl i=V.bl j)=(i == j):=by
 rw [Bool.eq_iff_iff]
 simp
theorem BC {i j:Str}:decide (V.str i=V.str j)=(i == j):=by
 rw [Bool.eq_iff_iff]
 simp
theorem BD {i j:Array UInt8}:decide (V.byt i=V.byt j)=(i.toList == j.toList):=by
 rw [Bool.eq_iff_iff]
 cases i
 cases j
 simp
section
variable {X:Cx}{a b c:Expr}{ta tb tc:TE}{pos:Pos}
theorem ZN {pins:List (Addr × Obj)}{σ:St}{H:Hp}{s:Shared}{Q:VK}{k k':Bool}(I:Inv X pins σ H s) (q:Q (.bl k) H) (e:k=k'):EP X pins σ Q (.bool k') s:=by
 subst e
 exact ⟨.bl k,H,I,rfl,q⟩
theorem op_eq:OpR X (compareOp .Eq) rEq:=by
 intro pins s σ H x y v u Q I rx ry h
 obtain ⟨hs,q⟩:=h
 cases x with
 | non =>
  cases rx
  cases y with
  | non=>cases ry;exact PySem.EqNone.eq_none_none (ZN I q (by simp))
  | bl j=>cases ry;exact PySem.EqNone.eq_none_bool (ZN I q (by simp))
  | int j=>obtain ⟨t',rfl⟩:=ry;exact PySem.EqNone.eq_none_int (ZN I q (by simp))
  | str j=>obtain ⟨t',rfl⟩:=ry;exact PySem.EqNone.eq_none_str (ZN I q (by simp))
  | _=>exact absurd (show false=true from hs) aC
 | bl i =>
  cases rx
  cases y with
  | non=>cases ry;exact PySem.EqNone.eq_bool_none (ZN I q (by simp))
  | bl j=>cases ry;exact eq_bool (ZN I q yQ)
  | str j=>obtain ⟨t',rfl⟩:=ry;exact PySem.EqMixed.eq_bool_str (ZN I q (by simp))
  | _=>exact absurd (show false=true from hs) aC
 | int i =>
  obtain ⟨t,rfl⟩:=rx
  cases y with
  | non=>cases ry;exact PySem.EqNone.eq_int_none (ZN I q (by simp))
  | int j=>obtain ⟨t',rfl⟩:=ry;exact eq_int (ZN I q BA)
  | str j=>obtain ⟨t',rfl⟩:=ry;exact PySem.EqMixed.eq_int_str (ZN I q (by simp))
  | _=>exact absurd (show false=true from hs) aC
 | str i =>
  obtain ⟨t,rfl⟩:=rx
  cases y with
  | non=>cases ry;exact PySem.EqNone.eq_str_none (ZN I q (by simp))
  | bl j=>cases ry;exact PySem.EqMixed.eq_str_bool (ZN I q (by simp))
  | int j=>obtain ⟨t',rfl⟩:=ry;exact PySem.EqMixed.eq_str_int (ZN I q (by simp))
  | str j=>obtain ⟨t',rfl⟩:=ry;exact eq_str (ZN I q BC)
  | _=>exact absurd (show false=true from hs) aC
 | byt i =>
  obtain ⟨t,rfl⟩:=rx
  cases y with
  | byt j=>obtain ⟨t',rfl⟩:=ry;exact PySem.W.eq_bytes (ZN I q BD)
  | _=>exact absurd (show false=true from hs) aC
 | _=>cases y <;> exact absurd (show false=true from hs) aC
theorem op_ne:OpR X (compareOp .NotEq) rNe:=by
 intro pins s σ H x y v u Q I rx ry h
 obtain ⟨hs,q⟩:=h
 cases x with
 | non =>
  cases rx
  cases y with
  | non=>cases ry;exact PySem.EqNone.ne_none_none (ZN I q (by simp))
  | bl j=>cases ry;exact PySem.EqNone.ne_none_bool (ZN I q (by simp))
  | int j=>obtain ⟨t',rfl⟩:=ry;exact PySem.EqNone.ne_none_int (ZN I q (by simp))
  | str j=>obtain ⟨t',rfl⟩:=ry;exact PySem.EqNone.ne_none_str (ZN I q (by simp))
  | _=>exact absurd (show false=true from hs) aC
 | bl i =>
  cases rx
  cases y with
  | non=>cases ry;exact PySem.EqNone.ne_bool_none (ZN I q (by simp))
  | bl j=>cases ry;exact ne_bool (ZN I q (congrArg not yQ))
  | str j=>obtain ⟨t',rfl⟩:=ry;exact PySem.EqMixed.ne_bool_str (ZN I q (by simp))
  | _=>exact absurd (show false=true from hs) aC
 | int i =>
  obtain ⟨t,rfl⟩:=rx
  cases y with
  | non=>cases ry;exact PySem.EqNone.ne_int_none (ZN I q (by simp))
  | int j=>obtain ⟨t',rfl⟩:=ry;exact ne_int (ZN I q (congrArg not BA))
  | str j=>obtain ⟨t',rfl⟩:=ry;exact PySem.EqMixed.ne_int_str (ZN I q (by simp))
  | _=>exact absurd (show false=true from hs) aC
 | str i =>
  obtain ⟨t,rfl⟩:=rx
  cases y with
  | non=>cases ry;exact PySem.EqNone.ne_str_none (ZN I q (by simp))
  | bl j=>cases ry;exact PySem.EqMixed.ne_str_bool (ZN I q (by simp))
  | int j=>obtain ⟨t',rfl⟩:=ry;exact PySem.EqMixed.ne_str_int (ZN I q (by simp))
  | str j=>obtain ⟨t',rfl⟩:=ry;exact ne_str (ZN I q (congrArg not BC))
  | _=>exact absurd (show false=true from hs) aC
 | byt i =>
  obtain ⟨t,rfl⟩:=rx
  cases y with
  | byt j=>obtain ⟨t',rfl⟩:=ry;exact PySem.W.ne_bytes (ZN I q (congrArg not BD))
  | _=>exact absurd (show false=true from hs) aC
 | _=>cases y <;> exact absurd (show false=true from hs) aC
theorem op_lt:OpR X (compareOp .Lt) (rI0 fun i j => .bl (decide (i < j))):=opB0 fun _ _ _ _ _ _ _ q=>lt_int q
theorem op_le:OpR X (compareOp .LtE) (rI0 fun i j => .bl (decide (i≤j))):=opB0 fun _ _ _ _ _ _ _ q=>le_int q
theorem op_gt:OpR X (compareOp .Gt) (rI0 fun i j => .bl (decide (j < i))):=opB0 fun _ _ _ _ _ _ _ q=>gt_int q
theorem op_ge:OpR X (compareOp .GtE) (rI0 fun i j => .bl (decide (j≤i))):=opB0 fun _ _ _ _ _ _ _ q=>ge_int q
theorem AO:OpR X (compareOp .In) (fun x y H Q=>∃ i j,x = .str i∧y = .str j∧Q (.bl (!(Builtin.Str.occurrences j i 0 j.length 1).isEmpty)) H):=by
 intro pins s σ H x y v u Q I rx ry h
 obtain ⟨i,j,rfl,rfl,q⟩:=h
 obtain ⟨t,rfl⟩:=rx
 obtain ⟨t',rfl⟩:=ry
 exact in_str (ZN I q rfl)
theorem ox:OpR X (compareOp .Is) (fun x y H Q=>y = .non∧Q (.bl (decide (x = .non))) H):=by
 intro pins s σ H x y v u Q I rx ry h
 obtain ⟨rfl,q⟩:=h
 cases ry
 refine is_none_gen (ZN I q ?_)
 cases x <;> first
  | (cases rx;rfl)
  | (obtain ⟨t,rfl⟩:=rx;rfl)
theorem uU:OpR X (compareOp .IsNot) (fun x y H Q=>y = .non∧Q (.bl (!decide (x = .non))) H):=by
 intro pins s σ H x y v u Q I rx ry h
 obtain ⟨rfl,q⟩:=h
 cases ry
 refine isnot_none_gen (ZN I q ?_)
 cases x <;> first
  | (cases rx;rfl)
  | (obtain ⟨t,rfl⟩:=rx;rfl)
theorem Gw:OpR X (compareOp .NotIn) (fun x y H Q=>∃ i j,x = .str i∧y = .str j∧Q (.bl (!(!(Builtin.Str.occurrences j i 0 j.length 1).isEmpty))) H):=by
 intro pins s σ H x y v u Q I rx ry h
 obtain ⟨i,j,rfl,rfl,q⟩:=h
 obtain ⟨t,rfl⟩:=rx
 obtain ⟨t',rfl⟩:=ry
 exact notIn_str (ZN I q rfl)
theorem OpR.or {f:Value→Value→Sem Value}{r r':R2}(h:OpR X f r) (h':OpR X f r'):OpR X f (fun x y H Q=>r x y H Q∨r' x y H Q):=by
 intro pins s σ H x y v u Q I rx ry q
 rcases q with q | q
 ·exact h pins s σ H x y v u Q I rx ry q
 ·exact h' pins s σ H x y v u Q I rx ry q
theorem ZF (b:Expr) {op:CmpOp}(h:autoParam (op ≠ .In) auD) (h2:autoParam (op ≠ .NotIn) auD):behindInMarks op b=false:=by
 have e1:(op == CmpOp.In)=false:=by cases op <;> first | rfl | exact absurd rfl h
 have e2:(op == CmpOp.NotIn)=false:=by cases op <;> first | rfl | exact absurd rfl h2
 cases b <;> simp [behindInMarks,e1,e2]
theorem uV {op:CmpOp}{r:R2}(ho:OpR X (compareOp op) r) (ha:PE X a ta) (hb:PE X b tb) (hm:behindInMarks op b=false):PE X (.Compare a [op] [b] pos) (tOp r ta tb):=by
 intro pins s σ H Q I h
 exact wpAny_Compare1 (binT ha hb I h fun v u s2 x y H2 I2 rx ry q=>ho pins s2 σ H2 x y v u Q I2 rx ry q) hm
noncomputable def yR (t:TE):TT:=fun σ H Q=>t σ H fun x H'=>∃ k,x = .bl k∧Q k H'
theorem uW {op:CmpOp}{r:R2}(ho:OpR X (compareOp op) r) (ha:PE X a ta) (hb:PE X b tb) (hm:behindInMarks op b=false):PT X (.Compare a [op] [b] pos) (yR (tOp r ta tb)):=by
 intro pins s σ H Q I h
 refine wpAny_isTrue_Compare1 (thn (ha pins s σ H _ I h) fun v s1 ⟨x,H1,I1,r1,q1⟩=>thn (hb pins s1 σ H1 _ I1 q1) fun u s2 ⟨y,H2,I2,r2,q2⟩ =>
  thn (ho pins s2 σ H2 x y v u _ I2 r1 r2 q2) fun c s3 ⟨z,H3,I3,r3,k,e,q3⟩=>?_) hm
 subst e
 cases r3
 exact wpAny_truthy_bool ⟨H3,I3,q3⟩
noncomputable def yS (r r':R2) (ta tb tc:TE):TE:=fun σ H Q=>ta σ H fun x H1=>tb σ H1 fun y H2=>r x y H2 fun z H3=>∃ k,z = .bl k ∧
 (if k=true then tc σ H3 fun w' H4=>r' y w' H4 Q else Q (.bl false) H3)
theorem yT {op op':CmpOp}{r r':R2}(ho:OpR X (compareOp op) r) (ho':OpR X (compareOp op') r') (ha:PE X a ta) (hb:PE X b tb) (hc:PE X c tc)
  (hm:lastMarks [op,op'] [b,c]=false:=by with_unfolding_all rfl):PE X (.Compare a [op,op'] [b,c] pos) (yS r r' ta tb tc):=by
 intro pins s σ H Q I h
 refine Compare_chain (thn (ha pins s σ H _ I h) fun v s1 ⟨x,H1,I1,r1,q1⟩=>chain_link (thn (hb pins s1 σ H1 _ I1 q1) fun u s2 ⟨y,H2,I2,r2,q2⟩ =>
  thn (ho pins s2 σ H2 x y v u _ I2 r1 r2 q2) fun d s3 ⟨z,H3,I3,r3,k,e,q3⟩=>?_)) hm
 subst e
 cases r3
 refine wpAny_truthy_bool ?_
 cases k with
 | false=>exact ite_ff ⟨.bl false,H3,I3,rfl,q3⟩
 | true=>exact ite_tt (chain_last (thn (hc pins s3 σ H3 _ I3 q3) fun w' s4 ⟨z',H4,I4,r4,q4⟩=>ho' pins s4 σ H4 y z' u w' Q I4 r2 r4 q4))
theorem yU {op op':CmpOp}{r r':R2}(ho:OpR X (compareOp op) r) (ho':OpR X (compareOp op') r') (ha:PE X a ta) (hb:PE X b tb) (hc:PE X c tc)
  (hm:lastMarks [op,op'] [b,c]=false:=by with_unfolding_all rfl):PT X (.Compare a [op,op'] [b,c] pos) (yR (yS r r' ta tb tc)):=by
 intro pins s σ H Q I h
 refine isTrue_chain (thn (ha pins s σ H _ I h) fun v s1 ⟨x,H1,I1,r1,q1⟩=>test_link (thn (hb pins s1 σ H1 _ I1 q1) fun u s2 ⟨y,H2,I2,r2,q2⟩ =>
  thn (ho pins s2 σ H2 x y v u _ I2 r1 r2 q2) fun d s3 ⟨z,H3,I3,r3,k,e,q3⟩=>?_)) hm
 subst e
 cases r3
 refine wpAny_truthy_bool ?_
 cases k with
 | false =>
  obtain ⟨k',e',q'⟩:=q3
  cases e'
  exact ite_ff ⟨H3,I3,q'⟩
 | true =>
  refine ite_tt (test_last (thn (hc pins s3 σ H3 _ I3 q3) fun w' s4 ⟨z',H4,I4,r4,q4⟩=>thn (ho' pins s4 σ H4 y z' u w' _ I4 r2 r4 q4) fun d' s5 ⟨z2,H5,I5,r5,k2,e2,q5⟩=>?_))
  subst e2
  cases r5
  exact wpAny_truthy_bool ⟨H5,I5,q5⟩
noncomputable def TruV (K:aj) (x:V) (H:Hp) (k:Bool):Prop :=
 match x with
 | .non=>k=false
 | .bl b=>k=b
 | .int i=>k=(i != 0)
 | .str y=>y.length≤aA∧k=((y.length:Int) != 0)
 | .byt y=>y.size≤aA∧k=((y.size:Int) != 0)
 | .ref p=>(∃ xs,SqL K H p xs∧k = !xs.isEmpty)∨(∃ xs,SqT K H p xs∧k = !xs.isEmpty)∨∃ kvs,H p=some (.dK kvs)∧k = !kvs.isEmpty
 | _=>False
theorem DN {κ:Type}{kvs:List (κ × V)}{vs:List (κ × Value)}(r:KV kvs vs):(!vs.isEmpty) = !kvs.isEmpty:=by
 cases r <;> rfl
theorem JA {xs:List V}{its:List Value}(r:Vals xs its):(!its.toArray.isEmpty) = !xs.isEmpty:=by
 cases r <;> simp
theorem RL:(aA:Nat) < 2 ^ 63:=by rw [sizeLine_eq];decide
theorem oy:TruR X (fun x H Q=>∃ k,TruV X.K x H k∧Q k H):=by
 intro pins s σ H x v Q I rx h
 obtain ⟨k,e,q⟩:=h
 have hl:=RL
 have hs:aA=16777216:=sizeLine_eq
 cases x with
 | non =>
  cases rx
  have e':k=false:=e
  subst e'
  exact truthy_none ⟨H,I,q⟩
 | bl b =>
  cases rx
  have e':k=b:=e
  subst e'
  exact wpAny_truthy_bool ⟨H,I,q⟩
 | int i =>
  obtain ⟨t,rfl⟩:=rx
  have e':k=(i != 0):=e
  subst e'
  exact PySem.P.truthy_int ⟨H,I,q⟩
 | str y =>
  obtain ⟨t,rfl⟩:=rx
  obtain ⟨hy,e'⟩:y.length≤aA∧k=((y.length:Int) != 0):=e
  subst e'
  exact PySem.P.truthy_str (by omega) ⟨H,I.tok _,q⟩
 | byt y =>
  obtain ⟨t,rfl⟩:=rx
  obtain ⟨hy,e'⟩:y.size≤aA∧k=((y.size:Int) != 0):=e
  subst e'
  exact PySem.W.truthy_bytes (by omega) ⟨H,I.tok _,q⟩
 | ref p =>
  cases rx
  have e':(∃ xs,SqL X.K H p xs∧k = !xs.isEmpty)∨(∃ xs,SqT X.K H p xs∧k = !xs.isEmpty)∨∃ kvs,H p=some (.dK kvs)∧k = !kvs.isEmpty:=e
  rcases e' with ⟨xs,hx,e'⟩ | ⟨xs,hx,e'⟩ | ⟨kvs,hx,e'⟩
  ·subst e'
   obtain ⟨its,r,pl,hz⟩:=I.list hx
   have hlen:=r.length
   exact wpAny_truthy_list pl.isList (by simp only [size_toArray];omega) ⟨H,I.tok _,by rw [JA r];exact q⟩
  ·subst e'
   obtain ⟨its,r,pl,hz⟩:=I.tuple hx
   have hlen:=r.length
   exact truthy_tuple pl (by simp only [size_toArray];omega) ⟨H,I.tok _,by rw [JA r];exact q⟩
  ·subst e'
   obtain ⟨hz,hS,vs,r,m⟩:kvs.length≤aA∧(p == sysModules)=false∧∃ vs,KV kvs vs∧s.heap.DictOf (ZE X.prog X.w) p vs:=I.hok p _ hx
   have hlen:kvs.length=vs.length:=Paired.length r
   exact wpAny_truthy_dict hS m (by omega) ⟨H,I.tok _,by rw [DN r];exact q⟩
 | _=>exact (show False from e).elim
theorem yV (ha:PE X a ta) (he:∀ whole,isTrue a X.env whole=(do let v ← whole;standAt a.pos;holding [v] (truthy v))) :
  PT X a (fun σ H Q=>ta σ H fun x H'=>∃ k,TruV X.K x H' k∧Q k H'):=by
 intro pins s σ H Q I h
 exact isTrue_plain (thn (ha pins s σ H _ I h) fun v s1 ⟨x,H1,I1,r1,q1⟩=>oy pins s1 σ H1 x v Q I1 r1 q1) (he _)
theorem DQ:OpR X (binaryOp .Add) (fun x y H Q=>∃ i j,x = .str i∧y = .str j∧i.length + j.length≤aA∧Q (.str (i++j)) H):=by
 intro pins s σ H x y v u Q I rx ry h
 obtain ⟨i,j,rfl,rfl,hz,q⟩:=h
 obtain ⟨t,rfl⟩:=rx
 obtain ⟨t',rfl⟩:=ry
 exact add_str (fun t' tk=>⟨.str (i++j),H,I.tok _,⟨_,rfl⟩,q⟩) hz
theorem vals1 {x:V}{us:List Value}(r:Vals [x] us):∃ u,us=[u]∧RelV x u:=by
 cases r with
 | cons r1 r2=>cases r2;exact ⟨_,rfl,r1⟩
theorem vals2 {x y:V}{us:List Value}(r:Vals [x,y] us):∃ u w',us=[u,w']∧RelV x u∧RelV y w':=by
 cases r with
 | cons r1 r2 =>
  cases r2 with
  | cons r3 r4=>cases r4;exact ⟨_,_,rfl,r1,r3⟩
theorem yW:YW X (.builtin "abs") (fun xs H Q=>∃ i,xs=[.int i]∧Q (.int (if i < 0 then -i else i)) H):=by
 intro pins s σ H xs us Q I r h
 obtain ⟨i,rfl,q⟩:=h
 obtain ⟨u,rfl,t,rfl⟩:=vals1 r
 exact call_abs_int fun u tk=>⟨.int (if i < 0 then -i else i),H,I.tok _,⟨_,rfl⟩,q⟩
theorem AQ (hc:X.calm=true):YW X (.builtin "max") (fun xs H Q=>∃ i j,xs=[.int i,.int j]∧Q (.int (if j > i then j else i)) H):=by
 intro pins s σ H xs us Q I r h
 obtain ⟨i,j,rfl,q⟩:=h
 obtain ⟨u,w',rfl,⟨t,rfl⟩,⟨t',rfl⟩⟩:=vals2 r
 refine max_two_ints (I.ok.hd hc) fun h' tk k=>⟨_,H,I.kept k,?_,q⟩
 by_cases hj:j > i
 ·rw [if_pos hj,if_pos hj];exact ⟨_,rfl⟩
 ·rw [if_neg hj,if_neg hj];exact ⟨_,rfl⟩
theorem AR:YW X (.type "int") (fun xs H Q=>(∃ i,xs=[.int i]∧Q (.int i) H)∨∃ k,xs=[.bl k]∧Q (.int (if k then 1 else 0)) H):=by
 intro pins s σ H xs us Q I r h
 rcases h with ⟨i,rfl,q⟩ | ⟨k,rfl,q⟩
 ·obtain ⟨u,rfl,t,rfl⟩:=vals1 r
  exact call_int_int ⟨.int i,H,I,⟨_,rfl⟩,q⟩
 ·obtain ⟨u,rfl,r1⟩:=vals1 r
  cases r1
  exact call_int_bool ⟨.int (if k then 1 else 0),H,I.tok _,⟨_,rfl⟩,q⟩
end
structure DR (h:Heap) (x dx C:Addr) (mA:Str→Option Value):Prop where
 obj:h.get? x=some (instObj C dx)
 ns:h.Ns1 dx mA
 ne:dx≠x
theorem AU {h:Heap}{dx:Addr}{mA:Str→Option Value}(n:h.Ns1 dx mA):∃ od,h.get? dx=some od∧∀ name,lookIn name od=some (mA name):=by
 obtain ⟨o,es,ep,ho,hd,hk,_,hm⟩:=n
 refine ⟨o,ho,fun name=>?_⟩
 have e:=hm name
 unfold nsFind findBy at e
 rw [←Array.find?_toList] at e
 unfold lookIn
 rw [hd]
 dsimp only
 split
 ·rename_i y q
  rw [q] at e
  exact congrArg some e
 ·rename_i q
  rw [q] at e
  have a:es.toList.any (·.refKey)=false:=by
   rw [List.any_eq_false]
   intro y hy
   obtain ⟨z,t,hkey⟩:=hk y (Array.mem_toList_iff.mp hy)
   simp [DictEntry.refKey,hkey]
  have a':¬ es.toList.any (·.refKey)=true:=by rw [a];exact aC
  rw [if_neg a']
  exact congrArg some e
theorem DR.look {h:Heap}{x dx C:Addr}{mA:Str→Option Value}(I:DR h x dx C mA):∃ od,PySem.W.InstAt h x (instObj C dx) C (some od)∧∀ name,lookIn name od=some (mA name) :=
 let ⟨od,ho,hl⟩:=AU I.ns
 ⟨od,⟨I.obj,rfl,rfl,ho⟩,hl⟩
section
variable {prog:Program}{w:World}{A:Around}{E:Value→Shared→Prop}{s:Shared}{K:aj}{x dx C f:Addr}{mA:Str→Option Value}{name:Str}{v:Value}
theorem get_map {expr:Bool}{Q:Value→Shared→Prop}(X:K.In s.heap) (I:DR s.heap x dx C mA) (hg:plainGet K C name=true) (hh:hasDictIn K C=true)
  (ha:findIn K (.ref C) name=some none) (hv:mA name=some v) (hv':PySem.W.handedIn v=true) (h:Q v { s with toks:=s.toks + 1 }) :
  wpAny (model prog w) A (getAttr (.ref x) name expr) Q E s:=by
 obtain ⟨od,J,hl⟩:=I.look
 exact PySem.W.get_value X J (plainGet_of hg).1 (PySem.W.findObj_own hh ha rfl (by rw [hl,hv])) hv' h
theorem yX {pl:Sem Bool}{Q:Value × List Value→Shared→Prop}(X:K.In s.heap) (I:DR s.heap x dx C mA) (hg:plainGet K C name=true)
  (hf:findIn K (.ref C) name=some (some (.ref f))) (ht:isFn K (.ref f)=true) (hv:mA name=none) (h:Q (.ref f,[.ref x]) s) :
  wpAny (model prog w) A (getMethod (.ref x) name pl) Q E s:=by
 obtain ⟨od,J,hl⟩:=I.look
 exact PySem.W.method_fn X J (plainGet_of hg).1 (plainGet_of hg).2 hf (beq_iff_eq.mp ht) (by show (lookIn name od).map (·.isSome)=some false;rw [hl,hv];rfl) h
theorem uX {ns:List Str}{Q:Unit→Shared→Prop}(X:K.In s.heap) (I:DR s.heap x dx C mA)
  (hs:findIn K (.ref C) "__setattr__" = some (some (.builtin "object.__setattr__"))) (hp:plainOver K C=true) (ht:takerIn K C name=some none) (hh:hasDictIn K C=true)
  (hw:PySem.Within mA ns) (hsz:ns.length≤aA)
  (h:∀ h',DR h' x dx C (fun y=>if y=name then some v else mA y)→aF dx s.heap h'→Q () { s with heap:=h',toks:=s.toks + 2 }) :
  wpAny (model prog w) A (setAttr (.ref x) name v) Q E s:=by
 obtain ⟨od,J,hl⟩:=I.look
 refine PySem.W.set_plain X J hs (PySem.W.osa_open (s:={ s with toks:=s.toks + 1 }) (r:=none) X J hp ht fun b=>?_)
 obtain ⟨cd,hc,hd'⟩:=PySem.W.any_some hh
 have hx:s.heap.get? x=some ⟨.ref C,some dx,.plain,#[]⟩:=I.obj
 refine ak (ao (ak (ak (wpAny_loadPart hx (ak (Looks.here (s:={ s with toks:=s.toks + 1 }) (PySem.W.looks_clsIn X hc) ?_))))))
 rw [hd']
 refine ao (a:=some dx) (ak (ao (ak ?_)))
 refine wpAny_nsSet1 (s:={ s with toks:=s.toks + 1 }) I.ns fun h' hn2 hs2=>?_
 obtain ⟨oD,esD,epD,hoD,hdD,hcD⟩:=hn2.count (PySem.Within.cons name v hw)
 refine ak (wpAny_lookBehind hoD (by rw [hdD];exact pastItsLine_dict (Nat.le_trans hcD (by rw [length_cons];omega))) ?_)
 exact ao (h _ ⟨(hs2.2 _ (Ne.symm I.ne)).trans I.obj,hn2,I.ne⟩ hs2)
theorem yY {R:Result→Shared→Prop}{vs:List Value}{kw:List (Str × Value)}(X:K.In s.heap) (hm:makesIn K C=true)
  (hi:findIn K (.ref C) "__init__" = some (some (.ref f))) (hf:typeIn K (.ref f)=some (.type "function"))
  (h:codeAny (model prog w) (A.under (.builtin "type.__call__" ⟨.ref C::vs,kw⟩)) (.call (.ref f) ⟨.ref (s.heap.objs.size + 1)::vs,kw⟩) (PySem.W.InitBack (s.heap.objs.size + 1) R)
   { s with heap:=(s.heap.push emptyDict).push (instObj C s.heap.objs.size) }) :
  codeAny (model prog w) A (.call (.ref C) ⟨vs,kw⟩) R s:=by
 obtain ⟨hh,g,d,t,os⟩:=s
 exact PySem.W.make_core (makes_of X hm) (looks_findIn X hi) (fun self=>PySem.W.bind_fn X self hf) (.inl rfl) h
theorem AV {R:Result→Shared→Prop}(X:K.In s.heap) (hm:makesIn K C=true)
  (hi:findIn K (.ref C) "__init__" = some (some (.builtin "object.__init__")))
  (hb:∀ self,Looks (model prog w) s.heap (bindSpecial (.builtin "object.__init__") self) (.builtin "object.__init__",[self]))
  (h:codeAny (model prog w) (A.under (.builtin "type.__call__" ⟨[.ref C],[]⟩)) (.call (.builtin "object.__init__") ⟨[.ref (s.heap.objs.size + 1)],[]⟩) (PySem.W.InitBack (s.heap.objs.size + 1) R)
   { s with heap:=(s.heap.push emptyDict).push (instObj C s.heap.objs.size) }) :
  codeAny (model prog w) A (.call (.ref C) ⟨[],[]⟩) R s:=by
 obtain ⟨hh,g,d,t,os⟩:=s
 exact PySem.W.make_core (makes_of X hm) (looks_findIn X hi) hb (.inr ⟨rfl,rfl⟩) h
end
noncomputable def Su (f:Str) (v:V):List (Str × V)→List (Str × V)
 | []=>[(f,v)]
 | (g,x)::r=>if g=f then (g,v)::r else (g,x)::Su f v r
theorem Ky (f g:Str) (v:V):∀ fs:List (Str × V),(Su f v fs).lookup g=if g=f then some v else fs.lookup g
 | []=>by
  show List.lookup g [(f,v)]=_
  by_cases h:g=f
  ·have hb:(g == f)=true:=beq_iff_eq.mpr h
   simp only [List.lookup,hb,if_pos h]
  ·have hb:(g == f)=false:=beq_eq_false_iff_ne.mpr h
   simp only [List.lookup,hb,if_neg h]
 | (k,x)::r=>by
  have ih:=Ky f g v r
  rw [show Su f v ((k,x)::r)=(if k=f then (k,v)::r else (k,x)::Su f v r) from rfl]
  by_cases hk:k=f
  ·rw [if_pos hk]
   by_cases h:g=k
   ·have hb:(g == k)=true:=beq_iff_eq.mpr h
    simp only [List.lookup,hb,if_pos (h.trans hk)]
   ·have hb:(g == k)=false:=beq_eq_false_iff_ne.mpr h
    simp only [List.lookup,hb,if_neg (fun e:g=f=>h (e.trans hk.symm))]
  ·rw [if_neg hk]
   by_cases h:g=k
   ·have hb:(g == k)=true:=beq_iff_eq.mpr h
    simp only [List.lookup,hb,if_neg (fun e:g=f=>hk (h.symm.trans e))]
   ·have hb:(g == k)=false:=beq_eq_false_iff_ne.mpr h
    simp only [List.lookup,hb]
    exact ih
theorem Mr (f:Str) (v:V):∀ fs:List (Str × V),f∈(Su f v fs).map (·.1)∧∀ g,g∈fs.map (·.1)→g∈(Su f v fs).map (·.1)
 | []=>⟨by simp [Su],fun g h=>by simp at h⟩
 | (k,x)::r=>by
  obtain ⟨i1,i2⟩:=Mr f v r
  rw [show Su f v ((k,x)::r)=(if k=f then (k,v)::r else (k,x)::Su f v r) from rfl]
  by_cases hk:k=f
  ·rw [if_pos hk]
   subst hk
   exact ⟨by simp,fun g h=>by simpa using h⟩
  ·rw [if_neg hk]
   refine ⟨?_,fun g h=>?_⟩
   ·rw [map_cons]
    exact mem_cons_of_mem _ i1
   ·rw [map_cons] at h ⊢
    rcases mem_cons.mp h with e | e
    ·exact mem_cons.mpr (.inl e)
    ·exact mem_cons_of_mem _ (i2 g e)
theorem Kz (f:Str) (v:V):∀ fs:List (Str × V),(Su f v fs).length≤fs.length + 1
 | []=>by simp [Su]
 | (k,x)::r=>by
  have ih:=Kz f v r
  rw [show Su f v ((k,x)::r)=(if k=f then (k,v)::r else (k,x)::Su f v r) from rfl]
  by_cases hk:k=f
  ·rw [if_pos hk,length_cons,length_cons];omega
  ·rw [if_neg hk,length_cons,length_cons];omega
theorem RG.some_of {v:V}{o:Option Value}(r:RG (some v) o):∃ u,o=some u∧RelV v u:=by
 cases o with
 | none=>exact (show False from r).elim
 | some u=>exact ⟨u,rfl,r⟩
theorem RG.none_of {o:Option Value}(r:RG none o):o=none:=by
 cases o with
 | none=>rfl
 | some u=>exact (show False from r).elim
theorem AW {v:V}{u:Value}(r:RelV v u):PySem.W.handedIn u=true:=by
 cases v with
 | non=>cases (show u=Value.none from r);rfl
 | bl b=>cases (show u=Value.bool b from r);rfl
 | int i=>obtain ⟨t,e⟩:=(show ∃ t,u=Value.int i t from r);cases e;rfl
 | str x=>obtain ⟨t,e⟩:=(show ∃ t,u=Value.str x t from r);cases e;rfl
 | byt b=>obtain ⟨t,e⟩:=(show ∃ t,u=Value.bytes b t from r);cases e;rfl
 | flt b=>obtain ⟨t,e⟩:=(show ∃ t,u=Value.float b t from r);cases e;rfl
 | ref a=>cases (show u=Value.ref a from r);rfl
 | ty n=>cases (show u=Value.type n from r);rfl
section
variable {P:Program}{w:World}{H H':Hp}{h h':Heap}{a C dx:Addr}{fs fs':List (Str × V)}
theorem Jm (hok:HOk P w H h) (e:H a=some (.ins C dx fs)):∃ mA,DR h a dx C mA∧(∀ f,RG (fs.lookup f) (mA f))∧PySem.Within mA (fs.map (·.1))∧fs.length≤1000∧H dx=some (.own a):=by
 obtain ⟨d,z,ne,ob,mA,n,r,q⟩:=(show ZZ P w H h a (.ins C dx fs) from hok a _ e)
 exact ⟨mA,⟨ob,n,ne⟩,r,q,z,d⟩
end
structure Cls (K:aj) (C:Addr):Prop where
 pg:plainGet K C Str.empty=true
 hd:hasDictIn K C=true
 po:plainOver K C=true
 sa:findIn K (.ref C) "__setattr__" = some (some (.builtin "object.__setattr__"))
theorem Cls.get {K:aj}{C:Addr}(c:Cls K C) (f:Str):plainGet K C f=true:=c.pg
noncomputable def YN (K:aj) (C:Addr) (f:Str):Prop:=findIn K (.ref C) f=some none
theorem YN.taker {K:aj}{C:Addr}{f:Str}(n:YN K C f):takerIn K C f=some none:=by
 unfold takerIn
 rw [show findIn K (.ref C) f=some none from n]
 rfl
structure Meth (K:aj) (C:Addr) (m:Str) (f:Addr):Prop where
 at_:findIn K (.ref C) m=some (some (.ref f))
 fn:isFn K (.ref f)=true
 kp:keepIn K (.ref f)=true
section
variable {X:Cx}{pins:List (Addr × Obj)}{σ:St}{H:Hp}{s:Shared}{a C dx:Addr}{fs:List (Str × V)}{f:Str}{v:V}{A:Around}{E:Value→Shared→Prop}
theorem DU {b:Bool}{Q:Value→Shared→Prop}(I:Inv X pins σ H s) (e:H a=some (.ins C dx fs)) (c:Cls X.K C) (n:YN X.K C f) (l:fs.lookup f=some v)
  (h:∀ u s',Inv X pins σ H s'→RelV v u→Q u s'):wpAny (model X.prog X.w) A (getAttr (.ref a) f b) Q E s:=by
 obtain ⟨mA,O,r,_,_,_⟩:=Jm I.hok e
 obtain ⟨u,hu,ru⟩:=RG.some_of (v:=v) (o:=mA f) (by rw [←l];exact r f)
 exact get_map I.kIn O (c.get f) c.hd n hu (AW ru) (h u _ (I.tok _) ru)
theorem DV {m:Str}{g:Addr}{pl:Sem Bool}{Q:Value × List Value→Shared→Prop}(I:Inv X pins σ H s) (e:H a=some (.ins C dx fs)) (c:Cls X.K C) (k:Meth X.K C m g) (l:fs.lookup m=none)
  (h:Q (.ref g,[.ref a]) s):wpAny (model X.prog X.w) A (getMethod (.ref a) m pl) Q E s:=by
 obtain ⟨mA,O,r,_,_,_⟩:=Jm I.hok e
 have hn:mA m=none:=RG.none_of (by rw [←l];exact r m)
 exact yX I.kIn O (c.get m) k.at_ k.fn hn h
theorem DW {y:V}{u:Value}{Q:Unit→Shared→Prop}(I:Inv X pins σ H s) (e:H a=some (.ins C dx fs)) (c:Cls X.K C) (n:YN X.K C f) (hl:fs.length < 1000) (ry:RelV y u)
  (h:∀ s',Inv X pins σ (upd H a (.ins C dx (Su f y fs))) s'→Q () s'):wpAny (model X.prog X.w) A (setAttr (.ref a) f u) Q E s:=by
 obtain ⟨mA,O,r,wi,_,ho⟩:=Jm I.hok e
 have hz:(fs.map (·.1)).length≤aA:=by rw [length_map,sizeLine_eq];omega
 refine uX I.kIn O c.sa c.po n.taker c.hd wi hz fun h' O' sb=>h _ ?_
 have hd:∃ o,h'.get? dx=some o:=let ⟨o,_,_,e',_⟩:=O'.ns;⟨o,e'⟩
 refine I.write (x:=a) (e:=dx) (by rw [e];exact True.intro) (.inr ho) (fun b q hb z=>(sb.2 b hb).trans z) hd ?_
 refine ⟨by rw [Zk O.ne];exact ho,?_,O.ne,O'.obj,_,O'.ns,fun g=>?_,fun g hg=>?_⟩
 ·have:=Kz f y fs;omega
 ·show RG ((Su f y fs).lookup g) (if g=f then some u else mA g)
  rw [Ky]
  by_cases q:g=f
  ·rw [if_pos q,if_pos q];exact ry
  ·rw [if_neg q,if_neg q];exact r g
 ·by_cases q:g=f
  ·rw [q];exact (Mr f y fs).1
  ·refine (Mr f y fs).2 g (wi g fun z=>hg ?_)
   show (if g=f then some u else mA g)=none
   rw [if_neg q];exact z
theorem Inv.made (I:Inv X pins σ H s):Inv X pins σ (upd (upd H s.heap.objs.size (.own (s.heap.objs.size + 1))) (s.heap.objs.size + 1) (.ins C s.heap.objs.size []))
  { s with heap:=(s.heap.push emptyDict).push (instObj C s.heap.objs.size) }:=by
 have e1:(s.heap.push emptyDict).get? s.heap.objs.size=some emptyDict:=au s.heap rfl
 have e2:((s.heap.push emptyDict).push (instObj C s.heap.objs.size)).get? (s.heap.objs.size + 1)=some (instObj C s.heap.objs.size):=by
  have:=au (s.heap.push emptyDict) (o:=instObj C s.heap.objs.size) rfl
  rwa [Heap.size_push] at this
 have e3:(s.heap.push emptyDict).Ns s.heap.objs.size (fun _=>none):=⟨emptyDict,#[],_,e1,rfl,(fun e he=>absurd he (by simp)),fun _=>rfl⟩
 have I1:=I.laid (a:=s.heap.objs.size) (o := .own (s.heap.objs.size + 1)) (h':=s.heap.push emptyDict) (t':=s.toks) (fun b u q=>aq _ q) (Nat.le_refl _) ⟨_,e1⟩
 refine I1.laid (a:=s.heap.objs.size + 1) (o := .ins C s.heap.objs.size []) (t':=s.toks) (fun b u q=>aq _ q) (Nat.le_of_eq (Heap.size_push _ _)) ?_
 have ne:s.heap.objs.size≠s.heap.objs.size + 1:=Nat.ne_of_lt (Nat.lt_succ_self _)
 refine ⟨by rw [Zk ne,Zu],Nat.zero_le _,ne,e2,fun _=>none,(Heap.Ns1.of_empty e3).at fun o q=>aq _ q,fun _=>True.intro,fun y hy=>absurd rfl hy⟩
theorem uY {prog:Program}{w:World}{env:Env}{e:Expr}{f:Str}{pos:Pos}{s:Shared}{Q:Value→Shared→Prop}(hb:attributeBase e f env (eval e env)=eval e env)
  (h:wpAny (model prog w) A (eval e env) (fun o s₁=>wpAny (model prog w) A (getAttr o f true) Q E s₁) E s):wpAny (model prog w) A (eval (.Attribute e f pos) env) Q E s :=
 Attribute_any_ h (by rw [arm_eval_Attribute,hb])
end
noncomputable def tFld (K:aj) (ta:TE) (f:Str):TE:=fun σ H Q=>ta σ H fun x H1=>∃ a C dx fs v,x = .ref a∧H1 a=some (.ins C dx fs)∧Cls K C∧YN K C f∧fs.lookup f=some v∧Q v H1
noncomputable def sFld (K:aj) (ta tv:TE) (f:Str):TS:=fun D σ H=>tv σ H fun y H1=>ta σ H1 fun x H2=>∃ a C dx fs,x = .ref a∧H2 a=some (.ins C dx fs)∧Cls K C∧YN K C f∧fs.length < 1000 ∧
 D.nx σ (upd H2 a (.ins C dx (Su f y fs)))
section
variable {X:Cx}{o e value:Expr}{f:Str}{pos pos' tpos:Pos}{ta tv:TE}
theorem oz (he:PE X e ta) (hb:attributeBase e f X.env (eval e X.env)=eval e X.env):PE X (.Attribute e f pos) (tFld X.K ta f):=by
 intro pins s σ H Q I h
 refine uY hb (thn (he pins s σ H _ I h) fun u s1 ⟨x,H1,I1,rx,a,C,dx,fs,v,ex,ea,c,n,l,q⟩=>?_)
 subst ex
 obtain rfl:u=Value.ref a:=rx
 exact DU I1 ea c n l fun u' s2 I2 ru=>⟨v,H1,I2,ru,q⟩
theorem oA (ha:PE X o ta) (hv:PE X value tv) (hs:swapsWith value (some (.Attribute o f pos')) pos.line X.env=pure false):PS X (.Assign [.Attribute o f pos'] value pos) (sFld X.K ta tv f):=by
 intro pins s σ H D I h
 refine plainObj_wpAny_Assign_Attribute (thn (hv pins s σ H _ I h) fun u s1 ⟨y,H1,I1,ry,q⟩=>thn (ha pins s1 σ H1 _ I1 q) fun ov s2 ⟨x,H2,I2,rx,a,C,dx,fs,ex,ea,c,n,l,q2⟩=>?_) hs
 subst ex
 obtain rfl:ov=Value.ref a:=rx
 exact DW I2 ea c n l ry fun s3 I3=>⟨σ,_,I3,q2⟩
end
section
variable {X:Cx}{pins:List (Addr × Obj)}{σ:St}{H:Hp}{s:Shared}{A:Around}{E:Value→Shared→Prop}{Q:Value→Shared→Prop}{c:Value}{b:Bool}
inductive PV (K:aj) (H:Hp):V→Value→Prop where
 | non:PV K H .non (.type "NoneType")
 | bl (x:Bool):PV K H (.bl x) (.type "bool")
 | int (i:Int):PV K H (.int i) (.type "int")
 | str (x:Str):PV K H (.str x) (.type "str")
 | flt (x:UInt64):PV K H (.flt x) (.type "float")
 | lst {a:Addr}{xs:List V}(e:H a=some (.lst xs)):PV K H (.ref a) (.type "list")
 | frz {a:Addr}{o:Obj}{xs:List V}(e:H a=some (.frz o (.lst xs))):PV K H (.ref a) (.type "list")
 | tup {a:Addr}{xs:List V}(e:H a=some (.tup xs)):PV K H (.ref a) (.type "tuple")
 | dK {a:Addr}{kvs:List (Key × V)}(e:H a=some (.dK kvs)):PV K H (.ref a) (.type "dict")
 | dT {a:Addr}{kvs:List (List Key × V)}(e:H a=some (.dT kvs)):PV K H (.ref a) (.type "dict")
 | ins {a C dx:Addr}{fs:List (Str × V)}(e:H a=some (.ins C dx fs)) (cl:Cls K C) (ha:findIn K (.ref C) "__class__" = some (some (.builtin "object.__class__")))
   (hn:PySem.W.specialIn K (.builtin "object.__class__") "__get__" = some (some (.builtin "getset_descriptor.__get__"))) (htk:takesIn K (.builtin "object.__class__")=some true)
   (hm:mroIn K C (.type "object")=some true):PV K H (.ref a) (.ref C)
theorem AX {x:V}{u t:Value}(I:Inv X pins σ H s) (rx:RelV x u) (ty:PV X.K H x t) (e:kitOne X.K t c=some b) (h:∀ tk,Q (.bool b) { s with toks:=tk }) :
  wpAny (model X.prog X.w) A (call (.builtin "isinstance") [u,c]) Q E s:=by
 cases ty with
 | non=>cases (show u=Value.none from rx);exact kia_one PySem.W.kitx_none I.kIn True.intro e (fun z=>nomatch z) h
 | bl y=>cases (show u=Value.bool y from rx);exact kia_one PySem.W.kitx_bool I.kIn True.intro e (fun z=>nomatch z) h
 | int i=>obtain ⟨t,q⟩:=(show ∃ t,u=Value.int i t from rx);cases q;exact kia_one PySem.W.kitx_int I.kIn True.intro e (fun z=>nomatch z) h
 | str y=>obtain ⟨t,q⟩:=(show ∃ t,u=Value.str y t from rx);cases q;exact kia_one PySem.W.kitx_str I.kIn True.intro e (fun z=>nomatch z) h
 | flt y=>obtain ⟨t,q⟩:=(show ∃ t,u=Value.float y t from rx);cases q;exact kia_one PySem.W.kitx_float I.kIn True.intro e (fun z=>nomatch z) h
 | @lst a xs ea =>
  cases (show u=Value.ref a from rx)
  obtain ⟨_,_,n,_,h1⟩:=(show ZZ X.prog X.w H s.heap a (.lst xs) from I.hok a _ ea)
  exact kia_one kitx_list I.kIn ⟨_,h1,rfl⟩ e (fun z=>nomatch z) h
 | @frz a ob xs ea =>
  cases (show u=Value.ref a from rx)
  obtain ⟨_,_,_,n,_,h1⟩:=(show ZZ X.prog X.w H s.heap a (.frz ob (.lst xs)) from I.hok a _ ea)
  exact kia_one kitx_list I.kIn ⟨_,h1,rfl⟩ e (fun z=>nomatch z) h
 | @tup a xs ea =>
  cases (show u=Value.ref a from rx)
  obtain ⟨_,_,_,p⟩:=(show ZZ X.prog X.w H s.heap a (.tup xs) from I.hok a _ ea)
  obtain ⟨o,h1,h2,_⟩:=p
  exact kia_one PySem.W.kitx_tuple I.kIn ⟨o,h1,h2⟩ e (fun z=>nomatch z) h
 | @dK a kvs ea =>
  cases (show u=Value.ref a from rx)
  obtain ⟨_,_,vs,_,p⟩:=(show ZZ X.prog X.w H s.heap a (.dK kvs) from I.hok a _ ea)
  obtain ⟨o,es,ep,h1,h2,_⟩:=p
  exact kia_one PySem.W.kitx_dict I.kIn ⟨o,h1,h2.1⟩ e (fun z=>nomatch z) h
 | @dT a kvs ea =>
  cases (show u=Value.ref a from rx)
  obtain ⟨_,_,xs,_,o,es,ep,h1,h2,_⟩:=(show ZZ X.prog X.w H s.heap a (.dT kvs) from I.hok a _ ea)
  exact kia_one PySem.W.kitx_dict I.kIn ⟨o,h1,h2.1⟩ e (fun z=>nomatch z) h
 | @ins a C dx fs ea cl ha hn htk hm =>
  cases (show u=Value.ref a from rx)
  obtain ⟨mA,O,_⟩:=Jm I.hok ea
  obtain ⟨od,J,_⟩:=O.look
  exact kia_one (PySem.W.kitx_own (cl.get _) cl.hd ha hn htk hm) I.kIn J e (fun z=>nomatch z) h
end
structure YF (k:Nat) (A:Around):Prop where
 hd:A.handled=none
 dp:A.depth + 3 * k + 5 < recursionLimit
 un:A.units + 16 * k + 200 < cLine
theorem YF.mono {j k:Nat}{A:Around}(r:YF k A) (h:j≤k):YF j A:=⟨r.hd,by have:=r.dp;omega,by have:=r.un;omega⟩
theorem YF.deeper {k:Nat}{A:Around}(r:YF (k + 1) A) (env:Env):YF k (A.deeper env) :=
 ⟨r.hd,by have:=r.dp;show A.depth + 1 + 3 * k + 5 < _;omega,by have:=r.un;show A.units + 3 + 16 * k + 200 < _;omega⟩
theorem DX {A:Around}{C:Addr}{us:List Value}{kw:List (Str × Value)}:(A.under (.builtin "type.__call__" ⟨.ref C::us,kw⟩)).depth=A.depth + 1:=by
 first | rfl | simp [Around.under,Code.weight,Code.isCreation,Code.isGuard,Code.isCaller,Code.frames,Code.isFrame,guardIds]
theorem DY {A:Around}{C:Addr}{us:List Value}{kw:List (Str × Value)}:(A.under (.builtin "type.__call__" ⟨.ref C::us,kw⟩)).units=A.units + 1:=by
 first | rfl | simp [Around.under,Code.cUnits,Code.frames,Code.isFrame]
theorem YF.make {k:Nat}{A:Around}(r:YF (k + 1) A) (C:Addr) (us:List Value) (kw:List (Str × Value)):YF k (A.under (.builtin "type.__call__" ⟨.ref C::us,kw⟩)) :=
 ⟨r.hd,by have:=r.dp;rw [DX];omega,by have:=r.un;rw [DY];omega⟩
theorem YF.depth {k:Nat}{A:Around}(r:YF k A):A.depth < recursionLimit:=by have:=r.dp;omega
theorem YF.units {k:Nat}{A:Around}(r:YF k A):A.units + 64 < cLine:=by have:=r.un;omega
noncomputable def tNil:TA:=fun _ H Q=>Q [] H
noncomputable def qA (ta:TE) (tr:TA):TA:=fun σ H Q=>ta σ H fun x H1=>tr σ H1 fun xs H2=>Q (x::xs) H2
section
variable {X:Cx}{e:Expr}{es:List Expr}{te:TE}{t:TA}{pos:Pos}
theorem PX:PA X [] tNil:=fun _ _ _ _ H Q I h=>Calls.spliced_nil ⟨[],H,I,.nil,h⟩
theorem uZ (ha:PE X e te) (hr:PA X es t) (hs:autoParam (starEach (e::es) X.env=(false,eval e X.env)::starEach es X.env) auR):PA X (e::es) (qA te t):=by
 intro pos pins s σ H Q I h
 rw [hs]
 show wpAny _ _ (spliced ((false,eval e X.env)::backTo pos (starEach es X.env))) _ _ s
 refine Calls.spliced_cons (thn (ha pins s σ H _ I h) fun u s1 ⟨x,H1,I1,r1,q1⟩=>?_)
 exact thn (hr pos pins s1 σ H1 _ I1 q1) fun us s2 ⟨xs,H2,I2,r2,q2⟩=>⟨x::xs,H2,I2,.cons r1 r2,q2⟩
noncomputable def tTup (t:TA):TE:=fun σ H Q=>t σ H fun xs H1=>xs.length≤aA∧∀ p,H1 p=none→Q (.ref p) (upd H1 p (.tup xs))
noncomputable def tLst (t:TA):TE:=fun σ H Q=>t σ H fun xs H1=>xs.length≤aA∧∀ p,H1 p=none→Q (.ref p) (upd H1 p (.lst xs))
theorem oB {x1}(h:PA X es t):PE X (.Tuple es x1 pos) (tTup t):=by
 intro pins s σ H Q I hq
 refine wpAny_Tuple_spliced (thn (h pos pins s σ H _ I hq) fun us s1 ⟨xs,H1,I1,r,z,q⟩=>⟨by rw [←r.length];exact z,?_⟩)
 have hf:H1 s1.heap.objs.size=none:=I1.hok.fresh (Nat.le_refl _)
 refine ⟨.ref s1.heap.objs.size,upd H1 s1.heap.objs.size (.tup xs),I1.laid (t':=s1.toks) (fun b u e=>aq _ e) (Nat.le_refl _) ?_,rfl,q _ hf⟩
 exact ⟨z,us,r,⟨_,au _ rfl,rfl,_,rfl⟩⟩
theorem yZ (h:PA X es t):PE X (.List es pos) (tLst t):=by
 intro pins s σ H Q I hq
 refine wpAny_List_spliced (thn (h pos pins s σ H _ I hq) fun us s1 ⟨xs,H1,I1,r,z,q⟩=>⟨by rw [←r.length];exact z,?_⟩)
 have hf:H1 s1.heap.objs.size=none:=I1.hok.fresh (Nat.le_refl _)
 refine ⟨.ref s1.heap.objs.size,upd H1 s1.heap.objs.size (.lst xs),I1.laid (t':=s1.toks) (fun b u e=>aq _ e) (Nat.le_refl _) ?_,rfl,q _ hf⟩
 exact ⟨z,us,0,r,au _ rfl⟩
end
abbrev Sp:=List V→Hp→VK→XK→Prop
abbrev CXT:=List Env→Hp→Shared→XK→Value→Shared→Prop
structure DZ (P:Program) (w:World) (K:aj) (mg:Str→Option Value) (base:Heap) (A:Around) (outer:List Env) (s:Shared) (H:Hp):Prop where
 frames:A.frames=some outer
 mod:Mod K mg base
 bs:∀ b o,base.get? b=some o→s.heap.get? b=some o∧H b=none
 bsz:base.objs.size≤s.heap.objs.size
 Np:s.heap.FunFrames base outer
 frf:∀ b∈frs outer,H b=none
 hok:HOk P w H s.heap
 bare:AllBare s.gens
noncomputable def CE (outer:List Env) (P:Program) (w:World) (H:Hp) (s:Shared) (Q:VK) (u:Value) (s':Shared):Prop :=
 ∃ v H',s'.os=s.os∧AllBare s'.gens∧Un (frs outer) [] H H' s.heap s'.heap∧HOk P w H' s'.heap∧RelV v u∧Q v H'
noncomputable def CR (CX:CXT) (outer:List Env) (P:Program) (w:World) (H:Hp) (s:Shared) (Q:VK) (E:XK) (r:Result) (s':Shared):Prop :=
 match r with
 | .ok (.ret u)=>CE outer P w H s Q u s'
 | .ok _=>False
 | .error e=>CX outer H s E e s'
structure Zy (P:Program) (w:World) (K:aj) (mg:Str→Option Value) (base:Heap) (CX:CXT) (k:Nat) (f:Addr) (fd:FuncData) (ps:List Str) (sp:Sp):Prop where
 len:∀ vs H Q E,sp vs H Q E→vs.length=ps.length
 run:∀ (A:Around) (outer:List Env) (s:Shared) (H:Hp) (args:Args) (us:List Value) (vs:List V) (Q:VK) (E:XK),YF k A→DZ P w K mg base A outer s H→BindsTo s fd args (ps.zip us)→Vals vs us→sp vs H Q E →
  codeAny (model P w) A (.call (.ref f) args) (CR CX outer P w H s Q E) s
theorem Zy.mono {P:Program}{w:World}{K:aj}{mg:Str→Option Value}{base:Heap}{CX:CXT}{j k:Nat}{f:Addr}{fd:FuncData}{ps:List Str}{sp:Sp}(F:Zy P w K mg base CX j f fd ps sp) (h:j≤k) :
  Zy P w K mg base CX k f fd ps sp:=⟨F.len,fun A outer s H args us vs Q E hr=>F.run A outer s H args us vs Q E (hr.mono h)⟩
theorem Zy.imp {P:Program}{w:World}{K:aj}{mg:Str→Option Value}{base:Heap}{CX:CXT}{k:Nat}{f:Addr}{fd:FuncData}{ps:List Str}{sp sp':Sp}(F:Zy P w K mg base CX k f fd ps sp)
  (h:∀ vs H Q E,sp' vs H Q E→sp vs H Q E):Zy P w K mg base CX k f fd ps sp' :=
 ⟨fun vs H Q E q=>F.len vs H Q E (h _ _ _ _ q),fun A outer s H args us vs Q E hr he hb hv hs=>F.run A outer s H args us vs Q E hr he hb hv (h _ _ _ _ hs)⟩
theorem DZ.make {P:Program}{w:World}{K:aj}{mg:Str→Option Value}{base:Heap}{A:Around}{outer:List Env}{s:Shared}{H:Hp}(e:DZ P w K mg base A outer s H) (C:Addr) (us:List Value) (kw:List (Str × Value)) :
  DZ P w K mg base (A.under (.builtin "type.__call__" ⟨.ref C::us,kw⟩)) outer s H:=⟨by first | exact e.frames | (simpa [Around.under,Code.envs,Code.isFrame,pushEnvs] using e.frames),e.mod,e.bs,e.bsz,e.Np,e.frf,e.hok,e.bare⟩
section
variable {X:Cx}{pins:List (Addr × Obj)}{σ:St}{H:Hp}{s s':Shared}
theorem Inv.env0 (I:Inv X pins σ H s):DZ X.prog X.w X.K X.mg X.base X.A X.stack s H :=
 ⟨I.ok.frames,I.ok.mod,I.bs,Nat.le_trans I.ok.bsz I.sz,I.stack,I.Bw,I.hok,I.bare⟩
theorem Inv.after {Q:VK}{u:Value}(I:Inv X pins σ H s) (h:CE X.stack X.prog X.w H s Q u s'):EP X pins σ Q u s':=by
 obtain ⟨v,H',os,bare,un,hok,r,q⟩:=h
 obtain ⟨hh,g,d,t,os'⟩:=s'
 obtain rfl:os'=s.os:=os
 exact ⟨v,H',I.call (h':=hh) (g':=g) (d':=d) (t':=t) (ch:=[]) un hok bare (fun b z=>absurd z (by simp)),r,q⟩
end
noncomputable def Binds (K:aj) (fd:FuncData) (ps:List Str) (ds:List Value):Prop :=
 ∀ (s:Shared) (us:List Value),K.In s.heap→(us++ds).length=ps.length→BindsTo s fd ⟨us,[]⟩ (ps.zip (us++ds))
theorem Binds.all {K:aj}{fd:FuncData}{ps:List Str}(h:∀ us:List Value,us.length=ps.length→bindArgs fd ⟨us,[]⟩=pure (ps.zip us)):Binds K fd ps []:=fun s us _ hl=>by
 rw [append_nil] at hl ⊢
 exact .of_eq (h us hl)
section
variable {X:Cx}{CX:CXT}{k:Nat}{f C:Addr}{fd:FuncData}{ps:List Str}{sp:Sp}{dvs:List V}{ds:List Value}{E:XK}{x m:Str}{p pos apos:Pos}{e o:Expr}{es:List Expr}{ta:TE}{t:TA}
structure Mk (K:aj) (C f:Addr):Prop where
 makes:makesIn K C=true
 init:findIn K (.ref C) "__init__" = some (some (.ref f))
 fn:isFn K (.ref f)=true
 kp:keepIn K (.ref C)=true
end
section
variable {X:Cx}{CX:CXT}{k:Nat}{f C:Addr}{fd:FuncData}{ps ks:List Str}{sp:Sp}{E:XK}{x m:Str}{p pos apos kpos:Pos}{e o:Expr}{es:List Expr}{kws:List Keyword}{te ta:TE}{t tk:TA}{nm:Option Str}
variable {g:List Value→List Value→List Value}{gV:List V→List V→List V}
end
structure Zj (N P:List Str) (sc:Scope):Prop where
 kind:sc.kind = .function
 co:sc.isCoroutine=false
 gen:sc.isGenerator=false
 nd:N.Nodup
 pre:N.take P.length=P
 par:∀ x∈P,sc.names.lookup x=some .local∨sc.names.lookup x=some .cell
 nofree:∀ y∈sc.names,y.2 ≠ .free
theorem HJ {kindOf:Str→Option NameKind}{x:Str}:∀ {binds:List (Str × Value)}{m:Str→Option Value},(∀ v,(x,v)∉binds)→bindL kindOf binds m x=m x
 | [],_,_=>rfl
 | (n,v)::r,m,h=>by
  unfold bindL
  rw [HJ fun w hw=>h w (mem_cons_of_mem _ hw)]
  split
  ·have:x≠n:=by rintro rfl;exact h v mem_cons_self
   simp [this]
  ·rfl
theorem HK {kindOf:Str→Option NameKind}{x:Str}:∀ {binds:List (Str × Value)}{m:Str→Option Value},(∀ v,(x,v)∉binds)→bindC kindOf binds m x=m x
 | [],_,_=>rfl
 | (n,v)::r,m,h=>by
  unfold bindC
  rw [HK fun w hw=>h w (mem_cons_of_mem _ hw)]
  split
  ·rfl
  ·have:x≠n:=by rintro rfl;exact h v mem_cons_self
   simp [this]
theorem HL {kindOf:Str→Option NameKind}{x:Str}{v:Value}:∀ {P:List Str}{vs:List Value}{i:Nat}{m:Str→Option Value},P.Nodup→P[i]?=some x→vs[i]?=some v→kindOf x=some .local →
  bindL kindOf (P.zip vs) m x=some v
 | [],_,_,_,_,h,_,_=>by simp at h
 | _::_,[],_,_,_,_,h,_=>by simp at h
 | p::P,w::vs,0,m,nd,h1,h2,hk=>by
  simp at h1 h2;subst h1;subst h2
  show bindL kindOf ((p,w)::P.zip vs) m p=_
  unfold bindL
  rw [HJ fun v hv=>(nodup_cons.mp nd).1 (of_mem_zip hv).1,if_pos hk]
  simp
 | p::P,w::vs,i + 1,m,nd,h1,h2,hk=>by
  show bindL kindOf ((p,w)::P.zip vs) m x=_
  unfold bindL
  exact HL (i:=i) (nodup_cons.mp nd).2 (by simpa using h1) (by simpa using h2) hk
theorem HM {kindOf:Str→Option NameKind}{x:Str}{v:Value}:∀ {P:List Str}{vs:List Value}{i:Nat}{m:Str→Option Value},P.Nodup→P[i]?=some x→vs[i]?=some v→kindOf x≠some .local →
  bindC kindOf (P.zip vs) m x=some v
 | [],_,_,_,_,h,_,_=>by simp at h
 | _::_,[],_,_,_,_,h,_=>by simp at h
 | p::P,w::vs,0,m,nd,h1,h2,hk=>by
  simp at h1 h2;subst h1;subst h2
  show bindC kindOf ((p,w)::P.zip vs) m p=_
  unfold bindC
  rw [HK fun v hv=>(nodup_cons.mp nd).1 (of_mem_zip hv).1,if_neg hk]
  simp
 | p::P,w::vs,i + 1,m,nd,h1,h2,hk=>by
  show bindC kindOf ((p,w)::P.zip vs) m x=_
  unfold bindC
  exact HM (i:=i) (nodup_cons.mp nd).2 (by simpa using h1) (by simpa using h2) hk
noncomputable def start (N:List Str) (vs:List V):St:=vs.map some++replicate (N.length - vs.length) none
noncomputable def Xe (CX:CXT) (P:Program) (w:World) (K:aj) (mg:Str→Option Value) (base:Heap) (N:List Str) (qual:Str) (scope:Scope) (f:Addr) (cd:Value) (A:Around) (outer:List Env) (s:Shared) (H:Hp) (E:XK):Cx where
 prog:=P
 w:=w
 K:=K
 mg:=mg
 base:=base
 A:=A.deeper (envOfC qual scope s.heap.objs.size f cd)
 N:=N
 s₀:=s
 H₀:=H
 env:=envOfC qual scope s.heap.objs.size f cd
 outer:=outer
 stack:=envOfC qual scope s.heap.objs.size f cd::outer
 ex:=[]
 calm:=true
 fn:=fun _=>true
 pn:=[]
 xe:=fun e s'=>wpAny (model P w) (A.deeper (envOfC qual scope s.heap.objs.size f cd)) (leaving (envOfC qual scope s.heap.objs.size f cd) e) (fun _ s''=>CX outer H s E e s'') (fun e' s''=>CX outer H s E e' s'') s'
theorem FU {sc:Scope}{n:Nat}{x:Str}(h:sc.names.lookup x=some .cell):∃ c,(cellsFrom n sc.names []).lookup x=some c:=by
 have q:=PySem.W.cellsFrom_some sc.names n [] (.inl h)
 exact Option.isSome_iff_exists.mp q
theorem AY {CX:CXT}{P:Program}{w:World}{K:aj}{mg:Str→Option Value}{base:Heap}{N ps:List Str}{qual:Str}{scope:Scope}{f:Addr}{cd:Value}{A:Around}{outer:List Env}{s s1:Shared}{H:Hp}{E:XK}{us:List Value}{vs:List V}
  (S:Zj N ps scope) (hd:A.handled=none) (e0:DZ P w K mg base A outer s H) (hl:vs.length=ps.length) (r:Vals vs us)
  (x:InCallC s s.heap.objs.size (bindL (envOfC qual scope s.heap.objs.size f cd).kindOf (ps.zip us) fun _=>none) (cellsFrom (s.heap.objs.size + 1) scope.names []) (bindC (envOfC qual scope s.heap.objs.size f cd).kindOf (ps.zip us) fun _=>none) s1) :
  Inv (Xe CX P w K mg base N qual scope f cd A outer s H E) [] (start N vs) H s1:=by
 have hpl:ps.length≤N.length:=by have:=congrArg length S.pre;rw [length_take] at this;omega
 obtain ⟨h1,tk,rfl,hk⟩:=x.done
 have noA:∀ b:Addr,b∉(Xe CX P w K mg base N qual scope f cd A outer s H E).ex:=fun b z=>absurd (show b∈([]:List Addr) from z) (by simp)
 refine ⟨⟨e0.mod,S.kind,rfl,rfl,Nat.le_refl _,fun y z c h1 h2=>?_,fun y hy=>?_,fun y c _ h=>?_,fun _=>hd,Around.frames_deeper e0.frames,.inr ⟨rfl,rfl⟩,fun b z=>absurd z (noA b),e0.bs,e0.bsz,fun b _ _=>noA b,fun b z=>absurd z (noA b),e0.Np,e0.frf⟩,
  rfl,e0.bare,Un.kept hk,⟨_,x.toInCall.ns,fun i y v h1 h2 h3=>?_⟩,fun y c h=>⟨_,x.cell y c h⟩,e0.hok.fresh (Nat.le_refl _),fun y c h=>?_,fun p hp=>absurd (show p∈([]:List (Addr × Obj)) from hp) (by simp),e0.hok.kept hk,?_⟩
 ·exact name_of_addr x.apart (PySem.mem_of_lookup h1) (PySem.mem_of_lookup h2)
 ·have hy:scope.names.lookup y=some .cell∨scope.names.lookup y=some .free:=hy
  rcases hy with hy | hy
  ·exact FU hy
  ·exact absurd rfl (S.nofree _ (PySem.mem_of_lookup hy))
 ·exact Nat.le_of_lt (x.above y c (PySem.mem_of_lookup h))
 ·have hi:i < vs.length:=by
   unfold start at h2
   by_cases hi:i < vs.length
   ·exact hi
   ·rw [getElem?_append_right (by simpa using hi)] at h2
    rw [getElem?_replicate] at h2
    split at h2 <;> cases h2
  have ha:vs[i]?=some v:=by
   unfold start at h2
   rw [getElem?_append_left (by simpa using hi),getElem?_map] at h2
   cases e:vs[i]? with
   | none=>rw [e] at h2;cases h2
   | some a=>rw [e] at h2;cases h2;rfl
  obtain ⟨u,hu,rv⟩:=r.get ha
  have hp:ps[i]?=some y:=by
   rw [←S.pre,List.getElem?_take_of_lt (by omega)];exact h1
  have ndP:ps.Nodup:=by rw [←S.pre];exact S.nd.sublist (List.take_sublist _ _)
  refine ⟨u,rv,?_⟩
  rcases S.par y (mem_of_getElem? hp) with k | k
  ·exact .inl ⟨k,HL ndP hp hu k⟩
  ·obtain ⟨c,e⟩:=FU (n:=s.heap.objs.size + 1) k
   refine .inr ⟨.inl k,c,e,?_⟩
   have q:=x.cell y c e
   rw [HM ndP hp hu (by show scope.names.lookup y≠_;rw [k];decide)] at q
   exact q
 ·exact e0.hok.fresh (Nat.le_of_lt (x.above y c (PySem.mem_of_lookup h)))
 ·unfold start
  show _=N.length
  rw [length_append,length_map,length_replicate]
  omega
theorem xf {CX:CXT}{P:Program}{w:World}{K:aj}{mg:Str→Option Value}{base:Heap}{k:Nat}{f:Addr}{name qual:Str}{params:Arguments}{body:List Stmt}{scope:Scope}{dV kV doc pm cdv ct oc:Value}{an od:Option Addr}
  {osl:Array (Option Value)}{N ps:List Str}{sp:Sp}(lk:K.lookup f=some ⟨oc,od,.func (PySem.W.fnOf name qual params body scope dV kV doc pm an cdv ct),osl⟩) (hcd:PySem.W.codeIn K cdv qual=true) (S:Zj N ps scope)
  (len:∀ vs H Q E,sp vs H Q E→vs.length=ps.length)
  (hbody:∀ (A:Around) (outer:List Env) (s:Shared) (H:Hp) (vs:List V) (Q:VK) (E:XK),YF k (A.deeper (envOfC qual scope s.heap.objs.size f cdv))→sp vs H Q E →
   ∃ t,PSs (Xe CX P w K mg base N qual scope f cdv A outer s H E) body t∧t { nx:=fun _ H'=>Q .non H',rt:=Q } (start N vs) H) :
  Zy P w K mg base CX (k + 1) f (PySem.W.fnOf name qual params body scope dV kV doc pm an cdv ct) ps sp:=by
 refine ⟨len,fun A outer s H args us vs Q E hr e0 hb r hsp=>?_⟩
 have hl:=len _ _ _ _ hsp
 have KX:K.In s.heap:=e0.mod.kin.keeps fun b o e=>(e0.bs b o e).1
 have lim:s.heap.NoLimit:=e0.mod.nolimit.keeps fun b o e=>(e0.bs b o e).1
 have hkind:∀ y∈ps.zip us,scope.names.lookup y.1=some .local∨(scope.names.lookup y.1=some .cell∧((cellsFrom (s.heap.objs.size + 1) scope.names []).lookup y.1).isSome=true):=fun ⟨n,v⟩ hy=>by
  rcases S.par n (of_mem_zip hy).1 with q | q
  ·exact .inl q
  ·exact .inr ⟨q,PySem.W.cellsFrom_some _ _ _ (.inl q)⟩
 refine codeAny_call_function hr.depth (KX _ _ lk) rfl S.co S.gen rfl (PySem.W.codeRec_of KX hcd) (hb _ _ _ _ ?_)
 refine wpAny_newFunctionEnv_cells S.kind hkind fun env he s1 x=>?_
 subst he
 refine ⟨lim.keeps x.toInCall.keep,codeAny_func ?_⟩
 obtain ⟨t,ht,hq⟩:=hbody A outer s H vs Q E (hr.deeper _) hsp
 have I:Inv (Xe CX P w K mg base N qual scope f cdv A outer s H E) [] (start N vs) H s1:=AY S hr.hd e0 hl r x
 refine wpAny_mono (ht [] s1 (start N vs) H _ I hq) (fun fl s' hs=>?_) fun e s' hs=>hs
 have fin:∀ {σ':St}{H':Hp}{v:V}{u:Value},Inv (Xe CX P w K mg base N qual scope f cdv A outer s H E) [] σ' H' s'→RelV v u→Q v H'→CE outer P w H s Q u s' :=
  fun {σ' H' v u} J rv q=>⟨v,H',J.os,J.bare,J.base,J.hok,rv,q⟩
 cases fl with
 | ret u =>
  obtain ⟨v,σ',H',J,rv,q⟩:=hs
  exact fin J rv q
 | next =>
  obtain ⟨σ',H',J,q⟩:=hs
  exact fin (v:=V.non) (u:=Value.none) J rfl q
 | brk =>
  obtain ⟨_,_,_,q⟩:=hs
  exact False.elim q
 | cont =>
  obtain ⟨_,_,_,q⟩:=hs
  exact False.elim q
section
variable {X:Cx}{x:Str}{p pos:Pos}{e:Expr}{es:List Expr}{t:TA}{id T:String}{r:List V→Hp→VK→Prop}
noncomputable def tCB (r:List V→Hp→VK→Prop) (t:TA):TE:=fun σ H Q=>t σ H fun vs H1=>r vs H1 Q
theorem xg (hc:YW X (.builtin id) r) (hg:Gl X x) (hm:X.mg x=none) (hv:bootBuiltins x=some (.builtin id)) (ha:PA X (e::es) t) (hn:autoParam (x ≠ "__name__" ) auD) (hdb:autoParam ((x == ("__debug__" : Str))=false) auD)
  (he:autoParam (starEach (e::es) X.env=(false,eval e X.env)::starEach es X.env) auR) (hpl:autoParam ((backTo pos (starEach es X.env)).any (·.1)=false) auR):PE X (.Call (.Name x p) (e::es) [] pos) (tCB r t):=by
 intro pins s σ H Q I h
 refine wpAny_Call_Name_kw (PR I hg hm hv ?_ hn hdb)
 exact PyProof.Rows.callWith_builtin1 (thn (ha pos pins s σ H _ I h) fun us s1 ⟨vs,H1,I1,r1,q1⟩=>hc pins s1 σ H1 vs us Q I1 r1 q1) he hpl
theorem AZ (hc:YW X (.type T) r) (hg:Gl X x) (hm:X.mg x=none) (hv:bootBuiltins x=some (.type T)) (ha:PA X (e::es) t) (hn:autoParam (x ≠ "__name__" ) auD) (hdb:autoParam ((x == ("__debug__" : Str))=false) auD)
  (he:autoParam (starEach (e::es) X.env=(false,eval e X.env)::starEach es X.env) auR) (hpl:autoParam ((backTo pos (starEach es X.env)).any (·.1)=false) auR):PE X (.Call (.Name x p) (e::es) [] pos) (tCB r t):=by
 intro pins s σ H Q I h
 refine wpAny_Call_Name_kw (PR I hg hm hv ?_ hn hdb)
 exact PyProof.Rows.callWith_type1 (thn (ha pos pins s σ H _ I h) fun us s1 ⟨vs,H1,I1,r1,q1⟩=>hc pins s1 σ H1 vs us Q I1 r1 q1) he hpl
end
end L2
namespace HT
open PySem PyProof.Rows
section
open PySem.SeqAt
open PySem.AutoSeq1 (wpAny_loadPart')
open PySem.MeetsSeq PySem.MeetsSeq2 PySem.MeetsSeq3
end
section
variable {prog:Program}{w:World}{A:Around}{E:Value→Shared→Prop}{s:Shared}
theorem tj {t b:Addr}{vs ws:List Value}{Q:Value→Shared→Prop}(ht:IsTup s.heap t vs.toArray) (hb:IsTup s.heap b ws.toArray) (hv:vs≠[])
  (h1:ws=[]→Q (.ref t) s) (h2:ws≠[]→Q (.ref s.heap.objs.size) { s with heap:=s.heap.push { cls := .type "tuple",data := .seq (vs++ws).toArray } })
  (hsz:vs.length + ws.length≤aA):wpAny (model prog w) A (binaryOp .Add (.ref t) (.ref b)) Q E s:=by
 obtain ⟨⟨cls,dd,data,sl⟩,ho,hc,n,hd⟩:=id ht
 obtain ⟨⟨cls2,dd2,data2,sl2⟩,ho2,hc2,n2,hd2⟩:=id hb
 simp only at hc hd hc2 hd2
 subst hc hd hc2 hd2
 have e:vs.toArray++ws.toArray=(vs++ws).toArray:=by simp
 by_cases hw:ws=[]
 ·exact concat_meets ⟨_,ho,rfl⟩ ⟨_,ho2,rfl⟩ noFill_tuple_add seq_tuple_add PySem.F.slot_tuple_add PySem.F.entry_tuple_add (PySem.F.args_tuple_add_2 _ _)
   (tuple_addW1 t b vs.toArray ws.toArray n n2 dd dd2 sl sl2 (by simpa using hv) (by simp [hw])) ⟨ho,ho2,h1 hw⟩
 ·refine concat_meets ⟨_,ho,rfl⟩ ⟨_,ho2,rfl⟩ noFill_tuple_add seq_tuple_add PySem.F.slot_tuple_add PySem.F.entry_tuple_add (PySem.F.args_tuple_add_2 _ _)
   (tuple_addW2 t b vs.toArray ws.toArray n n2 dd dd2 sl sl2 (by simpa using hv) (by simpa using hw) (by rw [size_toArray,size_toArray];exact hsz)) ⟨ho,ho2,?_⟩
  rw [e]
  exact h2 hw
noncomputable def sIx (n d:Nat):Option Int→Nat
 | none=>d
 | some v=>if v < 0 then (v + (n:Int)).toNat else min v.toNat n
theorem xh (n d:Nat):sIx n d none=d:=rfl
theorem Gx (n d k:Nat):sIx n d (some (k:Int))=min k n:=by
 show (if (k:Int) < 0 then ((k:Int) + (n:Int)).toNat else min (k:Int).toNat n)=min k n
 rw [if_neg (by omega),Int.toNat_natCast]
theorem oC (n d:Nat) (hd:d≤n) (o:Option Int):sIx n d o≤n:=by
 cases o with
 | none=>exact hd
 | some v =>
  show (if v < 0 then (v + (n:Int)).toNat else min v.toNat n)≤n
  by_cases hv:v < 0
  ·rw [if_pos hv];omega
  ·rw [if_neg hv];exact Nat.min_le_right _ _
theorem BE (v:Int) (n d:Nat):(if v < 0 then max (v + (n:Int)) 0 else min v (n:Int))=((sIx n d (some v):Nat):Int):=by
 show (if v < 0 then max (v + (n:Int)) 0 else min v (n:Int))=(((if v < 0 then (v + (n:Int)).toNat else min v.toNat n):Nat):Int)
 by_cases hv:v < 0
 ·simp only [if_pos hv];omega
 ·simp only [if_neg hv];omega
theorem Ca (lo hi:Option Int) (n:Nat):Builtin.Slice.sliceAdjust lo hi 1 (n:Int)=(((sIx n 0 lo:Nat):Int),((sIx n n hi:Nat):Int)):=by
 have h1:¬ ((1:Int) < 0):=by omega
 unfold Builtin.Slice.sliceAdjust
 simp only [h1,if_false]
 refine Prod.ext ?_ ?_
 ·cases lo with
  | none=>rfl
  | some v=>exact BE v n 0
 ·cases hi with
  | none=>rfl
  | some v=>exact BE v n n
theorem Cb (i j:Nat):Builtin.Slice.slicePlaces (i:Int) (j:Int) 1=j - i:=by
 unfold Builtin.Slice.slicePlaces
 have h1:(1:Int) > 0:=by omega
 simp only [h1,if_true,Int.ediv_one]
 split <;> omega
theorem PY {v:Value}{o:Option Int}{Q:Option Int→Shared→Prop}(p:IsPart v o) (h:Q o s):wpAny (model prog w) A (Builtin.Slice.slicePartIndex v) Q E s:=by
 cases p with
 | none=>exact slicePart_none h
 | int i t=>exact slicePart_int h
theorem Tp {sl:Addr}{vl vu:Value}{lo hi:Option Int}{n:Nat}{Q:Int × Int × Nat→Shared→Prop}(hs:s.heap.IsSliceOf sl vl vu .none) (pl:IsPart vl lo) (pu:IsPart vu hi)
  (h:Q (((sIx n 0 lo:Nat):Int),1,sIx n n hi - sIx n 0 lo) s):wpAny (model prog w) A (Builtin.Slice.sliceApplied (.ref sl) (pure (n:Int))) Q E s:=by
 obtain ⟨os,hos,hcs,hds⟩:=id hs
 unfold Builtin.Slice.sliceApplied Builtin.Slice.sliceFields
 refine ak (ak (wpAny_field hos hds (x:=vl) rfl (ak (wpAny_field hos hds (x:=vu) rfl (ak (wpAny_field hos hds (x := .none) rfl (ao ?_)))))))
 refine ak (slicePart_none ?_)
 show wpAny _ _ (if ((1:Int) == 0)=true then _ else _) _ _ s
 rw [if_neg (by decide)]
 refine ak (PY pl (ak (PY pu (ak (ao ?_)))))
 show wpAny _ _ (match Builtin.Slice.sliceAdjust lo hi 1 (n:Int) with | (lo,hi)=>pure (lo,(1:Int),Builtin.Slice.slicePlaces lo hi 1)) _ _ s
 rw [Ca lo hi n]
 show wpAny _ _ (pure (((sIx n 0 lo:Nat):Int),(1:Int),Builtin.Slice.slicePlaces ((sIx n 0 lo:Nat):Int) ((sIx n n hi:Nat):Int) 1)) _ _ s
 rw [Cb]
 exact ao h
theorem xi (xs:Array Value) (i k:Nat):((List.range k).filterMap fun (m:Nat)=>xs[((i:Int) + (m:Int) * 1).toNat]?).toArray=((xs.toList.drop i).take k).toArray:=by
 have e:(fun (m:Nat)=>xs[((i:Int) + (m:Int) * 1).toNat]?)=fun m=>xs[i + m]?:=by
  funext m
  have:((i:Int) + (m:Int) * 1).toNat=i + m:=by omega
  rw [this]
 rw [e]
 have:=pick_run xs i k
 rw [List.filterMap_map] at this
 have e2:((fun x=>xs[x]?) ∘ fun x=>i + x)=fun m=>xs[i + m]?:=rfl
 rw [e2] at this
 rw [this]
theorem Nv {t sl:Addr}{items:Array Value}{vl vu:Value}{lo hi:Option Int}{Q:Value→Shared→Prop}(ht:IsTup s.heap t items) (hs:s.heap.IsSliceOf sl vl vu .none) (pl:IsPart vl lo) (pu:IsPart vu hi)
  (hw:¬ (sIx items.size 0 lo=0∧sIx items.size items.size hi=items.size))
  (h:Q (.ref s.heap.objs.size) { s with heap:=s.heap.push { cls := .type "tuple",data := .seq ((items.toList.drop (sIx items.size 0 lo)).take (sIx items.size items.size hi - sIx items.size 0 lo)).toArray } })
  (hsz:items.size≤aA):wpAny (model prog w) A (getItem (.ref t) (.ref sl)) Q E s:=by
 have htake:sizeOk (.seq ((items.toList.drop (sIx items.size 0 lo)).take (sIx items.size items.size hi - sIx items.size 0 lo)).toArray):=by
  show ((items.toList.drop (sIx items.size 0 lo)).take (sIx items.size items.size hi - sIx items.size 0 lo)).toArray.size≤aA
  rw [size_toArray,length_take,List.length_drop,Array.length_toList]
  omega
 have hj:sIx items.size items.size hi≤items.size:=oC _ _ (Nat.le_refl _) hi
 obtain ⟨os,hos,hcs,hds⟩:=id hs
 have hTs:s.TypeIs (.ref sl) "slice" := ⟨os,hos,hcs⟩
 unfold getItem
 try with_reducible refine wpAny_holding ?_
 first | refine ak (ao ?_) | skip
 refine ak (wpAny_sequenceKey ht.typeIs (by decide) ?_)
 refine ak (wpAny_callSpecial?_slot (name:=Str.ofString "__getitem__") ht.typeIs PyProof.Rows.slot_tuple_getitem
  (wpAny_call_entry PyProof.Rows.slot_tuple_getitem ht.typeIs entry_tuple_getitem ?_ (args_tuple_getitem _ _)))
 show wpAny _ _ (Builtin.Tuple.tupleItemsOf (.ref t) >>= _) _ _ s
 refine ak (tupleItemsOf_ ht ?_)
 refine ak (wpAny_typeOf hTs ?_)
 rw [if_pos (by decide)]
 refine ak (Tp hs pl pu ?_)
 have hno:¬ ((((sIx items.size 0 lo:Nat):Int) == 0 && (1:Int) == 1 && (sIx items.size items.size hi - sIx items.size 0 lo) == items.size)=true):=by
  intro q
  rw [aD,aD] at q
  have q1:((sIx items.size 0 lo:Nat):Int)=0:=eq_of_beq q.1.1
  have q2:sIx items.size items.size hi - sIx items.size 0 lo=items.size:=eq_of_beq q.2
  exact hw ⟨by omega,by omega⟩
 show wpAny _ _ (if (((sIx items.size 0 lo:Nat):Int) == 0 && (1:Int) == 1 && (sIx items.size items.size hi - sIx items.size 0 lo) == items.size)=true then _ else _) _ _ s
 rw [if_neg hno,xi]
 first
  | exact ak (m:=Builtin.Tuple.tupleExact _) (wpAny_newObj_type (ao ⟨_,rfl,ao h⟩) htake)
  | exact ak (m:=Builtin.Tuple.tupleExact _) (wpAny_newObj_type (ak (ao (ao ⟨_,rfl,ao h⟩))) htake)
  | exact ak (ak (m:=Builtin.Tuple.tupleExact _) (wpAny_newObj_type (ao (ao ⟨_,rfl,ao h⟩)) htake))
  | exact ak (ak (m:=Builtin.Tuple.tupleExact _) (wpAny_newObj_type (ao ⟨_,rfl,ao h⟩) htake))
end
end HT
namespace L2
open PySem PySem.Spec PyProof.Rows
abbrev TO:=St→Hp→(Option Int→Hp→Prop)→Prop
noncomputable def PO (X:Cx) (e:Option Expr) (t:TO):Prop :=
 ∀ (pins:List (Addr × Obj)) (s:Shared) (σ:St) (H:Hp) (Q:Option Int→Hp→Prop),Inv X pins σ H s→t σ H Q →
  wpAny (model X.prog X.w) X.A (evalPart e X.env) (fun u s'=>∃ o H',Inv X pins σ H' s'∧IsPart u o∧Q o H') X.xe s
noncomputable def tm:TO:=fun _ H Q=>Q none H
noncomputable def qB (t:TE):TO:=fun σ H Q=>t σ H fun x H1=>∃ i,x = .int i∧Q (some i) H1
theorem intsAre_of {ns:List Int}:∀ {us:List Value},Vals (ns.map V.int) us→IntsAre us ns:=by
 induction ns with
 | nil=>intro us r;rw [List.map_nil] at r;cases r;exact .nil
 | cons n ns ih =>
  intro us r
  rw [map_cons] at r
  cases r with
  | cons r1 r2 =>
   obtain ⟨t,e⟩:=r1
   subst e
   exact .cons n t (ih r2)
section
variable {X:Cx}{e:Expr}{te:TE}{lo hi:Option Expr}{tl th:TO}{pos p2:Pos}
theorem tq:PO X none tm:=by
 intro pins s σ H Q I h
 rw [evalPart_none]
 exact ao ⟨none,H,I,.none,h⟩
theorem BF (h:PE X e te):PO X (some e) (qB te):=by
 intro pins s σ H Q I hw
 rw [evalPart_some]
 refine thn (h pins s σ H _ I hw) fun u s1 ⟨x,H1,I1,r1,q1⟩=>?_
 obtain ⟨i,rfl,q⟩:=q1
 obtain ⟨t,rfl⟩:=r1
 exact ⟨some i,H1,I1,.int i t,q⟩
noncomputable def SlR (X:Cx) (r:V→Option Int→Option Int→Hp→VK→Prop):Prop :=
 ∀ (pins:List (Addr × Obj)) (s:Shared) (σ:St) (H:Hp) (x:V) (v vl vu:Value) (lo hi:Option Int) (sl:Addr) (Q:VK),Inv X pins σ H s→RelV x v→s.heap.IsSliceOf sl vl vu .none→IsPart vl lo→IsPart vu hi→r x lo hi H Q →
  ∃ T id,typeLookup (.type T) "__getitem__" = pure (some (.builtin id))∧s.TypeIs v T∧wpAny (model X.prog X.w) X.A (getItem v (.ref sl)) (EP X pins σ Q) X.xe s
theorem SlR.or {r r':V→Option Int→Option Int→Hp→VK→Prop}(h:SlR X r) (h':SlR X r'):SlR X (fun x lo hi H Q=>r x lo hi H Q∨r' x lo hi H Q):=by
 intro pins s σ H x v vl vu lo hi sl Q I rx hs pl pu q
 rcases q with q | q
 ·exact h pins s σ H x v vl vu lo hi sl Q I rx hs pl pu q
 ·exact h' pins s σ H x v vl vu lo hi sl Q I rx hs pl pu q
noncomputable def tSl (r:V→Option Int→Option Int→Hp→VK→Prop) (te:TE) (tl th:TO):TE:=fun σ H Q=>te σ H fun x H1=>tl σ H1 fun l H2=>th σ H2 fun u H3=>r x l u H3 Q
theorem FV {r:V→Option Int→Option Int→Hp→VK→Prop}(hr:SlR X r) (he:PE X e te) (hl:PO X lo tl) (hu:PO X hi th):PE X (.Subscript e (.Slice lo hi none p2) pos) (tSl r te tl th):=by
 intro pins s σ H Q I h
 refine Subscript_ (thn (he pins s σ H _ I h) fun v s1 ⟨x,H1,I1,r1,q1⟩=>?_)
 refine wpAny_Slice (thn (hl pins s1 σ H1 _ I1 q1) fun vl s2 ⟨l,H2,I2,pl,q2⟩=>thn (hu pins s2 σ H2 _ I2 q2) fun vu s3 ⟨u,H3,I3,pu,q3⟩=>?_)
 rw [evalPart_none]
 refine ao ?_
 have I4:Inv X pins σ H3 { s3 with heap:=s3.heap.push { cls := .type "slice",data := .fields #[vl,vu,.none] } }:=I3.kept (t':=s3.toks) fun b ob q=>aq _ q
 obtain ⟨T,id,hT,ht,hg⟩:=hr pins { s3 with heap:=s3.heap.push { cls := .type "slice",data := .fields #[vl,vu,.none] } } σ H3 x v vl vu l u s3.heap.objs.size Q I4 r1 (Heap.IsSliceOf.new ..) pl pu q3
 show wpAny (model X.prog X.w) X.A (subscriptTail e (.Slice lo hi none p2) v (.ref s3.heap.objs.size)) (EP X pins σ Q) X.xe { s3 with heap:=s3.heap.push { cls := .type "slice",data := .fields #[vl,vu,.none] } }
 exact tail_any (ops:=[.ref s3.heap.objs.size,v]) ht hT hg (by with_unfolding_all rfl)
noncomputable def FW (xs:List V) (lo hi:Option Int):List V:=(xs.drop (HT.sIx xs.length 0 lo)).take (HT.sIx xs.length xs.length hi - HT.sIx xs.length 0 lo)
theorem KA (xs:List V) (lo hi:Option Int):(FW xs lo hi).length≤xs.length:=by
 unfold FW
 rw [length_take,List.length_drop]
 omega
noncomputable def rSlT (K:aj):V→Option Int→Option Int→Hp→VK→Prop:=fun x lo hi H Q=>∃ a xs,x = .ref a∧SqT K H a xs ∧
 ¬ (HT.sIx xs.length 0 lo=0∧HT.sIx xs.length xs.length hi=xs.length)∧∀ p,H p=none→Q (.ref p) (upd H p (.tup (FW xs lo hi)))
theorem oE:SlR X (rSlT X.K):=by
 intro pins s σ H x v vl vu lo hi sl Q I rx hs pl pu h
 obtain ⟨a,xs,rfl,hx,hw,q⟩:=h
 cases rx
 obtain ⟨its,r,ht,hz⟩:=I.tuple hx
 have hlen:its.toArray.size=xs.length:=by rw [size_toArray];exact r.length.symm
 refine ⟨"tuple",_,PyProof.Rows.slot_tuple_getitem.lookup,ht.typeIs,?_⟩
 refine HT.Nv ht hs pl pu (by rw [hlen];exact hw) ?_ (by rw [hlen];exact hz)
 rw [hlen]
 refine ⟨.ref s.heap.objs.size,_,I.laid (t':=s.toks) (o := .tup (FW xs lo hi)) (fun b ob q=>aq _ q) (Nat.le_refl _) ?_,rfl,q _ (I.hok.fresh (Nat.le_refl _))⟩
 exact ⟨Nat.le_trans (KA xs lo hi) hz,_,(r.drop (HT.sIx xs.length 0 lo)).take (HT.sIx xs.length xs.length hi - HT.sIx xs.length 0 lo),IsTup.new _ _⟩
noncomputable def rCatT (K:aj):R2:=fun x y H Q=>∃ a b xs ys,x = .ref a∧y = .ref b∧SqT K H a xs∧SqT K H b ys∧xs≠[]∧xs.length + ys.length≤aA ∧
 (ys=[]→Q (.ref a) H)∧(ys≠[]→∀ p,H p=none→Q (.ref p) (upd H p (.tup (xs++ys))))
theorem Vals.Gy {xs:List V}{us:List Value}(r:Vals xs us):us=[]↔xs=[]:=by
 cases r with
 | nil=>simp
 | cons _ _=>simp
theorem tB:OpR X (binaryOp .Add) (rCatT X.K):=by
 intro pins s σ H x y v u Q I rx ry h
 obtain ⟨a,b,xs,ys,rfl,rfl,ha,hb,hx,hz,q1,q2⟩:=h
 cases rx
 cases ry
 obtain ⟨its,r1,p1,_⟩:=I.tuple ha
 obtain ⟨its2,r2,p2,_⟩:=I.tuple hb
 refine HT.tj p1 p2 (fun z=>hx (r1.Gy.mp z)) (fun z=>⟨.ref a,H,I,rfl,q1 (r2.Gy.mp z)⟩) (fun z=>?_) (by rw [←r1.length,←r2.length];exact hz)
 refine ⟨.ref s.heap.objs.size,_,I.laid (t':=s.toks) (o := .tup (xs++ys)) (fun b ob q=>aq _ q) (Nat.le_refl _) ?_,rfl,q2 (fun w=>z (r2.Gy.mpr w)) _ (I.hok.fresh (Nat.le_refl _))⟩
 exact ⟨by rw [length_append];exact hz,_,r1.append r2,IsTup.new _ _⟩
end
noncomputable def ixN (n:Nat) (i:Int):Option Nat:=if 0≤i then (if i < n then some i.toNat else none) else if -(n:Int)≤i then some (i + n).toNat else none
noncomputable def atI {α:Type}(xs:List α) (i:Int):Option α:=(ixN xs.length i).bind fun j=>xs[j]?
theorem BG {n:Nat}{i:Int}{j:Nat}(h:ixN n i=some j):seqIndex? i n=some j∧j < n ∧ -(n:Int)≤i∧i < n:=by
 unfold ixN at h
 by_cases h0:0≤i
 ·rw [if_pos h0] at h
  by_cases h1:i < n
  ·rw [if_pos h1] at h
   have e:i.toNat=j:=Option.some.inj h
   exact ⟨by rw [seqIndex_of h0 h1,e],by omega,by omega,h1⟩
  ·rw [if_neg h1] at h;cases h
 ·rw [if_neg h0] at h
  by_cases h1 : -(n:Int)≤i
  ·rw [if_pos h1] at h
   have e:(i + n).toNat=j:=Option.some.inj h
   exact ⟨by rw [seqIndex_neg (by omega) h1,e],by omega,h1,by omega⟩
  ·rw [if_neg h1] at h;cases h
theorem Jn {α:Type}{xs:List α}{i:Int}{v:α}(h:atI xs i=some v):∃ j,seqIndex? i xs.length=some j∧xs[j]?=some v∧j < xs.length ∧ -(xs.length:Int)≤i∧i < xs.length:=by
 unfold atI at h
 cases e:ixN xs.length i with
 | none=>rw [e] at h;cases h
 | some j =>
  rw [e] at h
  obtain ⟨h1,h2,h3,h4⟩:=BG e
  exact ⟨j,h1,h,h2,h3,h4⟩
theorem XZ {α:Type}{xs:List α}{j:Nat}{v:α}(h:xs[j]?=some v):atI xs (j:Int)=some v:=by
 have hj:j < xs.length:=(List.getElem?_eq_some_iff.mp h).1
 have e:ixN xs.length (j:Int)=some j:=by
  unfold ixN
  rw [if_pos (by omega),if_pos (by omega)];simp
 unfold atI;rw [e];exact h
noncomputable def Gz (b:Expr):Prop:=∀ o i,subscripted b false o i=operate [o,i] (getItem o i)
noncomputable def IxR (X:Cx) (r:R2):Prop :=
 ∀ (value slice:Expr) (pins:List (Addr × Obj)) (s:Shared) (σ:St) (H:Hp) (x y:V) (v u:Value) (Q:VK),Inv X pins σ H s→RelV x v→RelV y u→r x y H Q →
  subscripted slice false v u=operate [v,u] (getItem v u)→wpAny (model X.prog X.w) X.A (subscriptTail value slice v u) (EP X pins σ Q) X.xe s
noncomputable def MtR (X:Cx) (id:String) (r:V→List V→Hp→VK→Prop):Prop :=
 ∀ (pins:List (Addr × Obj)) (s:Shared) (σ:St) (H:Hp) (x:V) (xs:List V) (v:Value) (us:List Value) (Q:VK),Inv X pins σ H s→RelV x v→Vals xs us→r x xs H Q →
  wpAny (model X.prog X.w) X.A (call (.builtin id) (v::us)) (EP X pins σ Q) X.xe s
section
variable {X:Cx}{a b:Expr}{ta tb:TE}{pos:Pos}
theorem IxR.or {r r':R2}(h:IxR X r) (h':IxR X r'):IxR X (fun x y H Q=>r x y H Q∨r' x y H Q):=by
 intro value slice pins s σ H x y v u Q I rx ry q hs
 rcases q with q | q
 ·exact h value slice pins s σ H x y v u Q I rx ry q hs
 ·exact h' value slice pins s σ H x y v u Q I rx ry q hs
theorem MtR.or {id:String}{r r':V→List V→Hp→VK→Prop}(h:MtR X id r) (h':MtR X id r'):MtR X id (fun x xs H Q=>r x xs H Q∨r' x xs H Q):=by
 intro pins s σ H x xs v us Q I rx rs q
 rcases q with q | q
 ·exact h pins s σ H x xs v us Q I rx rs q
 ·exact h' pins s σ H x xs v us Q I rx rs q
theorem qG {r:R2}(hr:IxR X r) (ha:PE X a ta) (hb:PE X b tb) (hs:Gz b):PE X (.Subscript a b pos) (tOp r ta tb):=by
 intro pins s σ H Q I h
 exact Subscript_ (binT ha hb I h fun v u s2 x y H2 I2 rx ry q=>hr a b pins s2 σ H2 x y v u Q I2 rx ry q (hs _ _))
noncomputable def rIxL (K:aj):R2:=fun x y H Q=>∃ p xs i v,x = .ref p∧y = .int i∧SqL K H p xs∧atI xs i=some v∧Q v H
noncomputable def rIxT (K:aj):R2:=fun x y H Q=>∃ p xs i v,x = .ref p∧y = .int i∧SqT K H p xs∧atI xs i=some v∧Q v H
noncomputable def rIxS:R2:=fun x y H Q=>∃ z i c,x = .str z∧y = .int i∧z.length≤aA∧atI z.cps.toList i=some c∧Q (.str ⟨#[c]⟩) H
theorem tD:IxR X (rIxL X.K):=by
 intro value slice pins s σ H x y v u Q I rx ry h hs
 obtain ⟨p,xs,i,z,rfl,rfl,hq,he,q⟩:=h
 cases rx
 obtain ⟨t,rfl⟩:=ry
 obtain ⟨its,r,pl,hz⟩:=I.list hq
 obtain ⟨j,h1,h2,h3,h4,h5⟩:=Jn he
 obtain ⟨w,ew,rw'⟩:=r.get h2
 have hl:=r.length
 have hn:=RL
 have fin:EP X pins σ Q w s:=⟨z,H,I,rw',q⟩
 by_cases h0:0≤i
 ·have hj:i.toNat=j:=by
   rw [seqIndex_of h0 h5] at h1
   exact Option.some.inj h1
  exact item_listR pl.isList h0 (by omega) (by rw [hj];simpa using ew) fin hs
 ·have hj:(i + (its.toArray.size:Int)).toNat=j:=by
   rw [seqIndex_neg (by omega) h4] at h1
   rw [size_toArray,←hl]
   exact Option.some.inj h1
  exact subscriptTail_builtinR (x:=w) pl.isList.typeIs slot_list_getitem.lookup
   (wpAny_getItem_list_neg (Q:=fun r s'=>r=w∧EP X pins σ Q r s') pl.isList (by omega) (by rw [size_toArray] <;> omega) (by omega) (by rw [hj];simpa using ew) ⟨rfl,fin⟩) hs
theorem oG:IxR X (rIxT X.K):=by
 intro value slice pins s σ H x y v u Q I rx ry h hs
 obtain ⟨p,xs,i,z,rfl,rfl,hq,he,q⟩:=h
 cases rx
 obtain ⟨t,rfl⟩:=ry
 obtain ⟨its,r,pl,hz⟩:=I.tuple hq
 obtain ⟨j,h1,h2,h3,h4,h5⟩:=Jn he
 obtain ⟨w,ew,rw'⟩:=r.get h2
 have hl:=r.length
 have hn:=RL
 have fin:EP X pins σ Q w s:=⟨z,H,I,rw',q⟩
 exact subscriptTail_builtinR (x:=w) pl.typeIs slot_tuple_getitem.lookup
  (getItem_tuple (j:=j) (Q:=fun r s'=>r=w∧EP X pins σ Q r s') pl (by omega) (by omega) (by rw [size_toArray,←hl];exact h1) (by simpa using ew) ⟨rfl,fin⟩) hs
theorem oH:IxR X rIxS:=by
 intro value slice pins s σ H x y v u Q I rx ry h hs
 obtain ⟨z,i,c,rfl,rfl,hz,he,q⟩:=h
 obtain ⟨t,rfl⟩:=rx
 obtain ⟨t',rfl⟩:=ry
 obtain ⟨j,h1,h2,h3,h4,h5⟩:=Jn he
 have hl:z.cps.toList.length=z.length:=by simp [Str.length]
 rw [hl] at h1 h4 h5
 have hn:=RL
 exact tail_any (typeIs_str s z t) slot_str_getitem.lookup (getItem_str (c:=c) (by
  have e1:decide (i < -(2 ^ 63:Int))=false:=decide_eq_false (by omega)
  have e2:decide (i ≥ 2 ^ 63)=false:=decide_eq_false (by omega)
  rw [e1,e2,Bool.or_false]) (by rw [h1];simpa using h2) ⟨.str ⟨#[c]⟩,H,I.tok _,⟨_,rfl⟩,q⟩) hs
noncomputable def rIx (K:aj):R2:=fun x y H Q=>rIxL K x y H Q∨rIxT K x y H Q∨rIxS x y H Q
theorem xj:IxR X (rIx X.K):=tD.or (oG.or oH)
theorem Cd (its:List Value) (n j:Nat) (u:Value):Obj.mapSeq (·.setIfInBounds j u) { cls := .type "list",data := .seq its.toArray n }={ cls := .type "list",data := .seq (its.set j u).toArray n }:=by
 simp [Obj.mapSeq]
theorem Inv.lst {pins:List (Addr × Obj)}{σ:St}{H:Hp}{s:Shared}{p:Addr}{xs:List V}(I:Inv X pins σ H s) (h:H p=some (.lst xs)) :
  ∃ (its:List Value) (n:Nat),Vals xs its∧s.heap.get? p=some { cls := .type "list",data := .seq its.toArray n }∧xs.length≤aA:=by
 obtain ⟨z,its,n,r,e⟩:=I.hok p _ h
 exact ⟨its,n,r,e,z⟩
theorem Inv.oI {pins:List (Addr × Obj)}{σ:St}{H:Hp}{s:Shared}{p:Addr}{xs ys:List V}{its its':List Value}{n n':Nat}{f:Obj→Obj}(I:Inv X pins σ H s) (h:H p=some (.lst xs))
  (ho:s.heap.get? p=some { cls := .type "list",data := .seq its.toArray n }) (hf:f { cls := .type "list",data := .seq its.toArray n }={ cls := .type "list",data := .seq its'.toArray n' }) (r:Vals ys its') (hz:ys.length≤aA) (t:Nat) :
  Inv X pins σ (upd H p (.lst ys)) { s with heap:=s.heap.update p f,toks:=t }:=by
 have e:(s.heap.update p f).get? p=some { cls := .type "list",data := .seq its'.toArray n' }:=by
  rw [Heap.get?_update_self f ho (by rw [hf] <;> rfl),hf]
 refine I.write (x:=p) (e:=p) (by rw [h];trivial) (.inl rfl) (fun b u hb q=>(Heap.get?_update_other _ _ (Ne.symm hb)).trans q) ⟨_,e⟩ ?_
 exact ⟨hz,its',n',r,e⟩
noncomputable def xl:V→V→V→Hp→(Hp→Prop)→Prop:=fun o i v H Q=>∃ p xs k j,o = .ref p∧i = .int k∧H p=some (.lst xs)∧ixN xs.length k=some j∧Q (upd H p (.lst (xs.set j v)))
theorem set_list:PSet X xl:=by
 intro pins s σ H o i v ov iv u Q I ro ri rv h
 obtain ⟨p,xs,k,j,rfl,rfl,hp,hj,q⟩:=h
 cases ro
 obtain ⟨t,rfl⟩:=ri
 obtain ⟨its,n,r,ho,hz⟩:=I.lst hp
 obtain ⟨h1,h2,h3,h4⟩:=BG hj
 have hl:=r.length
 have hn:=RL
 have I':Inv X pins σ (upd H p (.lst (xs.set j v))) { s with heap:=s.heap.update p (Obj.mapSeq (·.setIfInBounds j u)) } :=
  I.oI hp ho (Cd its n j u) (r.set rv j) (by rw [length_set];exact hz) s.toks
 by_cases h0:0≤k
 ·have hk:k.toNat=j:=by
   rw [seqIndex_of h0 h4] at h1
   exact Option.some.inj h1
  exact PySem.W.ki_setAt ho h0 (by omega) (by rw [size_toArray,←hl];exact h4) (by rw [hk];exact ⟨_,I',q⟩)
 ·have hk:(k + (its.toArray.size:Int)).toNat=j:=by
   rw [seqIndex_neg (by omega) h3] at h1
   rw [size_toArray,←hl]
   exact Option.some.inj h1
  exact PySem.W.ki_setBack ho (by omega) (by rw [size_toArray,←hl];exact h3) (by omega) (by rw [hk];exact ⟨_,I',q⟩)
theorem GA (lo hi:Option Int) (n:Nat):(sliceBounds lo hi none n).1=((HT.sIx n 0 lo:Nat):Int)∧(sliceBounds lo hi none n).2.1=((HT.sIx n n hi:Nat):Int)∧(sliceBounds lo hi none n).2.2=1:=by
 refine ⟨?_,?_,rfl⟩
 ·cases lo with
  | none=>simp [sliceBounds,HT.sIx]
  | some i =>
   simp only [sliceBounds,HT.sIx,Option.getD_none,show (1:Int) > 0 by decide,if_true]
   by_cases h:i < 0
   ·simp only [h,if_true] <;> omega
   ·simp only [h,if_false] <;> omega
 ·cases hi with
  | none=>simp [sliceBounds,HT.sIx]
  | some i =>
   simp only [sliceBounds,HT.sIx,Option.getD_none,show (1:Int) > 0 by decide,if_true]
   by_cases h:i < 0
   ·simp only [h,if_true] <;> omega
   ·simp only [h,if_false] <;> omega
theorem Hd (its:List Value) (lo hi:Option Int):slicePick its.toArray lo hi none=((its.drop (HT.sIx its.length 0 lo)).take (HT.sIx its.length its.length hi - HT.sIx its.length 0 lo)).toArray:=by
 obtain ⟨h1,h2,h3⟩:=GA lo hi its.toArray.size
 unfold slicePick
 rw [h1,h2,h3]
 simp only [sliceRange_one,pick_run,size_toArray] <;> rfl
noncomputable def rSlL (K:aj):V→Option Int→Option Int→Hp→VK→Prop:=fun x lo hi H Q=>∃ a xs,x = .ref a∧SqL K H a xs∧∀ p,H p=none→Q (.ref p) (upd H p (.lst (FW xs lo hi)))
theorem tE:SlR X (rSlL X.K):=by
 intro pins s σ H x v vl vu lo hi sl Q I rx hs pl pu h
 obtain ⟨a,xs,rfl,hx,q⟩:=h
 cases rx
 obtain ⟨its,r,ht,hz⟩:=I.list hx
 have hlen:=r.length
 refine ⟨"list",_,slot_list_getitem.lookup,ht.isList.typeIs,?_⟩
 refine wpAny_getItem_list_slice ht.isList hs pl pu .none (by simp) ?_ (by rw [size_toArray] <;> omega)
 rw [Hd,←hlen]
 refine ⟨.ref s.heap.objs.size,_,I.laid (t':=s.toks) (o := .lst (FW xs lo hi)) (fun b ob q=>aq _ q) (Nat.le_refl _) ?_,rfl,q _ (I.hok.fresh (Nat.le_refl _))⟩
 exact ⟨Nat.le_trans (KA xs lo hi) hz,_,0,(r.drop (HT.sIx xs.length 0 lo)).take (HT.sIx xs.length xs.length hi - HT.sIx xs.length 0 lo),au _ rfl⟩
noncomputable def UB:V→Bool
 | .non=>true
 | .bl _=>true
 | .int _=>true
 | .str _=>true
 | _=>false
noncomputable def eqV:V→V→Bool
 | .non,.non=>true
 | .bl a,.bl b=>a == b
 | .bl a,.int b=>(if a then 1 else 0) == b
 | .int a,.bl b=>a == (if b then 1 else 0)
 | .int a,.int b=>a == b
 | .str a,.str b=>a == b
 | _,_=>false
theorem xm {A:Around}{s:Shared}{y x:V}{u v:Value}(ry:RelV y u) (rx:RelV x v) (fy:UB y=true) (fx:UB x=true):SeqAt.EqAt A s u v (eqV y x):=by
 cases y with
 | non =>
  cases ry
  cases x with
  | non=>cases rx;exact SeqAt.EqAt.same _
  | bl b=>cases rx;exact SeqAt.EqAt.none_bool b
  | int b=>obtain ⟨t,rfl⟩:=rx;exact SeqAt.EqAt.none_int b t
  | str b=>obtain ⟨t,rfl⟩:=rx;exact SeqAt.EqAt.none_str b t
  | _=>exact absurd (show false=true from fx) aC
 | bl a =>
  cases ry
  cases x with
  | non=>cases rx;exact SeqAt.EqAt.bool_none a
  | bl b=>cases rx;exact SeqAt.EqAt.bool_bool a b
  | int b=>obtain ⟨t,rfl⟩:=rx;exact SeqAt.EqAt.bool_int a b t
  | str b=>obtain ⟨t,rfl⟩:=rx;exact SeqAt.EqAt.bool_str a b t
  | _=>exact absurd (show false=true from fx) aC
 | int a =>
  obtain ⟨t',rfl⟩:=ry
  cases x with
  | non=>cases rx;exact SeqAt.EqAt.int_none a t'
  | bl b=>cases rx;exact SeqAt.EqAt.int_bool a t' b
  | int b=>obtain ⟨t,rfl⟩:=rx;exact SeqAt.EqAt.int_int a t' b t
  | str b=>obtain ⟨t,rfl⟩:=rx;exact SeqAt.EqAt.int_str a t' b t
  | _=>exact absurd (show false=true from fx) aC
 | str a =>
  obtain ⟨t',rfl⟩:=ry
  cases x with
  | non=>cases rx;exact SeqAt.EqAt.str_none a t'
  | bl b=>cases rx;exact SeqAt.EqAt.str_bool a t' b
  | int b=>obtain ⟨t,rfl⟩:=rx;exact SeqAt.EqAt.str_int a t' b t
  | str b=>obtain ⟨t,rfl⟩:=rx;exact SeqAt.EqAt.str_str a t' b t
  | _=>exact absurd (show false=true from fx) aC
 | _=>exact absurd (show false=true from fy) aC
noncomputable def eqU (x:V) (u:Value):Bool:=match u with
 | .none=>eqV .non x
 | .bool b=>eqV (.bl b) x
 | .int i _=>eqV (.int i) x
 | .str z _=>eqV (.str z) x
 | _=>false
theorem xn {x y:V}{u:Value}(r:RelV y u) (f:UB y=true):eqU x u=eqV y x:=by
 cases y with
 | non=>cases r;rfl
 | bl b=>cases r;rfl
 | int i=>obtain ⟨t,rfl⟩:=r;rfl
 | str z=>obtain ⟨t,rfl⟩:=r;rfl
 | _=>exact absurd (show false=true from f) aC
theorem Nw {x:V}:∀ {xs:List V}{us:List Value},Vals xs us→xs.all UB=true→us.any (eqU x)=xs.any fun y=>eqV y x
 | _,_,.nil,_=>rfl
 | y::xs,u::us,.cons r t,f=>by
  rw [all_cons,aD] at f
  rw [any_cons,any_cons,xn r f.1,Nw t f.2]
theorem RM {A:Around}{s:Shared}{x:V}{v:Value}(rx:RelV x v) (fx:UB x=true):∀ {xs:List V}{us:List Value},Vals xs us→xs.all UB=true→∀ u∈us,SeqAt.EqAt A s u v (eqU x u)
 | _,_,.nil,_=>fun u hu=>by cases hu
 | y::xs,u::us,.cons r t,f=>fun u' hu=>by
  rw [all_cons,aD] at f
  rcases mem_cons.mp hu with rfl | hu
  ·rw [xn r f.1];exact xm r rx f.1 fx
  ·exact RM rx fx t f.2 u' hu
noncomputable def inV (x:V) (xs:List V):Bool:=xs.any fun y=>eqV y x
noncomputable def rIn (K:aj) (neg:Bool):R2:=fun x y H Q=>∃ p xs,y = .ref p∧(SqL K H p xs∨SqT K H p xs)∧UB x=true∧xs.all UB=true∧Q (.bl (if neg then !inV x xs else inV x xs)) H
theorem za:OpR X (compareOp .In) (rIn X.K false):=by
 intro pins s σ H x y v u Q I rx ry h
 obtain ⟨p,xs,rfl,hq,fx,fs,q⟩:=h
 cases ry
 rcases hq with hq | hq
 ·obtain ⟨its,r,pl,hz⟩:=I.list hq
  refine SeqAt.in_listAt (eqU x) pl.isList (fun w hw=>RM rx fx r fs w (by simpa using hw)) ⟨.bl _,H,I,rfl,?_⟩
  rw [show its.toArray.any (eqU x)=its.any (eqU x) by simp,Nw r fs]
  exact q
 ·obtain ⟨its,r,pl,hz⟩:=I.tuple hq
  refine SeqAt.in_tupleAt (eqU x) pl (fun w hw=>RM rx fx r fs w (by simpa using hw)) ⟨.bl _,H,I,rfl,?_⟩
  rw [show its.toArray.any (eqU x)=its.any (eqU x) by simp,Nw r fs]
  exact q
theorem GB:OpR X (compareOp .NotIn) (rIn X.K true):=by
 intro pins s σ H x y v u Q I rx ry h
 obtain ⟨p,xs,rfl,hq,fx,fs,q⟩:=h
 cases ry
 rcases hq with hq | hq
 ·obtain ⟨its,r,pl,hz⟩:=I.list hq
  refine SeqAt.notIn_listAt (eqU x) pl.isList (fun w hw=>RM rx fx r fs w (by simpa using hw)) ⟨.bl _,H,I,rfl,?_⟩
  rw [show its.toArray.any (eqU x)=its.any (eqU x) by simp,Nw r fs]
  exact q
 ·obtain ⟨its,r,pl,hz⟩:=I.tuple hq
  refine SeqAt.notIn_tupleAt (eqU x) pl (fun w hw=>RM rx fx r fs w (by simpa using hw)) ⟨.bl _,H,I,rfl,?_⟩
  rw [show its.toArray.any (eqU x)=its.any (eqU x) by simp,Nw r fs]
  exact q
theorem GC:YW X (.builtin "len") (fun xs H Q=>∃ p ys,xs=[.ref p]∧(SqL X.K H p ys∨SqT X.K H p ys)∧Q (.int ys.length) H):=by
 intro pins s σ H xs us Q I r h
 obtain ⟨p,ys,rfl,hq,q⟩:=h
 obtain ⟨u,rfl,rx⟩:=vals1 r
 cases rx
 have hn:=RL
 rcases hq with hq | hq
 ·obtain ⟨its,r',pl,hz⟩:=I.list hq
  have hlen:=r'.length
  exact Calls.call_len_list pl.isList (by simp only [size_toArray] <;> omega) ⟨.int ys.length,H,I.tok _,⟨s.toks + 1,by rw [size_toArray,hlen]⟩,q⟩
 ·obtain ⟨its,r',pl,hz⟩:=I.tuple hq
  have hlen:=r'.length
  exact len_tuple pl (by simp only [size_toArray] <;> omega) ⟨.int ys.length,H,I.tok _,⟨s.toks + 1,by rw [size_toArray,hlen]⟩,q⟩
theorem GD:YW X (.builtin "len") (fun xs H Q=>∃ z,xs=[.str z]∧z.length≤aA∧Q (.int z.length) H):=by
 intro pins s σ H xs us Q I r h
 obtain ⟨z,rfl,hz,q⟩:=h
 obtain ⟨u,rfl,t,rfl⟩:=vals1 r
 have hn:=RL
 exact len_str (by omega) ⟨.int z.length,H,I.tok _,⟨_,rfl⟩,q⟩
theorem YW.or {f:Value}{r r':List V→Hp→VK→Prop}(h:YW X f r) (h':YW X f r'):YW X f (fun xs H Q=>r xs H Q∨r' xs H Q):=by
 intro pins s σ H xs us Q I rs q
 rcases q with q | q
 ·exact h pins s σ H xs us Q I rs q
 ·exact h' pins s σ H xs us Q I rs q
theorem GF:YW X (.type "list") (fun xs H Q=>∃ p ys,xs=[.ref p]∧(SqL X.K H p ys∨SqT X.K H p ys)∧∀ l,H l=none→Q (.ref l) (upd H l (.lst ys))):=by
 intro pins s σ H xs us Q I r h
 obtain ⟨p,ys,rfl,hq,q⟩:=h
 obtain ⟨u,rfl,rx⟩:=vals1 r
 cases rx
 have fin:∀ (its:List Value),Vals ys its→ys.length≤aA→∀ (h':Heap) (c':Nat),(∀ b o',s.heap.get? b=some o'→h'.get? b=some o') →
   h'.get? s.heap.objs.size=some { cls := .type "list",dict:=none,data := .seq its.toArray c',slots:=#[] }→EP X pins σ Q (.ref s.heap.objs.size) { s with heap:=h' }:=fun its r' hz h' c' kp e =>
  ⟨.ref s.heap.objs.size,_,I.laid (t':=s.toks) kp (Nat.le_refl _) (show ZZ X.prog X.w _ h' _ (.lst ys) from ⟨hz,its,c',r',e⟩),rfl,q _ (I.hok.fresh (Nat.le_refl _))⟩
 rcases hq with hq | hq
 ·obtain ⟨its,r',pl,hz⟩:=I.list hq
  have hlen:=r'.length
  obtain ⟨o,ho,hc,n,hd⟩:=pl.isList
  exact call_list_seq p (.inl rfl) ho hc hd (fun h' c' kp e=>fin its r' hz h' c' kp e) (by simp only [size_toArray] <;> omega)
 ·obtain ⟨its,r',pl,hz⟩:=I.tuple hq
  have hlen:=r'.length
  obtain ⟨o,ho,hc,n,hd⟩:=pl
  exact call_list_seq p (.inr rfl) ho hc hd (fun h' c' kp e=>fin its r' hz h' c' kp e) (by simp only [size_toArray] <;> omega)
theorem He:YW X (.type "tuple") (fun xs H Q=>∃ p ys,xs=[.ref p]∧((SqL X.K H p ys∧∀ l,H l=none→Q (.ref l) (upd H l (.tup ys)))∨(SqT X.K H p ys∧Q (.ref p) H))):=by
 intro pins s σ H xs us Q I r h
 obtain ⟨p,ys,rfl,h⟩:=h
 obtain ⟨u,rfl,rx⟩:=vals1 r
 cases rx
 rcases h with ⟨hq,q⟩ | ⟨hq,q⟩
 ·obtain ⟨its,r',pl,hz⟩:=I.list hq
  have hlen:=r'.length
  refine call_tuple_list pl.isList (fun h' kp=>?_) (by simp only [size_toArray] <;> omega)
  have I1:Inv X pins σ H { s with heap:=h' }:=I.kept (t':=s.toks) kp
  have I2:Inv X pins σ (upd H h'.objs.size (.tup ys)) { s with heap:=h'.push { cls := .type "tuple",data := .seq its.toArray } } :=
   I1.laid (t':=s.toks) (fun b o e=>aq _ e) (Nat.le_refl _) (show ZZ X.prog X.w _ _ _ (.tup ys) from ⟨hz,its,r',IsTup.new _ _⟩)
  exact ⟨.ref h'.objs.size,_,I2,rfl,q _ (I1.hok.fresh (Nat.le_refl _))⟩
 ·obtain ⟨its,r',pl,hz⟩:=I.tuple hq
  exact call_tuple_same pl ⟨.ref p,H,I,rfl,q⟩
noncomputable def tyV (K:aj) (T:String) (x:V) (H:Hp):Prop:=match x with
 | .str _=>T = "str"
 | .int _=>T = "int"
 | .ref p=>(T = "list" ∧ ∃ xs,SqL K H p xs)∨(T = "tuple" ∧ ∃ o,K.lookup p=some o∧o.cls = .type "tuple" ∧ o.dict=none) ∨
   (T = "dict" ∧ ((∃ kvs,H p=some (.dK kvs))∨∃ kvs,H p=some (.dT kvs)))∨(T = "set" ∧ ∃ S n,H p=some (.set S n))
 | _=>False
theorem xo {pins:List (Addr × Obj)}{σ:St}{H:Hp}{s:Shared}{T:String}{x:V}{v:Value}(I:Inv X pins σ H s) (r:RelV x v) (ty:tyV X.K T x H) :
  s.TypeIs v T∧∀ a,v = .ref a→∃ ob,s.heap.get? a=some ob∧ob.dict=none:=by
 cases x with
 | str z =>
  obtain ⟨t,rfl⟩:=r
  cases (show T = "str" from ty)
  exact ⟨typeIs_str s z t,fun _ e=>nomatch e⟩
 | int i =>
  obtain ⟨t,rfl⟩:=r
  cases (show T = "int" from ty)
  exact ⟨typeIs_int s i t,fun _ e=>nomatch e⟩
 | ref p =>
  cases r
  rcases ty with ⟨rfl,xs,hq⟩ | ⟨rfl,o,hk,hc,hd⟩ | ⟨rfl,hk⟩ | ⟨rfl,S,n,hk⟩
  ·obtain ⟨its,_,pl,_⟩:=I.list hq
   refine ⟨pl.isList.typeIs,fun a e=>?_⟩
   cases e
   obtain ⟨o,n,e,c,hd,_⟩:=pl
   exact ⟨o,e,hd⟩
  ·refine ⟨⟨o,I.kIn p o hk,hc⟩,fun a e=>?_⟩
   cases e
   exact ⟨o,I.kIn _ o hk,hd⟩
  ·have z:∃ o,s.heap.get? p=some o∧o.ExactDict:=by
    rcases hk with ⟨kvs,hk⟩ | ⟨kvs,hk⟩
    ·obtain ⟨_,_,_,_,o,_,_,e,ex,_⟩:=I.hok p _ hk
     exact ⟨o,e,ex⟩
    ·obtain ⟨_,_,_,_,o,_,_,e,ex,_⟩:=I.hok p _ hk
     exact ⟨o,e,ex⟩
   obtain ⟨o,e,ex⟩:=z
   refine ⟨⟨o,e,ex.1⟩,fun a e2=>?_⟩
   cases e2
   exact ⟨o,e,ex.2.1⟩
  ·obtain ⟨o,_,_,_,e,ex,_⟩:=I.hok p _ hk
   refine ⟨⟨o,e,ex.1⟩,fun a e2=>?_⟩
   cases e2
   exact ⟨o,e,ex.2.1⟩
 | _=>exact False.elim ty
noncomputable def tBM0 (K:aj) (T:String) (r:V→List V→Hp→VK→Prop) (to:TE):TE:=fun σ H Q=>to σ H fun x H1=>tyV K T x H1∧r x [] H1 Q
noncomputable def tBM (K:aj) (T:String) (r:V→List V→Hp→VK→Prop) (to:TE) (t:TA):TE:=fun σ H Q=>to σ H fun x H1=>tyV K T x H1∧t σ H1 fun xs H2=>r x xs H2 Q
variable {o e:Expr}{es:List Expr}{to:TE}{t:TA}{name:Str}{apos cpos:Pos}{T id:String}{r:V→List V→Hp→VK→Prop}
theorem oJ (pa:PlainAttrs T) (slot:Slot T name id) (hty:typeOf (.builtin id)=pure (.type "method_descriptor")) (hm:MtR X id r) (ho:PE X o to)
  (hbase:autoParam (attributeBase o name X.env (eval o X.env)=eval o X.env) auR) (hline:autoParam ((apos.endLine == cpos.line)=true) auR):PE X (.Call (.Attribute o name apos) [] [] cpos) (tBM0 X.K T r to):=by
 intro pins s σ H Q I h
 refine wpAny_Call_method0_late hbase hline (thn (ho pins s σ H _ I h) fun v s1 ⟨x,H1,I1,r1,ty,q1⟩=>?_)
 obtain ⟨h1,h2⟩:=xo I1 r1 ty
 exact ⟨T,id,pa,slot,hty,h1,h2,Calls.callWith_builtin rfl (PySem.evalArgs_none (hm pins s1 σ H1 x [] v [] Q I1 r1 .nil q1))⟩
theorem BH (pa:PlainAttrs T) (slot:Slot T name id) (hty:typeOf (.builtin id)=pure (.type "method_descriptor")) (hm:MtR X id r) (ho:PE X o to) (ha:PA X (e::es) t)
  (hbase:autoParam (attributeBase o name X.env (eval o X.env)=eval o X.env) auR)
  (hfew:autoParam (((backTo cpos (starEach (e::es) X.env)).all (fun x => !x.1) && (backToKw cpos (keywordEach [] X.env)).all (fun x=>x.1.isSome)
   && decide ((e::es).length + ([]:List Keyword).length + (if ([]:List Keyword).isEmpty then 0 else 1) < 30))=true) auR)
  (hline:autoParam ((apos.endLine == cpos.line)=true) auR) (hs:autoParam (starEach (e::es) X.env=(false,eval e X.env)::starEach es X.env) auR) (hplain:autoParam ((backTo cpos (starEach es X.env)).any (·.1)=false) auR) :
  PE X (.Call (.Attribute o name apos) (e::es) [] cpos) (tBM X.K T r to t):=by
 intro pins s σ H Q I h
 refine wpAny_Call_method_late hbase hfew hline rfl (thn (ho pins s σ H _ I h) fun v s1 ⟨x,H1,I1,r1,ty,q1⟩=>?_)
 obtain ⟨h1,h2⟩:=xo I1 r1 ty
 refine ⟨T,id,pa,slot,hty,h1,h2,?_⟩
 have hA:=ha cpos pins s1 σ H1 _ I1 q1
 rw [hs] at hA ⊢
 refine Calls.callWith_builtin (by show (false || (backTo cpos (starEach es X.env)).any (·.1))=false;rw [hplain] <;> rfl) (Calls.evalArgs_plain ?_)
 exact thn hA fun us s2 ⟨vs,H2,I2,r2,q2⟩=>hm pins s2 σ H2 x vs v us Q I2 r1 r2 q2
/- xs.append(e),list.index on a module's tuple .. are MtR facts of 06m -/
end
noncomputable def MtM (X:Cx) (id:String) (r:V→List V→Hp→VK→Prop):Prop :=
 ∀ (pins:List (Addr × Obj)) (s:Shared) (σ:St) (H:Hp) (x:V) (xs:List V) (v:Value) (us:List Value) (Q:VK),Inv X pins σ H s→RelV x v→Vals xs us→r x xs H Q →
  wpAny (model X.prog X.w) X.A (call (.builtin id) (v::us)) (EP X pins σ Q) X.xe s
theorem Vals.one:∀ {x:V}{us:List Value},Vals [x] us→∃ u,us=[u]∧RelV x u
 | _,_,.cons r .nil=>⟨_,rfl,r⟩
theorem Vals.two:∀ {x y:V}{us:List Value},Vals [x,y] us→∃ u v,us=[u,v]∧RelV x u∧RelV y v
 | _,_,_,.cons r (.cons q .nil)=>⟨_,_,rfl,r,q⟩
theorem Vals.zero:∀ {us:List Value},Vals [] us→us=[]
 | _,.nil=>rfl
theorem Vals.dropLast {xs:List V}{us:List Value}(h:Vals xs us):Vals xs.dropLast us.dropLast:=by
 induction h with
 | nil=>exact .nil
 | cons r t ih =>
  cases t with
  | nil=>exact .nil
  | cons q t'=>exact .cons r ih
theorem Vals.reverse {xs:List V}{us:List Value}(h:Vals xs us):Vals xs.reverse us.reverse:=by
 induction h with
 | nil=>exact .nil
 | cons r t ih=>rw [reverse_cons,reverse_cons];exact Vals.append ih (.cons r .nil)
theorem Vals.rep {xs:List V}{us:List Value}(h:Vals xs us):∀ k:Nat,Vals (replicate k xs).flatten (replicate k us).flatten
 | 0 => .nil
 | k + 1=>by
  rw [replicate_succ,replicate_succ,flatten_cons,flatten_cons]
  exact Vals.append h (Vals.rep h k)
theorem Ce {α:Type}(l:List α):l.eraseIdx (l.length - 1)=l.dropLast:=by
 induction l with
 | nil=>rfl
 | cons a r ih =>
  cases r with
  | nil=>rfl
  | cons b r =>
   have e:(a::b::r).length - 1=((b::r).length - 1) + 1:=by
    have h1:(a::b::r).length=r.length + 2:=rfl
    have h2:(b::r).length=r.length + 1:=rfl
    omega
   rw [e,List.eraseIdx_cons_succ,ih]
   all_goals rfl
theorem foldl_rep (its:List Value):∀ (k:Nat) (acc:List Value),
  foldl (fun x1 x2=>x1++x2) acc.toArray (replicate k its.toArray)=(acc++(replicate k its).flatten).toArray
 | 0,acc=>by simp
 | k + 1,acc=>by
  have e:acc.toArray++its.toArray=(acc++its).toArray:=by simp
  have e2:(acc++its)++(replicate k its).flatten=acc++(replicate (k + 1) its).flatten:=by
   rw [replicate_succ,flatten_cons,append_assoc]
  rw [←e2,←foldl_rep its k (acc++its),←e,replicate_succ,foldl_cons]
section
variable {X:Cx}{pins:List (Addr × Obj)}{σ:St}{H:Hp}{s:Shared}{l b:Addr}{xs ys zs:List V}
theorem Inv.lset {its its':List Value}{n:Nat}{f:Array Value→Array Value}{t':Nat}(I:Inv X pins σ H s) (hH:H l=some (.lst xs))
  (e:s.heap.get? l=some { cls := .type "list",data := .seq its.toArray n }) (hf:f its.toArray=its'.toArray) (hv:Vals ys its') (hz:ys.length≤aA) :
  Inv X pins σ (upd H l (.lst ys)) { s with heap:=s.heap.update l (Obj.mapSeq f),toks:=t' }:=by
 have q:=PySem.IsL.update e f
 rw [hf] at q
 refine I.write (x:=l) (e:=l) (by rw [hH];exact trivial) (.inl rfl) (fun b' u hb hu=>(Heap.get?_update_other s.heap (Obj.mapSeq f) (Ne.symm hb)).trans hu) ⟨_,q⟩ ?_
 exact ⟨hz,its',_,hv,q⟩
theorem Inv.lnew {its:List Value}{t':Nat}(I:Inv X pins σ H s) (hv:Vals ys its) (hz:ys.length≤aA) :
  Inv X pins σ (upd H s.heap.objs.size (.lst ys)) { s with heap:=s.heap.push { cls := .type "list",data := .seq its.toArray },toks:=t' } :=
 I.laid (fun _ _ q=>aq _ q) (Nat.le_refl _) ⟨hz,its,0,hv,au _ rfl⟩
theorem Inv.fresh (I:Inv X pins σ H s):H s.heap.objs.size=none:=I.hok.fresh (Nat.le_refl _)
theorem Inv.xq (I:Inv X pins σ H s) (hH:H l=some (.lst xs)):xs.length≤aA∧∃ (its:List Value) (n:Nat),Vals xs its∧xs.length=its.length∧s.heap.get? l=some { cls := .type "list",data := .seq its.toArray n }:=by
 obtain ⟨z,its,n,r,e⟩:=I.hok l _ hH
 exact ⟨z,its,n,r,r.length,e⟩
theorem Ny {n:Nat}(h:n≤aA):Builtin.List.listTooLong n=false:=by
 unfold Builtin.List.listTooLong
 exact decide_eq_false (by omega)
end
section
variable {X:Cx}
noncomputable def GH:V→List V→Hp→VK→Prop:=fun x vs H Q=>∃ l xs y,x = .ref l∧vs=[y]∧H l=some (.lst xs)∧xs.length < aA∧Q .non (upd H l (.lst (xs++[y])))
theorem HN:MtM X "list.append" GH:=by
 intro pins s σ H x vs v us Q I rx rv h
 obtain ⟨l,xs,y,rfl,rfl,hH,hz,q⟩:=h
 cases rx
 obtain ⟨u,rfl,ru⟩:=rv.one
 obtain ⟨z,its,n,r,hl,e⟩:=I.xq hH
 refine call_meets F.slot_list_append ⟨_,e,rfl⟩ F.entry_list_append (F.args_list_append_2 _ _) (PySem.list_append l its.toArray n u (by rw [size_toArray];omega)) ⟨e,?_⟩
 refine ⟨.non,_,I.lset (its':=its++[u]) hH e (by simp) (r.append (.cons ru .nil)) ?_,rfl,q⟩
 rw [length_append,List.length_singleton]
 omega
noncomputable def GI:V→List V→Hp→VK→Prop:=fun x vs H Q=>∃ l b xs zs,x = .ref l∧vs=[.ref b]∧H l=some (.lst xs)∧H b=some (.lst zs)∧xs.length + zs.length≤aA∧Q .non (upd H l (.lst (xs++zs)))
theorem zb:MtM X "list.extend" GI:=by
 intro pins s σ H x vs v us Q I rx rv h
 obtain ⟨l,b,xs,zs,rfl,rfl,hH,hB,hz,q⟩:=h
 cases rx
 obtain ⟨u,rfl,ru⟩:=rv.one
 cases ru
 obtain ⟨z,its,n,r,hl,e⟩:=I.xq hH
 obtain ⟨z2,its2,n2,r2,hl2,e2⟩:=I.xq hB
 have hsz:its.toArray.size + its2.toArray.size≤aA:=by rw [size_toArray,size_toArray];omega
 have hlong:¬ (!its.toArray.isEmpty && Builtin.List.listTooLong (its.toArray.size + its2.toArray.size))=true:=by
  rw [Ny hsz,Bool.and_false]
  exact aC
 refine call_meets F.slot_list_extend ⟨_,e,rfl⟩ F.entry_list_extend (F.args_list_extend_2 _ _)
  (AutoSeq1.list_extend_list_list_0 l its.toArray n b its2.toArray n2 hlong (by rw [size_toArray];omega) (by omega)) ⟨e,e2,?_⟩
 refine ⟨.non,_,I.lset (its':=its++its2) hH e (by simp) (r.append r2) ?_,rfl,q⟩
 rw [length_append]
 omega
noncomputable def rPop:V→List V→Hp→VK→Prop:=fun x vs H Q=>∃ l xs y,x = .ref l∧vs=[]∧H l=some (.lst xs)∧xs[xs.length - 1]?=some y∧Q y (upd H l (.lst xs.dropLast))
theorem oK:MtM X "list.pop" rPop:=by
 intro pins s σ H x vs v us Q I rx rv h
 obtain ⟨l,xs,y,rfl,rfl,hH,hy,q⟩:=h
 cases rx
 have hus:=rv.zero
 subst hus
 obtain ⟨z,its,n,r,hl,e⟩:=I.xq hH
 obtain ⟨u,hu,ru⟩:=r.get hy
 have hy':its.toArray[its.toArray.size - 1]?=some u:=by
  show its.toArray[its.length - 1]?=some u
  rw [←Array.getElem?_toList,←hl]
  exact hu
 refine call_meets F.slot_list_pop ⟨_,e,rfl⟩ F.entry_list_pop (F.args_list_pop_1 _) (MeetsSeq.list_pop_last l its.toArray n u hy' (by rw [size_toArray];omega)) ⟨e,?_⟩
 refine ⟨y,_,I.lset (its':=its.dropLast) hH e ?_ r.dropLast ?_,ru,q⟩
 ·show its.toArray.eraseIdxIfInBounds (its.toArray.size - 1)=its.dropLast.toArray
  rw [size_toArray,List.eraseIdxIfInBounds_toArray,Ce]
 ·rw [List.length_dropLast]
  omega
noncomputable def rRep:R2:=fun x y H Q=>∃ l k xs,x = .ref l∧y = .int k∧H l=some (.lst xs) ∧ -(2 ^ 63)≤k∧k < 2 ^ 63∧xs.length * k.toNat≤aA ∧
 ∀ p,H p=none→Q (.ref p) (upd H p (.lst (replicate k.toNat xs).flatten))
theorem len_rep {α:Type}(xs:List α) (k:Nat):(replicate k xs).flatten.length=k * xs.length:=by
 induction k with
 | zero=>simp
 | succ k ih=>rw [replicate_succ,flatten_cons,length_append,ih,Nat.succ_mul,Nat.add_comm]
theorem xr:OpR X (binaryOp .Mult) rRep:=by
 intro pins s σ H x y v u Q I rx ry h
 obtain ⟨l,k,xs,rfl,rfl,hH,h1,h2,hz,q⟩:=h
 cases rx
 obtain ⟨t,rfl⟩:=ry
 obtain ⟨z,its,n,r,hl,e⟩:=I.xq hH
 have hlen:its.toArray.size * k.toNat≤aA:=by rw [size_toArray,←hl];exact hz
 have hcap:¬ its.toArray.size * k.toNat > (2 ^ 63 - 1) / 8:=by
  have:(aA:Nat)≤(2 ^ 63 - 1) / 8:=by decide
  omega
 have hfit:¬ (!Builtin.List.listFitsIndex k)=true:=by
  rw [fitsIndex_both h1 h2]
  exact aC
 have hlong:¬ Builtin.List.listTooLong (its.toArray.size * k.toNat)=true:=by
  rw [Ny hlen]
  exact aC
 have hnew:foldl (fun x1 x2=>x1++x2) #[] (replicate (if its.toArray.isEmpty=true then 0 else k.toNat) its.toArray)=(replicate k.toNat its).flatten.toArray:=by
  have f0:∀ m:Nat,foldl (fun x1 x2=>x1++x2) #[] (replicate m its.toArray)=(replicate m its).flatten.toArray:=fun m=>by
   have:=foldl_rep its m []
   rw [nil_append] at this
   exact this
  rw [f0]
  cases its with
  | nil=>simp
  | cons a r'=>rw [if_neg (by simp)]
 refine wpAny_binaryOp_repeat_ref (T := "list") (U := "int") (by decide) ⟨_,e,rfl⟩ (fun s'=>typeIs_int s' k t) noFill_list_mul F.fills_int_mul F.slot_int_rmul repeat_list F.slot_int_index.lookup
  (call_meets F.slot_int_rmul (typeIs_int s k t) F.entry_int_rmul (F.args_int_rmul_2 _ _) (int___rmul___int_list k t l its.toArray n)
   ⟨e,rfl,⟨_,e,rfl⟩,call_meets F.slot_list_mul ⟨_,e,rfl⟩ F.entry_list_mul (F.args_list_mul_2 _ _) (AutoListH.list___mul___list_int_3 l its.toArray n k t hfit hcap hlong) ⟨e,?_⟩⟩)
 rw [hnew]
 exact ⟨.ref _,_,I.lnew (t':=s.toks) (r.rep k.toNat) (by rw [len_rep,Nat.mul_comm];exact hz),rfl,q _ I.fresh⟩
end
section
variable {prog:Program}{w:World}{A:Around}{E:Value→Shared→Prop}{s:Shared}
theorem Cg {a c n:Nat}(hac:a≤c) (hc:c≤n):sliceBounds (some (a:Int)) (some (c:Int)) none n=((a:Int),(c:Int),1):=by
 simp only [sliceBounds,Option.getD_none]
 have h1:¬ ((a:Int) < 0):=by omega
 have h2:¬ ((c:Int) < 0):=by omega
 simp only [h1,h2,if_false,show (1:Int) > 0 by decide,if_true]
 congr 1
 ·omega
 ·congr 1;omega
set_option maxRecDepth 100000 in
/-- list.__setitem__ with a slice of step one and another list -/
theorem uH {l b sl:Addr}{items new:Array Value}{n n2:Nat}{vl vu:Value}{a c:Nat}{Q:Unit→Shared→Prop}
    (e:s.heap.get? l=some { cls := .type "list",data := .seq items n }) (e2:s.heap.get? b=some { cls := .type "list",data := .seq new n2 }) (hne:l≠b)
    (hs:s.heap.IsSliceOf sl vl vu .none) (pl:IsPart vl (some (a:Int))) (pu:IsPart vu (some (c:Int))) (hac:a≤c) (hc:c≤items.size)
    (hsz:items.size + new.size≤aA) (h:Q () { s with heap:=s.heap.update l (Obj.mapSeq fun xs=>xs.extract 0 a++new++xs.extract c xs.size) }) :
    wpAny (model prog w) A (setItem (.ref l) (.ref sl) (.ref b)) Q E s:=by
  have hl:s.heap.IsList l items:=PySem.IsL.isList e
  have hb:s.heap.IsList b new:=PySem.IsL.isList e2
  obtain ⟨os,hos,hcs,hds⟩:=id hs
  have hTs:s.TypeIs (.ref sl) "slice" := ⟨os,hos,hcs⟩
  have hstep:¬ ((rawPart none == rawInt 0)=true):=aC
  have hsame:Builtin.List.listSameRef (.ref l) (.ref b)=false:=by
    unfold Builtin.List.listSameRef
    exact beq_eq_false_iff_ne.mpr hne
  have hmax:(max (a:Int) (c:Int)).toNat=c:=by omega
  have hz':((fun xs:Array Value=>xs.extract 0 a++new++xs.extract c xs.size) items).size≤aA + 1:=by
    simp only [Array.size_append,Array.size_extract]
    omega
  unfold setItem
  try with_reducible refine wpAny_holding ?_
  first | refine ak (ao ?_) | skip
  refine ak (wpAny_sequenceKey hl.typeIs (by decide) ?_)
  refine ak (wpAny_callSpecial?_slot (name:=Str.ofString "__setitem__") hl.typeIs slot_list_setitem
    (wpAny_call_entry slot_list_setitem hl.typeIs entry_list_setitem ?_ (args_list_setitem _ _ _)))
  show wpAny _ _ (Builtin.List.listSubscript? (.ref sl) >>= _) _ _ s
  refine ak ?_
  unfold Builtin.List.listSubscript?
  refine ak (wpAny_specialOf hTs slice_no_index ?_)
  simp only [Option.isNone_none,if_true]
  refine ao ?_
  show wpAny _ _ (typeOf (.ref sl) >>= _) _ _ s
  refine ak (wpAny_typeOf hTs ?_)
  first
    | rw [if_neg (by decide)]
    | refine PySem.W.KFB.if_not (by decide) ?_
  rw [listSliceParts_eq]
  refine ak (ak (wpAny_field hos hds (x := .none) rfl (ak (wpAny_listPart .none ?_))))
  rw [if_neg hstep]
  refine ak (wpAny_field hos hds (x:=vl) rfl (ak (wpAny_listPart pl ?_)))
  refine ak (wpAny_field hos hds (x:=vu) rfl (ak (wpAny_listPart pu (ao ?_))))
  first
    | simp only [hsame,Bool.false_eq_true,if_false]
    | refine PySem.W.KFB.if_not hsame ?_
    | (dsimp only
       rw [if_neg (by rw [hsame];exact aC)])
  refine ak (m:=Builtin.List.listAllItems (.ref b) "must assign iterable to extended slice") ?_
  unfold Builtin.List.listAllItems
  refine ak (wpAny_typeOf hb.typeIs ?_)
  first
    | refine PySem.W.KFB.if_so (by decide) ?_
    | rw [if_pos (by decide)]
    | simp only [beq_self_eq_true,Bool.true_or,if_true]
  unfold Builtin.List.listItems
  refine ak (wpAny_seqItems e2 rfl (ao ?_))
  refine ak (ak (wpAny_seqItems e rfl (ao ?_)))
  refine ak (wpAny_of_eq ((sliceIndices_raw (some (a:Int)) (some (c:Int)) none items.size (by simp)).trans (congrArg (pure:Int × Int × Int→Sem (Int × Int × Int)) (Cg hac hc))) ?_)
  show wpAny _ _ (if ((1:Int) == 1)=true then _ else _) _ _ s
  rw [if_pos (by decide)]
  refine ak (wpAny_rule ?_)
  first
    | simp only [Ny hsz,Bool.false_eq_true,if_false]
    | refine PySem.W.KFB.if_not (Ny hsz) ?_
  first | refine ak (ao ?_) | skip
  show wpAny _ _ (updateSeq l (fun xs=>xs.extract 0 ((a:Int)).toNat++new++xs.extract (max (a:Int) (c:Int)).toNat xs.size) >>= _) _ _ s
  rw [hmax,Int.toNat_natCast]
  refine ak (wpAny_updateSeq (hz:=Nat.le_trans (Nat.le_add_right _ _) hsz) (_hz':=hz') e rfl ?_)
  refine ak (wpAny_letGo ?_)
  first
    | exact ak (ao (ao ⟨.none,rfl,ao h⟩))
    | exact ao ⟨.none,rfl,ao h⟩
end
section
variable {X:Cx}
end
end L2
namespace Att
open PySem PySem.W PySem.Calls PyProof.Rows
theorem KM {P:Params}{h:Heap}:∀ (ns:List Int) (vs:List Value),WellAll P h vs (ns.map WData.int)→IntsAre vs ns:=by
 intro ns
 induction ns with
 | nil =>
  intro vs w
  rw [List.map_nil] at w
  cases w
  exact .nil
 | cons n ns ih =>
  intro vs w
  rw [map_cons] at w
  cases w with
  | cons a b =>
   cases a
   exact .cons _ _ (ih _ b)
theorem zc {l:OpenLaw}{n:Nat}(hn:l.most=some n) {P:Params}{h:Heap}{args:List WData}{vals:List Value}
  (hpre:l.row.toRowW.claim.pre args=true) (hwl:WellAll P h vals args) :
  ∃ a vs ns,vals=[Value.ref a]∧args=[WData.list (ns.map WData.int)]∧h.get? a=some { cls := .type "list",data := .seq vs.toArray }∧IntsAre vs ns∧ns.length≤n:=by
 have hsh:WShape.hasAll [] args [.list .int]=true:=(pre_splitW hpre).1
 have hc:l.pre.holds [] { args:=args }=true:=(pre_splitW hpre).2
 obtain ⟨d,r,rfl,h1,h2⟩:=hasAllW_cons hsh
 obtain rfl:=hasAllW_nil h2
 obtain ⟨xs,rfl,h3⟩:=hasW_list h1
 obtain ⟨ns,rfl⟩:=items_int h3
 have hlen:ns.length≤n:=by
  unfold OpenLaw.pre at hc
  have h4:(WTm.not (.lt (.lit (.int (n:Int))) (.len (.arg 0)))).holds [] { args:=[.list (ns.map .int)] }=true:=by
   have h4:=(holds_andW hc).1
   rw [hn] at h4
   exact h4
  have h5:=condW_of h4 (w_not (w_lt w_lit (w_len_list (w_arg rfl))))
  rw [length_map] at h5
  refine Nat.le_of_not_lt fun q=>?_
  have q':(n:Int) < ((ns.length:Nat):Int):=by omega
  first
   | (rw [decide_eq_true q'] at h5;exact absurd h5 (by decide))
   | (simp at h5;omega)
 cases hwl with
 | cons w1 w2 =>
  cases w2
  cases w1 with
  | list ho hall=>exact ⟨_,_,ns,rfl,rfl,ho,KM ns _ hall,hlen⟩
theorem zf (l:OpenLaw) (args:List WData):l.row.toRowW.claim.post args (.bool true) args=true :=
 postW_of (r:=l.row.toRowW) (X:=(true == true))
  (show WShape.has [] (.bool true) .bool=true by first | rfl | decide | simp [WShape.has,WShape.arms,WShape.armsAll])
  (show (WTm.eq .res (.lit (.bool true))).value [] { args:=args,res:=some (.bool true),after:=args }=some (.bool (true == true)) from w_eq_bool (w_res rfl) w_lit) rfl
theorem FX {l:OpenLaw}{n:Nat}{q:Program}{loose:List Str}{XP:(Str→Option Value)→Heap→Prop}{YP:World→Heap→Prop}{d:DefRec}
  (hn:l.most=some n) (hdf:d.params.defaults=[])
  (call:∀ (w:World) (s₀ s₁:Shared) (mg mb:Str→Option Value) (fa:Addr) (o:Obj) (pm cd doc:Value) (a:Addr) (vs:List Value) (ns:List Int),
   Ground q loose [] XP w s₀ mg mb s₁.heap→YP w s₁.heap →
   s₁.heap.get? fa=some o→o.data = .func (docDef d.name d.params d.body d.scope pm cd doc)→s₁.heap.CodeRec cd d.name→mg d.name=some (.ref fa) →
   s₁.heap.get? a=some { cls := .type "list",data := .seq vs.toArray }→IntsAre vs ns→ns.length≤n→s₁.gens=#[] →
   codeAny (model l.prog w) callerA (.call (.ref fa) ⟨[.ref a],[]⟩) (fun r s'=>r = .ok (.ret (.bool true))∧OldK s₁.heap s'.heap∧s'.os=s₁.os∧AllBare s'.gens) s₁) :
  WalkO q loose XP YP l.row.toRowW d [] (fun f vs=>PySem.call f vs):=by
 intro w s₀ s₁ mg mb G Y fa o pm cd doc dV kV ho hd hcd hD hmg hg args vals as hpre hlay hrd hwl hlo
 obtain rfl:dV = .none:=Dflts.none hD hdf
 obtain rfl:kV = .none:=Dflts.noKw hD
 obtain ⟨a,vs,ns,rfl,rfl,hobj,hints,hlen⟩:=zc hn hpre hwl
 refine enter_call (codeAny_mono (call w s₀ s₁ mg mb fa o pm cd doc a vs ns G Y ho (fd_plain hd) hcd hmg hobj hints hlen hg) fun r s' hq=>?_)
 obtain ⟨rfl,h2,h3,h4⟩:=hq
 exact ⟨.inl ⟨.bool true,.bool true,[],rfl,fun _=>rfl,.bool true,zf l _,fun _=>⟨List.Pairwise.nil,fun _ hm=>(nomatch hm)⟩⟩,h2,h3,h4⟩
section
variable {prog:Program}{w:World}{A:Around}{E:Value→Shared→Prop}{s:Shared}{K:Frag}
noncomputable def ledger (h:Heap) (L d:Addr):List (Addr × Obj):=(List.range h.objs.size).filterMap fun a=>if a=L∨a=d then none else (h.get? a).map fun o=>(a,o)
end
end Att
namespace L2
open PySem PySem.Spec PyProof.Rows
theorem HP:∀ {vs:List Value}{ns:List Int},IntsAre vs ns→Vals (ns.map V.int) vs
 | _,_,.nil => .nil
 | _,_,.cons n t h => .cons ⟨t,rfl⟩ (HP h)
noncomputable def Only (H:Hp):Prop:=∀ b,H b=none∨∃ o xs,H b=some (.frz o (.lst xs))
theorem xt {P:Program}{w:World}{K:aj}{mg mb:Str→Option Value}{CX:CXT}{k:Nat}{fa a:Addr}{fd:FuncData}{x:Str}{sp:Sp}{s₁:Shared}{vs:List Value}{ns:List Int}
  (KX:K.In s₁.heap) (hns:s₁.heap.Ns mainGlobals mg) (hb:s₁.heap.Ns builtinsNs mb) (hbb:∀ x:Str,x ≠ "__name__" → mb x=bootBuiltins x) (hlim:s₁.heap.NoLimit) (hg:s₁.gens=#[])
  (ha:s₁.heap.get? a=some { cls := .type "list",data := .seq vs.toArray }) (hi:IntsAre vs ns) (hl:ns.length≤aA) (hr:YF k callerA)
  (F:∀ base:Heap,K.In base→base.Ns mainGlobals mg→Zy P w K mg base CX k fa fd [x] sp) (hbind:∀ (s:Shared) (u:Value),BindsTo s fd ⟨[u],[]⟩ [(x,u)])
  (hsp:∀ H:Hp,Only H→SqL K H a (ns.map V.int)→sp [.ref a] H (fun v _=>v = .bl true) fun _ _ _=>False)
  (hCX:∀ H e s',CX [] H s₁ (fun _ _ _=>False) e s'→False) :
  codeAny (model P w) callerA (.call (.ref fa) ⟨[.ref a],[]⟩) (fun r s'=>r = .ok (.ret (.bool true))∧OldK s₁.heap s'.heap∧s'.os=s₁.os∧AllBare s'.gens) s₁:=by
 have rv:=HP hi
 have lenV:=hi.length
 -- from an abstract heap in which nothing but the script may be tracked
 have core:∀ H:Hp,Only H→SqL K H a (ns.map V.int)→HOk P w H s₁.heap→(∀ b,H b≠none→b=a)→(H a≠none→K.lookup a=none) →
   codeAny (model P w) callerA (.call (.ref fa) ⟨[.ref a],[]⟩) (fun r s'=>r = .ok (.ret (.bool true))∧OldK s₁.heap s'.heap∧s'.os=s₁.os∧AllBare s'.gens) s₁:=by
  intro H hO hS hok hA hK
  have base_of:∀ {b:Addr}{o:Obj},s₁.heap.get? b=some o→H b=none→(Gp s₁.heap H).get? b=some o:=fun e n=>yH e n
  have noA:∀ {b:Addr}{o:Obj}{es:Array DictEntry}{ep:Nat},s₁.heap.get? b=some o→o.data = .dict es ep→H b=none:=fun {b o es ep} e d=>by
   cases q:H b with
   | none=>rfl
   | some u =>
    have e':b=a:=hA b (by rw [q];simp)
    subst e'
    rw [ha] at e;cases e
    have d':Data.seq vs.toArray _=Data.dict es ep:=d
    cases d'
  have nsK:∀ {b:Addr}{m:Str→Option Value},s₁.heap.Ns b m→(Gp s₁.heap H).Ns b m:=fun {b m} ⟨o,es,ep,e,d,r⟩=>⟨o,es,ep,base_of e (noA e d),d,r⟩
  have hKb:K.In (Gp s₁.heap H):=fun b o e=>base_of (KX b o e) (by
   cases q:H b with
   | none=>rfl
   | some u =>
    have e':b=a:=hA b (by rw [q];simp)
    subst e'
    rw [hK (by rw [q];simp)] at e;cases e)
  have hM:Mod K mg (Gp s₁.heap H):=⟨hKb,nsK hns,⟨mb,nsK hb,hbb⟩,let ⟨mc,h1,h2⟩:=hlim;⟨mc,nsK h1,h2⟩⟩
  have e0:DZ P w K mg (Gp s₁.heap H) callerA [] s₁ H:=⟨rfl,hM,fun b o e=>uI e,Nat.le_of_eq (AI _ _),trivial,fun b hb=>absurd (show b∈([]:List Addr) from hb) (by simp),hok,.of_eq hg⟩
  refine codeAny_mono ((F _ hKb (nsK hns)).run callerA [] s₁ H ⟨[.ref a],[]⟩ [.ref a] [.ref a] _ _ hr e0 (hbind s₁ (.ref a)) (.cons rfl .nil) (hsp H hO hS)) fun r s' h=>?_
  cases r with
  | error e=>exact (hCX H e s' h).elim
  | ok fl =>
   cases fl with
   | next=>exact False.elim h
   | brk=>exact False.elim h
   | cont=>exact False.elim h
   | ret u =>
    obtain ⟨v,H',os,bare,un,hok',r',q⟩:=h
    have q':v = .bl true:=q
    subst q'
    obtain rfl:u=Value.bool true:=r'
    refine ⟨rfl,OldK.of_keep fun b o e=>?_,os,bare⟩
    cases q:H b with
    | none=>exact un.keep b o e q (by intro z;exact absurd (show b∈([]:List Addr) from z) (by simp)) (by simp)
    | some u =>
     rcases hO b with z | ⟨ob,xs,z⟩
     ·rw [q] at z;cases z
     ·have z2:=un.frzs b ob _ z
      obtain ⟨e1,_⟩:=hok b _ z
      obtain ⟨e2,_⟩:=hok' b _ z2
      rw [e] at e1;cases e1
      exact e2
 cases hk:K.lookup a with
 | some o =>
  -- the script is one of the module's own objects
  have e:=KX a o hk
  rw [ha] at e
  cases e
  refine core (fun _=>none) (fun _ => .inl rfl) (.inr ⟨_,vs.toArray,_,hk,rfl,rfl,rfl,by rw [size_toArray,lenV];exact hl,by simpa using rv⟩) (fun b u z=>by have z':(none:Option HO)=some u:=z;cases z') (fun b z=>absurd rfl z) fun z=>absurd rfl z
 | none =>
  refine core (fun b=>if b=a then some (.frz { cls := .type "list",data := .seq vs.toArray } (.lst (ns.map V.int))) else none) (fun b=>?_) (.inl (.inr ⟨{ cls := .type "list",data := .seq vs.toArray },if_pos rfl⟩)) (fun b u z=>?_) (fun b z=>?_) fun _=>hk
  ·by_cases hb:b=a
   ·exact .inr ⟨_,_,if_pos hb⟩
   ·exact .inl (if_neg hb)
  ·by_cases hb:b=a
   ·have z':=(if_pos hb).symm.trans z
    cases z'
    subst hb
    exact ⟨ha,by rw [length_map];exact hl,vs,_,rv,ha⟩
   ·have z':=(if_neg hb).symm.trans z
    cases z'
  ·by_cases hb:b=a
   ·exact hb
   ·exact absurd (if_neg hb) z
abbrev KOf {K:aj}{h:Heap}(_:K.In h):aj:=K
theorem BI {l:PySem.W.OpenLaw}{n k:Nat}{q:Program}{loose:List Str}{XP:(Str→Option Value)→Heap→Prop}{YP:World→Heap→Prop}{d:DefRec}{K:Params→aj}{CX:World→CXT}{sp:World→Sp}{x:Str}
  (hn:l.most=some n) (hn2:n≤aA) (hdf:d.params.defaults=[]) (hr:YF k callerA)
  (hY:∀ (w:World) (h:Heap),YP w h→(K w.params).In h)
  (F:∀ (w:World) (mg:Str→Option Value) (fa:Addr) (h:Heap),(K w.params).In h→h.Ns mainGlobals mg→mg d.name=some (.ref fa) →
   ∃ fd:FuncData,(∀ (s:Shared) (u:Value),BindsTo s fd ⟨[u],[]⟩ [(x,u)]) ∧
    ∀ base:Heap,(K w.params).In base→base.Ns mainGlobals mg→Zy l.prog w (K w.params) mg base (CX w) k fa fd [x] (sp w))
  (hsp:∀ (w:World) (H:Hp) (a:Addr) (ns:List Int),ns.length≤n→Only H→SqL (K w.params) H a (ns.map V.int)→sp w [.ref a] H (fun v _=>v = .bl true) fun _ _ _=>False)
  (hCX:∀ (w:World) (H:Hp) (s:Shared) (e:Value) (s':Shared),CX w [] H s (fun _ _ _=>False) e s'→False) :
  PySem.W.WalkO q loose XP YP l.row.toRowW d [] (fun f vs=>PySem.call f vs):=by
 refine Att.FX hn hdf fun w s₀ s₁ mg mb fa o pm cd doc a vs ns G Y ho hd hcd hmg hobj hints hlen hg=>?_
 have KX:=hY w _ Y
 obtain ⟨fd,hb,hF⟩:=F w mg fa _ KX G.T.g hmg
 exact xt KX G.T.g G.T.b G.T.builtins G.T.nolimit hg hobj hints (Nat.le_trans hlen hn2) hr hF hb (fun H hO hS=>hsp w H a ns hlen hO hS) fun H e s'=>hCX w H s₁ e s'
end L2
/- THE LAST THEOREM (shape;LID,My.* are yours):
   My.Adr: a structure of the addresses that your layer names (classes,functions);My.Txt K t: a structure (Prop) of the equations over K;
   My.txt_mk:{K}{implicit addresses ..}(e1:nsIn K mainGlobals "law" = some (some (.ref f))) (e2:K.lookup f=some ⟨oc,od,.func (fnOf "law" "law" params body scope dV kV doc pm an cdv ct),sl⟩) (e3:codeIn K cdv "law" = true) ..:∃ t,My.Txt K t
set_option maxRecDepth 100000 in
set_option maxHeartbeats 0 in
theorem PySem.Challenge.cw_LID_holds:PySem.Challenge.rw_LID.Holds:=by
 w_on;o_law;k_head;(case hw=>w_witness2)
 k_fill
 refine L2.BI (l:=PySem.Challenge.rw_LID) (n:=63) (k:=40) (x := "script") (CX:=fun w => ..) (sp:=fun _=>My.sp_law) rfl (by decide) rfl ⟨rfl,by decide,by decide⟩ (fun w h Y=>PySem.W.kIn_of Y) ?F ?S ?C
 case F =>
  intro w mg fa h KX G hmg
  have T:∃ t,My.Txt (L2.KOf KX) t:=by
   dsimp only [L2.KOf]                          -- K must stand as «<heap const> w.params» for k_is
   refine' My.txt_mk ?e1 ?e2 ?e3 ..
   (case e1=>PySem.W.k_is)                    -- in the order: a name -> its address -> its object -> its parts
   (case e2=>PySem.W.k_is)
   ..
  obtain ⟨t,T⟩:=T
  have e0:=hmg.symm.trans (mg_of KX G T.law)
  cases e0                                       -- fa is the law's own address
  exact ⟨_,fun s u => .of_eq rfl,fun base kb nb=>My.law_fn T kb nb⟩     -- if «.of_eq rfl» comes too early: refine' ⟨_,?b,fun base kb nb=>My.law_fn T kb nb⟩;exact fun s u => .of_eq rfl
 case S=>exact fun w H a ns hl hO hS => ..
 case C=>exact ..
(the tactic k_is has no namespace: write k_is) -/
namespace L2
open PySem PySem.Spec PyProof.Rows
noncomputable def inClass (s:Stmt) (j:Nat):Stmt:=match s with
 | .ClassDef _ _ _ body _ _ _ _ _ _ _=>body.getD j (.Pass ⟨0,0,0,0⟩)
 | _ => .Pass ⟨0,0,0,0⟩
noncomputable def Xb (s:Stmt):Arguments:=match s with
 | .FunctionDef _ a _ _ _ _ _ _ _ _=>a
 | _=>{ posonlyargs:=[],args:=[],vararg:=none,kwonlyargs:=[],kw_defaults:=[],kwarg:=none,defaults:=[] }
noncomputable def ZR (s:Stmt):List Stmt:=match s with
 | .FunctionDef _ _ b _ _ _ _ _ _ _=>b
 | _=>[]
noncomputable def Zf (s:Stmt):Scope:=match s with
 | .FunctionDef _ _ _ _ _ _ sc _ _ _=>sc
 | _=>{ kind := .function,names:=[],isGenerator:=false,isCoroutine:=false }
abbrev CX0:CXT:=fun _ _ _ _ _ _=>False
structure Fun (K:aj) (x qual:Str) (st:Stmt) (f:Addr) (fd:FuncData):Prop where
 ex:∃ (oc:Value) (od:Option Addr) (kV doc pm:Value) (an:Option Addr) (cdv ct:Value) (osl:Array (Option Value)),
  fd=PySem.W.fnOf x qual (Xb st) (ZR st) (Zf st) .none kV doc pm an cdv ct∧K.lookup f=some ⟨oc,od,.func fd,osl⟩∧PySem.W.codeIn K cdv qual=true
 kp:keepIn K (.ref f)=true
section
variable {P:Program}{w:World}{K:aj}{mg:Str→Option Value}{base:Heap}
theorem Fun.ok {x qual:Str}{st:Stmt}{f:Addr}{fd:FuncData}{N ps:List Str}{k:Nat}{sp:Sp}(F:Fun K x qual st f fd) (S:Zj N ps (Zf st)) (len:∀ vs H Q E,sp vs H Q E→vs.length=ps.length)
  (hbody:∀ (cdv:Value) (A:Around) (outer:List Env) (s:Shared) (H:Hp) (vs:List V) (Q:VK) (E:XK),YF k (A.deeper (envOfC qual (Zf st) s.heap.objs.size f cdv))→sp vs H Q E →
   ∃ t,PSs (Xe CX0 P w K mg base N qual (Zf st) f cdv A outer s H E).nox (ZR st) t∧t { nx:=fun _ H'=>Q .non H',rt:=Q } (start N vs) H):Zy P w K mg base CX0 (k + 1) f fd ps sp:=by
 obtain ⟨oc,od,kV,doc,pm,an,cdv,ct,osl,rfl,lk,hcd⟩:=F.ex
 refine xf lk hcd S len fun A outer s H vs Q E hr hsp=>?_
 obtain ⟨t,h,q⟩:=hbody cdv A outer s H vs Q E hr hsp
 exact ⟨t,h.nox,q⟩
theorem Fun.binds {x qual:Str}{st:Stmt}{f:Addr}{fd:FuncData}{ps:List Str}(F:Fun K x qual st f fd)
  (h:∀ (kV doc pm:Value) (an:Option Addr) (cdv ct:Value) (us:List Value),us.length=ps.length→bindArgs (PySem.W.fnOf x qual (Xb st) (ZR st) (Zf st) .none kV doc pm an cdv ct) ⟨us,[]⟩=pure (ps.zip us)):Binds K fd ps []:=by
 obtain ⟨oc,od,kV,doc,pm,an,cdv,ct,osl,rfl,lk,hcd⟩:=F.ex
 exact .all (h kV doc pm an cdv ct)
theorem Ms {x qual:Str}{st:Stmt}{f:Addr}{oc:Value}{od an:Option Addr}{osl:Array (Option Value)}{kV doc pm cdv ct:Value}(l:K.lookup f=some ⟨oc,od,.func (PySem.W.fnOf x qual (Xb st) (ZR st) (Zf st) .none kV doc pm an cdv ct),osl⟩)
  (c:PySem.W.codeIn K cdv qual=true) (k:keepIn K (.ref f)=true):Fun K x qual st f (PySem.W.fnOf x qual (Xb st) (ZR st) (Zf st) .none kV doc pm an cdv ct):=⟨⟨oc,od,kV,doc,pm,an,cdv,ct,osl,rfl,l,c⟩,k⟩
end
theorem xu {A:Around}{k:Nat}(hr:YF k A):A.units + 1 < cLine:=Nat.lt_of_le_of_lt (Nat.add_le_add_left (by decide:1≤64) _) hr.units
section
variable {X:Cx}
theorem pv (i:Nat) {x:Str}{pos:Pos}(hN:autoParam (X.N[i]?=some x) auR) (hv:Vis X.env.scope x:=by first | exact Or.inl rfl | exact Or.inr (Or.inl rfl) | exact Or.inr (Or.inr rfl)) (hd:autoParam ((x == ("__debug__" : Str))=false) auD)
  (hcd:autoParam ((x == ("__classdict__" : Str))=false) auD):PE X (.Name x pos) (tVar i):=pS hN hv hd hcd
end
noncomputable def Zv (H H':Hp):Prop:=∀ b o,H b=some o→H' b=some o
theorem Zv.refl (H:Hp):Zv H H:=fun _ _ h=>h
theorem Zv.trans {H H1 H2:Hp}(a:Zv H H1) (b:Zv H1 H2):Zv H H2:=fun c o h=>b c o (a c o h)
theorem Zv.free {H H':Hp}(e:Zv H H') {l:Addr}(h:H' l=Option.none):H l=Option.none:=by
 cases q:H l with
 | none=>rfl
 | some o =>
  rw [e l o q] at h
  cases h
theorem Zv.seq {K:aj}{H H':Hp}{a:Addr}{xs:List V}(e:Zv H H') (h:SqL K H a xs):SqL K H' a xs:=by
 rcases h with (h | ⟨o,h⟩) | h
 ·exact .inl (.inl (e _ _ h))
 ·exact .inl (.inr ⟨o,e _ _ h⟩)
 ·exact .inr h
section
variable {κ:Type} [DecidableEq κ]
noncomputable def PZ (kvs:List (κ × V)) (k:κ):Option V:=(kvs.find? fun kv=>decide (kv.1=k)).map (·.2)
noncomputable def putK (kvs:List (κ × V)) (k:κ) (v:V):List (κ × V) :=
 if (kvs.any fun kv=>decide (kv.1=k))=true then kvs.map (fun kv=>if kv.1=k then (kv.1,v) else kv) else kvs++[(k,v)]
noncomputable def qH (kvs:List (κ × V)) (k:κ):List (κ × V):=kvs.filter fun kv=>decide (kv.1≠k)
theorem Nz {p:κ × V}{r:List (κ × V)}{k:κ}(e:p.1=k):PZ (p::r) k=some p.2:=by simp [PZ,find?_cons,e]
theorem RN {p:κ × V}{r:List (κ × V)}{k:κ}(e:¬ p.1=k):PZ (p::r) k=PZ r k:=by simp [PZ,find?_cons,e]
theorem FY (k:κ):∀ kvs:List (κ × V),(kvs.any fun kv=>decide (kv.1=k))=(PZ kvs k).isSome
 | []=>rfl
 | p::r=>by
  rw [any_cons]
  by_cases e:p.1=k
  ·simp only [Nz e,decide_eq_true e,Bool.true_or,Option.isSome_some]
  ·rw [RN e,decide_eq_false e,Bool.false_or];exact FY k r
theorem KB (kvs:List (κ × V)) (k:κ) (v:V):(putK kvs k v).length≤kvs.length + 1:=by
 unfold putK
 split
 ·rw [length_map];omega
 ·rw [length_append,length_cons,length_nil];omega
theorem RG.zg {o:Option V}{u:Option Value}(r:RG o u):o.isSome=u.isSome:=by
 cases o with
 | none=>cases u with
  | none=>rfl
  | some _=>exact (show False from r).elim
 | some _=>cases u with
  | none=>exact (show False from r).elim
  | some _=>rfl
theorem RG.getD {o:Option V}{u:Option Value}{d:V}{d':Value}(r:RG o u) (rd:RelV d d'):RelV (o.getD d) (u.getD d'):=by
 cases o with
 | none=>cases u with
  | none=>exact rd
  | some _=>exact (show False from r).elim
 | some _=>cases u with
  | none=>exact (show False from r).elim
  | some _=>exact r
theorem KV.val {kvs:List (κ × V)}{vs:List (κ × Value)}(r:KV kvs vs) (k:κ):RG (PZ kvs k) (valueAt vs k):=by
 unfold KV at r
 induction r with
 | nil=>exact True.intro
 | @cons p q ps qs h t ih =>
  obtain ⟨h1,h2⟩:=h
  by_cases e:p.1=k
  ·have e':q.1=k:=h1.symm.trans e
   have b:valueAt (q::qs) k=some q.2:=by simp [valueAt,find?_cons,e']
   rw [Nz e,b];exact h2
  ·have e':¬ q.1=k:=fun z=>e (h1.trans z)
   have b:valueAt (q::qs) k=valueAt qs k:=by simp [valueAt,find?_cons,e']
   rw [RN e,b];exact ih
theorem KV.any {kvs:List (κ × V)}{vs:List (κ × Value)}(r:KV kvs vs) (k:κ):(kvs.any fun kv=>decide (kv.1=k))=vs.any fun kv=>decide (kv.1=k):=by
 unfold KV at r
 induction r with
 | nil=>rfl
 | cons h t ih=>rw [any_cons,any_cons,ih,h.1]
theorem KV.repl {kvs:List (κ × V)}{vs:List (κ × Value)}(r:KV kvs vs) (k:κ) {y:V}{u:Value}(ry:RelV y u) :
  KV (kvs.map fun kv=>if kv.1=k then (kv.1,y) else kv) (vs.map fun kv=>if kv.1=k then (kv.1,u) else kv):=by
 unfold KV at r ⊢
 induction r with
 | nil=>exact .nil
 | @cons p q ps qs h t ih =>
  rw [map_cons,map_cons]
  refine .cons ?_ ih
  obtain ⟨h1,h2⟩:=h
  by_cases e:p.1=k
  ·rw [if_pos e,if_pos (h1.symm.trans e)];exact ⟨h1,ry⟩
  ·rw [if_neg e,if_neg (fun z=>e (h1.trans z))];exact ⟨h1,h2⟩
theorem KV.put {kvs:List (κ × V)}{vs:List (κ × Value)}(r:KV kvs vs) (k:κ) {y:V}{u:Value}(ry:RelV y u):KV (putK kvs k y) (stored vs k u):=by
 unfold putK stored
 rw [r.any k]
 by_cases e:(vs.any fun kv=>decide (kv.1=k))=true
 ·rw [if_pos e,if_pos e];exact r.repl k ry
 ·rw [if_neg e,if_neg e];exact Paired.snoc r ⟨rfl,ry⟩
theorem KV.drop {kvs:List (κ × V)}{vs:List (κ × Value)}(r:KV kvs vs) (k:κ):KV (qH kvs k) (without vs k):=by
 unfold KV at r ⊢
 unfold qH without
 induction r with
 | nil=>exact .nil
 | @cons p q ps qs h t ih =>
  obtain ⟨h1,h2⟩:=h
  rw [filter_cons,filter_cons]
  by_cases e:p.1=k
  ·have a:¬ decide (p.1≠k)=true:=by simp [e]
   have b:¬ decide (q.1≠k)=true:=by simp [h1.symm.trans e]
   rw [if_neg a,if_neg b];exact ih
  ·have e':¬ q.1=k:=fun z=>e (h1.trans z)
   have a:decide (p.1≠k)=true:=by simp [e]
   have b:decide (q.1≠k)=true:=by simp [e']
   rw [if_pos a,if_pos b];exact .cons ⟨h1,h2⟩ ih
theorem KV.keys {kvs:List (κ × V)}{vs:List (κ × Value)}(r:KV kvs vs):kvs.map (·.1)=vs.map (·.1):=by
 unfold KV at r
 induction r with
 | nil=>rfl
 | cons h t ih=>rw [map_cons,map_cons,ih,h.1]
theorem KV.length {kvs:List (κ × V)}{vs:List (κ × Value)}(r:KV kvs vs):kvs.length=vs.length:=Paired.length r
end
theorem BJ {P:Program}{w:World}{k:Key}{u:Value}(r:RelV (kV k) u):(ZE P w).is k u=true:=by
 cases k with
 | inl i=>obtain ⟨t,e⟩:=(show ∃ t,u=Value.int i t from r);subst e;exact FQ P w i t
 | inr x=>obtain ⟨t,e⟩:=(show ∃ t,u=Value.str x t from r);subst e;exact FR P w x t
theorem HQ {P:Program}{w:World}:∀ {ks:List Key}{us:List Value},Vals (ks.map kV) us→ItemsAre (ZE P w) ks us
 | [],_,r=>by rw [List.map_nil] at r;cases r;exact .nil
 | k::ks,_,r=>by
  rw [map_cons] at r
  cases r with
  | cons h t=>exact .cons (BJ h) (HQ t)
abbrev KT (H:Hp):List (List Key × V)→List (List Key × Addr × Value)→Prop:=Paired fun p q=>p.1=q.1∧H q.2.1=some (.tup (p.1.map kV))∧RelV p.2 q.2.2
theorem KT.val {H:Hp}{kvs:List (List Key × V)}{xs:List (List Key × Addr × Value)}(r:KT H kvs xs) (k:List Key):RG (PZ kvs k) ((atKey xs k).map (·.2)):=by
 induction r with
 | nil=>exact True.intro
 | @cons p q ps qs h t ih =>
  obtain ⟨h1,_,h2⟩:=h
  by_cases e:p.1=k
  ·have e':q.1=k:=h1.symm.trans e
   have b:atKey (q::qs) k=some q.2:=by simp [atKey,find?_cons,e']
   rw [Nz e,b];exact h2
  ·have e':¬ q.1=k:=fun z=>e (h1.trans z)
   have b:atKey (q::qs) k=atKey qs k:=by simp [atKey,find?_cons,e']
   rw [RN e,b];exact ih
theorem KT.repl {H:Hp}{kvs:List (List Key × V)}{xs:List (List Key × Addr × Value)}(r:KT H kvs xs) (k:List Key) {y:V}{u:Value}(ry:RelV y u) :
  KT H (kvs.map fun kv=>if kv.1=k then (kv.1,y) else kv) (xs.map (putAt k u)):=by
 induction r with
 | nil=>exact .nil
 | @cons p q ps qs h t ih =>
  rw [map_cons,map_cons]
  refine .cons ?_ ih
  obtain ⟨h1,h2,h3⟩:=h
  unfold putAt
  by_cases e:p.1=k
  ·rw [if_pos e,if_pos (h1.symm.trans e)];exact ⟨h1,h2,ry⟩
  ·rw [if_neg e,if_neg (fun z=>e (h1.trans z))];exact ⟨h1,h2,h3⟩
theorem KT.put {H:Hp}{kvs:List (List Key × V)}{xs:List (List Key × Addr × Value)}(r:KT H kvs xs) (k:List Key) {b:Addr}{y:V}{u:Value}(hb:H b=some (.tup (k.map kV))) (ry:RelV y u) :
  KT H (putK kvs k y) (storedH xs k b u):=by
 have e:(kvs.any fun kv=>decide (kv.1=k))=(atKey xs k).isSome:=by
  rw [FY,(r.val k).zg,Option.isSome_map]
 unfold putK storedH
 rw [e]
 by_cases q:(atKey xs k).isSome=true
 ·rw [if_pos q,if_pos q];exact r.repl k ry
 ·rw [if_neg q,if_neg q];exact Paired.snoc r ⟨rfl,hb,ry⟩
theorem KT.keeps {H H':Hp}{kvs:List (List Key × V)}{xs:List (List Key × Addr × Value)}(r:KT H kvs xs) (ht:∀ b ys,H b=some (.tup ys)→H' b=some (.tup ys)):KT H' kvs xs :=
 Paired.mapP r fun _ _ z=>⟨z.1,ht _ _ z.2.1,z.2.2⟩
section
variable {P:Program}{w:World}{H:Hp}{h:Heap}{a:Addr}
theorem qI {u:HO}(ok:HOk P w H h) (e:Rd H a u):ZZ P w H h a u:=e.ok ok
theorem FZ {kvs:List (Key × V)}(ok:HOk P w H h) (e:Rd H a (.dK kvs)):kvs.length≤aA∧(a == sysModules)=false∧∃ vs,KV kvs vs∧h.DictOf (ZE P w) a vs :=
 show ZZ P w H h a (.dK kvs) from qI ok e
theorem dk_of {kvs:List (Key × V)}(ok:HOk P w H h) (e:H a=some (.dK kvs)):kvs.length≤aA∧(a == sysModules)=false∧∃ vs,KV kvs vs∧h.DictOf (ZE P w) a vs:=FZ ok (.inl e)
theorem GJ {ks:List Key}(ok:HOk P w H h) (e:H a=some (.tup (ks.map kV))):(tupleKind (ZE P w)).is h ks a:=by
 obtain ⟨_,its,r,o,h1,h2,n,h3⟩:=(show ZZ P w H h a (.tup (ks.map kV)) from ok a _ e)
 exact ⟨o,its.toArray,n,h1,h2,h3,by simpa using HQ r⟩
theorem Ea {kvs:List (List Key × V)}(ok:HOk P w H h) (e:Rd H a (.dT kvs)):kvs.length≤aA∧(a == sysModules)=false ∧
  ∃ xs,KT H kvs xs∧h.DictOfH (tupleKind (ZE P w)) a xs:=by
 obtain ⟨z,y,xs,r,o,es,ep,h1,h2,h3,h4,h5⟩:=(show ZZ P w H h a (.dT kvs) from qI ok e)
 refine ⟨z,y,xs,r,o,es,ep,h1,h2,h3,h4,fun x hx=>?_,h5⟩
 have all:∀ {l:List (List Key × V)}{m:List (List Key × Addr × Value)},KT H l m→∀ x∈m,(tupleKind (ZE P w)).is h x.1 x.2.1:=by
  intro l m q
  induction q with
  | nil=>intro x hx;exact nomatch hx
  | @cons p q ps qs hq t ih =>
   intro x hx
   rcases mem_cons.mp hx with e | hx
   ·subst e
    exact GJ ok (by rw [←hq.1];exact hq.2.1)
   ·exact ih x hx
 exact all r x hx
theorem dt_of {kvs:List (List Key × V)}(ok:HOk P w H h) (e:H a=some (.dT kvs)):kvs.length≤aA∧(a == sysModules)=false ∧
  ∃ xs,KT H kvs xs∧h.DictOfH (tupleKind (ZE P w)) a xs:=Ea ok (.inl e)
end
noncomputable def JB (H:Hp) (a:Addr) (y:V) (r:Option V):Prop :=
 (∃ kvs k,Rd H a (.dK kvs)∧y=kV k∧r=PZ kvs k)∨∃ kvs k b,Rd H a (.dT kvs)∧y = .ref b∧H b=some (.tup (k.map kV))∧r=PZ kvs k
noncomputable def Eb (H:Hp) (a:Addr) (y v:V) (H':Hp):Prop :=
 (∃ kvs k,H a=some (.dK kvs)∧y=kV k∧kvs.length < aA∧H'=upd H a (.dK (putK kvs k v))) ∨
 ∃ kvs k b,H a=some (.dT kvs)∧y = .ref b∧H b=some (.tup (k.map kV))∧kvs.length < aA∧H'=upd H a (.dT (putK kvs k v))
theorem JB.k {H:Hp}{a:Addr}{kvs:List (Key × V)}{k:Key}(e:H a=some (.dK kvs)):JB H a (kV k) (PZ kvs k) := .inl ⟨kvs,k,.inl e,rfl,rfl⟩
theorem JB.t {H:Hp}{a b:Addr}{kvs:List (List Key × V)}{k:List Key}(e:H a=some (.dT kvs)) (eb:H b=some (.tup (k.map kV))):JB H a (.ref b) (PZ kvs k) := .inr ⟨kvs,k,b,.inl e,rfl,eb,rfl⟩
theorem Eb.k {H:Hp}{a:Addr}{kvs:List (Key × V)}{k:Key}{v:V}(e:H a=some (.dK kvs)) (hl:kvs.length < aA):Eb H a (kV k) v (upd H a (.dK (putK kvs k v))) := .inl ⟨kvs,k,e,rfl,hl,rfl⟩
theorem Eb.t {H:Hp}{a b:Addr}{kvs:List (List Key × V)}{k:List Key}{v:V}(e:H a=some (.dT kvs)) (eb:H b=some (.tup (k.map kV))) (hl:kvs.length < aA) :
  Eb H a (.ref b) v (upd H a (.dT (putK kvs k v))) := .inr ⟨kvs,k,b,e,rfl,eb,hl,rfl⟩
section
variable {X:Cx}{pins:List (Addr × Obj)}{σ:St}{H:Hp}{s:Shared}{a:Addr}{y v:V}{u r:Value}{o:Option V}{A:Around}{E:Value→Shared→Prop}
theorem Inv.big (I:Inv X pins σ H s):sysModules < s.heap.objs.size:=by
 have h:mainGlobals < s.heap.objs.size:=(I.mod.glob.keeps I.bk).lt
 exact Nat.lt_trans (by decide) h
theorem zh {Q:Value→Shared→Prop}(hu:A.units + 1 < cLine) (I:Inv X pins σ H s) (g:JB H a y (some v)) (ry:RelV y u) (h:∀ w' s',Inv X pins σ H s'→RelV v w'→Q w' s') :
  wpAny (model X.prog X.w) A (getItem (.ref a) u) Q E s:=by
 rcases g with ⟨kvs,k,e,ey,l⟩ | ⟨kvs,k,b,e,ey,eb,l⟩
 ·subst ey
  obtain ⟨z,hd,vs,rel,dd⟩:=FZ I.hok e
  obtain ⟨w',hw,rw'⟩:=RG.some_of (v:=v) (o:=valueAt vs k) (by rw [l];exact rel.val k)
  exact wpAny_getItem_of (BJ ry) dd.mapOf hw (h w' _ (I.tok _) rw')
 ·subst ey
  cases (show u=Value.ref b from ry)
  obtain ⟨z,hd,xs,rel,dd⟩:=Ea I.hok e
  obtain ⟨w',hw,rw'⟩:=RG.some_of (v:=v) (o:=(atKey xs k).map (·.2)) (by rw [l];exact rel.val k)
  obtain ⟨p,hp,hp2⟩:=Option.map_eq_some_iff.mp hw
  refine wpAny_getItem_heap (tupleKind_room_in1 hu) (GJ I.hok eb) dd hp ?_
  rw [hp2]
  exact h w' _ (I.tok _) rw'
theorem BK {h':Heap}{t':Nat}{ob:HO}(I:Inv X pins σ H s) (mu:Mut (H a)) (hs:aF a s.heap h') (he:∃ q,h'.get? a=some q) (new:ZZ X.prog X.w (upd H a ob) h' a ob) :
  Inv X pins σ (upd H a ob) { s with heap:=h',toks:=t' } :=
 I.write (x:=a) (e:=a) mu (.inl rfl) (fun b q hb z=>(hs.2 b hb).trans z) he new
theorem oM {P:Program}{w:World}{H':Hp}{h':Heap}{kvs:List (Key × V)}{vs:List (Key × Value)}(z:kvs.length≤aA) (hd:(a == sysModules)=false) (rel:KV kvs vs) (dd:h'.DictOf (ZE P w) a vs) :
  ZZ P w H' h' a (.dK kvs):=⟨z,hd,vs,rel,dd⟩
theorem zi {H':Hp}{Q:Unit→Shared→Prop}(hu:A.units + 1 < cLine) (I:Inv X pins σ H s) (g:Eb H a y v H') (ry:RelV y u) (rv:RelV v r) (h:∀ s',Inv X pins σ H' s'→Q () s') :
  wpAny (model X.prog X.w) A (setItem (.ref a) u r) Q E s:=by
 rcases g with ⟨kvs,k,e,ey,l,eH⟩ | ⟨kvs,k,b,e,ey,eb,l,eH⟩
 ·subst ey eH
  obtain ⟨z,hd,vs,rel,dd⟩:=dk_of I.hok e
  have hz:vs.length≤aA:=by rw [←rel.length];exact z
  have hl:(putK kvs k v).length≤aA:=by have:=KB kvs k v;omega
  refine wpAny_setItem_pairs (hsz:=hz) (BJ ry) dd fun h' dd' hs=>h _ ?_
  have he:∃ q,h'.get? a=some q:=let ⟨q,_,_,hq,_⟩:=dd';⟨q,hq⟩
  exact BK I (by rw [e];exact True.intro) hs he (oM hl hd (rel.put k rv) dd')
 ·subst ey eH
  cases (show u=Value.ref b from ry)
  obtain ⟨z,hd,xs,rel,dd⟩:=dt_of I.hok e
  have hz:xs.length≤aA:=by rw [←Paired.length rel];exact z
  have hl:(putK kvs k v).length≤aA:=by have:=KB kvs k v;omega
  refine wpAny_setItem_heap (hsz:=hz) (tupleKind_room_in1 hu) (GJ I.hok eb) dd fun h' dd' hs=>h _ ?_
  obtain ⟨q,es,ep,hq,h2,h3,h4,_,h5⟩:=dd'
  refine BK I (by rw [e];exact True.intro) hs ⟨q,hq⟩ ⟨hl,hd,_,(rel.put k eb rv).keeps fun c ys ec=>?_,q,es,ep,hq,h2,h3,h4,h5⟩
  rw [Zk (ne_of ec e (fun z=>nomatch z))]
  exact ec
end
section
variable {X:Cx}{pins:List (Addr × Obj)}{σ:St}{H:Hp}{s:Shared}{a:Addr}{kvs:List (Key × V)}{k:Key}{u:Value}{A:Around}{E:Value→Shared→Prop}
end
noncomputable def NoSl (i:Expr):Prop:=∀ ov iv,subscripted i false ov iv=operate [ov,iv] (getItem ov iv)
theorem tG {prog:Program}{w:World}{A:Around}{E:Value→Shared→Prop}{s:Shared}{env:Env}{value slice:Expr}{pos:Pos}{T id:String}{Q:Value→Shared→Prop}
  (hl:typeLookup (.type T) "__getitem__" = pure (some (.builtin id))) (hs:NoSl slice)
  (h:wpAny (model prog w) A (eval value env) (fun o s₁=>wpAny (model prog w) A (eval slice env) (fun i s₂=>s₂.TypeIs o T∧wpAny (model prog w) A (getItem o i) Q E s₂) E s₁) E s) :
  wpAny (model prog w) A (eval (.Subscript value slice pos) env) Q E s:=by
 refine Subscript_ (wpAny_mono h (fun o s₁ h₁=>wpAny_mono h₁ (fun i s₂ h₂=>?_) fun _ _ x=>x) fun _ _ x=>x)
 obtain ⟨hT,h₂⟩:=h₂
 unfold subscriptTail
 refine ak ?_
 rw [getitemInPython_of_ne hT.not_modules]
 refine ak (wpAny_specialOf hT hl ?_)
 have fin:wpAny (model prog w) A (subscripted slice false o i) (fun r s₃=>wpAny (model prog w) A (letTemporaryGo value o r >>= fun _=>pure r) Q E s₃) E s₂:=by
  rw [hs o i]
  exact wpAny_operating (wpAny_mono h₂ (fun r s₃ h₃=>ak (wpAny_letTemporaryGo (ao h₃))) fun _ _ x=>x)
 first
  | exact ao (ak fin)
  | exact ak (ao (ak fin))
  | exact ak fin
theorem Ec {X:Cx}{pins:List (Addr × Obj)}{σ:St}{H:Hp}{s:Shared}{a:Addr}{y:V}{o:Option V}(I:Inv X pins σ H s) (g:JB H a y o):s.TypeIs (.ref a) "dict" := by
 rcases g with ⟨kvs,k,e,_,_⟩ | ⟨kvs,k,b,e,_,_,_⟩
 ·obtain ⟨_,_,vs,_,dd⟩:=FZ I.hok e
  exact dd.typeIs
 ·obtain ⟨_,_,xs,_,dd⟩:=Ea I.hok e
  exact dd.typeIs
noncomputable def tDGet (td ty:TE):TE:=fun σ H Q=>td σ H fun x H1=>ty σ H1 fun y H2=>∃ a v,x = .ref a∧JB H2 a y (some v)∧Q v H2
noncomputable def sDPut (td ty tv:TE):TS:=fun D σ H=>tv σ H fun v H1=>td σ H1 fun x H2=>ty σ H2 fun y H3=>∃ a H4,x = .ref a∧Eb H3 a y v H4∧D.nx σ H4
section
variable {X:Cx}{o i e value:Expr}{pos pos' tpos:Pos}{td ty tv:TE}
theorem tH (hu:X.A.units + 1 < cLine) (ho:PE X o td) (hi:PE X i ty) (hs:NoSl i):PE X (.Subscript o i pos) (tDGet td ty):=by
 intro pins s σ H Q I h
 refine tG PySem.F.slot_dict_getitem.lookup hs (thn (ho pins s σ H _ I h) fun u s1 ⟨x,H1,I1,rx,q1⟩=>thn (hi pins s1 σ H1 _ I1 q1) fun iv s2 ⟨y,H2,I2,ry,a,v,ex,g,q2⟩=>?_)
 subst ex
 obtain rfl:u=Value.ref a:=rx
 exact ⟨Ec I2 g,zh hu I2 g ry fun w' s3 I3 rw'=>⟨v,H2,I3,rw',q2⟩⟩
theorem tI (hu:X.A.units + 1 < cLine) (ho:PE X o td) (hi:PE X i ty) (hv:PE X value tv) (hs:swapsWith value (some (.Subscript o i pos')) pos.line X.env=pure false) :
  PS X (.Assign [.Subscript o i pos'] value pos) (sDPut td ty tv):=by
 intro pins s σ H D I h
 refine wpAny_Assign_Subscript (thn (hv pins s σ H _ I h) fun r s1 ⟨v,H1,I1,rv,q1⟩=>thn (ho pins s1 σ H1 _ I1 q1) fun u s2 ⟨x,H2,I2,rx,q2⟩=>thn (hi pins s2 σ H2 _ I2 q2) fun iv s3 ⟨y,H3,I3,ry,a,H4,ex,g,q3⟩=>?_) hs
 subst ex
 obtain rfl:u=Value.ref a:=rx
 exact zi hu I3 g ry rv fun s4 I4=>⟨σ,H4,I4,q3⟩
end
theorem xx {P:Program}{w:World}{H:Hp}(h:Heap) (hb:sysModules < h.objs.size):ZZ P w H (h.push { cls := .type "dict",data := .dict #[] }) h.objs.size (.dK []) :=
 ⟨Nat.zero_le _,beq_eq_false_iff_ne.mpr (Ne.symm (Nat.ne_of_lt hb)),[],.nil,Heap.DictOf.new h⟩
noncomputable def oO:TE:=fun _ H Q=>∀ p,H p=none→Q (.ref p) (upd H p (.dK []))
section
variable {X:Cx}{pos:Pos}
theorem xA:PE X (.Dict [] [] pos) oO:=fun pins s σ H Q I h =>
 wpAny_Dict_empty ⟨.ref s.heap.objs.size,_,I.laid (a:=s.heap.objs.size) (o := .dK []) (t':=s.toks) (fun _ _ q=>aq _ q) (Nat.le_refl _) (xx s.heap I.big),rfl,h _ (I.hok.fresh (Nat.le_refl _))⟩
end
noncomputable def JC (kvs more:List (Key × V)):List (Key × V):=more.foldl (fun acc kv=>putK acc kv.1 kv.2) kvs
structure M2 (X:Cx) (o:Expr) (m:Str) (apos:Pos) (e f:Expr) (cpos:Pos):Prop where
 base:attributeBase o m X.env (eval o X.env)=eval o X.env
 few:((backTo cpos (starEach [e,f] X.env)).all (fun x => !x.1) && (backToKw cpos (keywordEach [] X.env)).all (fun x=>x.1.isSome)
  && decide (([e,f]:List Expr).length + ([]:List Keyword).length + (if ([]:List Keyword).isEmpty then 0 else 1) < 30))=true
 line:(apos.endLine == cpos.line)=true
 trees:backTo cpos (starEach [e,f] X.env)=[(false,eval e X.env),(false,eval f X.env)]
noncomputable def IsD (H:Hp) (a:Addr):Prop:=(∃ kvs,Rd H a (.dK kvs))∨∃ kvs,Rd H a (.dT kvs)
theorem oP {X:Cx}{pins:List (Addr × Obj)}{σ:St}{H:Hp}{s:Shared}{a:Addr}(I:Inv X pins σ H s) (d:IsD H a) :
  s.TypeIs (.ref a) "dict" ∧ (∀ b,Value.ref a = .ref b→∃ ob,s.heap.get? b=some ob∧ob.dict=none)∧(a == sysModules)=false:=by
 rcases d with ⟨kvs,e⟩ | ⟨kvs,e⟩
 ·obtain ⟨_,hd,vs,_,dd⟩:=FZ I.hok e
  refine ⟨dd.typeIs,fun b q=>?_,hd⟩
  cases q
  obtain ⟨ob,_,_,h1,h2,_⟩:=dd
  exact ⟨ob,h1,h2.2.1⟩
 ·obtain ⟨_,hd,xs,_,dd⟩:=Ea I.hok e
  refine ⟨dd.typeIs,fun b q=>?_,hd⟩
  cases q
  obtain ⟨ob,_,_,h1,h2,_⟩:=dd
  exact ⟨ob,h1,h2.2.1⟩
section
variable {X:Cx}{pins:List (Addr × Obj)}{σ:St}{H:Hp}{s:Shared}{a:Addr}{y d:V}{u r:Value}{o:Option V}{A:Around}{E:Value→Shared→Prop}
theorem oQ {Q:Value→Shared→Prop}(hu:A.units + 1 < cLine) (I:Inv X pins σ H s) (g:JB H a y o) (ry:RelV y u) (rd:RelV d r) (h:∀ w' s',Inv X pins σ H s'→RelV (o.getD d) w'→Q w' s') :
  wpAny (model X.prog X.w) A (call (.builtin "dict.get") [.ref a,u,r]) Q E s:=by
 rcases g with ⟨kvs,k,e,ey,l⟩ | ⟨kvs,k,b,e,ey,eb,l⟩
 ·subst ey
  obtain ⟨z,hd,vs,rel,dd⟩:=FZ I.hok e
  refine call_meetsIn PySem.F.slot_dict_get dd.typeIs PySem.F.entry_dict_get (PySem.F.args_dict_get_3 _ _ _) (meets_dict_get_default (ZE X.prog X.w) a (BJ ry) hd r) ⟨_,dd.mapOf,h _ _ (I.tok _) ?_⟩
  rw [l]
  exact (rel.val k).getD rd
 ·subst ey
  cases (show u=Value.ref b from ry)
  obtain ⟨z,hd,xs,rel,dd⟩:=Ea I.hok e
  refine call_meetsIn PySem.F.slot_dict_get dd.typeIs PySem.F.entry_dict_get (PySem.F.args_dict_get_3 _ _ _) (meetsH_dict_get_default (tupleKind (ZE X.prog X.w)) a b hd r) ⟨tupleKind_room_in1 hu,k,xs,GJ I.hok eb,dd,h _ _ (I.tok _) ?_⟩
  rw [l]
  exact (rel.val k).getD rd
end
noncomputable def oS (td ty tx:TE):TE:=fun σ H Q=>td σ H fun x H1=>∃ a,x = .ref a∧IsD H1 a∧ty σ H1 fun y H2=>tx σ H2 fun z H3=>∃ o,JB H3 a y o∧Q (o.getD z) H3
section
variable {X:Cx}{o e f:Expr}{apos cpos:Pos}{td ty tx:TE}
theorem xB (hu:X.A.units + 1 < cLine) (ho:PE X o td) (he:PE X e ty) (hf:PE X f tx) (m:M2 X o "get" apos e f cpos):PE X (.Call (.Attribute o "get" apos) [e,f] [] cpos) (oS td ty tx):=by
 intro pins s σ H Q I h
 refine wpAny_Call_method m.base m.few m.line PySem.F.plainAttrs_dict PySem.F.slot_dict_get PySem.F.type_dict_get (thn (ho pins s σ H _ I h) fun u s1 ⟨x,H1,I1,rx,a,ex,d,q1⟩=>?_)
 subst ex
 obtain rfl:u=Value.ref a:=rx
 obtain ⟨t1,t2,_⟩:=oP I1 d
 refine ⟨t1,t2,?_⟩
 rw [m.trees]
 refine Calls.callWith_builtin rfl (Calls.evalArgs_plain (Calls.spliced_cons (thn (he pins s1 σ H1 _ I1 q1) fun iv s2 ⟨y,H2,I2,ry,q2⟩ =>
  Calls.spliced_cons (thn (hf pins s2 σ H2 _ I2 q2) fun fv s3 ⟨z,H3,I3,rz,ov,g,q3⟩=>Calls.spliced_nil ?_))))
 exact oQ hu I3 g ry rz fun w' s4 I4 rw'=>⟨_,H3,I4,rw',q3⟩
end
section
variable {X:Cx}{pins:List (Addr × Obj)}{σ:St}{H:Hp}{s:Shared}{a:Addr}{kvs:List (Key × V)}{A:Around}{E:Value→Shared→Prop}
end
section
variable {X:Cx}{pins:List (Addr × Obj)}{σ:St}{H:Hp}{s:Shared}{a:Addr}{y:V}{u:Value}{A:Around}{E:Value→Shared→Prop}
end
noncomputable def Bd (n:Nat) (i:Int):Prop:=i.natAbs < 2 ^ n
theorem Bd.mono {n m:Nat}{i:Int}(h:Bd n i) (k:n≤m):Bd m i:=Nat.lt_of_lt_of_le h (Nat.pow_le_pow_right (by decide) k)
theorem Bd.bits {n:Nat}{i:Int}(h:Bd n i):Builtin.Int.intBits i≤n:=by
 unfold Builtin.Int.intBits
 split
 ·exact Nat.zero_le _
 ·rename_i h0
  have hn:i.natAbs≠0:=by
   intro z
   apply h0
   have:i=0:=by omega
   simp [this]
  have:i.natAbs.log2 < n:=(Nat.log2_lt hn).mpr h
  omega
theorem Bd.log {n:Nat}{i:Int}(h:Bd n i) (k:n≤9000):i.natAbs.log2 < 9000:=by
 rcases Nat.eq_zero_or_pos i.natAbs with h0 | hp
 ·rw [h0];decide +kernel
 ·exact (Nat.log2_lt (by omega)).mpr (Nat.lt_of_lt_of_le h (Nat.pow_le_pow_right (by decide) k))
theorem Bd.of {n:Nat}{i:Int}(a : -(2 ^ n) < i) (b:i < 2 ^ n):Bd n i:=by
 unfold Bd
 have e:((2 ^ n:Nat):Int)=2 ^ n:=by norm_cast
 omega
theorem Bd.le {n:Nat}{i j:Int}(h:Bd n i) (k:j.natAbs≤i.natAbs):Bd n j:=Nat.lt_of_le_of_lt k h
section
variable {X:Cx}{a b c:Expr}{ta tb tc:TE}{pos:Pos}
noncomputable def CMulB (i j:Int):Prop:=Bd 100000 i∧Bd 100000 j
noncomputable def CDivB (i j:Int):Prop:=j≠0∧Bd 9000 j
theorem xC:OpR X (binaryOp .FloorDiv) (rI CDivB fun i j => .int (i.fdiv j)):=opI fun _ _ _ _ _ _ _ hc q =>
 floordiv_int hc.1 q (.inl (PyProof.noPylong_of_log2 (hc.2.log (Nat.le_refl _))))
noncomputable def rCatL (K:aj):R2:=fun x y H Q=>∃ l b xs zs,x = .ref l∧y = .ref b∧SqL K H l xs∧SqL K H b zs∧xs.length + zs.length≤aA∧∀ p,H p=none→Q (.ref p) (upd H p (.lst (xs++zs)))
theorem BL:OpR X (binaryOp .Add) (rCatL X.K):=by
 intro pins s σ H x y v u Q I rx ry h
 obtain ⟨l,b,xs,zs,rfl,rfl,hH,hB,hz,q⟩:=h
 cases rx
 cases ry
 obtain ⟨its,r,p,z⟩:=I.list hH
 obtain ⟨its2,r2,p2,z2⟩:=I.list hB
 obtain ⟨⟨cls,dd,data,sl⟩,n,ho,hc,_,hd⟩:=id p
 obtain ⟨⟨cls2,dd2,data2,sl2⟩,n2,ho2,hc2,_,hd2⟩:=id p2
 simp only at hc hd hc2 hd2
 subst hc hd hc2 hd2
 have hl1:=r.length
 have hl2:=r2.length
 refine concat_meets ⟨_,ho,rfl⟩ ⟨_,ho2,rfl⟩ noFill_list_add seq_list_add PySem.F.slot_list_add PySem.F.entry_list_add (PySem.F.args_list_add_2 _ _) (list_addW l b its.toArray its2.toArray n n2 dd dd2 sl sl2 (by rw [size_toArray,size_toArray];omega)) ⟨ho,ho2,?_⟩
 have ea:its.toArray++its2.toArray=(its++its2).toArray:=by simp
 rw [ea]
 exact ⟨.ref _,_,I.lnew (t':=s.toks) (r.append r2) (by rw [length_append];omega),rfl,q _ I.fresh⟩
theorem xD {x:V}(h:UB x=true):eqV x x=true:=by
 cases x <;> simp_all [eqV,UB]
noncomputable def rIsi (K:aj):List V→Hp→VK→Prop:=fun xs H Q=>∃ x c cv t b,xs=[x,c]∧(∀ u,RelV c u→u=cv)∧PV K H x t∧kitOne K t cv=some b∧Q (.bl b) H
theorem xE:YW X (.builtin "isinstance") (rIsi X.K):=by
 intro pins s σ H xs us Q I r h
 obtain ⟨x,c,cv,t,b,rfl,hc,ty,e,q⟩:=h
 obtain ⟨u,w',rfl,r1,r2⟩:=vals2 r
 cases hc _ r2
 exact AX I r1 ty e fun tk=>⟨.bl b,H,I.tok tk,rfl,q⟩
end
noncomputable def Ite (K:aj) (a:Addr):It :=
  ⟨fun i H=>∃ xs x,SqL K H a xs∧xs[i]?=some x,
   fun i H x H'=>∃ p y,x = .ref p∧H p=none∧H'=upd H p (.tup [.int i,y])∧∀ xs,SqL K H a xs→xs[i]?=some y,
   fun i H=>∃ xs,SqL K H a xs∧xs.length≤i⟩
theorem zj {P:Program}{w:World}{K:aj}{elts:List Expr}{x1}{tpos:Pos}(a e it:Addr) (hne:e≠it) :
    Turn P w K (.Tuple elts x1 tpos) (Ite K a) [e,it] e (fun i h=>(∃ old,IsEnum h e it i old)∧h.IsListIter it a i) where
  mem:=by simp
  obj:=fun i h st b hb=>by
    obtain ⟨⟨old,h1⟩,o,h2,c,d⟩:=st
    have e:b=e∨b=it:=by simpa using hb
    rcases e with rfl | rfl
    · exact ⟨_,h1,fun v z=>by
        have z':Data.fields _=Data.cell v:=z
        cases z'⟩
    · exact ⟨o,h2,fun v z=>by rw [d] at z;cases z⟩
  keep:=fun i h h' st k=>by
    obtain ⟨⟨old,h1⟩,h2⟩:=st
    exact ⟨⟨old,k e (by simp) _ h1⟩,h2.at fun o q=>k it (by simp) o q⟩
  item:=by
    intro X hP hw hK hc i pins s σ H E I hf st hg
    subst hP hw hK
    obtain ⟨⟨old,h1⟩,h2⟩:=st
    obtain ⟨xs,x,hq,hx⟩:=hg
    obtain ⟨its,rv,p,hz⟩:=I.list hq
    obtain ⟨u,hu,ru⟩:=rv.get hx
    obtain ⟨f0,f1,f2,f3,f4,f5⟩:=hf e (by simp)
    obtain ⟨g0,g1,g2,g3,g4,g5⟩:=hf it (by simp)
    refine wpAny_pyNext_enum_item h1 h2 p.isList (x:=u) (by simpa using hu) hne fun h' a1 a2 a3 a4 a5=>?_
    refine ⟨_,rfl,wpAny_letOwnedTupleGo_enum a1 fun h'' b1 b2=>?_⟩
    have hpe:s.heap.objs.size≠e:=Nat.ne_of_gt (az h1)
    have hpi:s.heap.objs.size≠it:=by
      obtain ⟨o,h2',_⟩:=h2
      exact Nat.ne_of_gt (az h2')
    have hie:it≠e:=Ne.symm hne
    have hp0:H s.heap.objs.size=none:=I.fresh
    have kp:∀ b o,b≠e→b≠it→s.heap.get? b=some o→h''.get? b=some o:=fun b o z1 z2 q=>(b2.2 b z1).trans (a5 b o z1 z2 q)
    have tp:h''.get? s.heap.objs.size=some { cls := .type "tuple",data := .seq #[.int i s.toks,u] }:=(b2.2 _ hpe).trans a3
    refine ⟨.ref s.heap.objs.size,upd H s.heap.objs.size (.tup [.int i,x]),?_,rfl,⟨_,x,rfl,hp0,rfl,fun ys hy=>by rw [I.RK hy hq];exact hx⟩,⟨⟨u,b1⟩,a2.at fun o q=>(b2.2 it hie).trans q⟩,fun b hb=>?_⟩
    · -- both records have turned,a tuple is laid
      have nt:∀ b o,H b=some o→b≠e∧b≠it:=fun b o q=>⟨Zx q f0,Zx q g0⟩
      have ok':HOk X.prog X.w (upd H s.heap.objs.size (.tup [.int i,x])) h'':=fun b o q=>by
        by_cases hb:b=s.heap.objs.size
        · subst hb
          rw [Zu] at q
          cases q
          exact ⟨by show 2≤aA;decide,[.int i s.toks,u],.cons ⟨_,rfl⟩ (.cons ru .nil),_,tp,rfl,0,rfl⟩
        · rw [Zk hb] at q
          refine (I.hok b o q).stay (fun c v hc q'=>kp c v ?_ ?_ q') (fun c q'=>by rw [Zk (Zx q' hp0)];exact q') fun c zs q'=>by rw [Zk (Zx q' hp0)];exact q'
          · rcases hc with rfl | hc
            · exact (nt _ _ q).1
            · exact (nt _ _ hc).1
          · rcases hc with rfl | hc
            · exact (nt _ _ q).2
            · exact (nt _ _ hc).2
      have hL:X.env.locals≠s.heap.objs.size:=by
        obtain ⟨m,⟨o,_,_,ho,_⟩,_⟩:=id I.loc
        exact Nat.ne_of_lt (az ho)
      have I3:Inv X pins σ (upd H s.heap.objs.size (.tup [.int i,x])) { s with heap:=h'',gens:=s.gens,drawn:=s.drawn,toks:=s.toks + 1 }:=by
       refine Inv.step (s:=s) I (g':=s.gens) (d':=s.drawn) (ch:=[e,it]) (fun b hb=>?_) (fun b o _ _ hc q _=>kp b o (fun z=>hc (by simp [z])) (fun z=>hc (by simp [z])) q)
        (fun b o _ _ hc q _=>⟨o.slots,kp b o (fun z=>hc (by simp [z])) (fun z=>hc (by simp [z])) q⟩)
        (fun b o _ q n=>by rw [Zk (Nat.ne_of_lt (az q))];exact n)
        (fun b o hc q=>⟨o,kp b o (fun z=>hc (by simp [z])) (fun z=>hc (by simp [z])) q⟩)
        (fun b zs q=>by rw [Zk (Zx q hp0)];exact q) (fun b ob zs q=>by rw [Zk (Zx q hp0)];exact q)
        (fun b ps q=>⟨#[],by rw [Zk (Zx q hp0),q];simp⟩) (fun m hm=>?_) ok' I.bare
       · have z:b=e∨b=it:=by simpa using hb
         rcases z with rfl | rfl
         · exact ⟨f3,f1,f4,f5⟩
         · exact ⟨g3,g1,g4,g5⟩
       · obtain ⟨o,es,ep,ho,r⟩:=hm
         exact ⟨o,es,ep,kp _ o (Ne.symm f1) (Ne.symm g1) ho,r⟩
      exact I3
    · have z:b=e∨b=it:=by simpa using hb
      rcases z with rfl | rfl
      · rw [Zk (Ne.symm hpe)];exact f0
      · rw [Zk (Ne.symm hpi)];exact g0
  done:=by
    intro X hP hw hK hc i pins s σ H E I hf st hg
    subst hP hw hK
    obtain ⟨⟨old,h1⟩,h2⟩:=st
    obtain ⟨xs,hq,hx⟩:=hg
    obtain ⟨its,rv,p,hz⟩:=I.list hq
    obtain ⟨g0,g1,g2,g3,g4,g5⟩:=hf it (by simp)
    have hl:=rv.length
    exact wpAny_pyNext_enum_end (I.ok.hd hc) h1 h2 p.isList (by simp;omega) fun h' eb=>⟨rfl,I.turned (t':=s.toks) (fun b o hb e=>eb b o hb e) g0 g1 g3 g4 g5⟩
  self:=fun _ _ _ _ _ st h=>by
    obtain ⟨⟨old,h1⟩,h2⟩:=st
    exact wpAny_pyIter_enum h1 h
section
variable {X:Cx}
noncomputable def iEnum (K:aj) (ta:TA):TI:=fun σ H R=>ta σ H fun vs H1=>∃ a,vs=[.ref a]∧(∃ xs,SqL K H1 a xs)∧R (Ite K a) H1
theorem tJ {a:Expr}{ta:TA}{p pos:Pos}{elts:List Expr}{x1}{tpos:Pos}(hg:Gl X "enumerate") (hm:X.mg "enumerate" = none) (ha:PA X [a] ta) (hs:autoParam (starEach [a] X.env=[(false,eval a X.env)]) auR) :
  PI X (.Tuple elts x1 tpos) (.Call (.Name "enumerate" p) [a] [] pos) (iEnum X.K ta):=by
 intro pins s σ H R I h
 refine Call_ (PR I hg hm boot_enumerate (PyProof.Rows.callWith_type1 (thn (ha pos pins s σ H _ I h) fun us s1 ⟨vs,H1,I1,r1,q1⟩=>?_) hs rfl))
 obtain ⟨l,e,⟨xs,hq⟩,q⟩:=q1
 subst e
 obtain ⟨u,rfl,ru⟩:=vals1 r1
 cases ru
 obtain ⟨its,rv,p,hz⟩:=I1.list hq
 refine call_enumerate_list p.isList fun h' c1 c2 c3 c4=>?_
 refine wpAny_pyIter_enum c1 ?_
 have I2:Inv X pins σ H1 { s1 with heap:=h' }:=I1.kept (t':=s1.toks) c4
 refine ⟨_,[s1.heap.objs.size + 1,s1.heap.objs.size],_,_,H1,rfl,I2,zj l _ _ (Nat.succ_ne_self _),⟨⟨_,c1⟩,c2⟩,fun b hb=>?_,q⟩
 have z:b=s1.heap.objs.size + 1∨b=s1.heap.objs.size:=by simpa using hb
 rcases z with rfl | rfl
 ·exact I1.Gv (Nat.le_succ _) (I1.hok.fresh (Nat.le_succ _))
 ·exact I1.Gv (Nat.le_refl _) (I1.hok.fresh (Nat.le_refl _))
end
section
variable {X:Cx}
noncomputable def PK (i j:Int):Prop:=CMul i j∨CMulB i j
theorem tK:OpR X (binaryOp .Mult) (rI PK fun i j => .int (i * j)):=opI fun _ _ _ _ _ _ _ hc q=>by
 rcases hc with hc | hc
 ·exact mul_int q hc.ok
 ·exact mul_int q (IntMulOk.of_bits (Nat.le_trans hc.1.bits (by decide)) (Nat.le_trans hc.2.bits (by decide)))
theorem PK.l {i j:Int}(a : -(2 ^ 64) < i) (b:i < 2 ^ 64):PK i j := .inl (.inl ⟨a,b⟩)
theorem PK.r {i j:Int}(a : -(2 ^ 64) < j) (b:j < 2 ^ 64):PK i j := .inl (.inr ⟨a,b⟩)
theorem PK.b {n m:Nat}{i j:Int}(a:Bd n i) (b:Bd m j) (hn:autoParam (n≤100000) auD) (hm:autoParam (m≤100000) auD):PK i j := .inr ⟨a.mono hn,b.mono hm⟩
end
theorem Zv.upd {H:Hp}{p:Addr}{o:HO}(h:H p=none):Zv H (upd H p o):=fun b u e=>by rw [Zk (Zx e h)];exact e
theorem Zv.tup {K:aj}{H H':Hp}{a:Addr}{xs:List V}(e:Zv H H') (h:H a=some (.tup xs)):SqT K H' a xs:=SqT.of (e _ _ h)
structure MkP (K:aj) (C:Addr):Prop where
 makes:makesIn K C=true
 init:findIn K (.ref C) "__init__" = some (some (.builtin "object.__init__"))
 kp:keepIn K (.ref C)=true
section
variable {X:Cx}{C:Addr}{x m:Str}{p pos apos:Pos}{e o:Expr}{es:List Expr}{ta:TE}{t:TA}{k:Nat}
noncomputable def oT (C:Addr):TE:=fun _ H Q=>∀ x dx,H x=none→H dx=none→dx≠x→Q (.ref x) (upd (upd H dx (.own x)) x (.ins C dx []))
theorem zk {pins:List (Addr × Obj)}{σ:St}{H:Hp}{s:Shared}{Q:VK}(M:MkP X.K C) (I:Inv X pins σ H s)
  (h:∀ x dx,H x=none→H dx=none→dx≠x→Q (.ref x) (upd (upd H dx (.own x)) x (.ins C dx []))) :
  wpAny (model X.prog X.w) X.A (call (.ref C) []) (EP X pins σ Q) X.xe s:=by
 have I2:=Inv.made (C:=C) I
 have hq:=h (s.heap.objs.size + 1) s.heap.objs.size (I.hok.fresh (Nat.le_succ _)) (I.hok.fresh (Nat.le_refl _)) (Nat.ne_of_lt (Nat.lt_succ_self _))
 refine wpAny_call (AV I.kIn M.makes M.init (fun self=>Looks.of_pure (PySem.W.oi_bind self)) ?_)
 obtain ⟨hh,g,d,tk,os⟩:=s
 have Y:=makes_of (M:=model X.prog X.w) I.kIn M.makes
 have e2:((hh.push emptyDict).push (instObj C hh.objs.size)).get? (hh.objs.size + 1)=some (instObj C hh.objs.size):=by
  have:=au (hh.push emptyDict) (o:=instObj C hh.objs.size) rfl
  rwa [Heap.size_push] at this
 have t1:Looks (model X.prog X.w) ((hh.push emptyDict).push (instObj C hh.objs.size)) (typeOf (.ref (hh.objs.size + 1))) (.ref C):=(Looks.ld e2).andThen .now
 have t2:Looks (model X.prog X.w) ((hh.push emptyDict).push (instObj C hh.objs.size)) (isInstance (.ref (hh.objs.size + 1)) (.type "object")) true:=t1.andThen (Y.top.keeps fun b o e=>aq _ (aq _ e))
 refine codeAny_call_builtin PySem.W.oi_plain PySem.W.entry_oi (@PySem.W.check_slot (model X.prog X.w) _ _ _ "object.__init__" "object" "__init__" (.ref (hh.objs.size + 1)) [] [] _ PySem.W.oi_kind PySem.W.oi_split t2 (PySem.W.oi_args (.ref (hh.objs.size + 1))) ?_)
 rw [PySem.W.oi_run]
 exact ao (And.intro rfl ⟨V.ref (hh.objs.size + 1),_,I2,rfl,hq⟩)
theorem xF (M:MkP X.K C) (hg:Gl X x) (hm:X.mg x=some (.ref C)) (hdb:autoParam ((x == ("__debug__" : Str))=false) auD):PE X (.Call (.Name x p) [] [] pos) (oT C):=by
 intro pins s σ H Q I h
 refine wpAny_Call_Name_kw (Nr I hg hm ?_ hdb)
 exact PySem.W.callWith_K0 I.kIn M.kp (zk M I h)
structure xG (K:aj) (C:Addr):Prop where
 ha:findIn K (.ref C) "__class__" = some (some (.builtin "object.__class__"))
 hn:PySem.W.specialIn K (.builtin "object.__class__") "__get__" = some (some (.builtin "getset_descriptor.__get__"))
 htk:takesIn K (.builtin "object.__class__")=some true
 hm:mroIn K C (.type "object")=some true
theorem xG.ty {K:aj}{C a dx:Addr}{H:Hp}{fs:List (Str × V)}(i:xG K C) (c:Cls K C) (e:H a=some (.ins C dx fs)):PV K H (.ref a) (.ref C) := .ins e c i.ha i.hn i.htk i.hm
end
theorem kit_ref {K:aj}{C D:Addr}{b:Bool}(hd:hasDictIn K D=true) (ht:typeIn K (.ref D)=some (.type "type")) (hs:subIn K (.ref C) (.ref D)=some b)
  (hr:subIn K (.ref D) (.ref D)=some true):kitOne K (.ref C) (.ref D)=some b:=by
 obtain ⟨cd,hc,_⟩:=PySem.W.any_some hd
 unfold kitOne
 by_cases q:(Value.ref C == Value.ref D)=true
 ·rw [if_pos q]
  have e:Value.ref C=Value.ref D:=beq_iff_eq.mp q
  rw [e,hr] at hs
  exact hs
 ·rw [if_neg q]
  unfold kitCls
  simp only
  rw [if_pos (by rw [hc,ht];rfl)]
  exact hs
theorem ZZ.get {P:Program}{w:World}{H:Hp}{h:Heap}{a:Addr}{o:HO}(x:ZZ P w H h a o):∃ ob,h.get? a=some ob:=by
 cases o with
 | lst xs=>obtain ⟨_,_,_,_,e⟩:=x;exact ⟨_,e⟩
 | tup xs=>obtain ⟨_,_,_,ob,e,_⟩:=x;exact ⟨_,e⟩
 | dK kvs=>obtain ⟨_,_,_,_,o,_,_,e,_⟩:=x;exact ⟨_,e⟩
 | dT kvs=>obtain ⟨_,_,_,_,o,_,_,e,_⟩:=x;exact ⟨_,e⟩
 | set S n=>obtain ⟨o,_,_,_,e,_⟩:=x;exact ⟨_,e⟩
 | ins C dx fs=>obtain ⟨_,_,_,e,_⟩:=x;exact ⟨_,e⟩
 | own y=>obtain ⟨_,e⟩:=x;exact ⟨_,e⟩
 | xd fs=>obtain ⟨_,⟨_,_,_,e,_⟩,_⟩:=x;exact ⟨_,e⟩
 | rng lo hi=>obtain ⟨_,_,_,e⟩:=x;exact ⟨_,e⟩
 | frz ob u=>obtain ⟨e,_⟩:=x;exact ⟨_,e⟩
 | tbl ps=>exact ⟨_,(show h.get? a=some _ from x)⟩
 | met f y=>exact ⟨_,(show h.get? a=some _ from x)⟩
 | ext φ=>obtain ⟨_,⟨_,e⟩,_⟩:=x;exact ⟨_,e⟩
noncomputable def Cov (fs:List Addr) (H':Hp) (h0 h B:Heap):Prop:=∀ b o,h.get? b=some o→b∉fs→(H' b≠none∨∃ u,h0.get? b=some u)→B.get? b=some o
theorem BM {fs:List Addr}{H0 H':Hp}{h0 h h2 B:Heap}(u:Un fs [] H0 H' h0 h) (cv:Cov fs H' h0 h B) (st:B.StaysIn h2)
  (sl:∀ b∈fs,∀ o,h.get? b=some o→∃ sl,h2.get? b=some { o with slots:=sl }):Un fs [] H0 H' h0 h2 where
 keep:=fun b o e n hb hx=>st b o (cv b o (u.keep b o e n hb hx) hb (.inr ⟨o,e⟩))
 slot:=fun b o e n hb hx=>by
  obtain ⟨s1,e1⟩:=u.slot b o e n hb hx
  obtain ⟨s2,e2⟩:=sl b hb _ e1
  exact ⟨s2,e2⟩
 free:=u.free
 there:=fun b o e hx=>by
  obtain ⟨o1,e1⟩:=u.there b o e hx
  by_cases hb:b∈fs
  ·obtain ⟨s2,e2⟩:=sl b hb _ e1
   exact ⟨_,e2⟩
  ·exact ⟨o1,st b o1 (cv b o1 e1 hb (.inr ⟨o,e⟩))⟩
 tups:=u.tups
 frzs:=u.frzs
 tbls:=u.tbls
theorem Ed {P:Program}{w:World}{fs:List Addr}{H':Hp}{h0 h h2 B:Heap}(ok:HOk P w H' h) (cv:Cov fs H' h0 h B) (st:B.StaysIn h2) (fr:∀ b∈fs,H' b=none):HOk P w H' h2:=fun a o e =>
 (ok a o e).stay (fun b v hb q=>st b v (cv b v q (fun z=>by
   rcases hb with rfl | hb
   ·rw [fr _ z] at e;cases e
   ·rw [fr _ z] at hb;cases hb) (.inl (by
   rcases hb with rfl | hb
   ·rw [e];exact fun z=>nomatch z
   ·rw [hb];exact fun z=>nomatch z)))) (fun _ q=>q) fun _ _ q=>q
theorem Ee {P:Program}{w:World}{fs:List Addr}{H0 H':Hp}{h0 h h2 B:Heap}(u:Un fs [] H0 H' h0 h) (ok:HOk P w H' h) (cv:Cov fs H' h0 h B) (st:B.StaysIn h2):Cov fs H' h0 h2 B:=fun b o e hb c=>by
 have key:∃ o1,h.get? b=some o1:=by
  rcases c with c | ⟨v,c⟩
  ·cases q:H' b with
   | none=>exact absurd q c
   | some x=>exact (ok b x q).get
  ·exact u.there b v c (by simp)
 obtain ⟨o1,e1⟩:=key
 have e2:=cv b o1 e1 hb c
 have e3:=st b o1 e2
 rw [e] at e3
 cases e3
 exact e2
noncomputable def CXE (P:Program) (w:World):CXT:=fun outer H s E e s'=>∃ (ex t:Addr) (cls:Value) (H':Hp) (B:Heap),
 e = .ref ex∧s'.os=s.os∧AllBare s'.gens∧Un (frs outer) [] H H' s.heap s'.heap∧HOk P w H' s'.heap∧Heap.FlyingW B outer ex cls (.ref t) s'.heap∧Cov (frs outer) H' s.heap s'.heap B∧s.heap.get? ex=none∧H' ex=none∧E cls none H'
theorem Ef {B h h2:Heap}{l:List Env}(ff:h.FunFrames B l) (up:h.UpToSlots h2):∀ b∈frs l,∀ o,h.get? b=some o→∃ sl,h2.get? b=some { o with slots:=sl }:=fun b hb o e=>by
 obtain ⟨_,o',e',nf⟩:=ff.mem hb
 rw [e] at e'
 cases e'
 exact up b o e nf
section
variable {X:Cx}{pins:List (Addr × Obj)}{σ:St}{H:Hp}{s:Shared}
theorem JD {fs ex:List Addr}{H0 H':Hp}{h0 h:Heap}(u:Un fs ex H0 H' h0 h) {b:Addr}(hx:b∉ex) (e:h.get? b=none):h0.get? b=none:=by
 cases q:h0.get? b with
 | none=>rfl
 | some o =>
  obtain ⟨o',e'⟩:=u.there b o q hx
  rw [e] at e'
  cases e'
theorem Inv.frf (I:Inv X pins σ H s):∀ b∈frs X.stack,H b=none:=I.env0.frf
end
section
variable {P:Program}{w:World}{K:aj}{mg:Str→Option Value}{base:Heap}{N:List Str}{qual:Str}{scope:Scope}{f:Addr}{cdv:Value}{A:Around}{outer:List Env}{s:Shared}{H:Hp}{E:XK}
 {pins:List (Addr × Obj)}{σ:St}{H1:Hp}{s1:Shared}
theorem tL {h2:Heap}{ex C:Addr}{args:List Value}(I:Inv (Xe (CXE P w) P w K mg base N qual scope f cdv A outer s H E) pins σ H1 s1)
  (hx:Heap.MadeExcOf s1.heap h2 ex (.ref C) args) (h:E (.ref C) none H1):(Xe (CXE P w) P w K mg base N qual scope f cdv A outer s H E).xe (.ref ex) { s1 with heap:=h2 }:=by
 have e0:=I.env0
 have stk:(Xe (CXE P w) P w K mg base N qual scope f cdv A outer s H E).stack=envOfC qual scope s.heap.objs.size f cdv::outer:=rfl
 have hin:∀ env∈(envOfC qual scope s.heap.objs.size f cdv::outer),∀ a,env.frame=some a→a∈frs (envOfC qual scope s.heap.objs.size f cdv::outer):=fun env he a ha=>List.mem_filterMap.mpr ⟨env,he,ha⟩
 have ff:s1.heap.FunFrames (hideAll s1.heap (frs (envOfC qual scope s.heap.objs.size f cdv::outer))) (envOfC qual scope s.heap.objs.size f cdv::outer):=PySem.W.funFrames_hide e0.Np hin
 have hkb:(hideAll s1.heap (frs (envOfC qual scope s.heap.objs.size f cdv::outer))).StaysIn s1.heap:=fun b o q=>PySem.W.of_hideAll _ q
 show wpAny _ _ (leaving _ _) _ _ _
 refine wpAny_leaves_madeW (L:=s.heap.objs.size) (s:={ s1 with heap:=h2 }) e0.frames rfl hkb ff hx fun h' t fl tup hBt up=>?_
 have ffo:s1.heap.FunFrames (hideAll s1.heap (frs (envOfC qual scope s.heap.objs.size f cdv::outer))) outer:=ff.2.2
 have u1:Un (frs outer) [] H H1 s.heap s1.heap:=I.base
 have hL:H1 s.heap.objs.size=none:=I.free
 have cv:Cov (frs outer) H1 s.heap s1.heap (hideAll s1.heap (frs (envOfC qual scope s.heap.objs.size f cdv::outer))):=fun b o e hb c=>by
  refine PySem.W.hideAll_get _ e fun hm=>?_
  have hm':b=s.heap.objs.size∨b∈frs outer:=by
   have:=hm
   unfold frs at this
   rw [filterMap_cons] at this
   exact mem_cons.mp this
  rcases hm' with rfl | hm'
  ·rcases c with c | ⟨v,c⟩
   ·exact c hL
   ·exact absurd (az c) (Nat.lt_irrefl _)
  ·exact hb hm'
 have up2:s1.heap.UpToSlots h':=(Heap.UpToSlots.of_keeps hx.keeps).trans up
 have sl:=Ef ffo up2
 have fr:∀ b∈frs outer,H1 b=none:=fun b hb=>I.frf b (by
  show b∈frs (envOfC qual scope s.heap.objs.size f cdv::outer)
  unfold frs
  rw [filterMap_cons]
  exact mem_cons_of_mem _ hb)
 have hexn:H1 ex=none:=by
  cases q:H1 ex with
  | none=>rfl
  | some x =>
   obtain ⟨ob,eo⟩:=(I.hok ex x q).get
   have:=hx.new
   rw [eo] at this
   cases this
 exact ⟨ex,t,.ref C,H1,_,rfl,I.os,I.bare,BM u1 cv fl.1 sl,Ed I.hok cv fl.1 fr,fl,Ee u1 I.hok cv fl.1,JD u1 (by simp) hx.new,hexn,h⟩
theorem xe_on {E':XK}{e:Value}{s':Shared}(I:Inv (Xe (CXE P w) P w K mg base N qual scope f cdv A outer s H E) pins σ H1 s1)
  (h:CXE P w (Xe (CXE P w) P w K mg base N qual scope f cdv A outer s H E).stack H1 s1 E' e s') (k:∀ cls H',E' cls none H'→E cls none H') :
  (Xe (CXE P w) P w K mg base N qual scope f cdv A outer s H E).xe e s':=by
 obtain ⟨ex,t,cls,H',B,rfl,ho,hg,u,ok,fl,cv,hn,hexn,hE⟩:=h
 have I':=I.call' (ch:=[]) ho u ok hg (fun _ z=>nomatch z)
 have e0:=I'.env0
 have u1:Un (frs outer) [] H H' s.heap s'.heap:=I'.base
 have hL:H' s.heap.objs.size=none:=I'.free
 show wpAny _ _ (leaving _ _) _ _ _
 refine wpAny_leaves_onW (L:=s.heap.objs.size) e0.frames rfl fl fun h' fl' up=>?_
 have cv1:Cov (frs outer) H' s.heap s'.heap B:=fun b o e hb c=>by
  have hb':b∉frs (envOfC qual scope s.heap.objs.size f cdv::outer):=fun hm=>by
   have hm':b=s.heap.objs.size∨b∈frs outer:=by
    have:=hm
    unfold frs at this
    rw [filterMap_cons] at this
    exact mem_cons.mp this
   rcases hm' with rfl | hm'
   ·rcases c with c | ⟨v,c⟩
    ·exact c hL
    ·exact absurd (az c) (Nat.lt_irrefl _)
   ·exact hb hm'
  refine cv b o e hb' ?_
  rcases c with c | ⟨v,c⟩
  ·exact .inl c
  ·exact .inr (Un.there (show Un (frs outer) [] H H1 s.heap s1.heap from I.base) b v c (by simp))
 have ffo:s'.heap.FunFrames B outer:=fl.2.2.1.2.2
 have sl:=Ef ffo up
 have fr:∀ b∈frs outer,H' b=none:=fun b hb=>I'.frf b (by
  show b∈frs (envOfC qual scope s.heap.objs.size f cdv::outer)
  unfold frs
  rw [filterMap_cons]
  exact mem_cons_of_mem _ hb)
 exact ⟨ex,t,cls,H',B,rfl,I'.os,I'.bare,BM u1 cv1 fl'.1 sl,Ed ok cv1 fl'.1 fr,fl',Ee u1 ok cv1 fl'.1,JD (show Un (frs outer) [] H H1 s.heap s1.heap from I.base) (by simp) hn,hexn,k _ _ hE⟩
end
noncomputable def Yy (X:Cx) (XE:St→XK):Prop:=∀ (pins:List (Addr × Obj)) (σ:St) (H:Hp) (s:Shared) (e:Value) (s':Shared),Inv X pins σ H s→CXE X.prog X.w X.stack H s (XE σ) e s'→X.xe e s'
theorem Zg {P:Program}{w:World}{K:aj}{mg:Str→Option Value}{base:Heap}{N:List Str}{qual:Str}{scope:Scope}{f:Addr}{cdv:Value}{A:Around}{outer:List Env}{s:Shared}{H:Hp}{E:XK} :
  Yy (Xe (CXE P w) P w K mg base N qual scope f cdv A outer s H E) (fun _=>E):=fun _ _ _ _ _ _ I h=>xe_on I h fun _ _ z=>z
noncomputable def Ci (sp:Sp) (XE:St→XK) (t:TA):TE:=fun σ H Q=>t σ H fun vs H1=>sp vs H1 Q (XE σ)
section
variable {X:Cx}{k:Nat}{f C:Addr}{fd:FuncData}{ps:List Str}{sp:Sp}{XE:St→XK}{x m:Str}{p pos apos np cpos:Pos}{e o:Expr}{es:List Expr}{ta:TE}{t:TA}
theorem BO {pins:List (Addr × Obj)}{σ:St}{H:Hp}{s:Shared}{Q:VK}{us:List Value}{vs:List V}(F:Zy X.prog X.w X.K X.mg X.base (CXE X.prog X.w) k f fd ps sp) (hr:YF k X.A) (hb:Binds X.K fd ps []) (hx:Yy X XE)
  (I:Inv X pins σ H s) (r:Vals vs us) (h:sp vs H Q (XE σ)):wpAny (model X.prog X.w) X.A (call (.ref f) us) (EP X pins σ Q) X.xe s:=by
 have hl:(us++[]).length=ps.length:=by rw [append_nil,←r.length];exact F.len _ _ _ _ h
 have hb':=hb s us I.kIn hl
 rw [append_nil] at hb'
 refine wpAny_call (codeAny_mono (F.run X.A X.stack s H ⟨us,[]⟩ us vs Q (XE σ) hr I.env0 hb' r h) fun r s' hq=>?_)
 cases r with
 | error e=>exact hx pins σ H s e s' I hq
 | ok fl =>
  cases fl with
  | ret u=>exact I.after hq
  | next=>exact False.elim hq
  | brk=>exact False.elim hq
  | cont=>exact False.elim hq
theorem xH (F:Zy X.prog X.w X.K X.mg X.base (CXE X.prog X.w) k f fd ps sp) (hr:YF k X.A) (hg:Gl X x) (hm:X.mg x=some (.ref f)) (hk:keepIn X.K (.ref f)=true) (hb:Binds X.K fd ps []) (hx:Yy X XE)
  (ha:PA X (e::es) t) (hdb:autoParam ((x == ("__debug__" : Str))=false) auD) (he:autoParam (starEach (e::es) X.env=(false,eval e X.env)::starEach es X.env) auR) (hpl:autoParam ((backTo pos (starEach es X.env)).any (·.1)=false) auR) :
  PE X (.Call (.Name x p) (e::es) [] pos) (Ci sp XE t):=by
 intro pins s σ H Q I h
 refine wpAny_Call_Name_kw (Nr I hg hm ?_ hdb)
 refine callWith_K (h₀:=X.base) I.ok.mod.kin hk (thn (ha pos pins s σ H _ I h) fun us s1 ⟨vs,H1,I1,r,q⟩=>⟨I1.kIn,?_⟩) he hpl
 exact BO F hr hb hx I1 r q
end
structure Cj (K:aj) (C:Addr):Prop where
 ex:excIn K C [.type "ValueError",.type "Exception",.type "BaseException",.type "object"] "ValueError.__new__" = true
theorem Cj.obj {K:aj}{C:Addr}(c:Cj K C):∃ nm q N bs bm hdct sn sub ab col dd k0 k1 k2 k3 k5,K.lookup C=some (excClassObj nm q C N bs bm hdct sn sub ab col dd k0 k1 k2 k3 k5 "ValueError.__new__") ∧
  PySem.W.tailIn K [.type "ValueError",.type "Exception",.type "BaseException",.type "object"] bm=true∧nsOkIn K N=true∧PySem.W.nsIn K N "__init__" = some none:=by
 have q:=c.ex
 unfold excIn at q
 split at q
 ·rename_i dd cd sl ho
  split at q
  ·rename_i C' bm k0 k1 k2 k3 n k5 hm hs
   simp only [aD,beq_iff_eq,Bool.not_eq_true'] at q
   obtain ⟨⟨⟨⟨⟨rfl,rfl⟩,hdel⟩,ht⟩,hok⟩,hni⟩:=q
   obtain ⟨nm,bs,mro,ns,qn,hd,sn,sub,ab,col,del⟩:=cd
   dsimp only at hm hdel hok hni
   subst hm hdel
   have hsl:sl=#[k0,k1,k2,k3,some (.builtin "ValueError.__new__"),k5]:=by
    obtain ⟨l⟩:=sl
    simp only at hs
    rw [hs]
   subst hsl
   exact ⟨nm,qn,ns,bs,bm,hd,sn,sub,ab,col,dd,k0,k1,k2,k3,k5,ho,ht,hok,hni⟩
  ·cases q
 ·cases q
section
variable {P:Program}{w:World}{K:aj}{mg:Str→Option Value}{base:Heap}{N:List Str}{qual:Str}{scope:Scope}{f C:Addr}{cdv:Value}{A:Around}{outer:List Env}{s:Shared}{H:Hp}{E:XK}
 {x:Str}{np cpos pos:Pos}{e₀:Expr}{rest:List Expr}{t:TA}
noncomputable def xI (C:Addr) (E:XK) (t:TA):TS:=fun _ σ H=>t σ H fun vs H1=>vs.length≤aA∧E (.ref C) none H1
theorem xJ (c:Cj K C) (hm:mg x=some (.ref C))
  (ha:PA (Xe (CXE P w) P w K mg base N qual scope f cdv A outer s H E) (e₀::rest) t)
  (hg:autoParam (Gl (Xe (CXE P w) P w K mg base N qual scope f cdv A outer s H E) x) auR) (hdb:autoParam ((x == ("__debug__" : Str))=false) auD)
  (he:autoParam (starEach (e₀::rest) (Xe (CXE P w) P w K mg base N qual scope f cdv A outer s H E).env=(false,eval e₀ (Xe (CXE P w) P w K mg base N qual scope f cdv A outer s H E).env)::starEach rest (Xe (CXE P w) P w K mg base N qual scope f cdv A outer s H E).env) auR)
  (hpl:autoParam ((backTo cpos (starEach rest (Xe (CXE P w) P w K mg base N qual scope f cdv A outer s H E).env)).any (·.1)=false) auR) :
  PS (Xe (CXE P w) P w K mg base N qual scope f cdv A outer s H E) (.Raise (some (.Call (.Name x np) (e₀::rest) [] cpos)) none pos) (xI C E t):=by
 intro pins s1 σ H1 D I h
 obtain ⟨nm,q,NN,bs,bm,hdct,sn,sub,ab,col,dd,k0,k1,k2,k3,k5,lk,ht,hok,hni⟩:=c.obj
 have hbase:bm.contains (.type "BaseException")=true:=(PySem.W.tail_of_in I.kIn ht).hasType (by decide +kernel)
 have hkk:K.In s1.heap:=I.kIn
 refine wpAny_Raise_call_subT (C:=C) (nm:=nm) (q:=q) (N:=NN) (bs:=bs) (bm:=bm) (hdct:=hdct) (sn:=sn) (sub:=sub) (ab:=ab) (col:=col) (dd:=dd) (k0:=k0) (k1:=k1) (k2:=k2) (k3:=k3) (k5:=k5) (mN:=s1.heap.nsMap NN)
  F.excBase_ValueError hbase (I.ok.hd rfl) (by rw [he];show (false || (backTo cpos (starEach rest _)).any (·.1))=false;rw [hpl];rfl) (PySem.W.nsMap_none_of_in hkk hok hni) ?_
 refine Nr I hg hm ?_ hdb
 refine ⟨rfl,?_⟩
 have hargs:=ha cpos pins s1 σ H1 _ I h
 rw [he] at hargs ⊢
 refine Calls.evalArgs_plain (thn hargs fun us s2 ⟨vs,H2,I2,r,hlen,q2⟩=>?_)
 have k2':K.In s2.heap:=I2.kIn
 have keepN:s2.heap.Ns NN (s1.heap.nsMap NN):=by
  have n1:s1.heap.Ns NN (s1.heap.nsMap NN) := .of_isNs (PySem.W.isNs_of_in hkk hok)
  obtain ⟨o,es,ep,e,r1⟩:=n1
  unfold nsOkIn at hok
  split at hok
  ·rename_i c0 d0 es0 n0 sl0 ho
   have e1:=hkk _ _ ho
   rw [e] at e1
   cases e1
   exact ⟨_,es,ep,k2' _ _ ho,r1⟩
  ·cases hok
 refine ⟨rfl,by show us.length≤aA;rw [←r.length];exact hlen,k2' _ _ lk,keepN,PySem.W.tail_of_in k2' ht,fun h' ex hx=>?_⟩
 exact tL I2 hx q2
end
theorem Cx.Ok.pn {X:Cx}(ok:X.Ok) (p:List (Addr × Obj)) (E:Value→Shared→Prop):Cx.Ok { X with pn:=p,xe:=E } :=
 ⟨ok.mod,ok.kind,ok.glob,ok.blt,ok.above,ok.inj,ok.has,ok.cab,ok.hd,ok.frames,ok.stk,ok.exf,ok.bs,ok.bsz,ok.noex,ok.exfs,ok.Np,ok.frf⟩
noncomputable def ExcO (ex C:Addr):HO := .ext fun h=>∃ o vs,h.get? ex=some o∧o.cls = .ref C∧o.data = .fields vs
section
variable {X:Cx}{pins:List (Addr × Obj)}{σ:St}{H:Hp}{s:Shared}
theorem Inv.locals {h':Heap}{m':Str→Option Value}{σ':St}{t':Nat}(I:Inv X pins σ H s) (hs:aF X.env.locals s.heap h') (hn':h'.Ns X.env.locals m')
  (hl:∀ (i:Nat) (x:Str) (v:V),X.N[i]?=some x→σ'[i]?=some (some v)→Vis X.env.scope x→∃ u,RelV v u∧Look X.env h' m' x u) (len:σ'.length=σ.length):Inv X pins σ' H { s with heap:=h',toks:=t' }:=by
 have cne:=I.cne
 obtain ⟨m,⟨oL,_,_,hoL,_⟩,_⟩:=id I.loc
 refine ⟨I.ok,I.os,I.bare,⟨fun b o e n hb hx=>?_,fun b o e n hb hx=>?_,I.base.free,fun b o e hx=>?_,I.base.tups,I.base.frzs,I.base.tbls⟩,⟨_,hn',hl⟩,fun y c e=>?_,I.free,I.freeC,fun p hp=>?_,fun b ob e=>?_,len.trans I.len⟩
 ·exact (hs.2 b (Nat.ne_of_lt (Nat.lt_of_lt_of_le (az e) I.ok.above))).trans (I.base.keep b o e n hb hx)
 ·obtain ⟨sl,e1⟩:=I.base.slot b o e n hb hx
  exact ⟨sl,(hs.2 b (Nat.ne_of_lt (Nat.lt_of_lt_of_le (az e) I.ok.above))).trans e1⟩
 ·obtain ⟨o',e1⟩:=I.base.there b o e hx
  exact ⟨o',(hs.2 b (Nat.ne_of_lt (Nat.lt_of_lt_of_le (az e) I.ok.above))).trans e1⟩
 ·obtain ⟨w',z⟩:=I.cell y c e
  exact ⟨w',z.sameBut hs (cne y c e)⟩
 ·obtain ⟨e,n,ne,nf,d⟩:=I.pin p hp
  exact ⟨(hs.2 p.1 ne).trans e,n,ne,nf,d⟩
 ·refine (I.hok b ob e).stay (fun c w' hc q=>(hs.2 c ?_).trans q) (fun _ q=>q) fun _ _ q=>q
  rintro rfl
  rcases hc with rfl | hc
  ·rw [I.free] at e;cases e
  ·rw [I.free] at hc;cases hc
end
structure XTy (K:aj) (C:Addr):Prop where
 ga:findIn K (.ref C) "__getattribute__" = some (some (.builtin "BaseException.__getattribute__"))
 gn:findIn K (.ref C) "__getattr__" = some none
 cl:findIn K (.ref C) "__class__" = some (some (.builtin "object.__class__"))
 ob:mroIn K C (.type "object")=some true
 be:mroIn K C (.type "BaseException")=some true
 ic:isClsIn K C=true
section
variable {prog:Program}{w:World}{A:Around}{E:Value→Shared→Prop}{K:aj}{h:Heap}{g:Array GenState}{d:Drawn}{t:Nat}{os:OsState}{a C:Addr}{o:Obj}
theorem exc_type {M:Model}(hx:h.get? a=some o) (hc:o.cls = .ref C):Looks M h (typeOf (.ref a)) (.ref C):=hc ▸ (Looks.ld hx).andThen .now
theorem Hf {R:Result→Shared→Prop}{tp:Value}(X:K.In h) (T:XTy K C) (hx:h.get? a=some o) (hc:o.cls = .ref C) (hq:R (.ok (.ret (.ref C))) ⟨h,g,d,t,os⟩) :
  codeAny (model prog w) A (.call (.builtin "getset_descriptor.__get__") ⟨[.builtin "object.__class__",.ref a,tp],[]⟩) R ⟨h,g,d,t,os⟩:=by
 have L0:=exc_type (M:=model prog w) hx hc
 have L1:=PySem.W.looks_mroIn (M:=model prog w) X T.ob
 refine codeAny_call_builtin PySem.W.KF.slot_gs.plain PySem.W.KF.entry_gs (PySem.W.KF.slot_gs.check _ _ _ _ _ _ _ _ PySem.W.KF.type_class (PySem.W.KF.args_gs _ _ _) ?_)
 unfold Builtin.«getset_descriptor.__get__» Builtin.Getset_descriptor.descrGet
 rw [PySem.W.dga_obj]
 refine ak (ao ?_)
 unfold Builtin.Getset_descriptor.descrGetter Builtin.Getset_descriptor.descrCheckInstance Builtin.Getset_descriptor.descrNameAndClass isInstance
 simp only [PySem.W.KF.owner_class]
 repeat lk
 refine ⟨Code.quiet_builtin _ (by decide +kernel),codeAny_builtin PySem.W.KF.entry_class ?_⟩
 unfold Builtin.«object.__class__» shownTypeOf
 repeat lk
 exact hq
theorem GK {M:Model}{nameV:Value}{Q:Unit→Shared→Prop}(X:K.In h) (T:XTy K C) (hx:h.get? a=some o) (hc:o.cls = .ref C) (hq:Q () ⟨h,g,d,t,os⟩) :
  wpAny M A (checkBuiltinCall "BaseException.__getattribute__" ⟨[.ref a,nameV],[]⟩) Q E ⟨h,g,d,t,os⟩:=by
 have hk:builtinKind "BaseException.__getattribute__" = some .slot:=by decide +kernel
 have hsplit:splitId "BaseException.__getattribute__" = some ("BaseException", "__getattribute__"):=by decide +kernel
 have ha:=F.args_bexc_ga (.ref a) nameV
 have L0:=exc_type (M:=M) hx hc
 have L1:=PySem.W.looks_mroIn (M:=M) X T.be
 have L2:Looks M h (isInstance (.ref a) (.type "BaseException")) true:=L0.andThen L1
 simp only [checkBuiltinCall,hk,hsplit]
 refine ak (L2.at ?_)
 repeat (any_goals (first | assumption | wp_step))
theorem KN {tk:Tok}{Q:Fin→Shared→Prop}(X:K.In h) (T:XTy K C) (hx:h.get? a=some o) (hc:o.cls = .ref C) (hq:Q (.done (.ret (.ref C))) ⟨h,g,d,t,os⟩) :
  wpAny (model prog w) A (Builtin.«object.__getattribute__» ⟨[.ref a,.str "__class__" tk],[]⟩) Q E ⟨h,g,d,t,os⟩:=by
 have hT5:(⟨h,g,d,t,os⟩:Shared).TypeIs (.builtin "object.__class__") "getset_descriptor" := F.typeOf_object_class
 have f5:=F.typeOf_object_class
 have f6:=F.slot_gs_get.lookup
 have f7:=F.slot_gs_set.lookup
 have LC:=looks_findIn (M:=model prog w) X T.cl
 repeat (any_goals (first | assumption | (with_reducible refine wpAny_loadPart_at hx ?_;rw [hc]) | with_reducible refine Looks.at LC ?_ | wp_step))
 refine Hf X T hx hc ?_
 repeat (any_goals (first | assumption | wp_step))
theorem GL {tk:Tok}{Q:Value→Shared→Prop}(X:K.In h) (T:XTy K C) (hx:h.get? a=some o) (hc:o.cls = .ref C) (hq:Q (.ref C) ⟨h,g,d,t,os⟩) :
  wpAny (model prog w) A (getAttrBy (.ref a) (.str "__class__" tk) false) Q E ⟨h,g,d,t,os⟩:=by
 have f3:=F.attr_ValueError.ga.bind (.ref a)
 have hx2:(Value.builtin "BaseException.__getattribute__" == Value.builtin "object.__getattribute__")=false:=by decide +kernel
 have hx1:(onTheHeap (Value.ref C) && Value.builtin "BaseException.__getattribute__" == Value.builtin "object.__getattribute__")=false:=by rw [hx2];rfl
 have L1:=looks_findIn (M:=model prog w) X T.ga
 have L2:=looks_findIn (M:=model prog w) X T.gn
 repeat (any_goals (first | assumption | (with_reducible refine wpAny_loadPart_at hx ?_;rw [hc]) | with_reducible refine Looks.at L1 ?_ | with_reducible refine Looks.at L2 ?_ | wp_step))
 refine codeAny_call_builtin F.attr_ValueError.ga.plain F.entry_bexc_ga (GK X T hx hc (KN X T hx hc ?_))
 repeat (any_goals (first | assumption | wp_step))
theorem JH {Q:Option Value→Shared→Prop}(X:K.In h) (T:XTy K C) (hx:h.get? a=some o) (hc:o.cls = .ref C) (hq:Q (some (.ref C)) ⟨h,g,d,t + 1,os⟩) :
  wpAny (model prog w) A (getAttr? (.ref a) "__class__") Q E ⟨h,g,d,t,os⟩:=by
 unfold getAttr? getAttrBy?
 repeat (any_goals (first | assumption | with_reducible apply GL X T hx hc | wp_step))
end
theorem Eg {K:aj}{a C:Addr}(T:XTy K C):PySem.W.KitX K (.ref a) (.ref C) (fun h=>∃ o vs,h.get? a=some o∧o.cls = .ref C∧o.data = .fields vs) where
 ty:=fun _ _ _ ⟨o,vs,e,c,_⟩=>exc_type e c
 it:=fun _ _ X _=>by
  have hcD:=T.ic
  unfold isClsIn clsIn at hcD
  split at hcD
  ·rename_i c' d' cd' sl' ho
   intro A' Q' E' s' k q
   unfold isType loadHead
   exact ak (wpAny_loadPart (k _ _ (X _ _ ho)) (ao q))
  ·cases hcD
 ne:=fun h tp dd its n sl X htp=>by
  have hcD:=T.ic
  refine Bool.eq_false_iff.mpr fun q=>?_
  have e:C=tp:=Value.ref.inj (beq_iff_eq.mp q)
  subst e
  unfold isClsIn clsIn at hcD
  split at hcD
  ·rename_i c' d' cd' sl' ho
   have z:=(X _ _ ho).symm.trans htp
   cases z
  ·cases hcD
 ca:=fun {_ _ _ _ _ s} X ⟨o,vs,e,c,_⟩ k=>by
  obtain ⟨hh,g,d,t,os⟩:=s
  exact JH X T e c k
section
variable {X:Cx}
noncomputable def rIsiX (K:aj):List V→Hp→VK→Prop:=fun xs H Q=>∃ a C,xs[0]?=some (.ref a)∧H a=some (ExcO a C)∧XTy K C ∧
  ((∃ (c:V) (cv:Value) (b:Bool),xs=[.ref a,c]∧(∀ u,RelV c u→u=cv)∧kitOne K (.ref C) cv=some b∧Q (.bl b) H) ∨
   (∃ (tp:Addr) (cs:List Addr) (b:Bool),xs=[.ref a,.ref tp]∧H tp=some (.tup (cs.map V.ref))∧kitAny K (.ref C) (cs.map Value.ref)=some b∧Q (.bl b) H))
theorem Mt:∀ {cs:List Addr}{us:List Value},Vals (cs.map V.ref) us→us=cs.map Value.ref
 | [],_,.nil=>rfl
 | _::_,_,.cons r t=>by rw [map_cons,Mt t];rw [show _=Value.ref _ from r]
theorem zm:YW X (.builtin "isinstance") (rIsiX X.K):=by
 intro pins s σ H xs us Q I r h
 obtain ⟨a,C,_,hH,T,h⟩:=h
 obtain ⟨p,_,_⟩:=(show ZZ X.prog X.w H s.heap a (ExcO a C) from I.hok a _ hH)
 rcases h with ⟨c,cv,b,rfl,hc,e,q⟩ | ⟨tp,cs,b,rfl,hT,e,q⟩
 ·obtain ⟨u,w',rfl,r1,r2⟩:=vals2 r
  cases hc _ r2
  cases r1
  exact kia_one (Eg T) I.kIn p e (fun z=>nomatch z) fun tk=>⟨.bl b,H,I.tok tk,rfl,q⟩
 ·obtain ⟨u,w',rfl,r1,r2⟩:=vals2 r
  cases r1
  cases r2
  obtain ⟨_,its,rv,ob,ho,hcl,n,hd⟩:=(show ZZ X.prog X.w H s.heap tp (.tup (cs.map V.ref)) from I.hok tp _ hT)
  have ei:=Mt rv
  subst ei
  obtain ⟨c0,dd,dt,sl⟩:=ob
  dsimp only at hcl hd
  subst hcl hd
  exact kia_tup (Eg T) I.kIn p ho e (fun z=>nomatch z) fun tk=>⟨.bl b,H,I.tok tk,rfl,q⟩
end
theorem kit_type {K:aj}{C:Addr}{T:String}{b:Bool}(hk:PySem.W.kitMeta T=true) (hs:mroIn K C (.type T)=some b):kitOne K (.ref C) (.type T)=some b:=by
 unfold kitOne
 rw [if_neg (by simp)]
 unfold kitCls
 simp only
 rw [if_pos hk]
 exact hs
structure CZ where
 cl:List (Str × Addr)
 C:Addr
 s:Shared
 H:Hp
 fp:List Addr
abbrev Zz (X:Cx) (scope:Scope) (N:List Str) (z:CZ):Cx where
 prog:=X.prog
 w:=X.w
 K:=X.K
 mg:=X.mg
 base:=X.base
 A:=X.A
 N:=N
 s₀:=z.s
 H₀:=z.H
 env:=compEnvC scope z.cl z.C X.env
 outer:=X.stack
 stack:=X.stack
 ex:=z.fp
 fn:=fun _=>false
 calm:=X.calm
 pn:=[]
 xe:=fun _ _=>False
noncomputable def Sv (own sc:Scope) (Nc:List Str):Bool :=
 (own.kind == .function) && (own.names.all fun y=>y.2 != .cell && (y.2 != .free || sc.names.lookup y.1 == some .cell || sc.names.lookup y.1 == some .free) && (y.2 != .local || own.names.lookup y.1 == some .local)) &&
 (Nc.all fun x=>own.names.lookup x == some .free)
structure Ck (own sc:Scope) (Nc:List Str):Prop where
 kind:own.kind = .function
 nocell:∀ y∈own.names,y.2 ≠ .cell
 free:∀ y∈own.names,y.2 = .free→sc.names.lookup y.1=some .cell∨sc.names.lookup y.1=some .free
 loc:∀ y∈own.names,y.2 = .local→own.names.lookup y.1=some .local
 cap:∀ x∈Nc,own.names.lookup x=some .free
theorem HR {own sc:Scope}{Nc:List Str}(h:Sv own sc Nc=true):Ck own sc Nc:=by
 unfold Sv at h
 simp only [aD,all_eq_true,Bool.or_eq_true,bne_iff_ne,ne_eq,beq_iff_eq] at h
 obtain ⟨⟨h1,h2⟩,h3⟩:=h
 refine ⟨h1,fun y hy=>(h2 y hy).1.1,fun y hy e=>?_,fun y hy e=>?_,h3⟩
 ·rcases (h2 y hy).1.2 with (z | z) | z
  ·exact absurd e z
  ·exact .inl z
  ·exact .inr z
 ·rcases (h2 y hy).2 with z | z
  ·exact absurd e z
  ·exact z
theorem JK {scope:Scope}{env:Env}(h:∀ y∈scope.names,y.2 = .free→∃ c,env.cells.lookup y.1=some c) :
  ∃ cl,closureFor scope env=pure cl∧(∀ y∈scope.names,y.2 = .free→∃ c,cl.lookup y.1=some c)∧∀ x c,cl.lookup x=some c→env.cells.lookup x=some c:=by
 have key:∀ (l:List (Str × NameKind)) (cs:List (Str × Addr)),(∀ y∈l,y.2 = .free→∃ c,env.cells.lookup y.1=some c)→(∀ x c,cs.lookup x=some c→env.cells.lookup x=some c) →
   ∃ cl,(forIn l cs fun x r=>if (x.2 == NameKind.free)=true then do let a ← cellOf env x.1;pure (ForInStep.yield ((x.1,a)::r)) else pure (ForInStep.yield r):Sem (List (Str × Addr)))=pure cl ∧
    (∀ y∈l,y.2 = .free→∃ c,cl.lookup y.1=some c)∧(∀ x c,cs.lookup x=some c→∃ c',cl.lookup x=some c')∧∀ x c,cl.lookup x=some c→env.cells.lookup x=some c:=by
  intro l
  induction l with
  | nil=>intro cs _ hcs;exact ⟨cs,rfl,fun y hy=>(nomatch hy),fun x c e=>⟨c,e⟩,hcs⟩
  | cons y r ih =>
   intro cs hl hcs
   obtain ⟨n,k⟩:=y
   have hr:∀ y∈r,y.2 = .free→∃ c,env.cells.lookup y.1=some c:=fun y hy=>hl y (mem_cons_of_mem _ hy)
   by_cases hk:k = .free
   ·subst hk
    obtain ⟨c,hc⟩:=hl (n,.free) mem_cons_self rfl
    have hcs':∀ x c',((n,c)::cs).lookup x=some c'→env.cells.lookup x=some c':=fun x c' e=>by
     rw [lookup_cons] at e
     cases hx:x == n with
     | true=>rw [hx] at e;cases e;rw [eq_of_beq hx];exact hc
     | false=>rw [hx] at e;exact hcs x c' e
    obtain ⟨cl,e1,e2,e3,e4⟩:=ih ((n,c)::cs) hr hcs'
    refine ⟨cl,?_,?_,?_,e4⟩
    ·have hcell:cellOf env n=pure c:=by unfold cellOf;rw [hc]
     rw [forIn_cons]
     simp only [beq_self_eq_true,if_true,hcell,pure_bind]
     exact e1
    ·intro y hy ey
     rcases mem_cons.mp hy with rfl | hy
     ·exact e3 n c (by rw [lookup_cons];simp)
     ·exact e2 y hy ey
    ·intro x c' e
     cases hx:x == n with
     | true=>exact e3 x c (by rw [lookup_cons,hx])
     | false=>exact e3 x c' (by rw [lookup_cons,hx];exact e)
   ·obtain ⟨cl,e1,e2,e3,e4⟩:=ih cs hr hcs
    have hb:(k == NameKind.free)=false:=by simpa using hk
    refine ⟨cl,?_,?_,e3,e4⟩
    ·rw [forIn_cons]
     simp only [hb,Bool.false_eq_true,if_false,pure_bind]
     exact e1
    ·intro y hy ey
     rcases mem_cons.mp hy with rfl | hy
     ·exact absurd ey hk
     ·exact e2 y hy ey
 obtain ⟨cl,e1,e2,_,e4⟩:=key scope.names [] h (fun x c e=>by cases e)
 refine ⟨cl,?_,e2,e4⟩
 have e:closureFor scope env=(forIn scope.names ([]:List (Str × Addr)) (fun x r=>if (x.2 == NameKind.free)=true then do let a ← cellOf env x.1;pure (ForInStep.yield ((x.1,a)::r)) else pure (ForInStep.yield r)) >>= fun r=>pure r:Sem (List (Str × Addr))):=rfl
 rw [e,e1,pure_bind]
theorem VM {env:Env}{x:Str}:∀ {names:List (Str × NameKind)}, 
  (names.map fun (n,k)=>if (k == NameKind.free && env.scope.kind == .function && env.kindOf n == some .cell) then (n,NameKind.cell) else (n,k)).lookup x =
   (names.lookup x).map fun k=>if (k == NameKind.free && env.scope.kind == .function && env.kindOf x == some .cell) then NameKind.cell else k
 | []=>rfl
 | (n,k)::r=>by
  have ih:=@VM env x r
  show List.lookup x ((if (k == NameKind.free && env.scope.kind == .function && env.kindOf n == some .cell)=true then (n,NameKind.cell) else (n,k))::_)=_
  cases hx:x == n with
  | true =>
   have e:=eq_of_beq hx
   subst e
   by_cases hc:(k == NameKind.free && env.scope.kind == .function && env.kindOf x == some .cell)=true
   ·rw [if_pos hc,lookup_cons,lookup_cons];simp only [beq_self_eq_true,Option.map_some,hc,if_true]
   ·rw [if_neg hc,lookup_cons,lookup_cons];simp only [beq_self_eq_true,Option.map_some,if_neg hc]
  | false =>
   by_cases hc:(k == NameKind.free && env.scope.kind == .function && env.kindOf n == some .cell)=true
   ·rw [if_pos hc,lookup_cons,lookup_cons,hx];exact ih
   ·rw [if_neg hc,lookup_cons,lookup_cons,hx];exact ih
theorem GM {env:Env}{own:Scope}{x:Str}(h:own.names.lookup x=some .free):(relabel own env).names.lookup x=some .cell∨(relabel own env).names.lookup x=some .free:=by
 have e:(relabel own env).names.lookup x=_:=VM
 rw [e,h]
 by_cases hc:(NameKind.free == NameKind.free && env.scope.kind == .function && env.kindOf x == some .cell)=true
 ·left;simp only [Option.map_some,hc,if_true]
 ·right;simp only [Option.map_some,hc,if_false];rfl
theorem Eh {env:Env}{own:Scope}{x:Str}(h:(relabel own env).names.lookup x=some .cell∨(relabel own env).names.lookup x=some .free):own.names.lookup x=some .free∨own.names.lookup x=some .cell:=by
 have e:(relabel own env).names.lookup x=_:=VM
 rw [e] at h
 cases hl:own.names.lookup x with
 | none=>rw [hl] at h;simp at h
 | some k =>
  rw [hl] at h
  simp only [Option.map_some,Option.some.injEq] at h
  by_cases hc:(k == NameKind.free && env.scope.kind == .function && env.kindOf x == some .cell)=true
  ·simp only [aD,beq_iff_eq] at hc
   exact .inl (by rw [hc.1.1])
  ·rw [if_neg hc] at h
   rcases h with h | h
   ·exact .inr (by rw [h])
   ·exact .inl (by rw [h])
section
variable {X:Cx}
noncomputable def pre (n:Nat) (fr:List Nat) (σ:St):St:=replicate n none++fr.map fun j=>(σ[j]?).getD none
theorem Cm {pins:List (Addr × Obj)}{σ:St}{H:Hp}{s s':Shared}{own:Scope}{cl:List (Str × Addr)}{C D:Addr}{fp:List Addr}{ts Nc:List Str}{fr:List Nat}{m:Str→Option Value}
  (I:Inv X pins σ H s) (hf:∀ b∈fp,PU X pins H b) (hlt:∀ b∈fp,b < s.heap.objs.size) (c:Ck own X.env.scope Nc) (hc1:∀ y∈own.names,y.2 = .free→∃ c,cl.lookup y.1=some c) (hc2:∀ x c,cl.lookup x=some c→X.env.cells.lookup x=some c)
  (hN:fr.map (X.N[·]?)=Nc.map some) (hD:s.heap.objs.size≤D) (hC:s.heap.objs.size≤C) (hDC:D≠C)
  (k:∀ b o,s.heap.get? b=some o→s'.heap.get? b=some o) (ns:s'.heap.Ns C m) (nl:s'.heap.get? D=some { cls := .type "list",data := .seq #[] }) (eo:s'.os=s.os) (eg:s'.gens=s.gens) :
  Inv (Zz X own (ts++Nc) ⟨cl,C,s,H,fp⟩) [] (pre ts.length fr σ) (upd H D (.lst [])) s':=by
 have fresh:∀ {b},s.heap.objs.size≤b→H b=none:=fun h=>I.hok.fresh h
 have old:∀ {b:Addr}{o:Obj},s.heap.get? b=some o→b < s.heap.objs.size:=fun e=>az e
 have cellLt:∀ x c,X.env.cells.lookup x=some c→c < s.heap.objs.size:=fun x c e=>by
  obtain ⟨v,o,ho,_⟩:=I.cell x c e
  exact old ho
 refine ⟨⟨I.ok.mod,c.kind,I.ok.glob,I.ok.blt,hC,fun x y a h1 h2=>I.ok.inj x y a (hc2 x a h1) (hc2 y a h2),fun x hx=>?_,fun x a z _=>(by cases z),I.ok.hd,I.ok.frames,.inl rfl,fun b hb=>?_,I.bs,Nat.le_trans I.ok.bsz I.sz,fun b o e hb=>?_,fun b hb hb2=>?_,I.stack,I.Bw⟩,
  eo,by rw [eg];exact I.bare,?_,⟨m,ns,fun i x v h1 h2 h3=>?_⟩,fun x a h=>?_,?_,fun x a h=>?_,fun p hp=>absurd hp (by simp),?_,?_⟩
 ·have hx:(relabel own X.env).names.lookup x=some .cell∨(relabel own X.env).names.lookup x=some .free:=hx
  rcases Eh hx with h | h
  ·exact hc1 (x,.free) (PySem.mem_of_lookup h) rfl
  ·exact absurd rfl (c.nocell _ (PySem.mem_of_lookup h))
 ·obtain ⟨_,f1,f2,f3,f4,f5⟩:=hf b hb
  refine ⟨fun z=>?_,fun x a h=>f4 x a (hc2 x a h)⟩
  have z:b=C:=z
  subst z
  exact absurd (hlt _ hb) (Nat.not_lt.mpr hC)
 ·obtain ⟨_,f1,f2,f3,f4,f5⟩:=hf b hb
  rcases f3 with f3 | f3
  ·exact I.ok.noex b o e f3
  ·exact absurd (az (I.ok.bs b o e).1) (Nat.not_lt.mpr f3)
 ·obtain ⟨_,f1,f2,f3,f4,f5⟩:=hf b hb
  rcases mem_cons.mp (I.Gq b hb2) with z | z
  ·exact f1 z
  ·exact f2 z
 ·exact Un.laid k hD (fresh hD)
 ·by_cases hi:i < ts.length
  ·unfold pre at h2
   rw [getElem?_append_left (by simpa using hi),getElem?_replicate] at h2
   split at h2 <;> cases h2
  ·have h1:(ts++Nc)[i]?=some x:=h1
   unfold pre at h2
   rw [getElem?_append_right (by omega)] at h1
   rw [getElem?_append_right (by simpa using hi),length_replicate,getElem?_map] at h2
   have e1:(fr.map (X.N[·]?))[i - ts.length]?=some (some x):=by rw [hN,getElem?_map,h1];rfl
   rw [getElem?_map] at e1
   cases e:fr[i - ts.length]? with
   | none=>rw [e] at h2;cases h2
   | some j =>
    rw [e] at h2 e1
    simp only [Option.map_some,Option.some.injEq] at h2 e1
    have hj:σ[j]?=some (some v):=by
     cases e2:σ[j]? with
     | none=>rw [e2] at h2;cases h2
     | some w'=>rw [e2] at h2;exact congrArg some h2
    have hx:=c.cap x (mem_of_getElem? h1)
    have hv:=c.free _ (PySem.mem_of_lookup hx) rfl
    obtain ⟨m0,hns0,hl0⟩:=I.loc
    obtain ⟨u,ru,lk⟩:=hl0 j x v e1 hj (.inr hv)
    refine ⟨u,ru,.inr ⟨GM hx,?_⟩⟩
    rcases lk with ⟨lk,_⟩ | ⟨_,a,ea,ha⟩
    ·have lk:X.env.scope.names.lookup x=some .local:=lk
     rw [lk] at hv
     rcases hv with hv | hv <;> cases hv
    ·obtain ⟨a',ea'⟩:=hc1 _ (PySem.mem_of_lookup hx) rfl
     have:=hc2 x a' ea'
     rw [ea] at this
     cases this
     obtain ⟨o,ho,hd⟩:=ha
     exact ⟨a,ea',o,k _ _ ho,hd⟩
 ·obtain ⟨v,o,ho,hd⟩:=I.cell x a (hc2 x a h)
  exact ⟨v,o,k _ _ ho,hd⟩
 ·show upd H D (.lst []) C=none
  rw [Zk (Ne.symm hDC)]
  exact fresh hC
 ·have h:=hc2 x a h
  rw [Zk (Nat.ne_of_lt (Nat.lt_of_lt_of_le (cellLt x a h) hD))]
  exact I.freeC x a h
 ·exact I.hok.laid k hD ⟨Nat.zero_le _,[],0,.nil,nl⟩
 ·have:=congrArg length hN
  simp only [length_map] at this
  unfold pre
  simp only [length_append,length_replicate,length_map,this]
theorem comp_back {pins:List (Addr × Obj)}{σ σ':St}{H H':Hp}{s s':Shared}{own:Scope}{cl:List (Str × Addr)}{C:Addr}{fp:List Addr}{N:List Str}{pl:List (Addr × Obj)}
  (I:Inv X pins σ H s) (hf:∀ b∈fp,PU X pins H b) (J:Inv (Zz X own N ⟨cl,C,s,H,fp⟩) pl σ' H' s'):Inv X pins σ H' s' :=
 I.call' (ch:=fp) J.os J.base J.hok J.bare fun b hb=>let ⟨_,f1,_,f3,f4,f5⟩:=hf b hb;⟨f3,f1,f4,f5⟩
theorem JL {pins:List (Addr × Obj)}{σ σ2:St}{H H':Hp}{s s':Shared}{C:Addr}{h':Heap}
  (I:Inv X pins σ H s) (hC:s.heap.objs.size≤C) (J:Inv X pins σ2 H' s') (hn:H' C=none) (k:∀ b o,b≠C→s'.heap.get? b=some o→h'.get? b=some o):Inv X pins σ2 H' { s' with heap:=h' }:=by
 refine J.turned (t':=s'.toks) k hn (Nat.ne_of_gt (Nat.lt_of_lt_of_le I.lt hC)) (.inr (Nat.le_trans I.sz hC)) (fun x c e z=>?_) (fun p hp z=>?_)
 ·obtain ⟨v,o,ho,_⟩:=I.cell x c e
  exact absurd (az ho) (Nat.not_lt.mpr (z ▸ hC))
 ·exact absurd (az (I.pin p hp).1) (Nat.not_lt.mpr (z ▸ hC))
noncomputable def PIf (X:Cx) (ifs:List Expr) (t:TT):Prop :=
 ∀ (pins:List (Addr × Obj)) (s:Shared) (σ:St) (H:Hp) (Q:Bool→Hp→Prop),Inv X pins σ H s→t σ H Q →
  wpAny (model X.prog X.w) X.A (forIn ifs true fun c r=>if r=true then do let ok ← isTrue c X.env (eval c X.env);pure (ForInStep.yield ok) else pure (ForInStep.yield r)) (TP X pins σ Q) X.xe s
noncomputable def tYes:TT:=fun _ H Q=>Q true H
theorem oU:PIf X [] tYes:=fun pins s σ H Q I h=>wpAny_tests_nil ⟨H,I,h⟩
theorem oV {c:Expr}{tc:TT}(h:PT X c tc):PIf X [c] tc:=fun pins s σ H Q I q=>wpAny_tests_one (h pins s σ H Q I q)
end
section
variable {prog:Program}{w:World}{A:Around}{R:Result→Shared→Prop}{s:Shared}
theorem zo {elt target iter:Expr}{ifs:List Expr}{scope:Scope}{pos:Pos}{it acc:Value}{env:Env}(I:Nat→Shared→Prop)
  (turn:∀ n s,I n s→wpAny (model prog w) A (pyNext it) (fun r s₁=>match r with
   | none=>R (.ok .next) s₁
   | some v=>wpAny (model prog w) A (letOwnedTupleGo target it v) (fun _ s₁=>wpAny (model prog w) A (assign target env v) (fun _ s₂ =>
     wpAny (model prog w) A (forIn ifs true fun c r=>if r=true then do let ok ← isTrue c env (eval c env);pure (ForInStep.yield ok) else pure (ForInStep.yield r)) (fun ok s₃ =>
      if ok=true then wpAny (model prog w) A (eval elt env) (fun x s₄ =>
       wpAny (model prog w) A (call (.builtin "list.append") [acc,x]) (fun _ s₅=>∃ m,m < n∧I m s₅) (fun _ _=>False) s₄) (fun _ _=>False) s₃
      else ∃ m,m < n∧I m s₃) (fun _ _=>False) s₂) (fun _ _=>False) s₁) (fun _ _=>False) s₁) (fun _ _=>False) s)
  (n:Nat) (h:I n s) :
  codeAny (model prog w) A (.compLoop (.ListComp elt [⟨target,iter,ifs,0⟩] scope pos) 0 it acc env) R s:=by
 refine codeAny_loop rfl I (fun n s hI=>?_) n h
 show wpAny _ A ((compTurn (.ListComp elt [⟨target,iter,ifs,0⟩] scope pos) 0 it acc env).onRaise (fun x=>do noteFrame x env;theTreesLotGoes x)) _ _ s
 refine wpAny_noted ?_
 rw [compTurn_list]
 refine ak (wpAny_standAt (ak (wpAny_mono (turn n s hI) (fun r s₁ h₁=>?_) fun _ _ h'=>h'.elim)))
 cases r with
 | none=>exact ao h₁
 | some v =>
  refine ak (wpAny_mono h₁ (fun _ s₁ h₁=>?_) fun _ _ h'=>h'.elim)
  refine ak (wpAny_mono h₁ (fun _ s₂ h₂=>ak (wpAny_mono h₂ (fun ok s₃ h₃=>?_) fun _ _ h'=>h'.elim)) fun _ _ h'=>h'.elim)
  cases ok with
  | false=>exact ao ⟨rfl,h₃⟩
  | true =>
   exact ak (ak (wpAny_mono h₃ (fun x s₄ h₄=>ak (wpAny_mono h₄ (fun _ s₅ h₅=>ao (ao ⟨rfl,h₅⟩)) fun _ _ h'=>h'.elim)) fun _ _ h'=>h'.elim))
end
section
variable {X:Cx}
noncomputable def Cp (J:It) (g:TG) (tf:TT) (te:TE) (D:Addr) (σ:St) (H:Hp) (Q:Hp→Prop):Prop :=
 ∃ W:Nat→Nat→St→Hp→Prop,(∃ m,W 0 m σ H)∧∀ i m σ H,W i m σ H →
  (J.stop i H∧Q H)∨(J.go i H∧∃ N:St→Hp→Prop,(∀ σ' H',N σ' H'→∃ m',m' < m∧W (i + 1) m' σ' H')∧∀ x H',J.yld i H x H'→g x σ H' fun σ2 H2=>tf σ2 H2 fun b H3 =>
   if b=true then te σ2 H3 fun y H4=>∃ ys,H4 D=some (.lst ys)∧ys.length < aA∧N σ2 (upd H4 D (.lst (ys++[y]))) else N σ2 H3)
noncomputable def xK (n:Nat) (fr:List Nat) (wi:TI) (g:TG) (tf:TT) (te:TE):TE:=fun σ H Q=>wi σ H fun J H1=>∀ D,H1 D=none→Cp J g tf te D (pre n fr σ) (upd H1 D (.lst [])) fun H2=>Q (.ref D) H2
theorem zq {own:Scope}{N:List Str}{z:CZ}{elt tg iter:Expr}{ifs:List Expr}{sc:Scope}{pos:Pos}{g:TG}{tf:TT}{te:TE}{J:It}{it D:Addr}{tn:Nat→Heap→Prop}{σ:St}{H:Hp}{s:Shared}{Q:Hp→Prop}{R:Result→Shared→Prop}
  (hg:PG (Zz X own N z) tg g) (hf:PIf (Zz X own N z) ifs tf) (he:PE (Zz X own N z) elt te) (hc:X.calm=true) (T:Turn X.prog X.w X.K tg J z.fp it tn) (fo:∀ H':Hp,(∀ b∈z.fp,H' b=none)→∀ b∈z.fp,PU (Zz X own N z) [] H' b)
  (I:Inv (Zz X own N z) [] σ H s) (st:tn 0 s.heap) (fr:∀ b∈z.fp,H b=none) (h:Cp J g tf te D σ H Q) (hR:∀ σ' H' s',Inv (Zz X own N z) [] σ' H' s'→Q H'→R (.ok .next) s') :
  codeAny (model X.prog X.w) X.A (.compLoop (.ListComp elt [⟨tg,iter,ifs,0⟩] sc pos) 0 (.ref it) (.ref D) (compEnvC own z.cl z.C X.env)) R s:=by
 obtain ⟨W,⟨m0,w0⟩,turn⟩:=h
 refine zo (fun n s'=>∃ i σ' H',Inv (Zz X own N z) [] σ' H' s'∧tn i s'.heap∧(∀ b∈z.fp,H' b=none)∧W i n σ' H') ?_ m0 ⟨0,σ,H,I,st,fr,w0⟩
 rintro n s3 ⟨i,σ3,H3,I3,st3,fr3,w3⟩
 rcases turn i n σ3 H3 w3 with ⟨stop,qn⟩ | ⟨go,Nx,hN,step⟩
 ·refine thn (T.done (Zz X own N z) rfl rfl rfl hc i [] s3 σ3 H3 _ I3 (fo H3 fr3) st3 stop) fun r s4 ⟨hr,I4⟩=>?_
  subst hr
  exact hR σ3 H3 s4 I4 qn
 ·refine thn (T.item (Zz X own N z) rfl rfl rfl hc i [] s3 σ3 H3 _ I3 (fo H3 fr3) st3 go) fun r s4 ⟨u,hr,h4⟩=>?_
  subst hr
  refine thn h4 fun _ s5 ⟨x,H5,I5,r5,y5,st5,fr5⟩=>?_
  have I5':=I5.pinned (fo H5 fr5) (T.obj _ _ st5)
  refine thn (hg _ s5 σ3 H5 x u _ I5' r5 (step x H5 y5)) fun _ s6 ⟨σ6,H6,I6,q6⟩=>?_
  have again:∀ {σ7:St}{H7:Hp}{s7:Shared},Inv (Zz X own N z) ([]++Jz z.fp s5.heap) σ7 H7 s7→Nx σ7 H7→∃ m,m < n∧∃ i σ' H',Inv (Zz X own N z) [] σ' H' s7∧tn i s7.heap∧(∀ b∈z.fp,H' b=none)∧W i m σ' H':=fun {σ7 H7 s7} I7 n7=>by
   obtain ⟨m',hm,w7⟩:=hN σ7 H7 n7
   refine ⟨m',hm,i + 1,σ7,H7,I7.Nu,T.keep _ _ _ st5 fun b hb o e=>(I7.pin (b,o) (mem_append_right _ (mem_append_right _ (Ss hb e)))).1,fun b hb=>?_,w7⟩
   obtain ⟨o,e,d⟩:=T.obj _ _ st5 b hb
   exact (I7.pin (b,o) (mem_append_right _ (mem_append_right _ (Ss hb e)))).2.1
  refine thn (hf _ s6 σ6 H6 _ I6 q6) fun b s7 ⟨H7,I7,q7⟩=>?_
  cases b with
  | false=>exact again I7 q7
  | true =>
   refine thn (he _ s7 σ6 H7 _ I7 q7) fun y s8 ⟨yv,H8,I8,r8,ys,e8,z8,n8⟩=>?_
   exact thn (HN _ s8 σ6 H8 (.ref D) [yv] (.ref D) [y] (fun _ H'=>Nx σ6 H') I8 rfl (.cons r8 .nil) ⟨D,ys,yv,rfl,rfl,e8,z8,n8⟩) fun _ s9 ⟨_,H9,I9,_,q9⟩=>again I9 q9
theorem HS {elt tg iter:Expr}{ifs:List Expr}{own sc:Scope}{pos:Pos}{ts Nc:List Str}{fr:List Nat}{g:TG}{tf:TT}{te:TE}{J:It}{it:Addr}{fp:List Addr}{tn:Nat→Heap→Prop}{cl:List (Str × Addr)}
  {pins:List (Addr × Obj)}{σ:St}{H:Hp}{s:Shared}{Q:Addr→Hp→Prop}{RR:Value→Addr→Result→Shared→Prop}{E:Value→Shared→Prop}
  (hg:∀ z,PG (Zz X own (ts++Nc) z) tg g) (hf:∀ z,PIf (Zz X own (ts++Nc) z) ifs tf) (he:∀ z,PE (Zz X own (ts++Nc) z) elt te) (hc:X.calm=true) (c:Ck own X.env.scope Nc) (hN:fr.map (X.N[·]?)=Nc.map some)
  (hc1:∀ y∈own.names,y.2 = .free→∃ c,cl.lookup y.1=some c) (hc2:∀ x c,cl.lookup x=some c→X.env.cells.lookup x=some c)
  (I:Inv X pins σ H s) (T:Turn X.prog X.w X.K tg J fp it tn) (st:tn 0 s.heap) (fo:∀ b∈fp,PU X pins H b)
  (h:∀ D,H D=none→Cp J g tf te D (pre ts.length fr σ) (upd H D (.lst [])) (Q D))
  (hR:∀ D C σ' H' s',s.heap.objs.size≤C→Inv (Zz X own (ts++Nc) ⟨cl,C,s,H,fp⟩) [] σ' H' s'→Q D H'→RR (.ref D) C (.ok .next) s') :
  wpAny (model X.prog X.w) X.A (newList []) (fun acc s₃=>wpAny (model X.prog X.w) X.A (newFunctionEnv own X.env.globals cl [] X.env.qual none .none (some X.env)) (fun cenv s₄ =>
   codeAny (model X.prog X.w) X.A (.compStart (.ListComp elt [⟨tg,iter,ifs,0⟩] sc pos) 0 (.ref it) acc { cenv with scope:=relabel own X.env }) (RR acc cenv.locals) s₄) E s₃) E s:=by
 refine wpAny_newObj_type (wpAny_newFunctionEnv c.nocell (by intro y hy;simp at hy) (fun h₁ hns₁ hsb₁=>?_) c.kind)
 dsimp only at hns₁ hsb₁ ⊢
 have hlt:∀ b∈fp,b < s.heap.objs.size:=fun b hb=>let ⟨o,e,_⟩:=T.obj 0 _ st b hb;az e
 generalize hH2:s.heap.push { cls := .type "list",dict:=none,data := .seq ([]:List Value).toArray }=H2 at hns₁ hsb₁ ⊢
 have hC:H2.objs.size=s.heap.objs.size + 1:=by rw [←hH2,Heap.size_push]
 have hDC:s.heap.objs.size≠H2.objs.size:=by rw [hC];exact Nat.ne_of_lt (Nat.lt_succ_self _)
 have hCle:s.heap.objs.size≤H2.objs.size:=by rw [hC];exact Nat.le_succ _
 have below:∀ b,b < s.heap.objs.size→b≠H2.objs.size:=fun b hb=>by rw [hC];exact Nat.ne_of_lt (Nat.lt_succ_of_lt hb)
 have old:∀ b o,s.heap.get? b=some o→h₁.get? b=some o:=fun b o e=>hsb₁.extBut b o (below b (az e)) (aq _ (hH2 ▸ aq _ e))
 have hacc:h₁.get? s.heap.objs.size=some { cls := .type "list",data := .seq #[] }:=hsb₁.extBut _ _ hDC (aq _ (hH2 ▸ au _ rfl))
 have st1:tn 0 h₁:=T.keep _ _ _ st fun b _ o e=>old b o e
 have hD0:H s.heap.objs.size=none:=I.fresh
 have I1:Inv (Zz X own (ts++Nc) ⟨cl,H2.objs.size,s,H,fp⟩) [] (pre ts.length fr σ) (upd H s.heap.objs.size (.lst [])) { s with heap:=h₁,toks:=s.toks + ([]:List (Str × Value)).length } :=
  Cm I fo hlt c hc1 hc2 hN (Nat.le_refl _) hCle hDC old hns₁ hacc rfl rfl
 have fo':∀ H':Hp,(∀ b∈fp,H' b=none)→∀ b∈fp,PU (Zz X own (ts++Nc) ⟨cl,H2.objs.size,s,H,fp⟩) [] H' b:=fun H' hn b hb=>by
  obtain ⟨_,f1,f2,f3,f4,f5⟩:=fo b hb
  refine ⟨hn b hb,below b (hlt b hb),fun z=>?_,.inl hb,fun x a e=>f4 x a (hc2 x a e),fun p hp=>absurd hp (by simp)⟩
  rcases mem_cons.mp (I.Gq b z) with z | z
  ·exact f1 z
  ·exact f2 z
 have fr1:∀ b∈fp,upd H s.heap.objs.size (.lst []) b=none:=fun b hb=>by
  rw [Zk (Nat.ne_of_lt (hlt b hb))]
  exact (fo b hb).1
 have loop:=zq (z:=⟨cl,H2.objs.size,s,H,fp⟩) (pos:=pos) (sc:=sc) (iter:=iter) (R:=RR (.ref s.heap.objs.size) H2.objs.size) (hg _) (hf _) (he _) hc T fo' I1 st1 fr1 (h _ hD0) fun σ' H' s' J' q=>hR _ _ σ' H' s' hCle J' q
 exact codeAny_compStart_list loop (T.self _ 0 _ _ _ st1 loop)
theorem tM {elt tg iter:Expr}{ifs:List Expr}{own:Scope}{pos:Pos}(ts Nc:List Str) (fr:List Nat) {wi:TI}{g:TG}{tf:TT}{te:TE}(hi:PI X tg iter wi)
  (hg:∀ z,PG (Zz X own (ts++Nc) z) tg g) (hf:∀ z,PIf (Zz X own (ts++Nc) z) ifs tf) (he:∀ z,PE (Zz X own (ts++Nc) z) elt te) (hc:autoParam (X.calm=true) auR) (c:autoParam (Sv own X.env.scope Nc=true) auR) (hN:autoParam (fr.map (X.N[·]?)=Nc.map some) auR)
  (hs:∀ x,foldedSetIterable iter X.env x=pure x:=by intro _;rfl):PE X (.ListComp elt [⟨tg,iter,ifs,0⟩] own pos) (xK ts.length fr wi g tf te):=by
 have c:=HR c
 intro pins s σ H Q I h
 obtain ⟨cl,e0,hc1,hc2⟩:=JK (scope:=own) (env:=X.env) fun y hy e=>I.ok.has y.1 (c.free y hy e)
 rw [eval_ListComp]
 refine wpAny_comprehension_free (use:=none) rfl hs e0 c.kind c.loc (thn (hi pins s σ H _ I h) fun xv s₁ h₁=>thn h₁ fun itv s₂ h₂=>?_)
 obtain ⟨it,fp,tn,J,H2,e,I2,T,st2,f2,q⟩:=h₂
 subst e
 refine HS (RR:=fun acc C=>compPost (model X.prog X.w) X.A X.xe none (EP X pins σ Q) acc C) (Q:=fun D H'=>Q (.ref D) H') hg hf he hc c hN hc1 hc2 I2 T st2 f2 q ?_
 intro D C σ' H' s' hC J' q'
 obtain ⟨m,hns,_⟩:=J'.loc
 refine ⟨m,hns,fun h' sb=>⟨.ref D,H',JL I2 hC (comp_back I2 f2 J') J'.free fun b o hb e=>sb.extBut b o hb e,rfl,q'⟩⟩
theorem tN {i:Nat}{x:Str}{px spos:Pos}{elt tg iter:Expr}{ifs:List Expr}{own:Scope}{pos:Pos}(ts Nc:List Str) (fr:List Nat) {wi:TI}{g:TG}{tf:TT}{te:TE}(hnd:X.N.Nodup) (hi:X.N[i]?=some x) (hx:Loc X.env.scope x)
  (hit:PI X tg iter wi) (hg:∀ z,PG (Zz X own (ts++Nc) z) tg g) (hf:∀ z,PIf (Zz X own (ts++Nc) z) ifs tf) (he:∀ z,PE (Zz X own (ts++Nc) z) elt te) (hsw:autoParam (swapsWith (.ListComp elt [⟨tg,iter,ifs,0⟩] own pos) (some (.Name x px)) spos.line X.env=pure true) auR)
  (hc:autoParam (X.calm=true) auR) (c:autoParam (Sv own X.env.scope Nc=true) auR) (hN:autoParam (fr.map (X.N[·]?)=Nc.map some) auR)
  (hs:∀ x,foldedSetIterable iter X.env x=pure x:=by intro _;rfl) (hfn:X.fn x=true∨X.env.scope.names.lookup x=some .local:=by first | exact .inl rfl | exact .inr rfl | assumption) :
  PS X (.Assign [.Name x px] (.ListComp elt [⟨tg,iter,ifs,0⟩] own pos) spos) (Gs (xK ts.length fr wi g tf te) (Jy i)):=by
 have c:=HR c
 intro pins s σ H D0 I h
 obtain ⟨cl,e0,hc1,hc2⟩:=JK (scope:=own) (env:=X.env) fun y hy e=>I.ok.has y.1 (c.free y hy e)
 rw [exec_Assign_Name_used _ _ _ _ hsw]
 refine ak (wpAny_standAt (ak ?_))
 show wpAny _ _ (do let _ ← comprehension (.ListComp elt [⟨tg,iter,ifs,0⟩] own pos) own X.env _ (newList []) false (eval iter X.env) (some (assign (.Name x px) X.env))) _ _ s
 refine ak (wpAny_mono (wpAny_comprehension_free (use:=some (assign (.Name x px) X.env)) (Q:=fun _ s'=>SP X pins D0 .next s') rfl hs e0 c.kind c.loc
  (thn (hit pins s σ H _ I h) fun xv s₁ h₁=>thn h₁ fun itv s₂ h₂=>?_)) (fun _ s' hq=>ao (ao hq)) fun _ _ e=>e)
 obtain ⟨it,fp,tn,J,H2,e,I2,T,st2,f2,q⟩:=h₂
 subst e
 refine HS (RR:=fun acc C=>compPost (model X.prog X.w) X.A X.xe (some (assign (.Name x px) X.env)) (fun _ s'=>SP X pins D0 .next s') acc C) (Q:=fun D H'=>D0.nx (σ.set i (some (.ref D))) H') hg hf he hc c hN hc1 hc2 I2 T st2 f2 q ?_
 intro D C σ' H' s' hC J' q'
 show wpAny _ _ (assign (.Name x px) X.env (.ref D)) _ _ _
 have I3:=comp_back I2 f2 J'
 refine wpAny_assign_Name (HH I3 hnd hi hx (v := .ref D) rfl (fun s4 I4 ⟨a,sb4,ha⟩=>?_) hfn)
 obtain ⟨m,hns,_⟩:=J'.loc
 have hCa:C≠a:=by
  rcases ha with rfl | ha
  ·exact Nat.ne_of_gt (Nat.lt_of_lt_of_le I2.lt hC)
  ·obtain ⟨v,o,ho,_⟩:=I2.cell x a ha
   exact Nat.ne_of_gt (Nat.lt_of_lt_of_le (az ho) hC)
 refine ⟨m,hns.sameBut sb4 hCa,fun h' sb=>⟨_,H',JL I2 hC I4 J'.free fun b o hb e=>sb.extBut b o hb e,q'⟩⟩
end
noncomputable def Its (x:Str):It:=⟨fun i _=>i < x.cps.size,fun i H v H'=>H'=H∧∃ c,x.cps[i]?=some c∧v = .str ⟨#[c]⟩,fun i _=>x.cps.size≤i⟩
theorem xM {P:Program}{w:World}{K:aj}{tg:Expr}(x:Str) (t:Tok) (it:Addr) (n:String) (hn:n = "str_ascii_iterator" ∨ n = "str_iterator"):Turn P w K tg (Its x) [it] it (fun i h=>h.IsStrIter it n x t i) where
 mem:=by simp
 obj:=fun i h st b hb=>by
  have e:b=it:=by simpa using hb
  subst e
  obtain ⟨o,e,c,d⟩:=st
  exact ⟨o,e,fun v z=>by rw [d] at z;cases z⟩
 keep:=fun i h h' st k=>let ⟨o,ho,r⟩:=st;⟨o,k it (by simp) o ho,r⟩
 item:=by
  intro X hP hw hK hc i pins s σ H E I hf st hg
  subst hP hw hK
  obtain ⟨f0,f1,f2,f3,f4,f5⟩:=hf it (by simp)
  have hi:i < x.cps.size:=hg
  have hx:x.cps[i]?=some x.cps[i]:=Array.getElem?_eq_getElem hi
  have fin:∀ h',h'.IsStrIter it n x t (i + 1)→aF it s.heap h'→∃ u,some (Value.str ⟨#[x.cps[i]]⟩ s.toks)=some u∧wpAny (model X.prog X.w) X.A (letOwnedTupleGo tg (.ref it) u)
    (fun _ s2=>∃ y H',Inv X pins σ H' s2∧RelV y u∧(Its x).yld i H y H'∧s2.heap.IsStrIter it n x t (i + 1)∧∀ b∈[it],H' b=none) E { s with heap:=h',toks:=s.toks + 1 }:=fun h' st' sb=>by
   have I1:Inv X pins σ H { s with heap:=h',toks:=s.toks + 1 }:=I.turned (fun b o hb e=>(sb.2 b hb).trans e) f0 f1 f3 f4 f5
   obtain ⟨o,e,c,d⟩:=id st'
   exact ⟨_,rfl,Bz (s:={ s with heap:=h',toks:=s.toks + 1 }) e c d (by rcases hn with rfl | rfl <;> decide) ⟨.str ⟨#[x.cps[i]]⟩,H,I1,⟨_,rfl⟩,⟨rfl,_,hx,rfl⟩,st',fun b hb=>(hf b hb).1⟩⟩
  rcases hn with rfl | rfl
  ·exact wpAny_pyNext_ascii_item st hx fun h' st' sb=>fin h' st' sb
  ·exact wpAny_pyNext_wide_item st hx fun h' st' sb=>fin h' st' sb
 done:=by
  intro X hP hw hK hc i pins s σ H E I hf st hg
  subst hP hw hK
  obtain ⟨f0,f1,f2,f3,f4,f5⟩:=hf it (by simp)
  have hx:x.cps[i]?=none:=by simpa using show x.cps.size≤i from hg
  rcases hn with rfl | rfl
  ·exact wpAny_pyNext_ascii_end (I.ok.hd hc) st hx fun h' eb=>⟨rfl,I.turned (t':=s.toks) (fun b o hb e=>eb b o hb e) f0 f1 f3 f4 f5⟩
  ·exact wpAny_pyNext_wide_end (I.ok.hd hc) st hx fun h' eb=>⟨rfl,I.turned (t':=s.toks) (fun b o hb e=>eb b o hb e) f0 f1 f3 f4 f5⟩
 self:=fun _ _ _ _ _ st h=>by
  rcases hn with rfl | rfl
  ·exact wpAny_pyIter_striter_ascii st h
  ·exact wpAny_pyIter_striter_wide st h
section
variable {X:Cx}{tg:Expr}
noncomputable def iStr (tl:TE):TI:=fun σ H R=>tl σ H fun x H1=>∃ y,x = .str y∧R (Its y) H1
theorem oW {l:Expr}{tl:TE}(hl:PE X l tl):PI X tg l (iStr tl):=by
 intro pins s σ H R I h
 refine thn (hl pins s σ H _ I h) fun v s1 ⟨x,H1,I1,r1,y,e,q⟩=>?_
 subst e
 obtain ⟨t,rfl⟩:=r1
 have fin:∀ n:String,(n = "str_ascii_iterator" ∨ n = "str_iterator")→PIE X pins σ tg R (.ref s1.heap.objs.size) { s1 with heap:=s1.heap.push { cls := .type n,data := .fields #[.str y t,.int 0 0] } }:=fun n hn=>by
  refine ⟨_,[s1.heap.objs.size],_,_,H1,rfl,I1.kept (t':=s1.toks) fun b o e=>aq _ e,xM y t _ n hn,⟨_,au _ rfl,rfl,rfl⟩,fun b hb=>?_,q⟩
  have z:b=s1.heap.objs.size:=by simpa using hb
  subst z
  exact I1.Gv (Nat.le_refl _) (I1.hok.fresh (Nat.le_refl _))
 cases ha:y.cps.all (· < 128)
 ·exact wpAny_pyIter_wide ha (fin _ (.inr rfl))
 ·exact wpAny_pyIter_ascii ha (fin _ (.inl rfl))
end
noncomputable def SameB (H H':Hp):Prop:=∀ b o,H b=some o→(∀ zs,o ≠ .lst zs)→H' b=some o
theorem Zv.b {H H':Hp}(e:Zv H H'):SameB H H':=fun b o q _=>e b o q
section
variable {X:Cx}
theorem oX {bs:List Bool}:∀ {us:List Value},Vals (bs.map V.bl) us→∀ i,i < bs.length→us[i]?=some (.bool (bs.getD i false)):=by
 induction bs with
 | nil=>intro us _ i hi;simp at hi
 | cons b r ih =>
  intro us h i hi
  cases h with
  | cons h1 h2 =>
   cases h1
   cases i with
   | zero=>rfl
   | succ j=>simpa using ih h2 j (by simpa using hi)
theorem all_range (bs:List Bool):(List.range bs.length).all (fun i=>bs.getD i false)=bs.all id:=by
 induction bs with
 | nil=>rfl
 | cons b r ih =>
  rw [length_cons,List.range_succ_eq_map,all_cons,all_map,all_cons,←ih]
  rfl
theorem xN (hc:X.calm=true):YW X (.builtin "all") (fun xs H Q=>∃ p,∃ bs:List Bool,xs=[.ref p]∧SqL X.K H p (bs.map V.bl)∧Q (.bl (bs.all id)) H):=by
 intro pins s σ H xs us Q I r h
 obtain ⟨p,bs,rfl,hq,q⟩:=h
 obtain ⟨u,rfl,ru⟩:=vals1 r
 cases ru
 obtain ⟨its,rv,pl,hz⟩:=I.list hq
 have hlen:=rv.length
 rw [length_map] at hlen
 refine call_all_walk (wpAny_pyIter_list pl.isList ?_)
 have hne:p≠s.heap.objs.size:=by
  obtain ⟨o,_,e,_⟩:=pl
  exact Nat.ne_of_lt (az e)
 have hl2:(s.heap.push { cls := .type "list_iterator",data := .fields #[.ref p,.int 0 0] }).IsList p its.toArray:=pl.isList.at fun o e=>aq _ e
 refine ⟨_,_,_,_,_,_,fun i=>bs.getD i false,rfl,Walks.list (A:=X.A.in1) (show X.A.in1.handled=none from I.ok.hd hc) s.heap.objs.size p hne its.toArray,⟨⟨_,au _ rfl,rfl,rfl⟩,hl2⟩,?_,?_⟩
 ·intro i v s' Q' E' hv hQ
  have hi:i < bs.length:=by
   have:=(Array.getElem?_eq_some_iff.mp hv).1
   simp only [size_toArray] at this
   omega
  have e:=oX rv i hi
  rw [show its.toArray[i]?=its[i]? by simp,e] at hv
  cases hv
  exact wpAny_truthy_bool hQ
 ·intro h' tk k
  have I':Inv X pins σ H { s with heap:=h',toks:=tk }:=I.kept fun b o e=>k b o (by simpa using Nat.ne_of_lt (az e)) (aq _ e)
  refine ⟨.bl _,H,I',rfl,?_⟩
  rw [size_toArray,←hlen,all_range]
  exact q
theorem Cq {ys:List Str}:∀ {us:List Value},Vals (ys.map V.str) us→StrsAre us ys:=by
 induction ys with
 | nil=>intro us h;cases h;exact .nil
 | cons y r ih =>
  intro us h
  cases h with
  | cons h1 h2 =>
   obtain ⟨t,rfl⟩:=h1
   exact .cons _ _ (ih h2)
theorem tP:MtR X "str.join" (fun x xs H Q=>∃ sep p,∃ ys:List Str,x = .str sep∧xs=[.ref p]∧SqL X.K H p (ys.map V.str)∧(ys.map (·.length)).sum + ys.length * sep.length≤16777216∧Q (.str (Txt.join sep ys)) H):=by
 intro pins s σ H x xs v us Q I rx r h
 obtain ⟨sep,p,ys,rfl,rfl,hq,hok,q⟩:=h
 obtain ⟨t,rfl⟩:=rx
 obtain ⟨u,rfl,ru⟩:=vals1 r
 cases ru
 obtain ⟨its,rv,pl,hz⟩:=I.list hq
 exact join_list pl.isList (by simpa using Cq rv) hok fun t' k=>⟨.str _,H,I.tok k,⟨t',rfl⟩,q⟩
theorem oY:SlR X (fun x lo hi H Q=>∃ y,x = .str y∧y.length≤aA∧Q (.str (Txt.slice y lo hi)) H):=by
 intro pins s σ H x v vl vu lo hi sl Q I rx hs pl pu h
 obtain ⟨y,rfl,hz,q⟩:=h
 obtain ⟨t,rfl⟩:=rx
 refine ⟨"str",_,F.slot_str_getitem.lookup,typeIs_str _ _ _,?_⟩
 have fin:∀ t' k,EP X pins σ Q (.str (Txt.slice y lo hi) t') { s with toks:=k }:=fun t' k=>⟨.str _,H,I.tok k,⟨t',rfl⟩,q⟩
 cases pl with
 | none =>
  cases pu with
  | none=>exact wpAny_getItem_str_slice (l:=none) (u:=none) (st:=none) hs rfl (post_val_or_str ⟨Nat.le_trans (Txt.slice_le y _ _) hz,fin⟩)
  | int j uj=>exact wpAny_getItem_str_slice (l:=none) (u:=some (j,uj)) (st:=none) hs rfl (post_val_or_str ⟨Nat.le_trans (Txt.slice_le y _ _) hz,fin⟩)
 | int i ui =>
  cases pu with
  | none=>exact wpAny_getItem_str_slice (l:=some (i,ui)) (u:=none) (st:=none) hs rfl (post_val_or_str ⟨Nat.le_trans (Txt.slice_le y _ _) hz,fin⟩)
  | int j uj=>exact wpAny_getItem_str_slice (l:=some (i,ui)) (u:=some (j,uj)) (st:=none) hs rfl (post_val_or_str ⟨Nat.le_trans (Txt.slice_le y _ _) hz,fin⟩)
end
noncomputable def noStar:Expr→Bool
 | .Starred ..=>false
 | _=>true
noncomputable def ZS:List Expr→Bool
 | []=>true
 | e::es=>noStar e && ZS es
theorem Sw {e:Expr}{es:List Expr}{env:Env}(h:noStar e=true):starEach (e::es) env=(false,eval e env)::starEach es env:=by
 cases e <;> first | rfl | cases h
theorem Tq {env:Env}:∀ {es:List Expr},ZS es=true→∀ pos,(backTo pos (starEach es env)).any (·.1)=false
 | [],_,_=>rfl
 | e::es,h,pos=>by
  unfold ZS at h
  rw [aD] at h
  rw [Sw h.1]
  show (false || (backTo pos (starEach es env)).any (·.1))=false
  rw [Tq h.2 pos]
  rfl
section
variable {X:Cx}{CX:CXT}{k:Nat}{f:Addr}{fd:FuncData}{ps:List Str}{sp:Sp}{dvs:List V}{ds:List Value}{E:XK}{x:Str}{p pos apos:Pos}{e o:Expr}{es:List Expr}{te to:TE}{t:TA}{id T:String}{r:List V→Hp→VK→Prop}
theorem Ei (ha:PE X e te) (hr:PA X es t) (h:autoParam (noStar e=true) auR):PA X (e::es) (qA te t):=uZ ha hr (Sw h)
theorem pe_b (hc:YW X (.builtin id) r) (hg:Gl X x) (hm:X.mg x=none) (hv:bootBuiltins x=some (.builtin id)) (ha:PA X (e::es) t) (hst:autoParam (ZS (e::es)=true) auR) (hn:autoParam (x ≠ "__name__" ) auD) (hdb:autoParam ((x == ("__debug__" : Str))=false) auD) :
  PE X (.Call (.Name x p) (e::es) [] pos) (tCB r t):=by
 have h:=hst
 unfold ZS at h
 rw [aD] at h
 exact xg hc hg hm hv ha hn hdb (Sw h.1) (Tq h.2 pos)
theorem qJ (hc:YW X (.type T) r) (hg:Gl X x) (hm:X.mg x=none) (hv:bootBuiltins x=some (.type T)) (ha:PA X (e::es) t) (hst:autoParam (ZS (e::es)=true) auR) (hn:autoParam (x ≠ "__name__" ) auD) (hdb:autoParam ((x == ("__debug__" : Str))=false) auD) :
  PE X (.Call (.Name x p) (e::es) [] pos) (tCB r t):=by
 have h:=hst
 unfold ZS at h
 rw [aD] at h
 exact AZ hc hg hm hv ha hn hdb (Sw h.1) (Tq h.2 pos)
end
structure QE (X:Cx) (e:Expr) (t:TE):Prop where
 get:PE X e t
structure QA (X:Cx) (es:List Expr) (t:TA):Prop where
 get:PA X es t
structure QS (X:Cx) (st:Stmt) (t:TS):Prop where
 get:PS X st t
structure QSs (X:Cx) (st:List Stmt) (t:TS):Prop where
 get:PSs X st t
section
variable {P:Program}{w:World}{K:aj}{mg:Str→Option Value}{base:Heap}
theorem Fun.okX {x qual:Str}{st:Stmt}{f:Addr}{fd:FuncData}{N ps:List Str}{k:Nat}{sp:Sp}(F:Fun K x qual st f fd) (S:Zj N ps (Zf st)) (len:∀ vs H Q E,sp vs H Q E→vs.length=ps.length)
  (hbody:∀ (cdv:Value) (A:Around) (outer:List Env) (s:Shared) (H:Hp) (vs:List V) (Q:VK) (E:XK),YF k (A.deeper (envOfC qual (Zf st) s.heap.objs.size f cdv))→sp vs H Q E →
   ∃ t,QSs (Xe (CXE P w) P w K mg base N qual (Zf st) f cdv A outer s H E) (ZR st) t∧t { nx:=fun _ H'=>Q .non H',rt:=Q } (start N vs) H):Zy P w K mg base (CXE P w) (k + 1) f fd ps sp:=by
 obtain ⟨oc,od,kV,doc,pm,an,cdv,ct,osl,rfl,lk,hcd⟩:=F.ex
 refine xf lk hcd S len fun A outer s H vs Q E hr hsp=>?_
 obtain ⟨t,h,q⟩:=hbody cdv A outer s H vs Q E hr hsp
 exact ⟨t,h.get,q⟩
end
section
variable {K:aj}{g:TG}{te:TE}{D:Addr}{σ:St}{H0:Hp}{Q:Hp→Prop}
end
theorem xO {zs:List Str}{m:Nat}(h:∀ z∈zs,z.length≤m):(zs.map (·.length)).sum≤zs.length * m:=by
 induction zs with
 | nil=>simp
 | cons z r ih =>
  have h1:=h z mem_cons_self
  have h2:=ih fun z' hz=>h z' (mem_cons_of_mem _ hz)
  simp only [map_cons,sum_cons,length_cons,Nat.add_mul,Nat.one_mul]
  omega
theorem xP {X:Cx}:Yy X (fun _ _ _ _=>False):=fun _ _ _ _ _ _ _ h=>by
 obtain ⟨_,_,_,_,_,_,_,_,_,_,_,_,_,_,z⟩:=h
 exact z.elim
section
variable {X:Cx}{k:Nat}{f C:Addr}{fd:FuncData}{ps:List Str}{sp:Sp}{XE:St→XK}{x m:Str}{p pos apos np cpos:Pos}{e o:Expr}{es:List Expr}{ta:TE}{t:TA}
theorem NA (F:Zy X.prog X.w X.K X.mg X.base (CXE X.prog X.w) k f fd ps sp) (hr:YF k X.A) (hg:Gl X x) (hm:X.mg x=some (.ref f)) (hk:keepIn X.K (.ref f)=true) (hb:Binds X.K fd ps []) (hx:Yy X XE)
  (ha:QA X (e::es) t) (hst:autoParam (ZS (e::es)=true) auR) (hdb:autoParam ((x == ("__debug__" : Str))=false) auD):QE X (.Call (.Name x p) (e::es) [] pos) (Ci sp XE t):=by
 have h:=hst
 unfold ZS at h
 rw [aD] at h
 exact ⟨xH F hr hg hm hk hb hx ha.get hdb (Sw h.1) (Tq h.2 pos)⟩
end
section
variable {P:Program}{w:World}{K:aj}{mg:Str→Option Value}{base:Heap}{N:List Str}{qual:Str}{scope:Scope}{f C:Addr}{cdv:Value}{A:Around}{outer:List Env}{s:Shared}{H:Hp}{E:XK}
 {x:Str}{np cpos pos:Pos}{e₀:Expr}{rest:List Expr}{t:TA}
theorem xQ (c:Cj K C) (hm:mg x=some (.ref C)) (ha:QA (Xe (CXE P w) P w K mg base N qual scope f cdv A outer s H E) (e₀::rest) t)
  (hg:autoParam (Gl (Xe (CXE P w) P w K mg base N qual scope f cdv A outer s H E) x) auR) (hst:autoParam (ZS (e₀::rest)=true) auR) (hdb:autoParam ((x == ("__debug__" : Str))=false) auD) :
  QS (Xe (CXE P w) P w K mg base N qual scope f cdv A outer s H E) (.Raise (some (.Call (.Name x np) (e₀::rest) [] cpos)) none pos) (xI C E t):=by
 have h:=hst
 unfold ZS at h
 rw [aD] at h
 exact ⟨xJ c hm ha.get hg hdb (Sw h.1) (Tq h.2 cpos)⟩
end
section
variable {X:Cx}
end
inductive EqL (R:V→V→Bool→Prop):List V→List V→Bool→Prop
 | nil:EqL R [] [] true
 | left (y:V) (ys:List V):EqL R [] (y::ys) false
 | right (x:V) (xs:List V):EqL R (x::xs) [] false
 | cons {x y:V}{xs ys:List V}{b c:Bool}:R x y b→EqL R xs ys c→EqL R (x::xs) (y::ys) (b && c)
noncomputable def EqN (K:aj) (H:Hp):Nat→V→V→Bool→Prop
 | 0,x,y,b=>(UB x=true∧UB y=true∧b=eqV x y)∨∃ a,x = .ref a∧y = .ref a∧b=true
 | n + 1,x,y,b=>EqN K H n x y b∨∃ a c xs ys,x = .ref a∧y = .ref c∧((SqT K H a xs∧SqT K H c ys)∨(SqL K H a xs∧SqL K H c ys))∧EqL (EqN K H n) xs ys b
theorem EqL.ans {R:V→V→Bool→Prop}{xs ys:List V}{b:Bool}(h:EqL R xs ys b) :
  ∃ e:Nat→Bool,(∀ (j:Nat) x y,xs[j]?=some x→ys[j]?=some y→R x y (e j))∧b=((List.range (min xs.length ys.length)).all e && xs.length == ys.length):=by
 induction h with
 | nil=>exact ⟨fun _=>true,fun j x y e=>by simp at e,rfl⟩
 | left y ys=>exact ⟨fun _=>true,fun j x y e=>by simp at e,by simp⟩
 | right x xs=>exact ⟨fun _=>true,fun j x y _ e=>by simp at e,by simp⟩
 | @cons x y xs ys b c hr _ ih =>
  obtain ⟨e,h1,h2⟩:=ih
  refine ⟨fun j=>match j with | 0=>b | j + 1=>e j,fun j x' y' ex ey=>?_,?_⟩
  ·cases j with
   | zero =>
    have e1:x=x':=by simpa using ex
    have e2:y=y':=by simpa using ey
    subst e1 e2
    exact hr
   | succ j=>exact h1 j x' y' (by simpa using ex) (by simpa using ey)
  ·have e1:min (x::xs).length (y::ys).length=min xs.length ys.length + 1:=by simp [Nat.min_def];split <;> rfl
   have e3:((x::xs).length == (y::ys).length)=(xs.length == ys.length):=by simp
   rw [e1,e3,List.range_succ_eq_map,all_cons,all_map,h2,Bool.and_assoc]
   rfl
section
variable {X:Cx}{pins:List (Addr × Obj)}{σ:St}{H:Hp}{s:Shared}
theorem oZ (I:Inv X pins σ H s):∀ (n:Nat) {A:Around}{x y:V}{u v:Value}{b:Bool},EqN X.K H n x y b→RelV x u→RelV y v→A.units + n < cLine→SeqAt.EqAt A s u v b:=by
 intro n
 induction n with
 | zero =>
  intro A x y u v b h ru rv _
  rcases h with ⟨fx,fy,rfl⟩ | ⟨a,rfl,rfl,rfl⟩
  ·exact xm ru rv fx fy
  ·cases ru
   cases rv
   exact SeqAt.EqAt.same _
 | succ n ih =>
  intro A x y u v b h ru rv hu
  rcases h with h | ⟨a,c,xs,ys,rfl,rfl,hq,hl⟩
  ·exact ih h ru rv (by omega)
  ·cases ru
   cases rv
   by_cases hac:a=c
   ·subst hac
    have hb:b=true:=by
     have key:∀ {zs ws:List V}{b:Bool},zs=ws→EqL (EqN X.K H n) zs ws b→(∀ (j:Nat) z,zs[j]?=some z→∀ b',EqN X.K H n z z b'→b'=true)→b=true:=by
      intro zs ws b e hl hz
      induction hl with
      | nil=>rfl
      | left=>cases e
      | right=>cases e
      | cons h1 _ ih2 =>
       cases e
       rw [hz 0 _ rfl _ h1,ih2 rfl fun j z hj b' hb=>hz (j + 1) z (by simpa using hj) b' hb]
       rfl
     have refl_true:∀ (n:Nat) (z:V) (b':Bool),EqN X.K H n z z b'→b'=true:=by
      intro n
      induction n with
      | zero =>
       intro z b' h
       rcases h with ⟨f,_,rfl⟩ | ⟨_,_,_,rfl⟩
       ·exact xD f
       ·rfl
      | succ n ihn =>
       intro z b' h
       rcases h with h | ⟨a,c,xs,ys,rfl,e,hq,hl⟩
       ·exact ihn z b' h
       ·cases e
        have exy:xs=ys:=by
         rcases hq with ⟨h1,h2⟩ | ⟨h1,h2⟩
         ·exact I.QF h1 h2
         ·exact I.RK h1 h2
        have key2:∀ {zs ws:List V}{b:Bool},zs=ws→EqL (EqN X.K H n) zs ws b→b=true:=by
         intro zs ws b e hl
         induction hl with
         | nil=>rfl
         | left=>cases e
         | right=>cases e
         | cons h1 _ ih2 =>
          cases e
          rw [ihn _ _ h1,ih2 rfl]
          rfl
        exact key2 exy hl
     have exy:xs=ys:=by
      rcases hq with ⟨h1,h2⟩ | ⟨h1,h2⟩
      ·exact I.QF h1 h2
      ·exact I.RK h1 h2
     exact key exy hl fun j z hj b' hb=>refl_true n z b' hb
    subst hb
    exact SeqAt.EqAt.same _
   ·obtain ⟨e,he,rfl⟩:=hl.ans
    refine SeqAt.EqAt.of_refs hac ?_
    rcases hq with ⟨h1,h2⟩ | ⟨h1,h2⟩
    ·obtain ⟨us,r1,p1,_⟩:=I.tuple h1
     obtain ⟨ws,r2,p2,_⟩:=I.tuple h2
     have l1:=r1.length
     have l2:=r2.length
     have z:=SeqAt.RcAt.tuples (A:=A) (e:=e) (show s.heap.IsTuple a us.toArray from p1) (show s.heap.IsTuple c ws.toArray from p2) (by omega) (fun j j1 j2=>?_)
     ·rw [size_toArray,size_toArray,←l1,←l2] at z
      exact z
     ·simp only [size_toArray] at j1 j2
      obtain ⟨u,hu',ru⟩:=r1.get (aB (show j < xs.length by omega))
      obtain ⟨v,hv',rv⟩:=r2.get (aB (show j < ys.length by omega))
      have z1:us[j]=u:=by rw [aB j1] at hu';exact Option.some.inj hu'
      have z2:ws[j]=v:=by rw [aB j2] at hv';exact Option.some.inj hv'
      simp only [List.getElem_toArray]
      rw [z1,z2]
      exact ih (he j _ _ (aB (show j < xs.length by omega)) (aB (show j < ys.length by omega))) ru rv (by show A.units + 1 + n < cLine;omega)
    ·obtain ⟨us,r1,p1,_⟩:=I.list h1
     obtain ⟨ws,r2,p2,_⟩:=I.list h2
     have l1:=r1.length
     have l2:=r2.length
     by_cases hsz:xs.length=ys.length
     ·have z:=SeqAt.RcAt.lists (A:=A) (e:=e) p1.isList p2.isList (by simp only [size_toArray];omega) (by omega) (fun j j1 j2=>?_)
      ·rw [size_toArray,←l1] at z
       rw [←hsz,Nat.min_self,beq_self_eq_true,Bool.and_true]
       exact z
      ·simp only [size_toArray] at j1 j2
       obtain ⟨u,hu',ru⟩:=r1.get (aB (show j < xs.length by omega))
       obtain ⟨v,hv',rv⟩:=r2.get (aB (show j < ys.length by omega))
       have z1:us[j]=u:=by rw [aB j1] at hu';exact Option.some.inj hu'
       have z2:ws[j]=v:=by rw [aB j2] at hv';exact Option.some.inj hv'
       simp only [List.getElem_toArray]
       rw [z1,z2]
       exact ih (he j _ _ (aB (show j < xs.length by omega)) (aB (show j < ys.length by omega))) ru rv (by show A.units + 1 + n < cLine;omega)
     ·rw [show (xs.length == ys.length)=false by simpa using hsz,Bool.and_false]
      exact SeqAt.RcAt.lists_lengths p1.isList p2.isList (by simp only [size_toArray,bne_iff_ne,ne_eq];omega) (by omega)
noncomputable def rEqD (K:aj) (neg:Bool):R2:=fun x y H Q=>∃ n a c xs ys b,n≤90∧x = .ref a∧y = .ref c∧((SqT K H a xs∧SqT K H c ys)∨(SqL K H a xs∧SqL K H c ys))∧EqL (EqN K H n) xs ys b∧Q (.bl (if neg then !b else b)) H
theorem QG (I:Inv X pins σ H s) {n:Nat}{A:Around}{xs ys:List V}{us ws:List Value}{e:Nat→Bool}(r1:Vals xs us) (r2:Vals ys ws) (he:∀ (j:Nat) x y,xs[j]?=some x→ys[j]?=some y→EqN X.K H n x y (e j)) (hu:A.units + 1 + n < cLine) :
  ∀ j (h1:j < us.toArray.size) (h2:j < ws.toArray.size),SeqAt.EqAt A.in1 s us.toArray[j] ws.toArray[j] (e j):=by
 intro j j1 j2
 have l1:=r1.length
 have l2:=r2.length
 simp only [size_toArray] at j1 j2
 obtain ⟨u,hu',ru⟩:=r1.get (aB (show j < xs.length by omega))
 obtain ⟨v,hv',rv⟩:=r2.get (aB (show j < ys.length by omega))
 have z1:us[j]=u:=by rw [aB j1] at hu';exact Option.some.inj hu'
 have z2:ws[j]=v:=by rw [aB j2] at hv';exact Option.some.inj hv'
 simp only [List.getElem_toArray]
 rw [z1,z2]
 exact oZ I n (he j _ _ (aB (show j < xs.length by omega)) (aB (show j < ys.length by omega))) ru rv hu
end
section
variable {X:Cx}
theorem nc (hu:X.A.units + 100 < cLine):OpR X (compareOp .Eq) (rEqD X.K false):=by
 intro pins s σ H x y v u Q I rx ry h
 obtain ⟨n,a,c,xs,ys,b,hn,rfl,rfl,hq,hl,q⟩:=h
 cases rx
 cases ry
 obtain ⟨e,he,rfl⟩:=hl.ans
 rcases hq with ⟨h1,h2⟩ | ⟨h1,h2⟩
 ·obtain ⟨us,r1,p1,_⟩:=I.tuple h1
  obtain ⟨ws,r2,p2,_⟩:=I.tuple h2
  refine SeqAt.eq_tupleAt (show s.heap.IsTuple a us.toArray from p1) (show s.heap.IsTuple c ws.toArray from p2) (by omega) (QG I r1 r2 he (by omega)) ?_
  rw [size_toArray,size_toArray,←r1.length,←r2.length]
  exact ⟨.bl _,H,I,rfl,q⟩
 ·obtain ⟨us,r1,p1,_⟩:=I.list h1
  obtain ⟨ws,r2,p2,_⟩:=I.list h2
  have l1:=r1.length
  have l2:=r2.length
  by_cases hsz:xs.length=ys.length
  ·refine SeqAt.eq_listAt p1.isList p2.isList (by simp only [size_toArray];omega) (by omega) (QG I r1 r2 he (by omega)) ?_
   rw [←hsz,Nat.min_self,beq_self_eq_true,Bool.and_true] at q
   rw [size_toArray,←l1]
   exact ⟨.bl _,H,I,rfl,q⟩
  ·rw [show (xs.length == ys.length)=false by simpa using hsz,Bool.and_false] at q
   exact SeqAt.eq_list_lengthsAt p1.isList p2.isList (by simp only [size_toArray,bne_iff_ne,ne_eq];omega) (by omega) ⟨.bl false,H,I,rfl,q⟩
theorem ng (hu:X.A.units + 100 < cLine):OpR X (compareOp .NotEq) (rEqD X.K true):=by
 intro pins s σ H x y v u Q I rx ry h
 obtain ⟨n,a,c,xs,ys,b,hn,rfl,rfl,hq,hl,q⟩:=h
 cases rx
 cases ry
 obtain ⟨e,he,rfl⟩:=hl.ans
 rcases hq with ⟨h1,h2⟩ | ⟨h1,h2⟩
 ·obtain ⟨us,r1,p1,_⟩:=I.tuple h1
  obtain ⟨ws,r2,p2,_⟩:=I.tuple h2
  refine SeqAt.RcNeAt.tuples (show s.heap.IsTuple a us.toArray from p1) (show s.heap.IsTuple c ws.toArray from p2) (by omega) (QG I r1 r2 he (by omega)) _ _ _ _ ?_
  rw [size_toArray,size_toArray,←r1.length,←r2.length]
  exact ⟨.bl _,H,I,rfl,q⟩
 ·obtain ⟨us,r1,p1,_⟩:=I.list h1
  obtain ⟨ws,r2,p2,_⟩:=I.list h2
  have l1:=r1.length
  have l2:=r2.length
  by_cases hsz:xs.length=ys.length
  ·refine SeqAt.RcNeAt.lists p1.isList p2.isList (by simp only [size_toArray];omega) (by omega) (QG I r1 r2 he (by omega)) _ _ _ _ ?_
   rw [←hsz,Nat.min_self,beq_self_eq_true,Bool.and_true] at q
   rw [size_toArray,←l1]
   exact ⟨.bl _,H,I,rfl,q⟩
  ·rw [show (xs.length == ys.length)=false by simpa using hsz,Bool.and_false] at q
   exact SeqAt.RcNeAt.lists_lengths p1.isList p2.isList (by simp only [size_toArray,bne_iff_ne,ne_eq];omega) (by omega) _ _ _ _ ⟨.bl true,H,I,rfl,q⟩
end
section
variable {X:Cx}{k:Nat}{f C:Addr}{fd:FuncData}{ps:List Str}{sp:Sp}{dvs:List V}{ds:List Value}{XE:St→XK}{x:Str}{p pos:Pos}{e:Expr}{es:List Expr}{t:TA}
noncomputable def nh (C:Addr) (sp:Sp) (dvs:List V) (XE:St→XK) (t:TA):TE:=fun σ H Q=>t σ H fun vs H1=>∀ x dx,H1 x=none→H1 dx=none→dx≠x →
 sp (.ref x::(vs++dvs)) (upd (upd H1 dx (.own x)) x (.ins C dx [])) (fun v H2=>v = .non∧Q (.ref x) H2) (XE σ)
theorem zr {pins:List (Addr × Obj)}{σ:St}{H:Hp}{s:Shared}{Q:VK}{us:List Value}{vs:List V}(M:Mk X.K C f) (F:Zy X.prog X.w X.K X.mg X.base (CXE X.prog X.w) k f fd ps sp) (hr:YF (k + 1) X.A) (hb:Binds X.K fd ps ds) (hd:Vals dvs ds)
  (hx:Yy X XE) (I:Inv X pins σ H s) (r:Vals vs us)
  (h:∀ x dx,H x=none→H dx=none→dx≠x→sp (.ref x::(vs++dvs)) (upd (upd H dx (.own x)) x (.ins C dx [])) (fun v H2=>v = .non∧Q (.ref x) H2) (XE σ)) :
  wpAny (model X.prog X.w) X.A (call (.ref C) us) (EP X pins σ Q) X.xe s:=by
 have hq:=h (s.heap.objs.size + 1) s.heap.objs.size (I.hok.fresh (Nat.le_succ _)) (I.hok.fresh (Nat.le_refl _)) (Nat.ne_of_lt (Nat.lt_succ_self _))
 have I2:=Inv.made (C:=C) I
 have r2:Vals (V.ref (s.heap.objs.size + 1)::(vs++dvs)) (Value.ref (s.heap.objs.size + 1)::(us++ds)) := .cons rfl (r.append hd)
 have hl:(Value.ref (s.heap.objs.size + 1)::us++ds).length=ps.length:=by
  have e:=r2.length
  rw [F.len _ _ _ _ hq] at e
  exact e.symm
 refine wpAny_call (yY (f:=f) I.kIn M.makes M.init (beq_iff_eq.mp M.fn) (codeAny_mono (F.run _ X.stack _ _ ⟨Value.ref (s.heap.objs.size + 1)::us,[]⟩ (Value.ref (s.heap.objs.size + 1)::(us++ds)) _ _ (XE σ) (hr.make C us [])
  (I2.env0.make C us []) (hb _ (Value.ref (s.heap.objs.size + 1)::us) I2.kIn hl) r2 hq) fun r s' hq'=>?_))
 cases r with
 | error e=>exact hx pins σ _ _ e s' I2 hq'
 | ok fl =>
  cases fl with
  | ret u =>
   obtain ⟨v,H',I3,rv,ev,q3⟩:=I2.after hq'
   subst ev
   exact ⟨rv,⟨V.ref (s.heap.objs.size + 1),H',I3,rfl,q3⟩⟩
  | next=>exact False.elim hq'
  | brk=>exact False.elim hq'
  | cont=>exact False.elim hq'
theorem tQ (M:Mk X.K C f) (F:Zy X.prog X.w X.K X.mg X.base (CXE X.prog X.w) k f fd ps sp) (hr:YF (k + 1) X.A) (hg:Gl X x) (hm:X.mg x=some (.ref C)) (hb:Binds X.K fd ps ds) (hd:Vals dvs ds) (hx:Yy X XE)
  (ha:QA X (e::es) t) (hst:autoParam (ZS (e::es)=true) auR) (hdb:autoParam ((x == ("__debug__" : Str))=false) auD):QE X (.Call (.Name x p) (e::es) [] pos) (nh C sp dvs XE t):=by
 have h:=hst
 unfold ZS at h
 rw [aD] at h
 refine ⟨?_⟩
 intro pins s σ H Q I h'
 refine wpAny_Call_Name_kw (Nr I hg hm ?_ hdb)
 refine callWith_K (h₀:=X.base) I.ok.mod.kin M.kp (thn (ha.get pos pins s σ H _ I h') fun us s1 ⟨vs,H1,I1,r,q⟩=>⟨I1.kIn,?_⟩) (Sw h.1) (Tq h.2 pos)
 exact zr M F hr hb hd hx I1 r q
end
theorem YF.WW {k:Nat}{A:Around}(r:YF k A):A.units + 100 < cLine:=by have:=r.un;omega
section
variable {X:Cx}{a b c d:Expr}{ta tb tc td:TE}{pos:Pos}
end
theorem JM (x:Str):x.length=x.cps.toList.length:=by
 show x.cps.size=_
 simp
theorem Sx (x y:Str):(x++y).cps.toList=x.cps.toList++y.cps.toList:=by
 show (x.cps++y.cps).toList=_
 simp
theorem GN (c:Nat):(⟨#[c]⟩:Str).cps.toList=[c]:=rfl
theorem Ej {x:Str}{j:Int}(h0:0≤j) (h:j≤x.cps.toList.length):(Txt.slice x none (some j)).cps.toList=x.cps.toList.take j.toNat:=by
 have:=eq_of_beq (slice_closes_to (x:=x) (j:=j) ⟨h0,h⟩)
 rw [this]
 simp
theorem sl_ft {x:Str}{i j:Int}(h0:0≤i) (h1:i≤j) (h:j≤x.cps.toList.length):(Txt.slice x (some i) (some j)).cps.toList=(x.cps.toList.drop i.toNat).take (j - i).toNat:=by
 have:=eq_of_beq (slice_closes (x:=x) (i:=i) (j:=j) ⟨h0,h1,h⟩)
 rw [this]
theorem tR (zs:List Str):(Txt.join "" zs).cps.toList=(zs.map fun z=>z.cps.toList).flatten:=by
 show (Builtin.Str.glued "" zs).cps.toList=_
 rw [StrLaws.glued_eq_join]
 induction zs with
 | nil=>rfl
 | cons a l ih =>
  cases l with
  | nil=>simp [Str.join]
  | cons b r =>
   show ((a++("" : Str))++Str.join "" (b::r)).cps.toList=_
   rw [Sx,Sx,ih]
   rw [show ("" : Str).cps.toList=[] from rfl]
   simp
section
variable {X:Cx}
theorem JQ:MtR X "list.append" GH:=HN
theorem Cr:MtR X "list.extend" GI:=zb
theorem tS:MtR X "list.pop" rPop:=oK
section
variable {K:aj}
end
end
section
variable {prog:Program}{w:World}{A:Around}{s:Shared}{R:Result→Shared→Prop}
variable {I:Addr}{fp wr:List Addr}{n:Nat}{P:Nat→Value→Prop}{St:Nat→Shared→Prop}{G:Array GenState→Array GenState→Prop}
end
section
variable {X:Cx}{e:Expr}{t:TE}{x y:Str}{p p' pos pos':Pos}
end
section
variable {X:Cx}{tg:Expr}
noncomputable def iSeq (K:aj) (tl:TE):TI:=fun σ H R=>tl σ H fun x H1=>∃ a,x = .ref a∧(((∃ xs,SqL K H1 a xs)∧R (Itl K a) H1)∨((∃ xs,SqT K H1 a xs)∧R (Itt K a) H1))
theorem nq {l:Expr}{tl:TE}(hl:PE X l tl):PI X tg l (iSeq X.K tl):=by
 intro pins s σ H R I h
 refine thn (hl pins s σ H _ I h) fun v s1 ⟨x,H1,I1,r1,q1⟩=>?_
 obtain ⟨a,e,q⟩:=q1
 subst e
 cases r1
 rcases q with ⟨⟨xs,hq⟩,q⟩ | ⟨⟨xs,hq⟩,q⟩
 ·obtain ⟨its,rv,p,hz⟩:=I1.list hq
  refine wpAny_pyIter_list p.isList ?_
  refine ⟨s1.heap.objs.size,[s1.heap.objs.size],_,_,H1,rfl,I1.kept (t':=s1.toks) fun b o e=>aq _ e,HI a _,⟨_,au _ rfl,rfl,rfl⟩,fun b hb=>?_,q⟩
  have e:b=s1.heap.objs.size:=by simpa using hb
  subst e
  exact I1.Gv (Nat.le_refl _) (I1.hok.fresh (Nat.le_refl _))
 ·obtain ⟨its,rv,p,hz⟩:=I1.tuple hq
  refine wpAny_pyIter_tuple (show s1.heap.IsTuple a its.toArray from p) ?_
  refine ⟨s1.heap.objs.size,[s1.heap.objs.size],_,_,H1,rfl,I1.kept (t':=s1.toks) fun b o e=>aq _ e,DL a _,⟨_,au _ rfl,rfl,rfl⟩,fun b hb=>?_,q⟩
  have e:b=s1.heap.objs.size:=by simpa using hb
  subst e
  exact I1.Gv (Nat.le_refl _) (I1.hok.fresh (Nat.le_refl _))
theorem Ek:∀ {cs:List String}{us:List Value},Vals (cs.map V.ty) us→us=cs.map Value.type
 | [],_,.nil=>rfl
 | _::_,_,.cons r rs=>by rw [map_cons,Ek rs];cases r;rfl
noncomputable def rIsiS (K:aj):List V→Hp→VK→Prop:=fun xs H Q=>∃ (a tp:Addr) (cs:List String) (b:Bool) (T:String),xs=[.ref a,.ref tp]∧(((∃ ys,H a=some (.lst ys))∧T = "list")∨((∃ ys,H a=some (.tup ys))∧T = "tuple")) ∧
 H tp=some (.tup (cs.map V.ty))∧kitAny K (.type T) (cs.map Value.type)=some b∧Q (.bl b) H
theorem zt:YW X (.builtin "isinstance") (rIsiS X.K):=by
 intro pins s σ H xs us Q I r h
 obtain ⟨a,tp,cs,b,T,rfl,ht,hT,e,q⟩:=h
 obtain ⟨u,w',rfl,r1,r2⟩:=vals2 r
 cases r1
 cases r2
 obtain ⟨_,its,rv,ob,ho,hcl,n,hd⟩:=(show ZZ X.prog X.w H s.heap tp (.tup (cs.map V.ty)) from I.hok tp _ hT)
 have ei:=Ek rv
 subst ei
 obtain ⟨c0,dd,dt,sl⟩:=ob
 dsimp only at hcl hd
 subst hcl hd
 rcases ht with ⟨⟨ys,ea⟩,rfl⟩ | ⟨⟨ys,ea⟩,rfl⟩
 ·obtain ⟨_,_,n',_,h1⟩:=(show ZZ X.prog X.w H s.heap a (.lst ys) from I.hok a _ ea)
  exact kia_tup kitx_list I.kIn ⟨_,h1,rfl⟩ ho e (fun z=>nomatch z) fun tk=>⟨.bl b,H,I.tok tk,rfl,q⟩
 ·obtain ⟨_,_,_,p⟩:=(show ZZ X.prog X.w H s.heap a (.tup ys) from I.hok a _ ea)
  obtain ⟨o,h1,h2,_⟩:=p
  exact kia_tup PySem.W.kitx_tuple I.kIn ⟨o,h1,h2⟩ ho e (fun z=>nomatch z) fun tk=>⟨.bl b,H,I.tok tk,rfl,q⟩
end
structure El (K:aj) (x qual:Str) (st:Stmt) (f:Addr) (fd:FuncData) (ds:List Value):Prop where
 ex:∃ (oc:Value) (od:Option Addr) (kV doc pm:Value) (an:Option Addr) (cdv ct:Value) (osl:Array (Option Value)) (D:Addr) (o:Obj) (n:Nat),
  fd=PySem.W.fnOf x qual (Xb st) (ZR st) (Zf st) (.ref D) kV doc pm an cdv ct∧K.lookup f=some ⟨oc,od,.func fd,osl⟩∧PySem.W.codeIn K cdv qual=true∧K.lookup D=some o∧o.data = .seq ds.toArray n
 kp:keepIn K (.ref f)=true
section
variable {P:Program}{w:World}{K:aj}{mg:Str→Option Value}{base:Heap}
theorem El.okX {x qual:Str}{st:Stmt}{f:Addr}{fd:FuncData}{ds:List Value}{N ps:List Str}{k:Nat}{sp:Sp}(F:El K x qual st f fd ds) (S:Zj N ps (Zf st)) (len:∀ vs H Q E,sp vs H Q E→vs.length=ps.length)
  (hbody:∀ (cdv:Value) (A:Around) (outer:List Env) (s:Shared) (H:Hp) (vs:List V) (Q:VK) (E:XK),YF k (A.deeper (envOfC qual (Zf st) s.heap.objs.size f cdv))→sp vs H Q E →
   ∃ t,QSs (Xe (CXE P w) P w K mg base N qual (Zf st) f cdv A outer s H E) (ZR st) t∧t { nx:=fun _ H'=>Q .non H',rt:=Q } (start N vs) H):Zy P w K mg base (CXE P w) (k + 1) f fd ps sp:=by
 obtain ⟨oc,od,kV,doc,pm,an,cdv,ct,osl,D,o,n,rfl,lk,hcd,_,_⟩:=F.ex
 refine xf lk hcd S len fun A outer s H vs Q E hr hsp=>?_
 obtain ⟨t,h,q⟩:=hbody cdv A outer s H vs Q E hr hsp
 exact ⟨t,h.get,q⟩
theorem El.binds {x qual:Str}{st:Stmt}{f:Addr}{fd:FuncData}{ds ds':List Value}{ps:List Str}(F:El K x qual st f fd ds)
  (h:∀ (D:Addr) (o:Obj) (n:Nat) (kV doc pm:Value) (an:Option Addr) (cdv ct:Value) (s:Shared) (us:List Value),s.heap.get? D=some o→o.data = .seq ds.toArray n→(us++ds').length=ps.length→BindsTo s (PySem.W.fnOf x qual (Xb st) (ZR st) (Zf st) (.ref D) kV doc pm an cdv ct) ⟨us,[]⟩ (ps.zip (us++ds'))):Binds K fd ps ds':=by
 obtain ⟨oc,od,kV,doc,pm,an,cdv,ct,osl,D,o,n,rfl,lk,hcd,hD,ho⟩:=F.ex
 intro s us KI hl
 exact h D o n kV doc pm an cdv ct s us (KI _ _ hD) ho hl
end
section
variable {X:Cx}
end
end L2
namespace MA
theorem Em (a b:Int):Int.gcd b (a.fmod b)=Int.gcd a b:=by
 rw [Int.fmod_def,Int.gcd_sub_mul_left_right,Int.gcd_comm]
theorem BP (a b:Int) (h:b≠0):(a.fmod b).natAbs < b.natAbs:=by
 rcases Int.lt_or_gt_of_ne h with hn | hp
 ·have h1:(-a).fmod (-b) = -(a.fmod b):=by rw [Int.neg_fmod_neg]
  have h2:=Int.fmod_lt_of_pos (-a) (show 0 < -b by omega)
  have h3:=Int.fmod_nonneg_of_pos (-a) (show 0 < -b by omega)
  omega
 ·have h2:=Int.fmod_lt_of_pos a hp
  have h3:=Int.fmod_nonneg_of_pos a hp
  omega
structure Low (p q:Int):Prop where
 pos:0 < q
 cop:Int.gcd p q=1
theorem QH {a b:Int}(h:b≠0):(0:Int) < (Int.gcd a b:Int):=by
 have:Int.gcd a b≠0:=fun z=>h (Int.gcd_eq_zero_iff.mp z).2
 omega
theorem xR {a b d:Int}(hb:b≠0) (hd:d=(Int.gcd a b:Int)∨d = -(Int.gcd a b:Int)) (hs:0 < b * d) :
  Low (a.fdiv d) (b.fdiv d)∧a.fdiv d * b=a * b.fdiv d∧(a.fdiv d).natAbs≤a.natAbs∧(b.fdiv d).natAbs≤b.natAbs:=by
 have gp:=QH (a:=a) hb
 have hd0:d≠0:=by rcases hd with h | h <;> omega
 have na:d.natAbs=Int.gcd a b:=by rcases hd with h | h <;> omega
 have da:d ∣ a:=by
  rcases hd with h | h
  ·rw [h];exact Int.gcd_dvd_left a b
  ·rw [h];exact Int.neg_dvd.mpr (Int.gcd_dvd_left a b)
 have db:d ∣ b:=by
  rcases hd with h | h
  ·rw [h];exact Int.gcd_dvd_right a b
  ·rw [h];exact Int.neg_dvd.mpr (Int.gcd_dvd_right a b)
 have ea:=Int.fdiv_mul_cancel da
 have eb:=Int.fdiv_mul_cancel db
 refine ⟨⟨?_,?_⟩,?_,Int.natAbs_fdiv_le_natAbs a d,Int.natAbs_fdiv_le_natAbs b d⟩
 ·rw [←eb,Int.mul_assoc] at hs
  have hdd:0 < d * d:=by
   rcases Int.lt_or_gt_of_ne hd0 with h | h
   ·exact Int.mul_pos_of_neg_of_neg h h
   ·exact Int.mul_pos h h
  exact Int.pos_of_mul_pos_left hs hdd
 ·have h:=Int.gcd_mul_right (a.fdiv d) d (b.fdiv d)
  rw [ea,eb,na] at h
  have g0:Int.gcd a b≠0:=by omega
  have h':1 * Int.gcd a b=Int.gcd (a.fdiv d) (b.fdiv d) * Int.gcd a b:=by rw [Nat.one_mul];exact h
  exact (Nat.eq_of_mul_eq_mul_right (by omega) h').symm
 ·have:a.fdiv d * b=a.fdiv d * (b.fdiv d * d):=by rw [eb]
  rw [this]
  have h2:a * b.fdiv d=a.fdiv d * d * b.fdiv d:=by rw [ea]
  rw [h2,Int.mul_assoc,Int.mul_comm d]
theorem BQ {p q r:Int}(h:Int.gcd p q=1) (k:q ∣ p * r):q ∣ r:=by
 have h1:Nat.Coprime q.natAbs p.natAbs:=by
  show Nat.gcd q.natAbs p.natAbs=1
  rw [Nat.gcd_comm]
  exact h
 have k1:q.natAbs ∣ p.natAbs * r.natAbs:=by
  rw [←Int.natAbs_mul]
  exact Int.natAbs_dvd_natAbs.mpr k
 exact Int.natAbs_dvd_natAbs.mp (h1.dvd_of_dvd_mul_left k1)
theorem Low.uniq {p q p' q':Int}(h:Low p q) (h':Low p' q') (e:p * q'=p' * q):p=p'∧q=q':=by
 have d1:q ∣ q':=BQ h.cop ⟨p',by rw [e,Int.mul_comm]⟩
 have d2:q' ∣ q:=BQ h'.cop ⟨p,by rw [←e,Int.mul_comm]⟩
 have l1:=Int.le_of_dvd h'.pos d1
 have l2:=Int.le_of_dvd h.pos d2
 have eq:q=q':=by omega
 subst eq
 exact ⟨Int.eq_of_mul_eq_mul_right (by have:=h.pos;omega) e,rfl⟩
theorem Low.same {p q p' q' a b:Int}(h:Low p q) (h':Low p' q') (hb:b≠0) (e:p * b=a * q) (e':p' * b=a * q'):p=p'∧q=q':=by
 refine h.uniq h' (Int.eq_of_mul_eq_mul_right hb ?_)
 rw [Int.mul_assoc,Int.mul_comm q',←Int.mul_assoc,e,Int.mul_assoc p',Int.mul_comm q b,←Int.mul_assoc,e',Int.mul_assoc,Int.mul_assoc,Int.mul_comm q]
theorem Low.self {p q:Int}(h:Low p q):p.fdiv (Int.gcd p q:Int)=p∧q.fdiv (Int.gcd p q:Int)=q:=by
 rw [h.cop]
 exact ⟨Int.fdiv_one p,Int.fdiv_one q⟩
end MA
namespace MA
open L2
abbrev Fr:=Int × Int
noncomputable def addF (a b:Fr):Fr:=(a.1 * b.2 + b.1 * a.2,a.2 * b.2)
noncomputable def mulF (a b:Fr):Fr:=(a.1 * b.1,a.2 * b.2)
noncomputable def Su (b:Bool) (x y:Fr):Fr:=if b then mulF x y else addF x y
noncomputable def PosL (ws:List Fr):Prop:=∀ w∈ws,0 < w.2
noncomputable def BdL (k:Nat) (ws:List Fr):Prop:=∀ w∈ws,Bd k w.1∧Bd k w.2
theorem BdL.take {k:Nat}{ws:List Fr}(h:BdL k ws) (i:Nat):BdL k (ws.take i):=fun w hw=>h w (mem_of_mem_take hw)
theorem PosL.take {ws:List Fr}(h:PosL ws) (i:Nat):PosL (ws.take i):=fun w hw=>h w (mem_of_mem_take hw)
end MA
namespace L2
open PySem
end L2
namespace MA
end MA
namespace MA
inductive Rch {α:Type}(R:α→α→Prop):α→α→Prop
 | one {a b:α}:R a b→Rch R a b
 | step {a b c:α}:R a b→Rch R b c→Rch R a c
theorem Rch.trans {α:Type}{R:α→α→Prop}{a b c:α}(h:Rch R a b) (k:Rch R b c):Rch R a c:=by
 induction h with
 | one r=>exact .step r k
 | step r _ ih=>exact .step r (ih k)
theorem Rch.first {α:Type}{R:α→α→Prop}{a c:α}(h:Rch R a c):∃ b,R a b∧(b=c∨Rch R b c):=by
 cases h with
 | one r=>exact ⟨_,r,.inl rfl⟩
 | step r k=>exact ⟨_,r,.inr k⟩
theorem Rch.last {α:Type}{R:α→α→Prop}{a c:α}(h:Rch R a c):∃ b,R b c:=by
 induction h with
 | one r=>exact ⟨_,r⟩
 | step _ _ ih=>exact ih
theorem Rch.inS {α:Type}{R:α→α→Prop}{S:α→Prop}(cl:∀ a b,S a→R a b→S b) {a b:α}(h0:∀ b,R a b→S b) (h:Rch R a b):S b:=by
 obtain ⟨c,r,k⟩:=h.first
 have hc:=h0 c r
 rcases k with rfl | k
 ·exact hc
 ·clear h r h0
  induction k with
  | one r=>exact cl _ _ hc r
  | step r _ ih=>exact ih (cl _ _ hc r)
section
variable {α:Type} [DecidableEq α]
end
end MA
namespace MA
theorem bern (u v:Int) (hu:0≤u) (hv:0≤v) (m:Nat):v ^ m * (((m:Int) + 1) * u - m * v)≤u ^ (m + 1):=by
 induction m with
 | zero=>simp [Int.pow_succ]
 | succ m ih =>
  have h1:u * (v ^ m * (((m:Int) + 1) * u - m * v))≤u * u ^ (m + 1):=Int.mul_le_mul_of_nonneg_left ih hu
  have h2:0≤v ^ m * (((m:Int) + 1) * ((u - v) * (u - v))):=by
   refine Int.mul_nonneg (Int.pow_nonneg hv) (Int.mul_nonneg (by omega) ?_)
   rcases Int.le_total u v with h | h
   ·exact Int.mul_nonneg_of_nonpos_of_nonpos (by omega) (by omega)
   ·exact Int.mul_nonneg (by omega) (by omega)
  have e1:u ^ (m + 1 + 1)=u * u ^ (m + 1):=by rw [Int.pow_succ,Int.mul_comm]
  have e2:v ^ (m + 1)=v ^ m * v:=Int.pow_succ ..
  rw [e1,e2]
  have e3:u * (v ^ m * (((m:Int) + 1) * u - m * v)) - v ^ m * v * ((((m + 1:Nat):Int) + 1) * u - ((m + 1:Nat):Int) * v)=v ^ m * (((m:Int) + 1) * ((u - v) * (u - v))):=by
   rw [show ((m + 1:Nat):Int)=(m:Int) + 1 by omega]
   generalize v ^ m=z
   generalize (m:Int)=k
   grind
  omega
theorem zu (n S a:Nat):(n + 1) ^ (n + 1) * S ^ n * a≤n ^ n * (S + a) ^ (n + 1):=by
 by_cases hn:n=0
 ·subst hn;simp
 have b:=bern ((n * (S + a):Nat):Int) (((n + 1) * S:Nat):Int) (by omega) (by omega) n
 have e:((n:Int) + 1) * ((n * (S + a):Nat):Int) - n * (((n + 1) * S:Nat):Int)=(n * ((n + 1) * a):Nat):=by
  simp only [Int.natCast_mul,Int.natCast_add]
  generalize (n:Int)=k
  generalize (S:Int)=s
  generalize (a:Int)=t
  grind
 rw [e] at b
 have b:((n + 1) * S) ^ n * (n * ((n + 1) * a))≤(n * (S + a)) ^ (n + 1):=by
  have:((((n + 1) * S) ^ n * (n * ((n + 1) * a)):Nat):Int)≤(((n * (S + a)) ^ (n + 1):Nat):Int):=by
   rw [Int.natCast_mul,Int.natCast_pow,Int.natCast_pow]
   exact b
  omega
 rw [Nat.mul_pow,Nat.mul_pow] at b
 have e1:(n + 1) ^ n * S ^ n * (n * ((n + 1) * a))=n * ((n + 1) ^ (n + 1) * S ^ n * a):=by
  rw [Nat.pow_succ]
  generalize (n + 1) ^ n=x
  generalize S ^ n=y
  grind
 have e2:n ^ (n + 1) * (S + a) ^ (n + 1)=n * (n ^ n * (S + a) ^ (n + 1)):=by
  rw [Nat.pow_succ n n]
  generalize n ^ n=x
  grind
 rw [e1,e2] at b
 exact Nat.le_of_mul_le_mul_left b (by omega)
theorem pow_self_pos (n:Nat):0 < n ^ n:=by
 cases n with
 | zero=>decide
 | succ n=>exact Nat.pow_pos (by omega)
noncomputable def Wa (l:List Nat):Nat:=l.foldr (· * ·) 1
theorem amgm (l:List Nat):Wa l * l.length ^ l.length≤l.sum ^ l.length:=by
 induction l with
 | nil=>simp [Wa]
 | cons a l ih =>
  have st:=zu l.length l.sum a
  rw [length_cons,sum_cons,show Wa (a::l)=a * Wa l from rfl]
  have pos:=pow_self_pos l.length
  refine Nat.le_of_mul_le_mul_left ?_ pos
  have e1:l.length ^ l.length * (a * Wa l * (l.length + 1) ^ (l.length + 1))=(l.length + 1) ^ (l.length + 1) * (Wa l * l.length ^ l.length) * a:=by
   generalize l.length ^ l.length=x
   generalize (l.length + 1) ^ (l.length + 1)=y
   generalize Wa l=z
   grind
  have e2:(l.length + 1) ^ (l.length + 1) * (Wa l * l.length ^ l.length) * a≤(l.length + 1) ^ (l.length + 1) * l.sum ^ l.length * a:=Nat.mul_le_mul_right _ (Nat.mul_le_mul_left _ ih)
  rw [e1,Nat.add_comm a l.sum]
  exact Nat.le_trans e2 st
theorem zv (a b:List Nat):Wa (a++b)=Wa a * Wa b:=by
 induction a with
 | nil=>simp [Wa]
 | cons x a ih=>rw [cons_append,show Wa (x::(a++b))=x * Wa (a++b) from rfl,ih,show Wa (x::a)=x * Wa a from rfl,Nat.mul_assoc]
theorem HU (n x:Nat):Wa (replicate n x)=x ^ n:=by
 induction n with
 | zero=>rfl
 | succ n ih=>rw [replicate_succ,show Wa (x::replicate n x)=x * Wa (replicate n x) from rfl,ih,Nat.pow_succ,Nat.mul_comm]
theorem BR (n x:Nat):(replicate n x).sum=n * x:=by
 induction n with
 | zero=>simp
 | succ n ih=>rw [replicate_succ,sum_cons,ih,Nat.succ_mul,Nat.add_comm]
theorem two (x y a b:Nat):x ^ a * y ^ b * (a + b) ^ (a + b)≤a ^ a * b ^ b * (x + y) ^ (a + b):=by
 by_cases ha:a=0
 ·subst ha
  simp only [Nat.pow_zero,Nat.one_mul,Nat.zero_add]
  rw [Nat.mul_comm]
  exact Nat.mul_le_mul_left _ (Nat.pow_le_pow_left (by omega) _)
 by_cases hb:b=0
 ·subst hb
  simp only [Nat.pow_zero,Nat.mul_one,Nat.add_zero]
  rw [Nat.mul_comm]
  exact Nat.mul_le_mul_left _ (Nat.pow_le_pow_left (by omega) _)
 have g:=amgm (replicate a (x * b)++replicate b (y * a))
 rw [zv,HU,HU,length_append,length_replicate,length_replicate,sum_append,BR,BR] at g
 have e1:a * (x * b) + b * (y * a)=(a * b) * (x + y):=by grind
 rw [e1,Nat.mul_pow,Nat.mul_pow,Nat.mul_pow (a * b),Nat.mul_pow a b,Nat.pow_add a,Nat.pow_add b] at g
 have pos:0 < b ^ a * a ^ b:=Nat.mul_pos (Nat.pow_pos (by omega)) (Nat.pow_pos (by omega))
 refine Nat.le_of_mul_le_mul_left ?_ pos
 generalize x ^ a=xa at *
 generalize y ^ b=yb at *
 generalize (a + b) ^ (a + b)=nn at *
 generalize (x + y) ^ (a + b)=ss at *
 generalize a ^ a=aa at *
 generalize a ^ b=ab at *
 generalize b ^ a=ba at *
 generalize b ^ b=bb at *
 have l:ba * ab * (xa * yb * nn)=xa * ba * (yb * ab) * nn:=by grind
 have r:ba * ab * (aa * bb * ss)=aa * ab * (ba * bb) * ss:=by grind
 rw [l,r]
 exact g
section
variable {κ:Type} [DecidableEq κ]
end
end MA
namespace L2
open PySem PySem.Spec PyProof.Rows
inductive D where
 | non | bl (b:Bool) | int (i:Int) | str (x:Str) | ty (n:String) | rf (a:Addr)
 | tup (xs:List D) | lst (xs:List D) | scr (xs:List D) | obj (C:Addr) (fs:List (Str × D)) | dic (kvs:List (Key × D)) | exc (C:Addr)
 deriving Inhabited
mutual
noncomputable def Rp (K:aj) (H:Hp):D→V→Prop
 | .non,v=>v = .non
 | .bl b,v=>v = .bl b
 | .int i,v=>v = .int i
 | .str x,v=>v = .str x
 | .ty n,v=>v = .ty n
 | .rf a,v=>v = .ref a
 | .tup xs,v=>∃ a vs,v = .ref a∧H a=some (.tup vs)∧Rps K H xs vs
 | .lst xs,v=>∃ a vs,v = .ref a∧H a=some (.lst vs)∧Rps K H xs vs
 | .scr xs,v=>∃ a vs,v = .ref a∧SqL K H a vs∧Rps K H xs vs
 | .obj C gs,v=>∃ a dx fs,v = .ref a∧H a=some (.ins C dx fs)∧Rfs K H gs fs
 | .dic gs,v=>∃ a kvs,v = .ref a∧H a=some (.dK kvs)∧Rks K H gs kvs
 | .exc C,v=>∃ a,v = .ref a∧H a=some (ExcO a C)
noncomputable def Rps (K:aj) (H:Hp):List D→List V→Prop
 | [],vs=>vs=[]
 | d::ds,vs=>∃ v us,vs=v::us∧Rp K H d v∧Rps K H ds us
noncomputable def Rfs (K:aj) (H:Hp):List (Str × D)→List (Str × V)→Prop
 | [],fs=>fs=[]
 | (k,d)::gs,fs=>∃ v us,fs=(k,v)::us∧Rp K H d v∧Rfs K H gs us
noncomputable def Rks (K:aj) (H:Hp):List (Key × D)→List (Key × V)→Prop
 | [],fs=>fs=[]
 | (k,d)::gs,fs=>∃ v us,fs=(k,v)::us∧Rp K H d v∧Rks K H gs us
end
theorem Rd.same {H H':Hp}{a:Addr}{o:HO}(e:Zv H H') (h:Rd H a o):Rd H' a o:=h.elim (fun z => .inl (e _ _ z)) (fun ⟨u,z⟩ => .inr ⟨u,e _ _ z⟩)
theorem SqT.same {K:aj}{H H':Hp}{a:Addr}{xs:List V}(e:Zv H H') (h:SqT K H a xs):SqT K H' a xs:=by
 rcases h with (h | ⟨o,h⟩) | h
 ·exact .inl (.inl (e _ _ h))
 ·exact .inl (.inr ⟨o,e _ _ h⟩)
 ·exact .inr h
section
variable {K:aj}{H H':Hp}
mutual
theorem Rp.same (s:Zv H H'):∀ (d:D) {v:V},Rp K H d v→Rp K H' d v
 | .non,_,h=>h
 | .bl _,_,h=>h
 | .int _,_,h=>h
 | .str _,_,h=>h
 | .ty _,_,h=>h
 | .rf _,_,h=>h
 | .tup xs,_,⟨a,vs,e,h1,h2⟩=>⟨a,vs,e,s _ _ h1,Rps.same s xs h2⟩
 | .lst xs,_,⟨a,vs,e,h1,h2⟩=>⟨a,vs,e,s _ _ h1,Rps.same s xs h2⟩
 | .scr xs,_,⟨a,vs,e,h1,h2⟩=>⟨a,vs,e,s.seq h1,Rps.same s xs h2⟩
 | .obj _ gs,_,⟨a,dx,fs,e,h1,h2⟩=>⟨a,dx,fs,e,s _ _ h1,Rfs.same s gs h2⟩
 | .dic gs,_,⟨a,fs,e,h1,h2⟩=>⟨a,fs,e,s _ _ h1,Rks.same s gs h2⟩
 | .exc _,_,⟨a,e,h1⟩=>⟨a,e,s _ _ h1⟩
theorem Rps.same (s:Zv H H'):∀ (ds:List D) {vs:List V},Rps K H ds vs→Rps K H' ds vs
 | [],_,h=>h
 | d::ds,_,⟨v,us,e,h1,h2⟩=>⟨v,us,e,Rp.same s d h1,Rps.same s ds h2⟩
theorem Rfs.same (s:Zv H H'):∀ (ds:List (Str × D)) {vs:List (Str × V)},Rfs K H ds vs→Rfs K H' ds vs
 | [],_,h=>h
 | (k,d)::ds,_,⟨v,us,e,h1,h2⟩=>⟨v,us,e,Rp.same s d h1,Rfs.same s ds h2⟩
theorem Rks.same (s:Zv H H'):∀ (ds:List (Key × D)) {vs:List (Key × V)},Rks K H ds vs→Rks K H' ds vs
 | [],_,h=>h
 | (k,d)::ds,_,⟨v,us,e,h1,h2⟩=>⟨v,us,e,Rp.same s d h1,Rks.same s ds h2⟩
end
end
structure Ext (H0 H H0' H':Hp):Prop where
 s:Zv H H'
 s0:Zv H0 H0'
 sub:Zv H0' H'
 new:∀ b,H0 b=none→H b≠none→H0' b=none
theorem Ext.refl {H0 H:Hp}(h:Zv H0 H):Ext H0 H H0 H:=⟨.refl _,.refl _,h,fun _ z _=>z⟩
theorem Ext.trans {H0 H H1 H2 H3 H4:Hp}(a:Ext H0 H H1 H2) (b:Ext H1 H2 H3 H4):Ext H0 H H3 H4 :=
 ⟨a.s.trans b.s,a.s0.trans b.s0,b.sub,fun c z n=>b.new c (a.new c z n) (fun q=>n (a.s.free q))⟩
theorem Ext.grow {H0 H H':Hp}(h:Zv H0 H) (s:Zv H H'):Ext H0 H H0 H':=⟨s,.refl _,h.trans s,fun _ z _=>z⟩
theorem Ext.put {H0 H:Hp}{p:Addr}{o:HO}(h:Zv H0 H) (hp:H p=none):Ext H0 H (upd H0 p o) (upd H p o):=by
 refine ⟨Zv.upd hp,Zv.upd (h.free hp),fun b u e=>?_,fun b z n=>?_⟩
 ·by_cases hb:b=p
  ·subst hb;rw [Zu] at e ⊢;exact e
  ·rw [Zk hb] at e ⊢;exact h _ _ e
 ·rw [Zk (fun y=>n (by rw [y];exact hp))];exact z
inductive MO where
 | lst (xs:List D) | dic (kvs:List (Key × D)) | ins (C dx:Addr) (fs:List (Str × D))
abbrev Mu:=List (Addr × MO)
noncomputable def zx (K:aj) (H0:Hp):MO→HO→Prop
 | .lst xs,o=>∃ vs,o = .lst vs∧Rps K H0 xs vs
 | .dic gs,o=>∃ kvs,o = .dK kvs∧Rks K H0 gs kvs
 | .ins C dx gs,o=>∃ fs,o = .ins C dx fs∧Rfs K H0 gs fs
theorem zx.same {K:aj}{H0 H0':Hp}(s:Zv H0 H0') {m:MO}{o:HO}(h:zx K H0 m o):zx K H0' m o:=by
 cases m with
 | lst xs=>obtain ⟨vs,e,r⟩:=h;exact ⟨vs,e,r.same s⟩
 | dic xs=>obtain ⟨vs,e,r⟩:=h;exact ⟨vs,e,r.same s⟩
 | ins C dx xs=>obtain ⟨vs,e,r⟩:=h;exact ⟨vs,e,r.same s⟩
inductive Slot where
 | un | v (d:D) | own (xs:List D) | ob (a dx C:Addr) (fs:List (Str × D)) | od (kvs:List (Key × D)) | st (a:Addr) (μ:Mu)
abbrev DSt:=List Slot
noncomputable def Slot.isOwn:Slot→Bool
 | .own _=>true
 | .ob _ _ _ _=>true
 | .od _=>true
 | .st _ _=>true
 | _=>false
noncomputable def Slot.foot:Slot→Option V→Addr→Prop
 | .own _,o,b=>o=some (.ref b)
 | .ob _ _ _ _,o,b=>o=some (.ref b)
 | .od _,o,b=>o=some (.ref b)
 | .st _ μ,_,b=>∃ m,μ.lookup b=some m
 | _,_,_=>False
theorem Slot.Xx {s:Slot}{o:Option V}{b:Addr}(h:s.foot o b):s.isOwn=true:=by
 cases s with
 | un=>exact h.elim
 | v d=>exact h.elim
 | _=>rfl
noncomputable def Oa (K:aj) (H0 H:Hp):Slot→Option V→Prop
 | .un,_=>True
 | .v d,o=>∃ v,o=some v∧Rp K H0 d v
 | .own xs,o=>∃ a vs,o=some (.ref a)∧H0 a=none∧H a=some (.lst vs)∧Rps K H0 xs vs
 | .ob a dx C gs,o=>∃ fs,o=some (.ref a)∧H0 a=none∧H a=some (.ins C dx fs)∧Rfs K H0 gs fs
 | .od gs,o=>∃ a kvs,o=some (.ref a)∧H0 a=none∧H a=some (.dK kvs)∧Rks K H0 gs kvs
 | .st a μ,o=>o=some (.ref a)∧∀ b m,μ.lookup b=some m→H0 b=none∧∃ u,H b=some u∧zx K H0 m u
structure Cfg (K:aj) (B0 B H0 H:Hp) (σ:St) (ds:DSt):Prop where
 ext:Ext B0 B H0 H
 slot:∀ (i:Nat) s,ds[i]?=some s→Oa K H0 H s ((σ[i]?).getD none)
 young:∀ (i:Nat) s a,ds[i]?=some s→s.foot ((σ[i]?).getD none) a→B a=none
 sep:∀ (i j:Nat) s t a,i≠j→ds[i]?=some s→ds[j]?=some t→s.foot ((σ[i]?).getD none) a→t.foot ((σ[j]?).getD none) a→False
 len:σ.length=ds.length
section
variable {K:aj}{B0 B H0 H H0' H':Hp}{σ:St}{ds:DSt}
theorem Oa.ext {s:Slot}{o:Option V}(h:Oa K H0 H s o) (e:Ext H0 H H0' H'):Oa K H0' H' s o:=by
 cases s with
 | un=>trivial
 | v d=>obtain ⟨v,e1,h1⟩:=h;exact ⟨v,e1,h1.same e.s0⟩
 | own xs =>
  obtain ⟨a,vs,e1,h1,h2,h3⟩:=h
  exact ⟨a,vs,e1,e.new a h1 (by rw [h2];simp),e.s _ _ h2,h3.same e.s0⟩
 | ob a dx C gs =>
  obtain ⟨fs,e1,h1,h2,h3⟩:=h
  exact ⟨fs,e1,e.new a h1 (by rw [h2];simp),e.s _ _ h2,h3.same e.s0⟩
 | od gs =>
  obtain ⟨a,fs,e1,h1,h2,h3⟩:=h
  exact ⟨a,fs,e1,e.new a h1 (by rw [h2];simp),e.s _ _ h2,h3.same e.s0⟩
 | st a μ =>
  refine ⟨h.1,fun b m l=>?_⟩
  obtain ⟨h1,u,h2,h3⟩:=h.2 b m l
  exact ⟨e.new b h1 (by rw [h2];simp),u,e.s _ _ h2,h3.same e.s0⟩
theorem Cfg.sub (c:Cfg K B0 B H0 H σ ds):Zv H0 H:=c.ext.sub
theorem Cfg.go (c:Cfg K B0 B H0 H σ ds) (e:Ext H0 H H0' H'):Cfg K B0 B H0' H' σ ds :=
 ⟨c.ext.trans e,fun i s q=>(c.slot i s q).ext e,c.young,c.sep,c.len⟩
theorem JR {σ:St}{i:Nat}{o:Option V}(h:i < σ.length) (j:Nat):((σ.set i o)[j]?).getD none=if j=i then o else (σ[j]?).getD none:=by
 by_cases e:j=i
 ·subst e;rw [if_pos rfl,List.getElem?_set_self h];rfl
 ·rw [if_neg e,getElem?_set_ne (fun z=>e z.symm)]
theorem Xu {ds:DSt}{i:Nat}{s:Slot}(h:i < ds.length) (j:Nat):(ds.set i s)[j]?=if j=i then some s else ds[j]?:=by
 by_cases e:j=i
 ·subst e;rw [if_pos rfl,List.getElem?_set_self h]
 ·rw [if_neg e,getElem?_set_ne (fun z=>e z.symm)]
theorem Jo {α:Type}{l:List α}{i:Nat}{a:α}(h:¬ i < l.length):l.set i a=l:=List.set_eq_of_length_le (by omega)
theorem Cfg.Ob (c:Cfg K B0 B H0 H σ ds) {i:Nat}{s:Slot}{a:Addr}(q:ds[i]?=some s) (f:s.foot ((σ[i]?).getD none) a):H0 a=none∧H a≠none:=by
 have h:=c.slot i s q
 cases s with
 | own xs =>
  obtain ⟨b,vs,e1,h1,h2,h3⟩:=h
  have f:_=_:=f
  rw [e1] at f
  cases f
  exact ⟨h1,by rw [h2];simp⟩
 | ob b dx C gs =>
  obtain ⟨fs,e1,h1,h2,h3⟩:=h
  have f:_=_:=f
  rw [e1] at f
  cases f
  exact ⟨h1,by rw [h2];simp⟩
 | od gs =>
  obtain ⟨b,fs,e1,h1,h2,h3⟩:=h
  have f:_=_:=f
  rw [e1] at f
  cases f
  exact ⟨h1,by rw [h2];simp⟩
 | st b μ =>
  obtain ⟨m,l⟩:=f
  obtain ⟨h1,u,h2,h3⟩:=h.2 _ _ l
  exact ⟨h1,by rw [h2];simp⟩
 | un=>exact f.elim
 | v d=>exact f.elim
theorem Cfg.lay (c:Cfg K B0 B H0 H σ ds) (i:Nat) {s:Slot}{o:Option V}(h:Oa K H0 H s o) (hy:∀ a,s.foot o a→B a=none) (hn:∀ a (j:Nat) t,j≠i→ds[j]?=some t→s.foot o a→t.foot ((σ[j]?).getD none) a→False):Cfg K B0 B H0 H (σ.set i o) (ds.set i s):=by
 by_cases hi:i < ds.length
 case neg =>
  rw [Jo hi,Jo (by rw [c.len];exact hi)]
  exact c
 have hi':i < σ.length:=by rw [c.len];exact hi
 refine ⟨c.ext,fun j t q=>?_,fun j t a q w=>?_,fun j k t u a ne q r w x=>?_,by rw [length_set,length_set];exact c.len⟩
 ·rw [Xu hi] at q
  rw [JR hi']
  split at q
  ·cases q
   rw [if_pos (by assumption)]
   exact h
  ·rw [if_neg (by assumption)]
   exact c.slot j t q
 ·rw [Xu hi] at q
  rw [JR hi'] at w
  split at q
  ·cases q
   rw [if_pos (by assumption)] at w
   exact hy a w
  ·rw [if_neg (by assumption)] at w
   exact c.young j t a q w
 ·rw [Xu hi] at q r
  rw [JR hi'] at w x
  split at q
  ·rename_i z
   cases q
   rw [if_pos z] at w
   have kn:k≠i:=fun y=>ne (z.trans y.symm)
   rw [if_neg kn] at r x
   exact hn a k u kn r w x
  ·rename_i z
   rw [if_neg z] at w
   split at r
   ·rename_i y
    cases r
    rw [if_pos y] at x
    exact hn a j t z q x w
   ·rename_i y
    rw [if_neg y] at x
    exact c.sep j k t u a ne q r w x
theorem Cfg.setN (c:Cfg K B0 B H0 H σ ds) (i:Nat) {s:Slot}{o:Option V}(hs:s.isOwn=false) (h:Oa K H0 H s o):Cfg K B0 B H0 H (σ.set i o) (ds.set i s) :=
 c.lay i h (fun a f=>by rw [Slot.Xx f] at hs;cases hs) fun a j t _ _ f=>by rw [Slot.Xx f] at hs;cases hs
theorem Cfg.setV (c:Cfg K B0 B H0 H σ ds) (i:Nat) {d:D}{v:V}(h:Rp K H0 d v):Cfg K B0 B H0 H (σ.set i (some v)) (ds.set i (.v d)):=c.setN i rfl ⟨v,rfl,h⟩
theorem Cfg.newO (c:Cfg K B0 B H0 H σ ds) (i:Nat) {a:Addr}{vs:List V}{xs:List D}(e:Ext H0 H H0' H') (n:H a=none) (n0:H0' a=none) (h:H' a=some (.lst vs)) (r:Rps K H0' xs vs):Cfg K B0 B H0' H' (σ.set i (some (.ref a))) (ds.set i (.own xs)):=by
 refine (c.go e).lay i (s := .own xs) ⟨a,vs,rfl,n0,h,r⟩ (fun b f=>?_) fun b j t _ q f g=>?_
 ·have f:some (V.ref a)=some (V.ref b):=f
  cases f
  exact c.ext.s.free n
 ·have f:some (V.ref a)=some (V.ref b):=f
  cases f
  exact (c.Ob q g).2 n
theorem Cfg.newOd (c:Cfg K B0 B H0 H σ ds) (i:Nat) {a:Addr}{vs:List (Key × V)}{xs:List (Key × D)}(e:Ext H0 H H0' H') (n:H a=none) (n0:H0' a=none) (h:H' a=some (.dK vs)) (r:Rks K H0' xs vs):Cfg K B0 B H0' H' (σ.set i (some (.ref a))) (ds.set i (.od xs)):=by
 refine (c.go e).lay i (s := .od xs) ⟨a,vs,rfl,n0,h,r⟩ (fun b f=>?_) fun b j t _ q f g=>?_
 ·have f:some (V.ref a)=some (V.ref b):=f
  cases f
  exact c.ext.s.free n
 ·have f:some (V.ref a)=some (V.ref b):=f
  cases f
  exact (c.Ob q g).2 n
theorem Cfg.write (c:Cfg K B0 B H0 H σ ds) {i:Nat}{s s':Slot}{a:Addr}{o:HO}(q:ds[i]?=some s) (f:s.foot ((σ[i]?).getD none) a) (hf:∀ b,s'.foot ((σ[i]?).getD none) b→s.foot ((σ[i]?).getD none) b)
  (h:Oa K H0 (upd H a o) s' ((σ[i]?).getD none)):Cfg K B0 B H0 (upd H a o) σ (ds.set i s'):=by
 have hi:i < ds.length:=(List.getElem?_eq_some_iff.mp q).1
 obtain ⟨h0,hn⟩:=c.Ob q f
 have hB:=c.young i s a q f
 refine ⟨⟨fun b u z=>?_,c.ext.s0,fun b u z=>?_,c.ext.new⟩,fun j t r=>?_,fun j t b r x=>?_,fun j k t u b nj r y x z=>?_,by rw [length_set];exact c.len⟩
 ·rw [Zk (fun y=>by rw [y,hB] at z;cases z)]
  exact c.ext.s _ _ z
 ·rw [Zk (fun y=>by rw [y,h0] at z;cases z)]
  exact c.sub _ _ z
 ·rw [Xu hi] at r
  split at r
  ·cases r
   rename_i z
   rw [z]
   exact h
  ·rename_i z
   have old:=c.slot j t r
   have na:∀ b,t.foot ((σ[j]?).getD none) b→b≠a:=fun b x y=>c.sep j i t s a z r q (y ▸ x) f
   cases t with
   | un=>trivial
   | v d=>exact old
   | own xs =>
    obtain ⟨b,vs,e1,h1,h2,h3⟩:=old
    exact ⟨b,vs,e1,h1,by rw [Zk (na b e1)];exact h2,h3⟩
   | ob b dx C gs =>
    obtain ⟨vs,e1,h1,h2,h3⟩:=old
    exact ⟨vs,e1,h1,by rw [Zk (na b e1)];exact h2,h3⟩
   | od gs =>
    obtain ⟨b,vs,e1,h1,h2,h3⟩:=old
    exact ⟨b,vs,e1,h1,by rw [Zk (na b e1)];exact h2,h3⟩
   | st b μ =>
    refine ⟨old.1,fun b' m l=>?_⟩
    obtain ⟨h1,u,h2,h3⟩:=old.2 b' m l
    exact ⟨h1,u,by rw [Zk (na b' ⟨m,l⟩)];exact h2,h3⟩
 ·rw [Xu hi] at r
  split at r
  ·rename_i z
   cases r
   rw [z] at x
   exact c.young i s b q (hf b x)
  ·exact c.young j t b r x
 ·rw [Xu hi] at r y
  split at r
  ·rename_i jz
   cases r
   rw [if_neg (fun kz=>nj (jz.trans kz.symm))] at y
   rw [jz] at x
   exact c.sep i k s u b (jz ▸ nj) q y (hf b x) z
  ·split at y
   ·rename_i kz
    cases y
    rw [kz] at z
    exact c.sep j i t s b (kz ▸ nj) r q x (hf b z)
   ·exact c.sep j k t u b nj r y x z
theorem Cfg.push (c:Cfg K B0 B H0 H σ ds) {i:Nat}{xs ys:List D}(q:ds[i]?=some (.own xs)):∃ a vs,(σ[i]?).getD none=some (.ref a)∧H a=some (.lst vs)∧Rps K H0 xs vs ∧
  ∀ H0' H' us,Ext H0 H H0' H'→Rps K H0' ys us→Cfg K B0 B H0' (upd H' a (.lst us)) σ (ds.set i (.own ys)):=by
 obtain ⟨a,vs,e1,h1,h2,h3⟩:=c.slot i _ q
 refine ⟨a,vs,e1,h2,h3,fun H0' H' us e r=>?_⟩
 exact (c.go e).write q e1 (fun b f=>f) ⟨a,us,e1,e.new a h1 (by rw [h2];simp),Zu,r⟩
theorem Cfg.pushD (c:Cfg K B0 B H0 H σ ds) {i:Nat}{xs ys:List (Key × D)}(q:ds[i]?=some (.od xs)):∃ a vs,(σ[i]?).getD none=some (.ref a)∧H a=some (.dK vs)∧Rks K H0 xs vs ∧
  ∀ H0' H' us,Ext H0 H H0' H'→Rks K H0' ys us→Cfg K B0 B H0' (upd H' a (.dK us)) σ (ds.set i (.od ys)):=by
 obtain ⟨a,vs,e1,h1,h2,h3⟩:=c.slot i _ q
 refine ⟨a,vs,e1,h2,h3,fun H0' H' us e r=>?_⟩
 exact (c.go e).write q e1 (fun b f=>f) ⟨a,us,e1,e.new a h1 (by rw [h2];simp),Zu,r⟩
end
noncomputable def Slot.peek:Slot→Slot
 | .own xs => .v (.lst xs)
 | .od kvs => .v (.dic kvs)
 | s=>s
mutual
noncomputable def D.imm:D→Bool
 | .tup xs=>D.GO xs
 | .obj _ fs=>D.immf fs
 | .lst _=>false
 | .scr _=>false
 | .dic _=>false
 | _=>true
noncomputable def D.GO:List D→Bool
 | []=>true
 | d::ds=>d.imm && D.GO ds
noncomputable def D.immf:List (Str × D)→Bool
 | []=>true
 | (_,d)::ds=>d.imm && D.immf ds
end
section
variable {K:aj}{H0 H1:Hp}
noncomputable def GP (H0 H1:Hp):Prop:=∀ b o,H1 b=some o→H0 b=some o∨(H0 b=none∧((∃ vs,o = .lst vs)∨∃ kvs,o = .dK kvs))
mutual
theorem Rp.less (l:GP H0 H1):∀ (d:D) {v:V},d.imm=true→Rp K H1 d v→Rp K H0 d v
 | .non,_,_,h=>h
 | .bl _,_,_,h=>h
 | .int _,_,_,h=>h
 | .str _,_,_,h=>h
 | .ty _,_,_,h=>h
 | .rf _,_,_,h=>h
 | .tup xs,_,z,⟨a,vs,e,h1,h2⟩=>⟨a,vs,e,(by
   rcases l _ _ h1 with y | ⟨_,⟨us,y⟩ | ⟨us,y⟩⟩
   ·exact y
   ·cases y
   ·cases y),Rps.less l xs (by unfold D.imm at z;exact z) h2⟩
 | .lst xs,_,z,_=>by unfold D.imm at z;cases z
 | .scr xs,_,z,_=>by unfold D.imm at z;cases z
 | .obj _ gs,_,z,⟨a,dx,fs,e,h1,h2⟩=>⟨a,dx,fs,e,(by
   rcases l _ _ h1 with y | ⟨_,⟨us,y⟩ | ⟨us,y⟩⟩
   ·exact y
   ·cases y
   ·cases y),Rfs.less l gs (by unfold D.imm at z;exact z) h2⟩
 | .dic gs,_,z,_=>by unfold D.imm at z;cases z
 | .exc _,_,_,⟨a,e,h1⟩=>⟨a,e,by
   rcases l _ _ h1 with y | ⟨_,⟨us,y⟩ | ⟨us,y⟩⟩
   ·exact y
   ·cases y
   ·cases y⟩
theorem Rps.less (l:GP H0 H1):∀ (ds:List D) {vs:List V},D.GO ds=true→Rps K H1 ds vs→Rps K H0 ds vs
 | [],_,_,h=>h
 | d::ds,_,z,⟨v,us,e,h1,h2⟩=>by
  unfold D.GO at z
  rw [aD] at z
  exact ⟨v,us,e,Rp.less l d z.1 h1,Rps.less l ds z.2 h2⟩
theorem Rfs.less (l:GP H0 H1):∀ (ds:List (Str × D)) {vs:List (Str × V)},D.immf ds=true→Rfs K H1 ds vs→Rfs K H0 ds vs
 | [],_,_,h=>h
 | (k,d)::ds,_,z,⟨v,us,e,h1,h2⟩=>by
  unfold D.immf at z
  rw [aD] at z
  exact ⟨v,us,e,Rp.less l d z.1 h1,Rfs.less l ds z.2 h2⟩
end
end
noncomputable def peekAt (pk:List Nat) (ds:DSt):DSt:=pk.foldl (fun ds i=>ds.modify i Slot.peek) ds
section
variable {K:aj}{B0 B H0 H H0' H':Hp}{σ:St}{ds:DSt}
theorem Cfg.frz (c:Cfg K B0 B H0 H σ ds) {i:Nat}{s:Slot}{a:Addr}{o:HO}{d:D}(q:ds[i]?=some s) (e1:(σ[i]?).getD none=some (.ref a)) (f:s.foot ((σ[i]?).getD none) a) (h2:H a=some o) (hr:Rp K (upd H0 a o) d (.ref a)) :
  Cfg K B0 B (upd H0 a o) H σ (ds.set i (.v d))∧Zv H0 (upd H0 a o):=by
 have hi:i < ds.length:=(List.getElem?_eq_some_iff.mp q).1
 obtain ⟨h1,hn⟩:=c.Ob q f
 have s01:Zv H0 (upd H0 a o):=Zv.upd h1
 have hB:=c.young i _ a q f
 have sub1:Zv (upd H0 a o) H:=fun b o' z=>by
  by_cases hb:b=a
  ·subst hb;rw [Zu] at z;rw [h2];exact z
  ·rw [Zk hb] at z;exact c.sub _ _ z
 refine ⟨⟨⟨c.ext.s,c.ext.s0.trans s01,sub1,fun b z n=>?_⟩,fun j t r=>?_,fun j t b r x=>?_,fun j k t u b nj r y x z=>?_,by rw [length_set];exact c.len⟩,s01⟩
 ·rw [Zk (fun y=>n (by rw [y];exact hB))]
  exact c.ext.new b z n
 ·rw [Xu hi] at r
  split at r
  ·rename_i z
   cases r
   rw [z,e1]
   exact ⟨.ref a,rfl,hr⟩
  ·rename_i z
   have old:=c.slot j t r
   have na:∀ b,t.foot ((σ[j]?).getD none) b→b≠a:=fun b x y=>c.sep j i t _ a z r q (y ▸ x) f
   cases t with
   | un=>trivial
   | v d=>obtain ⟨v,z1,z2⟩:=old;exact ⟨v,z1,z2.same s01⟩
   | own ys =>
    obtain ⟨b,us,f1,f2,f3,f4⟩:=old
    exact ⟨b,us,f1,by rw [Zk (na b f1)];exact f2,f3,f4.same s01⟩
   | ob b dx C gs =>
    obtain ⟨us,f1,f2,f3,f4⟩:=old
    exact ⟨us,f1,by rw [Zk (na b f1)];exact f2,f3,f4.same s01⟩
   | od gs =>
    obtain ⟨b,us,f1,f2,f3,f4⟩:=old
    exact ⟨b,us,f1,by rw [Zk (na b f1)];exact f2,f3,f4.same s01⟩
   | st b μ =>
    refine ⟨old.1,fun b' m l=>?_⟩
    obtain ⟨g1,u,g2,g3⟩:=old.2 b' m l
    exact ⟨by rw [Zk (na b' ⟨m,l⟩)];exact g1,u,g2,g3.same s01⟩
 ·rw [Xu hi] at r
  split at r
  ·cases r
   exact x.elim
  ·exact c.young j t b r x
 ·rw [Xu hi] at r y
  split at r
  ·cases r
   exact x.elim
  ·split at y
   ·cases y
    exact z.elim
   ·exact c.sep j k t u b nj r y x z
theorem Cfg.peek1 (c:Cfg K B0 B H0 H σ ds) (i:Nat):∃ H1,Cfg K B0 B H1 H σ (ds.modify i Slot.peek)∧Zv H0 H1∧GP H0 H1∧∀ b,H1 b≠none→H0 b=none→H b≠none:=by
 have triv:ds.modify i Slot.peek=ds→∃ H1,Cfg K B0 B H1 H σ (ds.modify i Slot.peek)∧Zv H0 H1∧GP H0 H1∧∀ b,H1 b≠none→H0 b=none→H b≠none:=fun e =>
  ⟨H0,by rw [e];exact c,.refl _,fun b o z => .inl z,fun b z y=>absurd y z⟩
 cases q:ds[i]? with
 | none=>exact triv (List.modify_eq_self (List.getElem?_eq_none_iff.mp q))
 | some s =>
  have em:ds.modify i Slot.peek=ds.set i s.peek:=by
   refine List.ext_getElem? fun j=>?_
   rw [List.getElem?_modify,List.getElem?_set]
   have hi:i < ds.length:=(List.getElem?_eq_some_iff.mp q).1
   by_cases z:i=j
   ·subst z;simp [hi,(List.getElem?_eq_some_iff.mp q).2]
   ·simp [z]
  have hi:i < ds.length:=(List.getElem?_eq_some_iff.mp q).1
  have same:s.peek=s→ds.modify i Slot.peek=ds:=fun e=>by
   rw [em,e]
   refine List.ext_getElem? fun j=>?_
   rw [Xu hi]
   split
   ·rename_i z;rw [z,q]
   ·rfl
  have fin:∀ {a:Addr}{o:HO},H a=some o→H0 a=none→((∃ vs,o = .lst vs)∨∃ kvs,o = .dK kvs)→GP H0 (upd H0 a o)∧∀ b,(upd H0 a o) b≠none→H0 b=none→H b≠none:=by
   intro a o h2 h1 ho
   refine ⟨fun b u z=>?_,fun b z y=>?_⟩
   ·by_cases hb:b=a
    ·subst hb
     rw [Zu] at z
     cases z
     exact .inr ⟨h1,ho⟩
    ·rw [Zk hb] at z
     exact .inl z
   ·by_cases hb:b=a
    ·subst hb
     rw [h2]
     simp
    ·rw [Zk hb] at z
     exact absurd y z
  cases s with
  | un=>exact triv (same rfl)
  | v d=>exact triv (same rfl)
  | ob a dx C gs=>exact triv (same rfl)
  | st a μ=>exact triv (same rfl)
  | own xs =>
   obtain ⟨a,vs,e1,h1,h2,h3⟩:=c.slot i _ q
   obtain ⟨c1,s1⟩:=c.frz (d := .lst xs) q e1 e1 h2 ⟨a,vs,rfl,Zu,h3.same (Zv.upd h1)⟩
   obtain ⟨l1,n1⟩:=fin h2 h1 (.inl ⟨_,rfl⟩)
   exact ⟨_,by rw [em];exact c1,s1,l1,n1⟩
  | od xs =>
   obtain ⟨a,vs,e1,h1,h2,h3⟩:=c.slot i _ q
   obtain ⟨c1,s1⟩:=c.frz (d := .dic xs) q e1 e1 h2 ⟨a,vs,rfl,Zu,h3.same (Zv.upd h1)⟩
   obtain ⟨l1,n1⟩:=fin h2 h1 (.inr ⟨_,rfl⟩)
   exact ⟨_,by rw [em];exact c1,s1,l1,n1⟩
theorem Cfg.peekAt (c:Cfg K B0 B H0 H σ ds) (pk:List Nat):∃ H1,Cfg K B0 B H1 H σ (peekAt pk ds)∧Zv H0 H1∧GP H0 H1∧∀ b,H1 b≠none→H0 b=none→H b≠none:=by
 induction pk generalizing H0 ds with
 | nil=>exact ⟨H0,c,.refl _,fun b o z => .inl z,fun b z y=>absurd y z⟩
 | cons i pk ih =>
  obtain ⟨H1,c1,s1,l1,n1⟩:=c.peek1 i
  obtain ⟨H2,c2,s2,l2,n2⟩:=ih c1
  refine ⟨H2,c2,s1.trans s2,fun b o z=>?_,fun b z y=>?_⟩
  ·rcases l2 b o z with y | ⟨y,e⟩
   ·exact l1 b o y
   ·exact .inr ⟨s1.free y,e⟩
  ·by_cases q:H1 b=none
   ·exact n2 b z q
   ·exact n1 b q y
theorem Ext.GQ {H1:Hp}(e:Ext H1 H H0' H') (s:Zv H0 H1) (sub:Zv H0 H) (l:GP H0 H1) (n:∀ b,H1 b≠none→H0 b=none→H b≠none):∃ H0'',Ext H0 H H0'' H'∧GP H0'' H0'∧Zv H0'' H0':=by
 classical
 refine ⟨fun b=>if H0 b=none∧H1 b≠none then none else H0' b,⟨e.s,fun b o z=>?_,fun b o z=>?_,fun b z y=>?_⟩,fun b o z=>?_,fun b o z=>?_⟩
 ·show (if _ then none else H0' b)=_
  rw [if_neg (fun y=>by rw [z] at y;cases y.1)]
  exact e.s0 _ _ (s _ _ z)
 ·have z:(if H0 b=none∧H1 b≠none then none else H0' b)=some o:=z
  split at z
  ·cases z
  ·exact e.sub _ _ z
 ·show (if _ then none else H0' b)=_
  split
  ·rfl
  ·rename_i q
   refine e.new b ?_ y
   cases r:H1 b with
   | none=>rfl
   | some o=>exact absurd ⟨z,by rw [r];simp⟩ q
 ·show (if _ then none else H0' b)=_∨(if _ then none else H0' b)=_∧_
  split
  ·rename_i q
   right
   refine ⟨rfl,?_⟩
   cases r:H1 b with
   | none=>exact absurd r q.2
   | some u =>
    rcases l b u r with y | ⟨_,y⟩
    ·rw [q.1] at y;cases y
    ·have:=e.s0 _ _ r
     rw [z] at this
     cases this
     exact y
  ·exact .inl z
 ·have z:(if H0 b=none∧H1 b≠none then none else H0' b)=some o:=z
  split at z
  ·cases z
  ·exact z
end
abbrev DE:=DSt→(D→Prop)→(Addr→Prop)→Prop
abbrev DT:=DSt→(Bool→Prop)→(Addr→Prop)→Prop
abbrev DA:=DSt→(List D→Prop)→(Addr→Prop)→Prop
abbrev DO:=DSt→(Option Int→Prop)→(Addr→Prop)→Prop
abbrev KE (K:aj) (H0 H:Hp) (q:D→Prop) (Q:VK):Prop:=∀ v d H0' H',Ext H0 H H0' H'→Rp K H0' d v→q d→Q v H'
abbrev KX (XE:St→XK) (σ:St) (H:Hp) (x:Addr→Prop):Prop:=∀ C H',Zv H H'→x C→XE σ (.ref C) none H'
theorem KX.go {XE:St→XK}{σ:St}{H H1:Hp}{x:Addr→Prop}(k:KX XE σ H x) (s:Zv H H1):KX XE σ H1 x:=fun C H' s' h=>k C H' (s.trans s') h
theorem KE.go {K:aj}{H0 H H1 H2:Hp}{q:D→Prop}{Q:VK}(k:KE K H0 H q Q) (e:Ext H0 H H1 H2):KE K H1 H2 q Q:=fun v d H0' H' e' r h=>k v d H0' H' (e.trans e') r h
noncomputable def Den (K:aj) (XE:St→XK) (te:TE) (de:DE):Prop:=∀ {B0 B H0 H:Hp}{σ:St}{ds:DSt}{q:D→Prop}{x:Addr→Prop}{Q:VK},Cfg K B0 B H0 H σ ds→de ds q x→KE K H0 H q Q→KX XE σ H x→te σ H Q
noncomputable def zy (K:aj) (XE:St→XK) (te:TT) (de:DT):Prop:=∀ {B0 B H0 H:Hp}{σ:St}{ds:DSt}{q:Bool→Prop}{x:Addr→Prop}{Q:Bool→Hp→Prop},Cfg K B0 B H0 H σ ds→de ds q x→(∀ b H0' H',Ext H0 H H0' H'→q b→Q b H')→KX XE σ H x→te σ H Q
noncomputable def DenA (K:aj) (XE:St→XK) (te:TA) (de:DA):Prop:=∀ {B0 B H0 H:Hp}{σ:St}{ds:DSt}{q:List D→Prop}{x:Addr→Prop}{Q:List V→Hp→Prop},Cfg K B0 B H0 H σ ds→de ds q x→(∀ vs xs H0' H',Ext H0 H H0' H'→Rps K H0' xs vs→q xs→Q vs H')→KX XE σ H x→te σ H Q
noncomputable def DenO (K:aj) (XE:St→XK) (te:TO) (de:DO):Prop:=∀ {B0 B H0 H:Hp}{σ:St}{ds:DSt}{q:Option Int→Prop}{x:Addr→Prop}{Q:Option Int→Hp→Prop},Cfg K B0 B H0 H σ ds→de ds q x→(∀ i H0' H',Ext H0 H H0' H'→q i→Q i H')→KX XE σ H x→te σ H Q
structure JE (X:Cx) (XE:St→XK) (e:Expr) (de:DE):Prop where
 ex:∃ te,PE X e te∧Den X.K XE te de
structure JT (X:Cx) (XE:St→XK) (e:Expr) (de:DT):Prop where
 ex:∃ te,PT X e te∧zy X.K XE te de
structure JW (X:Cx) (XE:St→XK) (e:Expr) (de:DT):Prop where
 ex:∃ te,PW X e te∧zy X.K XE te de
structure JAs (X:Cx) (XE:St→XK) (es:List Expr) (de:DA):Prop where
 ex:∃ te,PA X es te∧DenA X.K XE te de
structure JO (X:Cx) (XE:St→XK) (e:Option Expr) (de:DO):Prop where
 ex:∃ te,PO X e te∧DenO X.K XE te de
section
variable {X:Cx}{XE:St→XK}
noncomputable def dVar (i:Nat):DE:=fun ds q _=>∃ d,ds[i]?=some (.v d)∧q d
noncomputable def dC (d:D):DE:=fun _ q _=>q d
theorem Wb {o:Option (Option V)}{v:V}(h:o.getD none=some v):o=some (some v):=by
 cases o with
 | none=>cases h
 | some o=>exact congrArg some h
theorem jv (i:Nat) {x:Str}{pos:Pos}(hN:autoParam (X.N[i]?=some x) auR) (hv:Vis X.env.scope x:=by first | exact Or.inl rfl | exact Or.inr (Or.inl rfl) | exact Or.inr (Or.inr rfl)) (hd:autoParam ((x == ("__debug__" : Str))=false) auD)
  (hcd:autoParam ((x == ("__classdict__" : Str))=false) auD):JE X XE (.Name x pos) (dVar i) :=
 ⟨_,pv i hN hv hd hcd,fun c h k _=>by
  obtain ⟨d,e,h⟩:=h
  obtain ⟨v,e1,r⟩:=c.slot i _ e
  exact ⟨v,Wb e1,k v d _ _ (.refl c.sub) r h⟩⟩
theorem Zd {i j pos}:JE X XE (.Constant (.int i) j pos) (dC (.int i)):=⟨_,pT,fun c h k _=>k _ (.int i) _ _ (.refl c.sub) rfl h⟩
theorem NB {b j pos}:JE X XE (.Constant (.bool b) j pos) (dC (.bl b)):=⟨_,pe_bl,fun c h k _=>k _ (.bl b) _ _ (.refl c.sub) rfl h⟩
theorem Yp {x:Str}{j pos}:JE X XE (.Constant (.str x) j pos) (dC (.str x)):=⟨_,pV,fun c h k _=>k _ (.str x) _ _ (.refl c.sub) rfl h⟩
theorem NC {j pos}:JE X XE (.Constant .none j pos) (dC .non):=⟨_,pU,fun c h k _=>k _ .non _ _ (.refl c.sub) rfl h⟩
theorem Oc {x:Str}{v:V}{u:Value}{pos:Pos}(d:D) (hg:Gl X x) (hm:X.mg x=some u) (r:RelV v u) (hr:∀ K H,Rp K H d v) (hd:autoParam ((x == ("__debug__" : Str))=false) auD):JE X XE (.Name x pos) (dC d) :=
 ⟨_,uK hg hm r hd,fun c h k _=>k _ _ _ _ (.refl c.sub) (hr _ _) h⟩
theorem Wc {x:Str}{n:String}{pos:Pos}(hg:Gl X x) (hm:X.mg x=none) (hv:bootBuiltins x=some (.type n)) (hn:autoParam (x≠("__name__" : Str)) auD) (hd:autoParam ((x == ("__debug__" : Str))=false) auD):JE X XE (.Name x pos) (dC (.ty n)) :=
 ⟨_,uL (v := .ty n) hg hm hv rfl hn hd,fun c h k _=>k _ (.ty n) _ _ (.refl c.sub) rfl h⟩
noncomputable def dNil:DA:=fun _ q _=>q []
noncomputable def BU (da:DE) (dr:DA):DA:=fun ds q x=>da ds (fun a=>dr ds (fun as=>q (a::as)) x) x
theorem Zb:JAs X XE [] dNil:=⟨_,PX,fun c h k _=>k _ [] _ _ (.refl c.sub) rfl h⟩
theorem Zc {e:Expr}{es:List Expr}{da:DE}{dr:DA}(ha:JE X XE e da) (hr:JAs X XE es dr) (h:autoParam (noStar e=true) auR):JAs X XE (e::es) (BU da dr):=by
 obtain ⟨ta,p1,d1⟩:=ha.ex
 obtain ⟨tr,p2,d2⟩:=hr.ex
 refine ⟨_,Ei p1 p2 h,fun c h k kx=>?_⟩
 refine d1 c h (fun v a H1 H2 e r h=>?_) kx
 exact d2 (c.go e) h (fun vs as H3 H4 e' r' h'=>k _ (a::as) _ _ (e.trans e') ⟨v,vs,rfl,r.same e'.s0,r'⟩ h') (kx.go e.s)
noncomputable def En (K:aj) (r:R2) (g:D→D→(D→Prop)→Prop):Prop:=∀ {H0 H:Hp}{x y:V}{a b:D}{q:D→Prop}{Q:VK},Zv H0 H→Rp K H0 a x→Rp K H0 b y→g a b q→KE K H0 H q Q→r x y H Q
structure JOp (X:Cx) (f:Value→Value→Sem Value) (g:D→D→(D→Prop)→Prop):Prop where
 ex:∃ r,OpR X f r∧En X.K r g
noncomputable def dOp (g:D→D→(D→Prop)→Prop) (da db:DE):DE:=fun ds q x=>da ds (fun a=>db ds (fun b=>g a b q) x) x
theorem GR {K:aj}{ta tb:TE}{da db:DE}{r:R2}{g:D→D→(D→Prop)→Prop}(d1:Den K XE ta da) (d2:Den K XE tb db) (l:En K r g):Den K XE (tOp r ta tb) (dOp g da db):=fun c h k kx =>
 d1 c h (fun v a H1 H2 e r1 h=>d2 (c.go e) h (fun u b H3 H4 e' r2 h'=>l (c.go (e.trans e')).sub (r1.same e'.s0) r2 h' (k.go (e.trans e'))) (kx.go e.s)) kx
theorem Zn {a b:Expr}{da db:DE}{op:Operator}{pos:Pos}{g:D→D→(D→Prop)→Prop}(ho:JOp X (binaryOp op) g) (ha:JE X XE a da) (hb:JE X XE b db):JE X XE (.BinOp a op b pos) (dOp g da db):=by
 obtain ⟨r,o,l⟩:=ho.ex
 obtain ⟨ta,p1,d1⟩:=ha.ex
 obtain ⟨tb,p2,d2⟩:=hb.ex
 exact ⟨_,yP o p1 p2,GR d1 d2 l⟩
theorem VN {a b:Expr}{da db:DE}{op:CmpOp}{pos:Pos}{g:D→D→(D→Prop)→Prop}(ho:JOp X (compareOp op) g) (ha:JE X XE a da) (hb:JE X XE b db) (hm:behindInMarks op b=false):JE X XE (.Compare a [op] [b] pos) (dOp g da db):=by
 obtain ⟨r,o,l⟩:=ho.ex
 obtain ⟨ta,p1,d1⟩:=ha.ex
 obtain ⟨tb,p2,d2⟩:=hb.ex
 exact ⟨_,uV o p1 p2 hm,GR d1 d2 l⟩
noncomputable def Ct (g g':D→D→(D→Prop)→Prop) (da db dc:DE):DE:=fun ds q x=>da ds (fun a=>db ds (fun b=>g a b fun z=>∃ k,z = .bl k∧if k=true then dc ds (fun c=>g' b c q) x else q (.bl false)) x) x
theorem j_chain {a b c:Expr}{da db dc:DE}{op op':CmpOp}{pos:Pos}{g g':D→D→(D→Prop)→Prop}(ho:JOp X (compareOp op) g) (ho':JOp X (compareOp op') g') (ha:JE X XE a da) (hb:JE X XE b db) (hc:JE X XE c dc)
  (hm:lastMarks [op,op'] [b,c]=false:=by with_unfolding_all rfl):JE X XE (.Compare a [op,op'] [b,c] pos) (Ct g g' da db dc):=by
 obtain ⟨r,o,l⟩:=ho.ex
 obtain ⟨r',o',l'⟩:=ho'.ex
 obtain ⟨ta,p1,d1⟩:=ha.ex
 obtain ⟨tb,p2,d2⟩:=hb.ex
 obtain ⟨tc,p3,d3⟩:=hc.ex
 refine ⟨_,yT o o' p1 p2 p3 hm,fun c h k kx=>?_⟩
 refine d1 c h (fun v a H1 H2 e r1 h=>d2 (c.go e) h (fun u b H3 H4 e' r2 h'=>?_) (kx.go e.s)) kx
 refine l (c.go (e.trans e')).sub (r1.same e'.s0) r2 h' fun z d H5 H6 e2 r3 ⟨kk,ek,hk⟩=>?_
 subst ek
 refine ⟨kk,r3,?_⟩
 have e3:=(e.trans e').trans e2
 cases kk with
 | true =>
  rw [if_pos rfl] at hk ⊢
  exact d3 (c.go e3) hk (fun w' cc H7 H8 e4 r4 h4=>l' (c.go (e3.trans e4)).sub (r2.same (e2.trans e4).s0) r4 h4 (k.go (e3.trans e4))) (kx.go e3.s)
 | false =>
  rw [if_neg aC] at hk ⊢
  exact k _ (.bl false) _ _ e3 rfl hk
noncomputable def dB (de:DE):DT:=fun ds q x=>de ds (fun d=>∃ b,d = .bl b∧q b) x
theorem Eo {K:aj}{te:TE}{de:DE}(d:Den K XE te de):zy K XE (yR te) (dB de):=fun c h k kx =>
 d c h (fun v a H1 H2 e r ⟨b,z,hb⟩=>by subst z;exact ⟨b,r,k b _ _ e hb⟩) kx
theorem ZC {a b:Expr}{da db:DE}{op:CmpOp}{pos:Pos}{g:D→D→(D→Prop)→Prop}(ho:JOp X (compareOp op) g) (ha:JE X XE a da) (hb:JE X XE b db) (hm:behindInMarks op b=false):JT X XE (.Compare a [op] [b] pos) (dB (dOp g da db)):=by
 obtain ⟨r,o,l⟩:=ho.ex
 obtain ⟨ta,p1,d1⟩:=ha.ex
 obtain ⟨tb,p2,d2⟩:=hb.ex
 exact ⟨_,uW o p1 p2 hm,Eo (GR d1 d2 l)⟩
theorem JU {a b c:Expr}{da db dc:DE}{op op':CmpOp}{pos:Pos}{g g':D→D→(D→Prop)→Prop}(ho:JOp X (compareOp op) g) (ho':JOp X (compareOp op') g') (ha:JE X XE a da) (hb:JE X XE b db) (hc:JE X XE c dc)
  (hm:lastMarks [op,op'] [b,c]=false:=by with_unfolding_all rfl):JT X XE (.Compare a [op,op'] [b,c] pos) (dB (Ct g g' da db dc)):=by
 obtain ⟨r,o,l⟩:=ho.ex
 obtain ⟨r',o',l'⟩:=ho'.ex
 obtain ⟨ta,p1,d1⟩:=ha.ex
 obtain ⟨tb,p2,d2⟩:=hb.ex
 obtain ⟨tc,p3,d3⟩:=hc.ex
 refine ⟨_,yU o o' p1 p2 p3 hm,Eo fun c h k kx=>?_⟩
 refine d1 c h (fun v a H1 H2 e r1 h=>d2 (c.go e) h (fun u b H3 H4 e' r2 h'=>?_) (kx.go e.s)) kx
 refine l (c.go (e.trans e')).sub (r1.same e'.s0) r2 h' fun z d H5 H6 e2 r3 ⟨kk,ek,hk⟩=>?_
 subst ek
 refine ⟨kk,r3,?_⟩
 have e3:=(e.trans e').trans e2
 cases kk with
 | true =>
  rw [if_pos rfl] at hk ⊢
  exact d3 (c.go e3) hk (fun w' cc H7 H8 e4 r4 h4=>l' (c.go (e3.trans e4)).sub (r2.same (e2.trans e4).s0) r4 h4 (k.go (e3.trans e4))) (kx.go e3.s)
 | false =>
  rw [if_neg aC] at hk ⊢
  exact k _ (.bl false) _ _ e3 rfl hk
noncomputable def D.tru:D→(Bool→Prop)→Prop
 | .non,q=>q false
 | .bl b,q=>q b
 | .int i,q=>q (i != 0)
 | .str y,q=>y.length≤aA∧q ((y.length:Int) != 0)
 | .lst xs,q=>q (!xs.isEmpty)
 | .scr xs,q=>q (!xs.isEmpty)
 | .tup xs,q=>q (!xs.isEmpty)
 | _,_=>False
theorem Rps.empty {K:aj}{H:Hp}{xs:List D}{vs:List V}(h:Rps K H xs vs):vs.isEmpty=xs.isEmpty:=by
 cases xs with
 | nil=>rw [show vs=[] from h];rfl
 | cons d ds=>obtain ⟨v,us,rfl,_⟩:=h;rfl
theorem Rps.length {K:aj}{H:Hp}:∀ {xs:List D}{vs:List V},Rps K H xs vs→vs.length=xs.length
 | [],_,h=>by rw [show _=[] from h];rfl
 | d::ds,_,⟨v,us,e,_,h⟩=>by rw [e,length_cons,length_cons,Rps.length h]
noncomputable def dTru (de:DE):DT:=fun ds q x=>de ds (fun d=>d.tru q) x
theorem xS {K:aj}{H0 H:Hp}{d:D}{v:V}{q:Bool→Prop}(s:Zv H0 H) (r:Rp K H0 d v) (h:d.tru q):∃ b,TruV K v H b∧q b:=by
 cases d with
 | non=>rw [show v = .non from r];exact ⟨false,rfl,h⟩
 | bl b=>rw [show v = .bl b from r];exact ⟨b,rfl,h⟩
 | int i=>rw [show v = .int i from r];exact ⟨_,rfl,h⟩
 | str y=>rw [show v = .str y from r];exact ⟨_,⟨h.1,rfl⟩,h.2⟩
 | lst xs =>
  obtain ⟨a,vs,rfl,h1,h2⟩:=r
  exact ⟨_,.inl ⟨vs,SqL.of (s _ _ h1),rfl⟩,by rw [h2.empty];exact h⟩
 | scr xs =>
  obtain ⟨a,vs,rfl,h1,h2⟩:=r
  exact ⟨_,.inl ⟨vs,s.seq h1,rfl⟩,by rw [h2.empty];exact h⟩
 | tup xs =>
  obtain ⟨a,vs,rfl,h1,h2⟩:=r
  exact ⟨_,.inr (.inl ⟨vs,SqT.of (s _ _ h1),rfl⟩),by rw [h2.empty];exact h⟩
 | _=>exact h.elim
end
section
variable {X:Cx}{XE:St→XK}
theorem ZU {e:Expr}{de:DE}(h:JE X XE e de) (he:∀ whole,isTrue e X.env whole=(do let v ← whole;standAt e.pos;holding [v] (truthy v)):=by intro _;rfl):JT X XE e (dTru de):=by
 obtain ⟨te,p,d⟩:=h.ex
 refine ⟨_,yV p he,fun c h k kx=>d c h (fun v a H1 H2 e r h=>?_) kx⟩
 obtain ⟨b,h1,h2⟩:=xS (c.go e).sub r h
 exact ⟨b,h1,k b _ _ e h2⟩
noncomputable def dNot (d:DT):DT:=fun ds q x=>d ds (fun b=>q (!b)) x
noncomputable def dAnd (d e:DT):DT:=fun ds q x=>d ds (fun b=>if b=true then e ds q x else q false) x
noncomputable def dOr (d e:DT):DT:=fun ds q x=>d ds (fun b=>if b=true then q true else e ds q x) x
theorem Yl {a:Expr}{pos:Pos}{d:DT}(h:JT X XE a d):JT X XE (.UnaryOp .Not a pos) (dNot d):=by
 obtain ⟨te,p,d⟩:=h.ex
 exact ⟨_,pW p,fun c h k kx=>d c h (fun b H1 H2 e hb=>k _ _ _ e hb) kx⟩
theorem Sy {a:Expr}{pos:Pos}{d:DT}(h:JT X XE a d):JW X XE (.BoolOp .And [a] pos) d:=by
 obtain ⟨te,p,d⟩:=h.ex
 exact ⟨_,pw_and1 p,d⟩
theorem RO {a:Expr}{pos:Pos}{d:DT}(h:JT X XE a d):JW X XE (.BoolOp .Or [a] pos) d:=by
 obtain ⟨te,p,d⟩:=h.ex
 exact ⟨_,pw_or1 p,d⟩
theorem Od {a b:Expr}{rest:List Expr}{pos:Pos}{d e:DT}(ha:JT X XE a d) (hb:JW X XE (.BoolOp .And (b::rest) pos) e):JW X XE (.BoolOp .And (a::b::rest) pos) (dAnd d e):=by
 obtain ⟨ta,p1,d1⟩:=ha.ex
 obtain ⟨tb,p2,d2⟩:=hb.ex
 refine ⟨_,pw_and p1 p2,fun c h k kx=>d1 c h (fun b H1 H2 e hb=>?_) kx⟩
 cases b with
 | true =>
  rw [if_pos rfl] at hb ⊢
  exact d2 (c.go e) hb (fun b' H3 H4 e' h'=>k _ _ _ (e.trans e') h') (kx.go e.s)
 | false =>
  rw [if_neg aC] at hb ⊢
  exact k _ _ _ e hb
theorem RP {a b:Expr}{rest:List Expr}{pos:Pos}{d e:DT}(ha:JT X XE a d) (hb:JW X XE (.BoolOp .Or (b::rest) pos) e):JW X XE (.BoolOp .Or (a::b::rest) pos) (dOr d e):=by
 obtain ⟨ta,p1,d1⟩:=ha.ex
 obtain ⟨tb,p2,d2⟩:=hb.ex
 refine ⟨_,pw_or p1 p2,fun c h k kx=>d1 c h (fun b H1 H2 e hb=>?_) kx⟩
 cases b with
 | true =>
  rw [if_pos rfl] at hb ⊢
  exact k _ _ _ e hb
 | false =>
  rw [if_neg aC] at hb ⊢
  exact d2 (c.go e) hb (fun b' H3 H4 e' h'=>k _ _ _ (e.trans e') h') (kx.go e.s)
theorem Oe {e:Expr}{d:DT}(h:JW X XE e d):JT X XE e d:=by
 obtain ⟨te,p,d⟩:=h.ex
 exact ⟨_,p.pt,d⟩
noncomputable def qK (da db:DE):DE:=fun ds q x=>da ds (fun a=>∃ k,a = .bl k∧if k=true then db ds q x else q (.bl false)) x
noncomputable def dOrV (da db:DE):DE:=fun ds q x=>da ds (fun a=>∃ k,a = .bl k∧if k=true then q (.bl true) else db ds q x) x
noncomputable def qL (da:DE):DE:=fun ds q x=>da ds (fun a=>∃ k,a = .bl k∧q (.bl (!k))) x
theorem Mv {a:Expr}{pos:Pos}{op:BoolOp}{d:DE}(h:JE X XE a d):JE X XE (.BoolOp op [a] pos) d:=by
 obtain ⟨te,p,d⟩:=h.ex
 exact ⟨_,pX p,d⟩
theorem Mw {a b:Expr}{rest:List Expr}{pos:Pos}{da db:DE}(ha:JE X XE a da) (hb:JE X XE (.BoolOp .And (b::rest) pos) db):JE X XE (.BoolOp .And (a::b::rest) pos) (qK da db):=by
 obtain ⟨ta,p1,d1⟩:=ha.ex
 obtain ⟨tb,p2,d2⟩:=hb.ex
 refine ⟨_,pY p1 p2,fun c h k kx=>d1 c h (fun v a H1 H2 e r ⟨b,z,hb⟩=>?_) kx⟩
 subst z
 refine ⟨b,r,?_⟩
 cases b with
 | true =>
  rw [if_pos rfl] at hb ⊢
  exact d2 (c.go e) hb (k.go e) (kx.go e.s)
 | false =>
  rw [if_neg aC] at hb ⊢
  exact k _ (.bl false) _ _ e rfl hb
theorem qM {a b:Expr}{rest:List Expr}{pos:Pos}{da db:DE}(ha:JE X XE a da) (hb:JE X XE (.BoolOp .Or (b::rest) pos) db):JE X XE (.BoolOp .Or (a::b::rest) pos) (dOrV da db):=by
 obtain ⟨ta,p1,d1⟩:=ha.ex
 obtain ⟨tb,p2,d2⟩:=hb.ex
 refine ⟨_,pe_or p1 p2,fun c h k kx=>d1 c h (fun v a H1 H2 e r ⟨b,z,hb⟩=>?_) kx⟩
 subst z
 refine ⟨b,r,?_⟩
 cases b with
 | true =>
  rw [if_pos rfl] at hb ⊢
  exact k _ (.bl true) _ _ e rfl hb
 | false =>
  rw [if_neg aC] at hb ⊢
  exact d2 (c.go e) hb (k.go e) (kx.go e.s)
theorem nr {a:Expr}{pos:Pos}{da:DE}(ha:JE X XE a da):JE X XE (.UnaryOp .Not a pos) (qL da):=by
 obtain ⟨ta,p1,d1⟩:=ha.ex
 refine ⟨_,pZ p1,fun c h k kx=>d1 c h (fun v a H1 H2 e r ⟨b,z,hb⟩=>?_) kx⟩
 subst z
 exact ⟨b,r,k _ (.bl (!b)) _ _ e rfl hb⟩
noncomputable def dIfE (c:DT) (da db:DE):DE:=fun ds q x=>c ds (fun b=>if b=true then da ds q x else db ds q x) x
theorem je_if {c a b:Expr}{pos:Pos}{dc:DT}{da db:DE}(hc:JT X XE c dc) (ha:JE X XE a da) (hb:JE X XE b db):JE X XE (.IfExp c a b pos) (dIfE dc da db):=by
 obtain ⟨tc,p0,d0⟩:=hc.ex
 obtain ⟨ta,p1,d1⟩:=ha.ex
 obtain ⟨tb,p2,d2⟩:=hb.ex
 refine ⟨_,yI p0 p1 p2,fun c h k kx=>d0 c h (fun b H1 H2 e hb=>?_) kx⟩
 cases b with
 | true =>
  rw [if_pos rfl] at hb ⊢
  exact d1 (c.go e) hb (k.go e) (kx.go e.s)
 | false =>
  rw [if_neg aC] at hb ⊢
  exact d2 (c.go e) hb (k.go e) (kx.go e.s)
noncomputable def dTup (da:DA):DE:=fun ds q x=>da ds (fun xs=>xs.length≤aA∧q (.tup xs)) x
noncomputable def dLst (da:DA):DE:=fun ds q x=>da ds (fun xs=>xs.length≤aA∧q (.lst xs)) x
theorem RQ {K:aj}{H0:Hp}{p:Addr}{vs:List V}{xs:List D}(r:Rps K H0 xs vs) (h:H0 p=none):Rp K (upd H0 p (.tup vs)) (.tup xs) (.ref p):=⟨p,vs,rfl,Zu,r.same (Zv.upd h)⟩
theorem Vh {K:aj}{H0:Hp}{p:Addr}{vs:List V}{xs:List D}(r:Rps K H0 xs vs) (h:H0 p=none):Rp K (upd H0 p (.lst vs)) (.lst xs) (.ref p):=⟨p,vs,rfl,Zu,r.same (Zv.upd h)⟩
theorem Xv {es:List Expr}{x1}{pos:Pos}{da:DA}(h:JAs X XE es da):JE X XE (.Tuple es x1 pos) (dTup da):=by
 obtain ⟨ta,p1,d1⟩:=h.ex
 refine ⟨_,oB p1,fun c h k kx=>d1 c h (fun vs xs H1 H2 e r hb=>⟨by rw [r.length];exact hb.1,fun p hp=>?_⟩) kx⟩
 exact k _ (.tup xs) _ _ (e.trans (.put e.sub hp)) (RQ r (e.sub.free hp)) hb.2
theorem Sz {es:List Expr}{pos:Pos}{da:DA}(h:JAs X XE es da):JE X XE (.List es pos) (dLst da):=by
 obtain ⟨ta,p1,d1⟩:=h.ex
 refine ⟨_,yZ p1,fun c h k kx=>d1 c h (fun vs xs H1 H2 e r hb=>⟨by rw [r.length];exact hb.1,fun p hp=>?_⟩) kx⟩
 exact k _ (.lst xs) _ _ (e.trans (.put e.sub hp)) (Vh r (e.sub.free hp)) hb.2
theorem Rps.get {K:aj}{H:Hp}:∀ {xs:List D}{vs:List V}{i:Nat}{d:D},Rps K H xs vs→xs[i]?=some d→∃ v,vs[i]?=some v∧Rp K H d v
 | [],_,_,_,_,e=>by simp at e
 | d::ds,_,0,_,⟨v,us,e,h,_⟩,q=>by
  simp at q
  subst q e
  exact ⟨v,rfl,h⟩
 | d::ds,_,i + 1,_,⟨v,us,e,_,h⟩,q=>by
  subst e
  obtain ⟨w,h1,h2⟩:=Rps.get (i:=i) h (by simpa using q)
  exact ⟨w,by simpa using h1,h2⟩
theorem Rps.app {K:aj}{H:Hp}:∀ {xs ys:List D}{vs us:List V},Rps K H xs vs→Rps K H ys us→Rps K H (xs++ys) (vs++us)
 | [],_,_,_,e,h=>by rw [show _=[] from e];exact h
 | d::ds,_,_,_,⟨v,ws,e,h,h'⟩,k=>by
  subst e
  exact ⟨v,_,rfl,h,Rps.app h' k⟩
theorem Rps.drop {K:aj}{H:Hp}:∀ {xs:List D}{vs:List V}(n:Nat),Rps K H xs vs→Rps K H (xs.drop n) (vs.drop n)
 | _,_,0,h=>h
 | [],_,n + 1,h=>by rw [show _=[] from h];rfl
 | d::ds,_,n + 1,⟨v,ws,e,_,h⟩=>by
  subst e
  exact Rps.drop n h
theorem Rps.take {K:aj}{H:Hp}:∀ {xs:List D}{vs:List V}(n:Nat),Rps K H xs vs→Rps K H (xs.take n) (vs.take n)
 | _,_,0,_=>rfl
 | [],_,n + 1,h=>by rw [show _=[] from h];rfl
 | d::ds,_,n + 1,⟨v,ws,e,h,h'⟩=>by
  subst e
  exact ⟨v,_,rfl,h,Rps.take n h'⟩
theorem Rps.rev {K:aj}{H:Hp}:∀ {xs:List D}{vs:List V},Rps K H xs vs→Rps K H xs.reverse vs.reverse
 | [],_,h=>by rw [show _=[] from h];rfl
 | d::ds,_,⟨v,ws,e,h,h'⟩=>by
  subst e
  rw [reverse_cons,reverse_cons]
  exact Rps.app (Rps.rev h') ⟨v,[],rfl,h,rfl⟩
theorem Rps.snoc {K:aj}{H:Hp}{xs:List D}{vs:List V}{d:D}{v:V}(h:Rps K H xs vs) (r:Rp K H d v):Rps K H (xs++[d]) (vs++[v]):=h.app ⟨v,[],rfl,r,rfl⟩
noncomputable def D.flat:D→Bool
 | .non=>true
 | .bl _=>true
 | .int _=>true
 | .str _=>true
 | _=>false
noncomputable def D.toV:D→V
 | .bl b => .bl b
 | .int i => .int i
 | .str x => .str x
 | .ty n => .ty n
 | .rf a => .ref a
 | _ => .non
theorem SA {K:aj}{H:Hp}{d:D}{v:V}(f:d.flat=true) (r:Rp K H d v):v=d.toV∧UB v=true:=by
 cases d with
 | non=>rw [show v = .non from r];exact ⟨rfl,rfl⟩
 | bl b=>rw [show v = .bl b from r];exact ⟨rfl,rfl⟩
 | int i=>rw [show v = .int i from r];exact ⟨rfl,rfl⟩
 | str x=>rw [show v = .str x from r];exact ⟨rfl,rfl⟩
 | _=>cases f
theorem JV {K:aj}{H:Hp}:∀ {xs:List D}{vs:List V},xs.all D.flat=true→Rps K H xs vs→vs=xs.map D.toV∧vs.all UB=true
 | [],_,_,r=>by rw [show _=[] from r];exact ⟨rfl,rfl⟩
 | d::ds,_,f,⟨v,us,e,h,h'⟩=>by
  rw [all_cons,aD] at f
  obtain ⟨e1,f1⟩:=SA f.1 h
  obtain ⟨e2,f2⟩:=JV f.2 h'
  subst e
  exact ⟨by rw [e2,e1];rfl,by rw [all_cons,f1,f2];rfl⟩
noncomputable def Cu:D→D→(D→Prop)→Prop
 | .int i,.int j=>fun q=>q (.int (i + j))
 | .str i,.str j=>fun q=>i.length + j.length≤aA∧q (.str (i++j))
 | .lst xs,.lst ys=>fun q=>xs.length + ys.length≤aA∧q (.lst (xs++ys))
 | .scr xs,.lst ys=>fun q=>xs.length + ys.length≤aA∧q (.lst (xs++ys))
 | .tup xs,.tup ys=>fun q=>xs≠[]∧xs.length + ys.length≤aA∧q (.tup (xs++ys))
 | _,_=>fun _=>False
theorem ZK:JOp X (binaryOp .Add) Cu:=by
 refine ⟨_,oq.or (DQ.or (BL.or tB)),fun {H0 H x y a b q Q} s ra rb h k=>?_⟩
 unfold Cu at h
 split at h
 ·rename_i i j
  rw [show x = .int i from ra,show y = .int j from rb]
  exact .inl ⟨i,j,rfl,rfl,k _ (.int (i + j)) _ _ (.refl s) rfl h⟩
 ·rename_i i j
  rw [show x = .str i from ra,show y = .str j from rb]
  exact .inr (.inl ⟨i,j,rfl,rfl,h.1,k _ (.str (i++j)) _ _ (.refl s) rfl h.2⟩)
 ·obtain ⟨a1,vs,rfl,h1,h2⟩:=ra
  obtain ⟨b1,us,rfl,h3,h4⟩:=rb
  refine .inr (.inr (.inl ⟨a1,b1,vs,us,rfl,rfl,SqL.of (s _ _ h1),SqL.of (s _ _ h3),by rw [h2.length,h4.length];exact h.1,fun p hp=>?_⟩))
  exact k _ (.lst _) _ _ (.put s hp) (Vh (h2.app h4) (s.free hp)) h.2
 ·obtain ⟨a1,vs,rfl,h1,h2⟩:=ra
  obtain ⟨b1,us,rfl,h3,h4⟩:=rb
  refine .inr (.inr (.inl ⟨a1,b1,vs,us,rfl,rfl,s.seq h1,SqL.of (s _ _ h3),by rw [h2.length,h4.length];exact h.1,fun p hp=>?_⟩))
  exact k _ (.lst _) _ _ (.put s hp) (Vh (h2.app h4) (s.free hp)) h.2
 ·obtain ⟨a1,vs,rfl,h1,h2⟩:=ra
  obtain ⟨b1,us,rfl,h3,h4⟩:=rb
  refine .inr (.inr (.inr ⟨a1,b1,vs,us,rfl,rfl,SqT.of (s _ _ h1),SqT.of (s _ _ h3),?_,by rw [h2.length,h4.length];exact h.2.1,fun z=>?_,fun _ p hp=>?_⟩))
  ·intro z
   have:=h2.length
   rw [z] at this
   exact h.1 (List.eq_nil_of_length_eq_zero this.symm)
  ·refine k _ (.tup _) _ _ (.refl s) ⟨a1,vs,rfl,h1,?_⟩ h.2.2
   have:=h2.app h4
   rw [z,append_nil] at this
   exact this
  ·exact k _ (.tup _) _ _ (.put s hp) (RQ (h2.app h4) (s.free hp)) h.2.2
 ·exact h.elim
noncomputable def dII (C:Int→Int→Prop) (g:Int→Int→D):D→D→(D→Prop)→Prop
 | .int i,.int j=>fun q=>C i j∧q (g i j)
 | _,_=>fun _=>False
noncomputable def dI0 (g:Int→Int→D):D→D→(D→Prop)→Prop
 | .int i,.int j=>fun q=>q (g i j)
 | _,_=>fun _=>False
theorem xT {f:Value→Value→Sem Value}{C C':Int→Int→Prop}{g:Int→Int→V}{g':Int→Int→D}(o:OpR X f (rI C g)) (hC:∀ i j,C' i j→C i j) (hg:∀ K H i j,C' i j→Rp K H (g' i j) (g i j)):JOp X f (dII C' g'):=by
 refine ⟨_,o,fun {H0 H x y a b q Q} s ra rb h k=>?_⟩
 unfold dII at h
 split at h
 ·rename_i i j
  rw [show x = .int i from ra,show y = .int j from rb]
  exact ⟨i,j,rfl,rfl,hC _ _ h.1,k _ (g' i j) _ _ (.refl s) (hg _ _ i j h.1) h.2⟩
 ·exact h.elim
theorem Ep {f:Value→Value→Sem Value}{g:Int→Int→V}{g':Int→Int→D}(o:OpR X f (rI0 g)) (hg:∀ K H i j,Rp K H (g' i j) (g i j)):JOp X f (dI0 g'):=by
 refine ⟨_,o,fun {H0 H x y a b q Q} s ra rb h k=>?_⟩
 unfold dI0 at h
 split at h
 ·rename_i i j
  rw [show x = .int i from ra,show y = .int j from rb]
  exact ⟨i,j,rfl,rfl,k _ (g' i j) _ _ (.refl s) (hg _ _ i j) h⟩
 ·exact h.elim
noncomputable def Er (i j:Int):Int:=if 0≤j then i / j else i.fdiv j
noncomputable def GU (i j:Int):Int:=if 0≤j then i % j else i.fmod j
theorem NF (i j:Int):Er i j=i.fdiv j:=by
 unfold Er
 split
 ·rw [Int.fdiv_eq_ediv_of_nonneg _ (by assumption)]
 ·rfl
theorem GV (i j:Int):GU i j=i.fmod j:=by
 unfold GU
 split
 ·rw [Int.fmod_eq_emod_of_nonneg _ (by assumption)]
 ·rfl
theorem xU:JOp X (binaryOp .Sub) (dI0 fun i j => .int (i - j)):=Ep ot fun _ _ _ _=>rfl
noncomputable def Small (j:Int):Prop:=j.natAbs < 1073741824∨Bd 9000 j
theorem Small.bd {j:Int}(h:Small j):Bd 9000 j:=by
 rcases h with h | h
 ·exact Bd.mono (n:=30) (by unfold Bd;exact h) (by decide)
 ·exact h
theorem ZT:JOp X (binaryOp .FloorDiv) (dII (fun _ j=>j≠0∧Small j) fun i j => .int (Er i j)):=xT xC (fun i j h=>⟨h.1,h.2.bd⟩) fun _ _ i j _=>by rw [NF];rfl
theorem ZA:JOp X (binaryOp .Mod) (dII (fun _ j=>j≠0) fun i j => .int (GU i j)):=xT uT (fun i j h=>h) fun _ _ i j _=>by rw [GV];rfl
theorem GW:JOp X (binaryOp .Pow) (dII CPow fun i j => .int (i ^ j.toNat)):=xT ou (fun i j h=>h) fun _ _ _ _ _=>rfl
noncomputable def dMul:D→D→(D→Prop)→Prop
 | .int i,.int j=>fun q=>PK i j∧q (.int (i * j))
 | .lst xs,.int k=>fun q => -(2 ^ 63)≤k∧k < 2 ^ 63∧xs.length * k.toNat≤aA∧q (.lst (replicate k.toNat xs).flatten)
 | _,_=>fun _=>False
theorem Rps.flatten {K:aj}{H:Hp}{xs:List D}{vs:List V}(h:Rps K H xs vs):∀ n,Rps K H (replicate n xs).flatten (replicate n vs).flatten
 | 0=>rfl
 | n + 1=>by
  rw [replicate_succ,replicate_succ,flatten_cons,flatten_cons]
  exact h.app (Rps.flatten h n)
theorem Wd:JOp X (binaryOp .Mult) dMul:=by
 refine ⟨_,tK.or xr,fun {H0 H x y a b q Q} s ra rb h k=>?_⟩
 unfold dMul at h
 split at h
 ·rename_i i j
  rw [show x = .int i from ra,show y = .int j from rb]
  exact .inl ⟨i,j,rfl,rfl,h.1,k _ (.int (i * j)) _ _ (.refl s) rfl h.2⟩
 ·rename_i ys j
  obtain ⟨a1,vs,rfl,h1,h2⟩:=ra
  rw [show y = .int j from rb]
  refine .inr ⟨a1,j,vs,rfl,rfl,s _ _ h1,h.1,h.2.1,by rw [h2.length];exact h.2.2.1,fun p hp=>?_⟩
  exact k _ (.lst _) _ _ (.put s hp) (Vh (h2.flatten _) (s.free hp)) h.2.2.2
 ·exact h.elim
noncomputable def dLe:D→D→(D→Prop)→Prop:=dI0 fun i j => .bl (decide (i≤j))
noncomputable def dGt:D→D→(D→Prop)→Prop:=dI0 fun i j => .bl (decide (j < i))
noncomputable def dGe:D→D→(D→Prop)→Prop:=dI0 fun i j => .bl (decide (j≤i))
theorem Es:JOp X (compareOp .LtE) dLe:=Ep op_le fun _ _ _ _=>rfl
theorem Et:JOp X (compareOp .Gt) dGt:=Ep op_gt fun _ _ _ _=>rfl
theorem jo_ge:JOp X (compareOp .GtE) dGe:=Ep op_ge fun _ _ _ _=>rfl
noncomputable def dLt:D→D→(D→Prop)→Prop:=dI0 fun i j => .bl (decide (i < j))
theorem Eu:JOp X (compareOp .Lt) dLt:=Ep op_lt fun _ _ _ _=>rfl
noncomputable def D.Vu:D→Bool
 | .non=>true
 | _=>false
noncomputable def dIsN:D→D→(D→Prop)→Prop
 | a,.non=>fun q=>q (.bl a.Vu)
 | _,_=>fun _=>False
noncomputable def xV:D→D→(D→Prop)→Prop
 | a,.non=>fun q=>q (.bl (!a.Vu))
 | _,_=>fun _=>False
theorem xW {K:aj}{H:Hp}{d:D}{v:V}(r:Rp K H d v):decide (v = .non)=d.Vu:=by
 cases d with
 | non=>rw [show v = .non from r];rfl
 | bl b=>rw [show v = .bl b from r];rfl
 | int i=>rw [show v = .int i from r];rfl
 | str i=>rw [show v = .str i from r];rfl
 | ty i=>rw [show v = .ty i from r];rfl
 | rf i=>rw [show v = .ref i from r];rfl
 | tup xs=>obtain ⟨a,vs,rfl,_⟩:=r;rfl
 | lst xs=>obtain ⟨a,vs,rfl,_⟩:=r;rfl
 | obj C xs=>obtain ⟨a,vs,_,rfl,_⟩:=r;rfl
 | dic xs=>obtain ⟨a,vs,rfl,_⟩:=r;rfl
 | exc xs=>obtain ⟨a,rfl,_⟩:=r;rfl
 | scr xs=>obtain ⟨a,vs,rfl,_⟩:=r;rfl
theorem GX:JOp X (compareOp .Is) dIsN:=by
 refine ⟨_,ox,fun {H0 H x y a b q Q} s ra rb h k=>?_⟩
 unfold dIsN at h
 split at h
 ·refine ⟨rb,?_⟩
  rw [xW ra]
  exact k _ (.bl _) _ _ (.refl s) rfl h
 ·exact h.elim
theorem BV:JOp X (compareOp .IsNot) xV:=by
 refine ⟨_,uU,fun {H0 H x y a b q Q} s ra rb h k=>?_⟩
 unfold xV at h
 split at h
 ·refine ⟨rb,?_⟩
  rw [xW ra]
  exact k _ (.bl _) _ _ (.refl s) rfl h
 ·exact h.elim
noncomputable def D.eqF (a b:D):Bool:=eqV a.toV b.toV
noncomputable def inD (x:D) (xs:List D):Bool:=xs.any fun y=>y.eqF x
noncomputable def inS (i j:Str):Bool := !(Builtin.Str.occurrences j i 0 j.length 1).isEmpty
noncomputable def dIn (neg:Bool):D→D→(D→Prop)→Prop
 | a,.lst xs=>fun q=>a.flat=true∧xs.all D.flat=true∧q (.bl (if neg then !inD a xs else inD a xs))
 | a,.tup xs=>fun q=>a.flat=true∧xs.all D.flat=true∧q (.bl (if neg then !inD a xs else inD a xs))
 | .str i,.str j=>fun q=>q (.bl (if neg then !inS i j else inS i j))
 | _,_=>fun _=>False
theorem BW (a:D) (xs:List D):inV a.toV (xs.map D.toV)=inD a xs:=by
 unfold inV inD D.eqF
 rw [any_map]
 rfl
theorem BX {K:aj}(neg:Bool):En K (fun x y H Q=>rIn K neg x y H Q∨∃ i j,x = .str i∧y = .str j∧Q (.bl (if neg then !inS i j else inS i j)) H) (dIn neg):=by
 intro H0 H x y a b q Q s ra rb h k
 unfold dIn at h
 split at h
 ·obtain ⟨p,vs,rfl,h1,h2⟩:=rb
  obtain ⟨e1,f1⟩:=SA h.1 ra
  obtain ⟨e2,f2⟩:=JV h.2.1 h2
  refine .inl ⟨p,vs,rfl,.inl (SqL.of (s _ _ h1)),f1,f2,?_⟩
  rw [e1,e2,BW]
  exact k _ (.bl _) _ _ (.refl s) rfl h.2.2
 ·obtain ⟨p,vs,rfl,h1,h2⟩:=rb
  obtain ⟨e1,f1⟩:=SA h.1 ra
  obtain ⟨e2,f2⟩:=JV h.2.1 h2
  refine .inl ⟨p,vs,rfl,.inr (SqT.of (s _ _ h1)),f1,f2,?_⟩
  rw [e1,e2,BW]
  exact k _ (.bl _) _ _ (.refl s) rfl h.2.2
 ·exact .inr ⟨_,_,ra,rb,k _ (.bl _) _ _ (.refl s) rfl h⟩
 ·exact h.elim
theorem Ts:JOp X (compareOp .In) (dIn false):=⟨_,za.or AO,BX false⟩
theorem JX:JOp X (compareOp .NotIn) (dIn true):=⟨_,GB.or Gw,BX true⟩
noncomputable def dIx:D→D→(D→Prop)→Prop
 | .lst xs,.int i=>fun q=>∃ d,atI xs i=some d∧q d
 | .scr xs,.int i=>fun q=>∃ d,atI xs i=some d∧q d
 | .tup xs,.int i=>fun q=>∃ d,atI xs i=some d∧q d
 | .str z,.int i=>fun q=>z.length≤aA∧∃ c,atI z.cps.toList i=some c∧q (.str ⟨#[c]⟩)
 | _,_=>fun _=>False
theorem GY {K:aj}{H:Hp}{xs:List D}{vs:List V}{i:Int}{d:D}(r:Rps K H xs vs) (h:atI xs i=some d):∃ v,atI vs i=some v∧Rp K H d v:=by
 unfold atI at h ⊢
 rw [r.length]
 cases e:ixN xs.length i with
 | none=>rw [e] at h;cases h
 | some j =>
  rw [e] at h
  exact r.get h
theorem tT {K:aj}:En K (rIx K) dIx:=by
 intro H0 H x y a b q Q s ra rb h k
 unfold dIx at h
 split at h
 ·obtain ⟨p,vs,rfl,h1,h2⟩:=ra
  obtain ⟨d,e,hq⟩:=h
  obtain ⟨v,e',r⟩:=GY h2 e
  exact .inl ⟨p,vs,_,v,rfl,rb,SqL.of (s _ _ h1),e',k _ d _ _ (.refl s) r hq⟩
 ·obtain ⟨p,vs,rfl,h1,h2⟩:=ra
  obtain ⟨d,e,hq⟩:=h
  obtain ⟨v,e',r⟩:=GY h2 e
  exact .inl ⟨p,vs,_,v,rfl,rb,s.seq h1,e',k _ d _ _ (.refl s) r hq⟩
 ·obtain ⟨p,vs,rfl,h1,h2⟩:=ra
  obtain ⟨d,e,hq⟩:=h
  obtain ⟨v,e',r⟩:=GY h2 e
  exact .inr (.inl ⟨p,vs,_,v,rfl,rb,SqT.of (s _ _ h1),e',k _ d _ _ (.refl s) r hq⟩)
 ·obtain ⟨l,c,e,hq⟩:=h
  exact .inr (.inr ⟨_,_,c,ra,rb,l,e,k _ (.str _) _ _ (.refl s) rfl hq⟩)
 ·exact h.elim
theorem Zm {a b:Expr}{da db:DE}{pos:Pos}(ha:JE X XE a da) (hb:JE X XE b db) (hs:Gz b:=by exact fun _ _=>rfl):JE X XE (.Subscript a b pos) (dOp dIx da db):=by
 obtain ⟨ta,p1,d1⟩:=ha.ex
 obtain ⟨tb,p2,d2⟩:=hb.ex
 exact ⟨_,qG xj p1 p2 hs,GR d1 d2 tT⟩
noncomputable def cutD (xs:List D) (lo hi:Option Int):List D:=(xs.drop (HT.sIx xs.length 0 lo)).take (HT.sIx xs.length xs.length hi - HT.sIx xs.length 0 lo)
theorem GZ {K:aj}{H:Hp}{xs:List D}{vs:List V}{lo hi:Option Int}(r:Rps K H xs vs):Rps K H (cutD xs lo hi) (FW vs lo hi):=by
 unfold cutD FW
 rw [r.length]
 exact (r.drop _).take _
noncomputable def dSl:D→Option Int→Option Int→(D→Prop)→Prop
 | .lst xs,lo,hi=>fun q=>q (.lst (cutD xs lo hi))
 | .scr xs,lo,hi=>fun q=>q (.lst (cutD xs lo hi))
 | .str y,lo,hi=>fun q=>y.length≤aA∧q (.str (Txt.slice y lo hi))
 | _,_,_=>fun _=>False
noncomputable def BZ:DO:=fun _ q _=>q none
noncomputable def qN (d:DE):DO:=fun ds q x=>d ds (fun a=>∃ i,a = .int i∧q (some i)) x
theorem QI:JO X XE none BZ:=⟨_,tq,fun c h k _=>k none _ _ (.refl c.sub) h⟩
theorem UC {e:Expr}{de:DE}(h:JE X XE e de):JO X XE (some e) (qN de):=by
 obtain ⟨te,p,d⟩:=h.ex
 exact ⟨_,BF p,fun c h k kx=>d c h (fun v a H1 H2 e r ⟨i,z,hb⟩=>by subst z;exact ⟨i,r,k _ _ _ e hb⟩) kx⟩
noncomputable def xX (de:DE) (dl dh:DO):DE:=fun ds q x=>de ds (fun a=>dl ds (fun lo=>dh ds (fun hi=>dSl a lo hi q) x) x) x
theorem Tt {e:Expr}{de:DE}{lo hi:Option Expr}{dl dh:DO}{pos p2:Pos}(he:JE X XE e de) (hl:JO X XE lo dl) (hh:JO X XE hi dh):JE X XE (.Subscript e (.Slice lo hi none p2) pos) (xX de dl dh):=by
 obtain ⟨ta,p1,d1⟩:=he.ex
 obtain ⟨tl,p3,d3⟩:=hl.ex
 obtain ⟨th,p4,d4⟩:=hh.ex
 refine ⟨_,FV (tE.or oY) p1 p3 p4,fun c h k kx=>d1 c h (fun v a H1 H2 e r h=>d3 (c.go e) h (fun lo H3 H4 e' h'=>d4 (c.go (e.trans e')) h' (fun hi H5 H6 e2 h2=>?_) (kx.go (e.trans e').s)) (kx.go e.s)) kx⟩
 have e3:=(e.trans e').trans e2
 have s3:=(c.go e3).sub
 have r3:=r.same (e'.trans e2).s0
 unfold dSl at h2
 split at h2
 ·obtain ⟨p,vs,rfl,h5,h6⟩:=r3
  refine .inl ⟨p,vs,rfl,SqL.of (s3 _ _ h5),fun l hl=>?_⟩
  exact k _ (.lst _) _ _ (e3.trans (.put s3 hl)) (Vh (GZ h6) (s3.free hl)) h2
 ·obtain ⟨p,vs,rfl,h5,h6⟩:=r3
  refine .inl ⟨p,vs,rfl,s3.seq h5,fun l hl=>?_⟩
  exact k _ (.lst _) _ _ (e3.trans (.put s3 hl)) (Vh (GZ h6) (s3.free hl)) h2
 ·exact .inr ⟨_,r3,h2.1,k _ (.str _) _ _ e3 rfl h2.2⟩
 ·exact h2.elim
noncomputable def dNeg (de:DE):DE:=fun ds q x=>de ds (fun a=>∃ i,a = .int i∧q (.int (-i))) x
theorem Mx {a:Expr}{de:DE}{pos:Pos}(h:JE X XE a de):JE X XE (.UnaryOp .USub a pos) (dNeg de):=by
 obtain ⟨te,p,d⟩:=h.ex
 exact ⟨_,pe_un ow p,fun c h k kx=>d c h (fun v a H1 H2 e r ⟨i,z,hb⟩=>by subst z;exact ⟨i,r,k _ (.int (-i)) _ _ e rfl hb⟩) kx⟩
noncomputable def LiftC (K:aj) (r:List V→Hp→VK→Prop) (g:List D→(D→Prop)→Prop):Prop:=∀ {H0 H:Hp}{vs:List V}{xs:List D}{q:D→Prop}{Q:VK},Zv H0 H→Rps K H0 xs vs→g xs q→KE K H0 H q Q→r vs H Q
structure Tu (X:Cx) (f:Value) (g:List D→(D→Prop)→Prop):Prop where
 ex:∃ r,YW X f r∧LiftC X.K r g
noncomputable def dCB (g:List D→(D→Prop)→Prop) (da:DA):DE:=fun ds q x=>da ds (fun xs=>g xs q) x
theorem Yo {x:Str}{p pos:Pos}{e:Expr}{es:List Expr}{da:DA}{id:String}{g:List D→(D→Prop)→Prop}(hc:Tu X (.builtin id) g) (hg:Gl X x) (hm:X.mg x=none) (hv:bootBuiltins x=some (.builtin id)) (ha:JAs X XE (e::es) da)
  (hst:autoParam (ZS (e::es)=true) auR) (hn:autoParam (x≠("__name__" : Str)) auD) (hdb:autoParam ((x == ("__debug__" : Str))=false) auD):JE X XE (.Call (.Name x p) (e::es) [] pos) (dCB g da):=by
 obtain ⟨r,o,l⟩:=hc.ex
 obtain ⟨ta,p1,d1⟩:=ha.ex
 exact ⟨_,pe_b o hg hm hv p1 hst hn hdb,fun c h k kx=>d1 c h (fun vs xs H1 H2 e r h=>l e.sub r h (k.go e)) kx⟩
theorem Tv {x:Str}{p pos:Pos}{e:Expr}{es:List Expr}{da:DA}{T:String}{g:List D→(D→Prop)→Prop}(hc:Tu X (.type T) g) (hg:Gl X x) (hm:X.mg x=none) (hv:bootBuiltins x=some (.type T)) (ha:JAs X XE (e::es) da)
  (hst:autoParam (ZS (e::es)=true) auR) (hn:autoParam (x≠("__name__" : Str)) auD) (hdb:autoParam ((x == ("__debug__" : Str))=false) auD):JE X XE (.Call (.Name x p) (e::es) [] pos) (dCB g da):=by
 obtain ⟨r,o,l⟩:=hc.ex
 obtain ⟨ta,p1,d1⟩:=ha.ex
 exact ⟨_,qJ o hg hm hv p1 hst hn hdb,fun c h k kx=>d1 c h (fun vs xs H1 H2 e r h=>l e.sub r h (k.go e)) kx⟩
theorem Uy {K:aj}{H:Hp}{d:D}{vs:List V}(h:Rps K H [d] vs):∃ v,vs=[v]∧Rp K H d v:=by
 obtain ⟨v,us,rfl,r,e⟩:=h
 exact ⟨v,by rw [show us=[] from e],r⟩
theorem xY {K:aj}{H:Hp}{d e:D}{vs:List V}(h:Rps K H [d,e] vs):∃ v u,vs=[v,u]∧Rp K H d v∧Rp K H e u:=by
 obtain ⟨v,us,rfl,r,h⟩:=h
 obtain ⟨u,rfl,r'⟩:=Uy h
 exact ⟨v,u,rfl,r,r'⟩
noncomputable def zz:List D→(D→Prop)→Prop
 | [.lst xs]=>fun q=>q (.int xs.length)
 | [.scr xs]=>fun q=>q (.int xs.length)
 | [.tup xs]=>fun q=>q (.int xs.length)
 | [.str z]=>fun q=>z.length≤aA∧q (.int z.length)
 | _=>fun _=>False
theorem Yj:Tu X (.builtin "len") zz:=by
 refine ⟨_,GC.or GD,fun {H0 H vs xs q Q} s r h k=>?_⟩
 unfold zz at h
 split at h
 ·obtain ⟨v,rfl,p,ws,rfl,h1,h2⟩:=Uy r
  refine .inl ⟨p,ws,rfl,.inl (SqL.of (s _ _ h1)),?_⟩
  rw [h2.length]
  exact k _ (.int _) _ _ (.refl s) rfl h
 ·obtain ⟨v,rfl,p,ws,rfl,h1,h2⟩:=Uy r
  refine .inl ⟨p,ws,rfl,.inl (s.seq h1),?_⟩
  rw [h2.length]
  exact k _ (.int _) _ _ (.refl s) rfl h
 ·obtain ⟨v,rfl,p,ws,rfl,h1,h2⟩:=Uy r
  refine .inl ⟨p,ws,rfl,.inr (SqT.of (s _ _ h1)),?_⟩
  rw [h2.length]
  exact k _ (.int _) _ _ (.refl s) rfl h
 ·obtain ⟨v,rfl,e⟩:=Uy r
  rw [show v = .str _ from e]
  exact .inr ⟨_,rfl,h.1,k _ (.int _) _ _ (.refl s) rfl h.2⟩
 ·exact h.elim
noncomputable def dAbs:List D→(D→Prop)→Prop
 | [.int i]=>fun q=>q (.int (if i < 0 then -i else i))
 | _=>fun _=>False
theorem xZ:Tu X (.builtin "abs") dAbs:=by
 refine ⟨_,yW,fun {H0 H vs xs q Q} s r h k=>?_⟩
 unfold dAbs at h
 split at h
 ·obtain ⟨v,rfl,e⟩:=Uy r
  rw [show v = .int _ from e]
  exact ⟨_,rfl,k _ (.int _) _ _ (.refl s) rfl h⟩
 ·exact h.elim
noncomputable def Aa:List D→(D→Prop)→Prop
 | [.int i,.int j]=>fun q=>q (.int (if j > i then j else i))
 | _=>fun _=>False
theorem wc (hc:autoParam (X.calm=true) auR):Tu X (.builtin "max") Aa:=by
 refine ⟨_,AQ hc,fun {H0 H vs xs q Q} s r h k=>?_⟩
 unfold Aa at h
 split at h
 ·obtain ⟨v,u,rfl,e,e'⟩:=xY r
  rw [show v = .int _ from e,show u = .int _ from e']
  exact ⟨_,_,rfl,k _ (.int _) _ _ (.refl s) rfl h⟩
 ·exact h.elim
noncomputable def Ab:List D→(D→Prop)→Prop
 | [.int i]=>fun q=>q (.int i)
 | [.bl b]=>fun q=>q (.int (if b then 1 else 0))
 | _=>fun _=>False
theorem we:Tu X (.type "int") Ab:=by
 refine ⟨_,AR,fun {H0 H vs xs q Q} s r h k=>?_⟩
 unfold Ab at h
 split at h
 ·obtain ⟨v,rfl,e⟩:=Uy r
  rw [show v = .int _ from e]
  exact .inl ⟨_,rfl,k _ (.int _) _ _ (.refl s) rfl h⟩
 ·obtain ⟨v,rfl,e⟩:=Uy r
  rw [show v = .bl _ from e]
  exact .inr ⟨_,rfl,k _ (.int _) _ _ (.refl s) rfl h⟩
 ·exact h.elim
noncomputable def dStr1:List D→(D→Prop)→Prop
 | [.int i]=>fun q=>i.natAbs.log2 < 1920∧q (.str (toString i))
 | _=>fun _=>False
noncomputable def JY:List D→(D→Prop)→Prop
 | [.lst xs]=>fun q=>q (.lst xs)
 | [.scr xs]=>fun q=>q (.lst xs)
 | [.tup xs]=>fun q=>q (.lst xs)
 | _=>fun _=>False
theorem Fb:Tu X (.type "list") JY:=by
 refine ⟨_,GF,fun {H0 H vs xs q Q} s r h k=>?_⟩
 unfold JY at h
 split at h
 ·obtain ⟨v,rfl,p,ws,rfl,h1,h2⟩:=Uy r
  exact ⟨p,ws,rfl,.inl (SqL.of (s _ _ h1)),fun l hl=>k _ (.lst _) _ _ (.put s hl) (Vh h2 (s.free hl)) h⟩
 ·obtain ⟨v,rfl,p,ws,rfl,h1,h2⟩:=Uy r
  exact ⟨p,ws,rfl,.inl (s.seq h1),fun l hl=>k _ (.lst _) _ _ (.put s hl) (Vh h2 (s.free hl)) h⟩
 ·obtain ⟨v,rfl,p,ws,rfl,h1,h2⟩:=Uy r
  exact ⟨p,ws,rfl,.inr (SqT.of (s _ _ h1)),fun l hl=>k _ (.lst _) _ _ (.put s hl) (Vh h2 (s.free hl)) h⟩
 ·exact h.elim
noncomputable def HV:List D→(D→Prop)→Prop
 | [.lst xs]=>fun q=>q (.tup xs)
 | [.tup xs]=>fun q=>q (.tup xs)
 | _=>fun _=>False
theorem Mz:Tu X (.type "tuple") HV:=by
 refine ⟨_,He,fun {H0 H vs xs q Q} s r h k=>?_⟩
 unfold HV at h
 split at h
 ·obtain ⟨v,rfl,p,ws,rfl,h1,h2⟩:=Uy r
  exact ⟨p,ws,rfl,.inl ⟨SqL.of (s _ _ h1),fun l hl=>k _ (.tup _) _ _ (.put s hl) (RQ h2 (s.free hl)) h⟩⟩
 ·obtain ⟨v,rfl,p,ws,rfl,h1,h2⟩:=Uy r
  exact ⟨p,ws,rfl,.inr ⟨SqT.of (s _ _ h1),k _ (.tup _) _ _ (.refl s) ⟨p,ws,rfl,h1,h2⟩ h⟩⟩
 ·exact h.elim
noncomputable def bools:List D→Option (List Bool)
 | []=>some []
 | .bl b::r=>(bools r).map (b :: ·)
 | _::_=>none
theorem HW {K:aj}{H:Hp}:∀ {xs:List D}{bs:List Bool}{vs:List V},bools xs=some bs→Rps K H xs vs→vs=bs.map V.bl
 | [],_,_,e,r=>by cases e;exact r
 | d::ds,bs,_,e,⟨v,us,z,h,h'⟩=>by
  cases d with
  | bl b =>
   unfold bools at e
   cases q:bools ds with
   | none=>rw [q] at e;cases e
   | some cs =>
    rw [q] at e
    cases e
    rw [z,HW q h',show v = .bl b from h]
    rfl
  | _=>cases e
noncomputable def zF:List D→(D→Prop)→Prop
 | [.lst xs]=>fun q=>∃ bs,bools xs=some bs∧q (.bl (bs.all id))
 | _=>fun _=>False
noncomputable def dAny:List D→(D→Prop)→Prop
 | [.lst xs]=>fun q=>∃ bs,bools xs=some bs∧q (.bl (bs.any id))
 | _=>fun _=>False
theorem MB (hc:autoParam (X.calm=true) auR):Tu X (.builtin "all") zF:=by
 refine ⟨_,xN hc,fun {H0 H vs xs q Q} s r h k=>?_⟩
 unfold zF at h
 split at h
 ·obtain ⟨v,rfl,p,ws,rfl,h1,h2⟩:=Uy r
  obtain ⟨bs,e,hq⟩:=h
  rw [HW e h2] at h1
  exact ⟨p,bs,rfl,SqL.of (s _ _ h1),k _ (.bl _) _ _ (.refl s) rfl hq⟩
 ·exact h.elim
end
mutual
noncomputable def D.eqb:D→D→Bool
 | .tup xs,.tup ys=>D.SC xs ys
 | .lst xs,.lst ys=>D.SC xs ys
 | a,b=>eqV a.toV b.toV
noncomputable def D.SC:List D→List D→Bool
 | [],[]=>true
 | x::xs,y::ys=>D.eqb x y && D.SC xs ys
 | _,_=>false
end
noncomputable def RT (R:D→D→Bool):List D→List D→Bool
 | x::xs,y::ys=>R x y && RT R xs ys
 | _,_=>true
noncomputable def D.JZ:Nat→D→D→Bool
 | 0=>fun a b=>a.flat && b.flat
 | n + 1=>fun a b=>match a,b with
  | .tup xs,.tup ys=>RT (D.JZ n) xs ys
  | .lst xs,.lst ys=>RT (D.JZ n) xs ys
  | a,b=>a.flat && b.flat
theorem wg {a b:D}(h:a.flat=true):D.eqb a b=eqV a.toV b.toV:=by
 cases a with
 | tup _=>cases h
 | lst _=>cases h
 | non=>unfold D.eqb;rfl
 | bl _=>unfold D.eqb;rfl
 | int _=>unfold D.eqb;rfl
 | str _=>unfold D.eqb;rfl
 | _=>cases h
section
variable {K:aj}{H:Hp}
theorem Ia {R:D→D→Bool}{R':V→V→Bool→Prop}(h:∀ {a b x y},R a b=true→Rp K H a x→Rp K H b y→R' x y (D.eqb a b)):∀ {xs ys:List D}{vs us:List V},RT R xs ys=true→Rps K H xs vs→Rps K H ys us→EqL R' vs us (D.SC xs ys)
 | [],[],_,_,_,r,r'=>by rw [show _=[] from r,show _=[] from r'];unfold D.SC;exact .nil
 | [],y::ys,_,_,_,r,⟨u,us,e,_,_⟩=>by rw [show _=[] from r,e];unfold D.SC;exact .left _ _
 | x::xs,[],_,_,_,⟨v,vs,e,_,_⟩,r=>by rw [show _=[] from r,e];unfold D.SC;exact .right _ _
 | x::xs,y::ys,_,_,o,⟨v,vs,e,r1,r2⟩,⟨u,us,e',r3,r4⟩=>by
  unfold RT at o
  rw [aD] at o
  rw [e,e']
  unfold D.SC
  exact .cons (h o.1 r1 r3) (Ia h o.2 r2 r4)
theorem wj:∀ (n:Nat) {a b:D}{x y:V},D.JZ n a b=true→Rp K H a x→Rp K H b y→EqN K H n x y (D.eqb a b):=by
 have fl:∀ (n:Nat) {a b:D}{x y:V},(a.flat && b.flat)=true→Rp K H a x→Rp K H b y→EqN K H n x y (D.eqb a b):=by
  intro n a b x y o r r'
  rw [aD] at o
  obtain ⟨e1,f1⟩:=SA o.1 r
  obtain ⟨e2,f2⟩:=SA o.2 r'
  induction n with
  | zero=>exact .inl ⟨f1,f2,by rw [wg o.1,e1,e2]⟩
  | succ n ih=>exact .inl ih
 intro n
 induction n with
 | zero=>intro a b x y o r r';exact fl 0 (by unfold D.JZ at o;exact o) r r'
 | succ n ih =>
  intro a b x y o r r'
  unfold D.JZ at o
  split at o
  ·obtain ⟨p,vs,rfl,h1,h2⟩:=r
   obtain ⟨p',us,rfl,h3,h4⟩:=r'
   unfold D.eqb
   exact .inr ⟨p,p',vs,us,rfl,rfl,.inl ⟨SqT.of h1,SqT.of h3⟩,Ia (fun o r r'=>ih o r r') o h2 h4⟩
  ·obtain ⟨p,vs,rfl,h1,h2⟩:=r
   obtain ⟨p',us,rfl,h3,h4⟩:=r'
   unfold D.eqb
   exact .inr ⟨p,p',vs,us,rfl,rfl,.inr ⟨SqL.of h1,SqL.of h3⟩,Ia (fun o r r'=>ih o r r') o h2 h4⟩
  ·exact fl (n + 1) o r r'
end
noncomputable def dEq (neg:Bool):D→D→(D→Prop)→Prop
 | .tup xs,.tup ys=>fun q=>RT (D.JZ 80) xs ys=true∧q (.bl (if neg then !D.SC xs ys else D.SC xs ys))
 | .lst xs,.lst ys=>fun q=>RT (D.JZ 80) xs ys=true∧q (.bl (if neg then !D.SC xs ys else D.SC xs ys))
 | a,b=>fun q=>a.flat=true∧b.flat=true∧scal a.toV b.toV=true∧q (.bl (if neg then !decide (a.toV=b.toV) else decide (a.toV=b.toV)))
theorem Ad {K:aj}(neg:Bool):En K (fun x y H Q=>(scal x y=true∧Q (.bl (if neg then !decide (x=y) else decide (x=y))) H)∨rEqD K neg x y H Q) (dEq neg):=by
 intro H0 H x y a b q Q s ra rb h k
 unfold dEq at h
 split at h
 ·obtain ⟨p,vs,rfl,h1,h2⟩:=ra
  obtain ⟨p',us,rfl,h3,h4⟩:=rb
  exact .inr ⟨80,p,p',vs,us,_,by decide,rfl,rfl,.inl ⟨SqT.of (s _ _ h1),SqT.of (s _ _ h3)⟩,Ia (fun o r r'=>wj 80 o r r') h.1 (h2.same s) (h4.same s),k _ (.bl _) _ _ (.refl s) rfl h.2⟩
 ·obtain ⟨p,vs,rfl,h1,h2⟩:=ra
  obtain ⟨p',us,rfl,h3,h4⟩:=rb
  exact .inr ⟨80,p,p',vs,us,_,by decide,rfl,rfl,.inr ⟨SqL.of (s _ _ h1),SqL.of (s _ _ h3)⟩,Ia (fun o r r'=>wj 80 o r r') h.1 (h2.same s) (h4.same s),k _ (.bl _) _ _ (.refl s) rfl h.2⟩
 ·obtain ⟨h1,h2,h3,h4⟩:=h
  obtain ⟨e1,_⟩:=SA h1 ra
  obtain ⟨e2,_⟩:=SA h2 rb
  rw [e1,e2]
  exact .inl ⟨h3,k _ (.bl _) _ _ (.refl s) rfl h4⟩
section
variable {X:Cx}{XE:St→XK}
theorem WX (hu:X.A.units + 100 < cLine):JOp X (compareOp .Eq) (dEq false):=⟨_,op_eq.or (nc hu),Ad false⟩
theorem NI (hu:X.A.units + 100 < cLine):JOp X (compareOp .NotEq) (dEq true):=⟨_,op_ne.or (ng hu),Ad true⟩
noncomputable def D.tyN:D→Option String
 | .non=>some "NoneType"
 | .bl _=>some "bool"
 | .int _=>some "int"
 | .str _=>some "str"
 | .lst _=>some "list"
 | .tup _=>some "tuple"
 | _=>none
noncomputable def wm (t n:String):Bool:=t == n || (t == "bool" && n == "int")
theorem nu {K:aj}{H:Hp}{d:D}{v:V}{t:String}(r:Rp K H d v) (e:d.tyN=some t):PV K H v (.type t):=by
 cases d with
 | non=>cases e;rw [show v = .non from r];exact .non
 | bl b=>cases e;rw [show v = .bl b from r];exact .bl b
 | int b=>cases e;rw [show v = .int b from r];exact .int b
 | str b=>cases e;rw [show v = .str b from r];exact .str b
 | lst xs=>cases e;obtain ⟨a,vs,rfl,h,_⟩:=r;exact .lst h
 | tup xs=>cases e;obtain ⟨a,vs,rfl,h,_⟩:=r;exact .tup h
 | _=>cases e
noncomputable def MC:List String:=["int", "str", "bool", "list", "tuple"]
theorem zG {K:aj}{d:D}{t n:String}(e:d.tyN=some t) (hn:n∈MC):kitOne K (.type t) (.type n)=some (wm t n):=by
 unfold MC at hn
 simp only [mem_cons,not_mem_nil,or_false] at hn
 cases d with
 | non=>cases e;rcases hn with rfl | rfl | rfl | rfl | rfl <;> with_unfolding_all rfl
 | bl b=>cases e;rcases hn with rfl | rfl | rfl | rfl | rfl <;> with_unfolding_all rfl
 | int b=>cases e;rcases hn with rfl | rfl | rfl | rfl | rfl <;> with_unfolding_all rfl
 | str b=>cases e;rcases hn with rfl | rfl | rfl | rfl | rfl <;> with_unfolding_all rfl
 | lst xs=>cases e;rcases hn with rfl | rfl | rfl | rfl | rfl <;> with_unfolding_all rfl
 | tup xs=>cases e;rcases hn with rfl | rfl | rfl | rfl | rfl <;> with_unfolding_all rfl
 | _=>cases e
noncomputable def refs:List D→Option (List Addr)
 | []=>some []
 | .rf a::r=>(refs r).map (a :: ·)
 | _::_=>none
noncomputable def tys:List D→Option (List String)
 | []=>some []
 | .ty a::r=>(tys r).map (a :: ·)
 | _::_=>none
theorem Ew {K:aj}{H:Hp}:∀ {xs:List D}{bs:List Addr}{vs:List V},refs xs=some bs→Rps K H xs vs→vs=bs.map V.ref
 | [],_,_,e,r=>by cases e;exact r
 | d::ds,bs,_,e,⟨v,us,z,h,h'⟩=>by
  cases d with
  | rf b =>
   unfold refs at e
   cases q:refs ds with
   | none=>rw [q] at e;cases e
   | some cs =>
    rw [q] at e
    cases e
    rw [z,Ew q h',show v = .ref b from h]
    rfl
  | _=>cases e
theorem Fc {K:aj}{H:Hp}:∀ {xs:List D}{bs:List String}{vs:List V},tys xs=some bs→Rps K H xs vs→vs=bs.map V.ty
 | [],_,_,e,r=>by cases e;exact r
 | d::ds,bs,_,e,⟨v,us,z,h,h'⟩=>by
  cases d with
  | ty b =>
   unfold tys at e
   cases q:tys ds with
   | none=>rw [q] at e;cases e
   | some cs =>
    rw [q] at e
    cases e
    rw [z,Fc q h',show v = .ty b from h]
    rfl
  | _=>cases e
noncomputable def isiT (K:aj) (n:String):D→(D→Prop)→Prop
 | .exc C=>fun q=>∃ b,XTy K C∧kitOne K (.ref C) (.type n)=some b∧q (.bl b)
 | x=>fun q=>∃ t,x.tyN=some t∧n∈MC∧q (.bl (wm t n))
noncomputable def isiF (K:aj) (B:Addr):D→(D→Prop)→Prop
 | .exc C=>fun q=>∃ b,XTy K C∧kitOne K (.ref C) (.ref B)=some b∧q (.bl b)
 | .obj C _=>fun q=>∃ b,Cls K C∧xG K C∧kitOne K (.ref C) (.ref B)=some b∧q (.bl b)
 | _=>fun _=>False
noncomputable def isiU (K:aj) (cs:List D):D→(D→Prop)→Prop
 | .exc C=>fun q=>∃ as b,refs cs=some as∧XTy K C∧kitAny K (.ref C) (as.map Value.ref)=some b∧q (.bl b)
 | .lst _=>fun q=>∃ as b,tys cs=some as∧kitAny K (.type "list") (as.map Value.type)=some b∧q (.bl b)
 | .tup _=>fun q=>∃ as b,tys cs=some as∧kitAny K (.type "tuple") (as.map Value.type)=some b∧q (.bl b)
 | _=>fun _=>False
noncomputable def isiC (K:aj) (x:D):D→(D→Prop)→Prop
 | .ty n=>isiT K n x
 | .rf B=>isiF K B x
 | .tup cs=>isiU K cs x
 | _=>fun _=>False
noncomputable def Tw (K:aj):List D→(D→Prop)→Prop
 | [x,c]=>isiC K x c
 | _=>fun _=>False
theorem tU {K:aj}{n:String}{x:D}{q:D→Prop}(h:isiT K n x q):(∃ C b,x = .exc C∧XTy K C∧kitOne K (.ref C) (.type n)=some b∧q (.bl b))∨∃ t,x.tyN=some t∧n∈MC∧q (.bl (wm t n)):=by
 cases x
 case exc C=>obtain ⟨b,h⟩:=h;exact .inl ⟨C,b,rfl,h⟩
 all_goals exact .inr h
theorem Vi {K:aj}(hK:X.K=K):Tu X (.builtin "isinstance") (Tw K):=by
 subst hK
 refine ⟨_,xE.or (zm.or zt),fun {H0 H vs xs q Q} s r h k=>?_⟩
 rcases xs with _ | ⟨x,_ | ⟨c,_ | ⟨z,zs⟩⟩⟩
 ·exact (show False from h).elim
 ·exact (show False from h).elim
 ·obtain ⟨v,u,rfl,h1,h2⟩:=xY r
  cases c
  case ty n =>
   rw [show u = .ty _ from h2]
   rcases tU h with ⟨C,b,rfl,ty,kk,hq⟩ | ⟨t,e,hn,hq⟩
   ·obtain ⟨a,rfl,h1⟩:=h1
    exact .inr (.inl ⟨a,_,rfl,s _ _ h1,ty,.inl ⟨_,_,b,rfl,fun u h=>h,kk,k _ (.bl _) _ _ (.refl s) rfl hq⟩⟩)
   ·exact .inl ⟨_,_,_,_,_,rfl,fun u h=>h,nu (h1.same s) e,zG e hn,k _ (.bl _) _ _ (.refl s) rfl hq⟩
  case rf B =>
   rw [show u = .ref _ from h2]
   cases x
   case exc C =>
    obtain ⟨a,rfl,h1⟩:=h1
    obtain ⟨b,ty,kk,hq⟩:=h
    exact .inr (.inl ⟨a,_,rfl,s _ _ h1,ty,.inl ⟨_,_,b,rfl,fun u h=>h,kk,k _ (.bl _) _ _ (.refl s) rfl hq⟩⟩)
   case obj C fs =>
    obtain ⟨a,dx,fs,rfl,h1,_⟩:=h1
    obtain ⟨b,cl,ty,kk,hq⟩:=h
    exact .inl ⟨_,_,_,_,b,rfl,fun u h=>h,.ins (s _ _ h1) cl ty.ha ty.hn ty.htk ty.hm,kk,k _ (.bl _) _ _ (.refl s) rfl hq⟩
   all_goals exact (show False from h).elim
  case tup cs =>
   obtain ⟨tp,ws,rfl,h2,h3⟩:=h2
   cases x
   case exc C =>
    obtain ⟨a,rfl,h1⟩:=h1
    obtain ⟨as,b,e,ty,kk,hq⟩:=h
    rw [Ew e h3] at h2
    exact .inr (.inl ⟨a,_,rfl,s _ _ h1,ty,.inr ⟨tp,as,b,rfl,s _ _ h2,kk,k _ (.bl _) _ _ (.refl s) rfl hq⟩⟩)
   case lst xs =>
    obtain ⟨a,us,rfl,h1,_⟩:=h1
    obtain ⟨as,b,e,kk,hq⟩:=h
    rw [Fc e h3] at h2
    exact .inr (.inr ⟨a,tp,as,b, "list",rfl,.inl ⟨⟨_,s _ _ h1⟩,rfl⟩,s _ _ h2,kk,k _ (.bl _) _ _ (.refl s) rfl hq⟩)
   case tup xs =>
    obtain ⟨a,us,rfl,h1,_⟩:=h1
    obtain ⟨as,b,e,kk,hq⟩:=h
    rw [Fc e h3] at h2
    exact .inr (.inr ⟨a,tp,as,b, "tuple",rfl,.inr ⟨⟨_,s _ _ h1⟩,rfl⟩,s _ _ h2,kk,k _ (.bl _) _ _ (.refl s) rfl hq⟩)
   all_goals exact (show False from h).elim
  all_goals exact (show False from h).elim
 ·exact (show False from h).elim
noncomputable def LiftM (K:aj) (T:String) (r:V→List V→Hp→VK→Prop) (g:D→List D→(D→Prop)→Prop):Prop:=∀ {H0 H:Hp}{v:V}{vs:List V}{d:D}{xs:List D}{q:D→Prop}{Q:VK},Zv H0 H→Rp K H0 d v→Rps K H0 xs vs→g d xs q→KE K H0 H q Q→r v vs H Q
noncomputable def tyD (T:String):D→Prop
 | .str _=>T = "str"
 | .lst _=>T = "list"
 | .scr _=>T = "list"
 | _=>False
theorem nv {K:aj}{H:Hp}{T:String}{d:D}{v:V}(r:Rp K H d v) (h:tyD T d):tyV K T v H:=by
 cases d with
 | str x=>rw [show v = .str x from r];exact h
 | lst xs=>obtain ⟨a,vs,rfl,e,_⟩:=r;exact .inl ⟨h,vs,SqL.of e⟩
 | scr xs=>obtain ⟨a,vs,rfl,e,_⟩:=r;exact .inl ⟨h,vs,e⟩
 | _=>exact h.elim
structure JMt (X:Cx) (T id:String) (g:D→List D→(D→Prop)→Prop):Prop where
 ex:∃ r,MtR X id r∧LiftM X.K T r g
noncomputable def dBM (T:String) (g:D→List D→(D→Prop)→Prop) (dO:DE) (da:DA):DE:=fun ds q x=>dO ds (fun o=>tyD T o∧da ds (fun xs=>g o xs q) x) x
theorem je_bm {o e:Expr}{es:List Expr}{dO:DE}{da:DA}{name:Str}{apos cpos:Pos}{T id:String}{g:D→List D→(D→Prop)→Prop}(pa:PlainAttrs T) (slot:PySem.Slot T name id) (hty:typeOf (.builtin id)=pure (.type "method_descriptor")) (hm:JMt X T id g) (ho:JE X XE o dO) (ha:JAs X XE (e::es) da)
  (hbase:autoParam (attributeBase o name X.env (eval o X.env)=eval o X.env) auR)
  (hfew:autoParam (((backTo cpos (starEach (e::es) X.env)).all (fun x => !x.1) && (backToKw cpos (keywordEach [] X.env)).all (fun x=>x.1.isSome)
   && decide ((e::es).length + ([]:List Keyword).length + (if ([]:List Keyword).isEmpty then 0 else 1) < 30))=true) auR)
  (hline:autoParam ((apos.endLine == cpos.line)=true) auR) (hs:autoParam (starEach (e::es) X.env=(false,eval e X.env)::starEach es X.env) auR) (hplain:autoParam ((backTo cpos (starEach es X.env)).any (·.1)=false) auR) :
  JE X XE (.Call (.Attribute o name apos) (e::es) [] cpos) (dBM T g dO da):=by
 obtain ⟨r,m,l⟩:=hm.ex
 obtain ⟨to,p1,d1⟩:=ho.ex
 obtain ⟨ta,p2,d2⟩:=ha.ex
 refine ⟨_,BH pa slot hty m p1 p2 hbase hfew hline hs hplain,fun c h k kx=>d1 c h (fun v o H1 H2 e r h=>?_) kx⟩
 exact ⟨nv (r.same e.sub) h.1,d2 (c.go e) h.2 (fun vs xs H3 H4 e' r' h'=>l (c.go (e.trans e')).sub (r.same e'.s0) r' h' (k.go (e.trans e'))) (kx.go e.s)⟩
noncomputable def texts:List D→Option (List Str)
 | []=>some []
 | .str a::r=>(texts r).map (a :: ·)
 | _::_=>none
theorem Ex {K:aj}{H:Hp}:∀ {xs:List D}{bs:List Str}{vs:List V},texts xs=some bs→Rps K H xs vs→vs=bs.map V.str
 | [],_,_,e,r=>by cases e;exact r
 | d::ds,bs,_,e,⟨v,us,z,h,h'⟩=>by
  cases d with
  | str b =>
   unfold texts at e
   cases q:texts ds with
   | none=>rw [q] at e;cases e
   | some cs =>
    rw [q] at e
    cases e
    rw [z,Ex q h',show v = .str b from h]
    rfl
  | _=>cases e
noncomputable def Ae:D→List D→(D→Prop)→Prop
 | .str sep,[.lst xs]=>fun q=>∃ ys,texts xs=some ys∧(ys.map (·.length)).sum + ys.length * sep.length≤16777216∧q (.str (Txt.join sep ys))
 | _,_=>fun _=>False
theorem tV:JMt X "str" "str.join" Ae:=by
 refine ⟨_,tP,fun {H0 H v vs d xs q Q} s r rs h k=>?_⟩
 unfold Ae at h
 split at h
 ·obtain ⟨u,rfl,p,ws,rfl,h1,h2⟩:=Uy rs
  obtain ⟨ys,e,l,hq⟩:=h
  rw [Ex e h2] at h1
  exact ⟨_,p,ys,r,rfl,SqL.of (s _ _ h1),l,k _ (.str _) _ _ (.refl s) rfl hq⟩
 ·exact h.elim
noncomputable def ny:D→List D→(D→Prop)→Prop
 | .str y,[]=>fun q=>y.length≤5592405∧q (.str (Txt.upper y))
 | _,_=>fun _=>False
noncomputable def nz:D→List D→(D→Prop)→Prop
 | .str y,[]=>fun q=>y.length≤5592405∧q (.str (Txt.lower y))
 | _,_=>fun _=>False
end
structure RU where
 nx:DSt→Prop
 rt:D→Prop
 xc:DSt→Addr→Prop
 bk:DSt→Prop:=fun _=>False
 ct:DSt→Prop:=fun _=>False
 rb:D→DSt→Prop:=fun _ _=>False
 ro:List D→DSt→Prop:=fun _ _=>False
abbrev DS:=DSt→RU→Prop
abbrev DG:=D→DSt→(DSt→Prop)→Prop
abbrev DGs:=List D→DSt→(DSt→Prop)→Prop
structure Fd (K:aj) (XE:St→XK) (B0 B:Hp) (e:RU) (T:Ends):Prop where
 nx:∀ H0 H σ ds,Cfg K B0 B H0 H σ ds→e.nx ds→T.nx σ H
 rt:∀ v d H0 H,Ext B0 B H0 H→Rp K H0 d v→e.rt d→T.rt v H
 xc:∀ H0 H σ ds C,Cfg K B0 B H0 H σ ds→e.xc ds C→XE σ (.ref C) none H
 bk:∀ H0 H σ ds,Cfg K B0 B H0 H σ ds→e.bk ds→T.bk σ H
 ct:∀ H0 H σ ds,Cfg K B0 B H0 H σ ds→e.ct ds→T.ct σ H
 rb:∀ v d H0 H σ ds,Cfg K B0 B H0 H σ ds→Rp K H0 d v→e.rb d ds→T.rt v H
 ro:∀ a vs ys H0 H σ ds,Cfg K B0 B H0 H σ ds→B a=none→H0 a=none→H a=some (.lst vs)→Rps K H0 ys vs→(∀ (i:Nat) s,ds[i]?=some s→s.foot ((σ[i]?).getD none) a→False)→e.ro ys ds→T.rt (.ref a) H
theorem Fd.kx {K:aj}{XE:St→XK}{B0 B H0 H:Hp}{e:RU}{T:Ends}{σ:St}{ds:DSt}(o:Fd K XE B0 B e T) (c:Cfg K B0 B H0 H σ ds):KX XE σ H (e.xc ds):=fun C H' s h=>o.xc H0 H' σ ds C (c.go (Ext.grow c.sub s)) h
noncomputable def Fe (K:aj) (XE:St→XK) (ts:TS) (s:DS):Prop:=∀ {B0 B H0 H:Hp}{σ:St}{ds:DSt}{e:RU}{T:Ends},Cfg K B0 B H0 H σ ds→s ds e→Fd K XE B0 B e T→ts T σ H
noncomputable def Keeps (ds ds':DSt):Prop:=∀ (i:Nat) s,ds'[i]?=some s→s.isOwn=true→ds[i]?=some s
noncomputable def Cv (K:aj) (g:TG) (dg:DG):Prop:=∀ {B0 B H0 H:Hp}{σ:St}{ds:DSt}{v:V}{d:D}{q:DSt→Prop}{Q:St→Hp→Prop},Cfg K B0 B H0 H σ ds→Rp K H0 d v→dg d ds q→(∀ σ' ds',Cfg K B0 B H0 H σ' ds'→Keeps ds ds'→q ds'→Q σ' H)→g v σ H Q
noncomputable def DenGs (K:aj) (g:TGs) (dg:DGs):Prop:=∀ {B0 B H0 H:Hp}{σ:St}{ds:DSt}{vs:List V}{xs:List D}{q:DSt→Prop}{Q:St→Hp→Prop},Cfg K B0 B H0 H σ ds→Rps K H0 xs vs→dg xs ds q→(∀ σ' ds',Cfg K B0 B H0 H σ' ds'→Keeps ds ds'→q ds'→Q σ' H)→g vs σ H Q
structure JS (X:Cx) (XE:St→XK) (st:Stmt) (s:DS):Prop where
 ex:∃ ts,PS X st ts∧Fe X.K XE ts s
structure JSs (X:Cx) (XE:St→XK) (st:List Stmt) (s:DS):Prop where
 ex:∃ ts,PSs X st ts∧Fe X.K XE ts s
structure JG (X:Cx) (tg:Expr) (g:DG):Prop where
 ex:∃ t,PG X tg t∧Cv X.K t g
structure JGs (X:Cx) (tg:List Expr) (g:DGs):Prop where
 ex:∃ t,PGs X tg t∧DenGs X.K t g
section
variable {X:Cx}{XE:St→XK}
noncomputable def XO (i:Nat):DG:=fun d ds q=>q (ds.set i (.v d))
noncomputable def Af:DGs:=fun xs ds q=>xs=[]∧q ds
noncomputable def MD (g:DG) (r:DGs):DGs:=fun xs ds q=>∃ d ys,xs=d::ys∧g d ds fun ds'=>r ys ds' q
noncomputable def Ag (n:Nat) (g:DGs):DG:=fun d ds q=>∃ xs,d = .tup xs∧xs.length=n∧g xs ds q
theorem zH {ds:DSt}{i:Nat}{d:D}:Keeps ds (ds.set i (.v d)):=fun j s e w=>by
 by_cases hi:i < ds.length
 ·rw [Xu hi] at e
  split at e
  ·cases e;cases w
  ·exact e
 ·rw [Jo hi] at e;exact e
theorem Keeps.trans {a b c:DSt}(h:Keeps a b) (k:Keeps b c):Keeps a c:=fun i s e w=>h i s (k i s e w) w
theorem Keeps.refl {a:DSt}:Keeps a a:=fun i s e w=>e
theorem NK {K:aj}(i:Nat):Cv K (Jy i) (XO i):=fun c r h k=>k _ _ (c.setV i r) zH h
theorem Zi {i:Nat}{x:Str}{pos:Pos}(hN:X.N.Nodup) (hi:X.N[i]?=some x) (hx:Loc X.env.scope x) (hf:X.fn x=true∨X.env.scope.names.lookup x=some .local:=by first | exact .inl rfl | exact .inr rfl | assumption):JG X (.Name x pos) (XO i) :=
 ⟨_,uO hN hi hx hf,NK i⟩
theorem Xc:JGs X [] Af:=⟨_,uQ,fun c r h k=>by
 obtain ⟨e,h⟩:=h
 subst e
 exact ⟨r,k _ _ c .refl h⟩⟩
theorem Zw {e:Expr}{es:List Expr}{g:DG}{r:DGs}(h1:JG X e g) (h2:JGs X es r) (hs:autoParam ((assignEach (e::es) X.env).map (·.2)=assign e X.env::(assignEach es X.env).map (·.2)) auR):JGs X (e::es) (MD g r):=by
 obtain ⟨t1,p1,d1⟩:=h1.ex
 obtain ⟨t2,p2,d2⟩:=h2.ex
 refine ⟨_,yL p1 p2 hs,fun c r h k=>?_⟩
 obtain ⟨d,ys,e,h⟩:=h
 subst e
 obtain ⟨v,us,rfl,r1,r2⟩:=r
 exact ⟨v,us,rfl,d1 c r1 h fun σ' ds' c' kp h'=>d2 c' r2 h' fun σ2 ds2 c2 kp2 h2=>k σ2 ds2 c2 (kp.trans kp2) h2⟩
theorem We {es:List Expr}{k n:Nat}{pos:Pos}{g:DGs}(h:JGs X es g) (hc:autoParam (X.calm=true) auR) (hn:autoParam ((assignEach es X.env).length=n) auR) (hst:autoParam ((assignEach es X.env).findIdx? (·.1)=none) auR):JG X (.Tuple es k pos) (Ag n g):=by
 obtain ⟨t1,p1,d1⟩:=h.ex
 refine ⟨_,og hc p1 hn hst,fun c r h k=>?_⟩
 obtain ⟨xs,e,l,h⟩:=h
 subst e
 obtain ⟨a,vs,rfl,h1,h2⟩:=r
 exact ⟨a,vs,rfl,SqT.of (c.sub _ _ h1),by rw [h2.length];exact l,d1 c h2 h k⟩
noncomputable def qO:DS:=fun ds e=>e.nx ds
noncomputable def dSeq (s t:DS):DS:=fun ds e=>s ds { e with nx:=fun ds'=>t ds' e }
theorem Zt:JSs X XE [] qO:=⟨_,uM,fun c h o=>o.nx _ _ _ _ c h⟩
theorem Ze {st:Stmt}{s:DS}(h:JS X XE st s):JSs X XE [st] s:=by
 obtain ⟨t,p,d⟩:=h.ex
 exact ⟨_,uN p,d⟩
theorem Za {st:Stmt}{rest:List Stmt}{s t:DS}(h:JS X XE st s) (h2:JSs X XE rest t):JSs X XE (st::rest) (dSeq s t):=by
 obtain ⟨t1,p1,d1⟩:=h.ex
 obtain ⟨t2,p2,d2⟩:=h2.ex
 exact ⟨_,yJ p1 p2,fun c h o=>d1 c h ⟨fun H0 H σ ds c' h'=>d2 c' h' o,o.rt,o.xc,o.bk,o.ct,o.rb,o.ro⟩⟩
noncomputable def wo (de:DE) (g:DG):DS:=fun ds e=>de ds (fun d=>g d ds e.nx) (e.xc ds)
theorem Ff {K:aj}{te:TE}{de:DE}{t:TG}{g:DG}(d:Den K XE te de) (dg:Cv K t g):Fe K XE (Gs te t) (wo de g):=fun c h o =>
 d c h (fun v a H1 H2 e r h=>dg (c.go e) r h fun σ' ds' c' _ h'=>o.nx _ _ _ _ c' h') (o.kx c)
theorem Zo {i:Nat}{x:Str}{e:Expr}{de:DE}{pos pos':Pos}(hN:X.N.Nodup) (hi:X.N[i]?=some x) (hx:Loc X.env.scope x) (he:JE X XE e de) (hs:autoParam (swapsWith e (some (.Name x pos')) pos.line X.env=pure false) auR)
  (hf:X.fn x=true∨X.env.scope.names.lookup x=some .local:=by first | exact .inl rfl | exact .inr rfl | assumption):JS X XE (.Assign [.Name x pos'] e pos) (wo de (XO i)):=by
 obtain ⟨te,p,d⟩:=he.ex
 exact ⟨_,Mq hN hi hx p hs hf,Ff d (NK i)⟩
theorem Fg {tg e:Expr}{de:DE}{g:DG}{pos:Pos}(he:JE X XE e de) (hg:JG X tg g) (hs:autoParam (swapsWithSole [tg] e pos.line X.env=pure false) auR) (hw:autoParam (swappedStores [tg] e X.env=pure none) auR)
  (h1:autoParam ((assignEach [tg] X.env).map (·.2)=[assign tg X.env]) auR):JS X XE (.Assign [tg] e pos) (wo de g):=by
 obtain ⟨te,p,d⟩:=he.ex
 obtain ⟨t,p2,d2⟩:=hg.ex
 exact ⟨_,Gu p p2 hs hw h1,Ff d d2⟩
noncomputable def dPar (i j:Nat) (da:DA):DS:=fun ds e=>da ds (fun xs=>∃ a b,xs=[a,b]∧e.nx ((ds.set i (.v a)).set j (.v b))) (e.xc ds)
theorem nA {i j:Nat}{x y:Str}{a b:Expr}{da:DA}{px py pt pos:Pos}{kt k2:Nat}{pt2:Pos}(hN:X.N.Nodup) (hi:X.N[i]?=some x) (hj:X.N[j]?=some y) (hij:i≠j) (hx:X.env.scope.names.lookup x=some .local) (hy:X.env.scope.names.lookup y=some .local)
  (ha:JAs X XE [a,b] da) (h:∀ ta,PA X [a,b] ta→PS X (.Assign [.Tuple [.Name x px,.Name y py] kt pt] (.Tuple [a,b] k2 pt2) pos) (tPar i j ta)):JS X XE (.Assign [.Tuple [.Name x px,.Name y py] kt pt] (.Tuple [a,b] k2 pt2) pos) (dPar i j da):=by
 obtain ⟨ta,p,d⟩:=ha.ex
 refine ⟨_,h ta p,fun c h o=>d c h (fun vs xs H1 H2 e r ⟨a,b,z,h⟩=>?_) (o.kx c)⟩
 subst z
 obtain ⟨v,u,rfl,r1,r2⟩:=xY r
 exact ⟨v,u,rfl,o.nx _ _ _ _ (((c.go e).setV i r1).setV j r2) h⟩
noncomputable def qP (de:DE):DS:=fun ds e=>de ds (fun _=>e.nx ds) (e.xc ds)
theorem NM {e:Expr}{de:DE}{pos:Pos}(he:JE X XE e de) (hs:autoParam (swapsWith e none pos.line X.env=pure false) auR):JS X XE (.Expr e pos) (qP de):=by
 obtain ⟨te,p,d⟩:=he.ex
 exact ⟨_,Nt p hs,fun c h o=>d c h (fun v a H1 H2 e r h=>o.nx _ _ _ _ (c.go e) h) (o.kx c)⟩
noncomputable def dRet (pk:List Nat) (de:DE):DS:=fun ds e=>de (peekAt pk ds) e.rt (e.xc ds)
theorem Zr (pk:List Nat) {e:Expr}{de:DE}{pos:Pos}(he:JE X XE e de):JS X XE (.Return (some e) pos) (dRet pk de):=by
 obtain ⟨te,p,d⟩:=he.ex
 refine ⟨_,Jx p,fun c h o=>?_⟩
 obtain ⟨H1,c1,_⟩:=c.peekAt pk
 exact d c1 h (fun v a H1 H2 e r h=>o.rt _ _ _ _ (c1.ext.trans e) r h) (o.kx c)
noncomputable def dIf (pk:List Nat) (c:DT) (s t:DS):DS:=fun ds e=>c (peekAt pk ds) (fun b=>if b=true then s ds e else t ds e) (e.xc ds)
theorem ZO (pk:List Nat) {c:Expr}{a b:List Stmt}{pos:Pos}{dc:DT}{s t:DS}(hc:JT X XE c dc) (ha:JSs X XE a s) (hb:JSs X XE b t):JS X XE (.If c a b pos) (dIf pk dc s t):=by
 obtain ⟨tc,p0,d0⟩:=hc.ex
 obtain ⟨t1,p1,d1⟩:=ha.ex
 obtain ⟨t2,p2,d2⟩:=hb.ex
 refine ⟨_,ps_if p0 p1 p2,fun c h o=>?_⟩
 obtain ⟨H1,c1,s1,l1,n1⟩:=c.peekAt pk
 refine d0 c1 h (fun b H2 H3 e h=>?_) (o.kx c)
 obtain ⟨H4,e4,_⟩:=e.GQ s1 c.sub l1 n1
 cases b with
 | true =>
  rw [if_pos rfl] at h ⊢
  exact d1 (c.go e4) h o
 | false =>
  rw [if_neg aC] at h ⊢
  exact d2 (c.go e4) h o
noncomputable def dCut (s:DS):DS:=fun ds e=>∃ M:DSt→Prop,s ds { e with nx:=M }∧∀ ds',M ds'→e.nx ds'
theorem UQ {st:Stmt}{s:DS}(h:JS X XE st s):JS X XE st (dCut s):=by
 obtain ⟨t,p,d⟩:=h.ex
 refine ⟨_,p,fun c h o=>?_⟩
 obtain ⟨M,h,k⟩:=h
 exact d c h ⟨fun H0 H σ ds c' h'=>o.nx _ _ _ _ c' (k ds h'),o.rt,o.xc,o.bk,o.ct,o.rb,o.ro⟩
noncomputable def Walks (K:aj) (J:It) (xs:List D) (W0:Hp):Prop:=∀ (i:Nat) (H0 H:Hp),Zv W0 H0→Zv H0 H →
 (i < xs.length→J.go i H∧∀ x H',J.yld i H x H'→∃ H0',Ext H0 H H0' H'∧∃ d,xs[i]?=some d∧Rp K H0' d x)∧(xs.length≤i→J.stop i H)
abbrev DI:=DSt→(List D→Prop)→(Addr→Prop)→Prop
noncomputable def DenI (K:aj) (XE:St→XK) (wi:TI) (di:DI):Prop:=∀ {B0 B H0 H:Hp}{σ:St}{ds:DSt}{q:List D→Prop}{x:Addr→Prop}{R:It→Hp→Prop},Cfg K B0 B H0 H σ ds→di ds q x→(∀ J xs H0' H',Ext H0 H H0' H'→Walks K J xs H0'→q xs→R J H')→KX XE σ H x→wi σ H R
structure JI (X:Cx) (XE:St→XK) (tg iter:Expr) (di:DI):Prop where
 ex:∃ wi,PI X tg iter wi∧DenI X.K XE wi di
theorem QJ {K:aj}{W0:Hp}{a:Addr}{vs:List V}{xs:List D}(h:SqL K W0 a vs) (r:Rps K W0 xs vs):Walks K (Itl K a) xs W0:=by
 intro i H0 H s0 s
 have hs:SqL K H a vs:=(s0.trans s).seq h
 refine ⟨fun hi=>?_,fun hi=>⟨vs,hs,by rw [r.length];exact hi⟩⟩
 obtain ⟨v,e,rv⟩:=r.get (aB hi)
 refine ⟨⟨vs,v,hs,e⟩,fun x H' y=>?_⟩
 obtain ⟨rfl,y⟩:=y
 have:=y vs hs
 rw [e] at this
 cases this
 exact ⟨H0,.refl s,_,aB hi,rv.same s0⟩
theorem wq {K:aj}{W0:Hp}{a:Addr}{vs:List V}{xs:List D}(h:SqT K W0 a vs) (r:Rps K W0 xs vs):Walks K (Itt K a) xs W0:=by
 intro i H0 H s0 s
 have hs:SqT K H a vs:=h.same (s0.trans s)
 refine ⟨fun hi=>?_,fun hi=>⟨vs,hs,by rw [r.length];exact hi⟩⟩
 obtain ⟨v,e,rv⟩:=r.get (aB hi)
 refine ⟨⟨vs,v,hs,e⟩,fun x H' y=>?_⟩
 obtain ⟨rfl,y⟩:=y
 have:=y vs hs
 rw [e] at this
 cases this
 exact ⟨H0,.refl s,_,aB hi,rv.same s0⟩
noncomputable def intsFrom (lo:Int) (n:Nat):List D:=(List.range n).map fun i:Nat => .int (lo + i)
theorem Cw {K:aj}{W0:Hp}{lo:Int}{n:Nat}:Walks K (Itr lo n) (intsFrom lo n) W0:=by
 intro i H0 H s0 s
 have hl:(intsFrom lo n).length=n:=by unfold intsFrom;simp
 refine ⟨fun hi=>?_,fun hi=>by rw [hl] at hi;exact hi⟩
 rw [hl] at hi
 refine ⟨hi,fun x H' y=>?_⟩
 obtain ⟨rfl,rfl⟩:=y
 refine ⟨H0,.refl s,.int (lo + i),?_,rfl⟩
 unfold intsFrom
 rw [getElem?_map,List.getElem?_range hi]
 rfl
noncomputable def signs (x:Str):List D:=x.cps.toList.map fun c => .str ⟨#[c]⟩
theorem wu {K:aj}{W0:Hp}{x:Str}:Walks K (Its x) (signs x) W0:=by
 intro i H0 H s0 s
 have hl:(signs x).length=x.cps.size:=by unfold signs;simp
 refine ⟨fun hi=>?_,fun hi=>by rw [hl] at hi;exact hi⟩
 rw [hl] at hi
 refine ⟨hi,fun v H' y=>?_⟩
 obtain ⟨rfl,c,e,rfl⟩:=y
 refine ⟨H0,.refl s,.str ⟨#[c]⟩,?_,rfl⟩
 unfold signs
 rw [getElem?_map,Array.getElem?_toList,e]
 rfl
noncomputable def KC (xs:List D):List D:=xs.mapIdx fun i x => .tup [.int i,x]
theorem HX {K:aj}{W0:Hp}{a:Addr}{vs:List V}{xs:List D}(h:SqL K W0 a vs) (r:Rps K W0 xs vs):Walks K (Ite K a) (KC xs) W0:=by
 intro i H0 H s0 s
 have hs:SqL K H a vs:=(s0.trans s).seq h
 have hl:(KC xs).length=xs.length:=by unfold KC;simp
 refine ⟨fun hi=>?_,fun hi=>⟨vs,hs,by rw [r.length];rw [hl] at hi;exact hi⟩⟩
 rw [hl] at hi
 obtain ⟨v,e,rv⟩:=r.get (aB hi)
 refine ⟨⟨vs,v,hs,e⟩,fun x H' y=>?_⟩
 obtain ⟨p,w,rfl,hp,rfl,y⟩:=y
 have:=y vs hs
 rw [e] at this
 cases this
 refine ⟨upd H0 p (.tup [.int i,v]),.put s hp,.tup [.int i,xs[i]],?_,?_⟩
 ·unfold KC
  rw [List.getElem?_mapIdx,aB hi]
  rfl
 ·exact RQ (xs:=[.int i,xs[i]]) ⟨_,_,rfl,rfl,_,_,rfl,rv.same s0,rfl⟩ (s.free hp)
theorem ji_list {tg l:Expr}{de:DE}(h:JE X XE l de):JI X XE tg l (fun ds q x=>de ds (fun d=>match d with | .lst xs=>q xs | .scr xs=>q xs | _=>False) x):=by
 obtain ⟨te,p,d⟩:=h.ex
 refine ⟨_,uS p,fun c h k kx=>d c h (fun v a H1 H2 e r h=>?_) kx⟩
 split at h
 ·obtain ⟨a,vs,rfl,h1,h2⟩:=r
  exact ⟨a,rfl,⟨vs,SqL.of (e.sub _ _ h1)⟩,k _ _ _ _ e (QJ (SqL.of h1) h2) h⟩
 ·obtain ⟨a,vs,rfl,h1,h2⟩:=r
  exact ⟨a,rfl,⟨vs,e.sub.seq h1⟩,k _ _ _ _ e (QJ h1 h2) h⟩
 ·exact h.elim
theorem nB {tg l:Expr}{de:DE}(h:JE X XE l de):JI X XE tg l (fun ds q x=>de ds (fun d=>match d with | .str y=>q (signs y) | _=>False) x):=by
 obtain ⟨te,p,d⟩:=h.ex
 refine ⟨_,oW p,fun c h k kx=>d c h (fun v a H1 H2 e r h=>?_) kx⟩
 split at h
 ·exact ⟨_,r,k _ _ _ _ e wu h⟩
 ·exact h.elim
noncomputable def qQ (de:DE):DI:=fun ds q x=>de ds (fun d=>match d with | .lst xs=>q xs | .scr xs=>q xs | .tup xs=>q xs | _=>False) x
theorem ZY {tg l:Expr}{de:DE}(h:JE X XE l de):JI X XE tg l (qQ de):=by
 obtain ⟨te,p,d⟩:=h.ex
 refine ⟨_,nq p,fun c h k kx=>d c h (fun v a H1 H2 e r h=>?_) kx⟩
 split at h
 ·obtain ⟨a,vs,rfl,h1,h2⟩:=r
  exact ⟨a,rfl,.inl ⟨⟨vs,SqL.of (e.sub _ _ h1)⟩,k _ _ _ _ e (QJ (SqL.of h1) h2) h⟩⟩
 ·obtain ⟨a,vs,rfl,h1,h2⟩:=r
  exact ⟨a,rfl,.inl ⟨⟨vs,e.sub.seq h1⟩,k _ _ _ _ e (QJ h1 h2) h⟩⟩
 ·obtain ⟨a,vs,rfl,h1,h2⟩:=r
  exact ⟨a,rfl,.inr ⟨⟨vs,SqT.of (e.sub _ _ h1)⟩,k _ _ _ _ e (wq (SqT.of h1) h2) h⟩⟩
 ·exact h.elim
noncomputable def qR (da:DA):DI:=fun ds q x=>da ds (fun xs=>∃ j:Int,xs=[.int j] ∧ -(2 ^ 62)≤j∧j < 2 ^ 62∧q (intsFrom 0 j.toNat)) x
noncomputable def dRng2 (da:DA):DI:=fun ds q x=>da ds (fun xs=>∃ i j:Int,xs=[.int i,.int j]∧(-(2 ^ 62)≤i∧i < 2 ^ 62 ∧ -(2 ^ 62)≤j∧j < 2 ^ 62)∧q (intsFrom i (j - i).toNat)) x
theorem XW {tg a:Expr}{da:DA}{p pos:Pos}(hg:Gl X "range") (hm:X.mg "range" = none) (ha:JAs X XE [a] da) (hs:autoParam (starEach [a] X.env=[(false,eval a X.env)]) auR):JI X XE tg (.Call (.Name "range" p) [a] [] pos) (qR da):=by
 obtain ⟨ta,p,d⟩:=ha.ex
 refine ⟨_,AJ hg hm p hs,fun c h k kx=>d c h (fun vs xs H1 H2 e r ⟨j,z,h1,h2,h3⟩=>?_) kx⟩
 subst z
 obtain ⟨v,rfl,rv⟩:=Uy r
 exact ⟨j,by rw [show v = .int j from rv],h1,h2,k _ _ _ _ e Cw h3⟩
noncomputable def qS (da:DA):DI:=fun ds q x=>da ds (fun xs=>match xs with | [.lst ys]=>q (KC ys) | [.scr ys]=>q (KC ys) | _=>False) x
theorem tW {a:Expr}{da:DA}{p pos:Pos}{elts:List Expr}{x1}{tpos:Pos}(hg:Gl X "enumerate") (hm:X.mg "enumerate" = none) (ha:JAs X XE [a] da) (hs:autoParam (starEach [a] X.env=[(false,eval a X.env)]) auR):JI X XE (.Tuple elts x1 tpos) (.Call (.Name "enumerate" p) [a] [] pos) (qS da):=by
 obtain ⟨ta,p,d⟩:=ha.ex
 refine ⟨_,tJ hg hm p hs,fun c h k kx=>d c h (fun vs xs H1 H2 e r h=>?_) kx⟩
 split at h
 ·obtain ⟨v,rfl,a,ws,rfl,h1,h2⟩:=Uy r
  exact ⟨a,rfl,⟨ws,SqL.of (e.sub _ _ h1)⟩,k _ _ _ _ e (HX (SqL.of h1) h2) h⟩
 ·obtain ⟨v,rfl,a,ws,rfl,h1,h2⟩:=Uy r
  exact ⟨a,rfl,⟨ws,e.sub.seq h1⟩,k _ _ _ _ e (HX h1 h2) h⟩
 ·exact h.elim
theorem Ext.SD {B0 B W H0 H:Hp}(e:Ext W B H0 H) (h:Zv B0 W) (n:∀ b,B0 b=none→B b≠none→W b=none):Ext B0 B H0 H:=⟨e.s,h.trans e.s0,e.sub,fun b z y=>e.new b (n b z y) y⟩
theorem Cfg.SD {K:aj}{B0 B W H0 H:Hp}{σ:St}{ds:DSt}(c:Cfg K W B H0 H σ ds) (h:Zv B0 W) (n:∀ b,B0 b=none→B b≠none→W b=none):Cfg K B0 B H0 H σ ds:=⟨c.ext.SD h n,c.slot,c.young,c.sep,c.len⟩
theorem Cfg.rebase {K:aj}{B0 B W H0 H:Hp}{σ:St}{ds:DSt}(c:Cfg K B0 B H0 H σ ds) (h:Zv B0 W) (h2:Zv W H0):Cfg K W B H0 H σ ds :=
 ⟨⟨c.ext.s,h2,c.ext.sub,fun b z y=>c.ext.new b (h.free z) y⟩,c.slot,c.young,c.sep,c.len⟩
noncomputable def Tx (g:DG) (b:DS) (e:RU):List D→DSt→Prop
 | [],ds=>e.nx ds
 | x::xs,ds=>g x ds fun ds'=>b ds' { e with nx:=Tx g b e xs,ct:=Tx g b e xs,bk:=e.nx }
noncomputable def dFor (di:DI) (g:DG) (b:DS):DS:=fun ds e=>∃ fz:List Nat,di (peekAt fz ds) (fun xs=>Tx g b e xs (peekAt fz ds)) (e.xc ds)
theorem YQ {tg iter:Expr}{body:List Stmt}{di:DI}{g:DG}{b:DS}{pos:Pos}(hp:PassesOwn (model X.prog X.w) X.A X.env X.xe) (hi:JI X XE tg iter di) (hg:JG X tg g) (hb:JSs X XE body b) (hc:autoParam (X.calm=true) auR)
  (hs:∀ x,foldedSetIterable iter X.env x=pure x:=by intro _;rfl):JS X XE (.For tg iter body [] pos) (dFor di g b):=by
 obtain ⟨wi,p0,d0⟩:=hi.ex
 obtain ⟨t,p1,d1⟩:=hg.ex
 obtain ⟨tb,p2,d2⟩:=hb.ex
 refine ⟨_,oo hp hc p0 p1 p2 hs,fun {B0 B H0 H σ ds e T} c h o=>?_⟩
 obtain ⟨fz,h⟩:=h
 obtain ⟨H1,c1,_⟩:=c.peekAt fz
 refine d0 c1 h (fun J xs H2 H3 e1 w h=>?_) (o.kx c)
 have hB2:Zv B0 H2:=c1.ext.s0.trans e1.s0
 have hN2:∀ b,B0 b=none→B b≠none→H2 b=none:=(c1.ext.trans e1).new
 refine ⟨fun i m σ' H'=>m=xs.length - i∧i≤xs.length∧∃ H0' ds',Cfg X.K B0 B H0' H' σ' ds'∧Zv H2 H0'∧Tx g b e (xs.drop i) ds',⟨_,rfl,Nat.zero_le _,H2,_,c1.go e1,.refl _,h⟩,?_⟩
 rintro i m σ' H' ⟨rfl,hi,H0',ds',c',s',hl⟩
 obtain ⟨w1,w2⟩:=w i H0' H' s' c'.sub
 by_cases hi2:i < xs.length
 ·right
  obtain ⟨go,yld⟩:=w1 hi2
  rw [List.drop_eq_getElem_cons hi2] at hl
  unfold Tx at hl
  refine ⟨go,fun σ2 H4=>∃ H0'' ds2,Cfg X.K B0 B H0'' H4 σ2 ds2∧Zv H2 H0''∧Tx g b e (xs.drop (i + 1)) ds2,fun σ2 H4 ⟨H5,ds2,c2,s2,l2⟩=>⟨_,by omega,rfl,hi2,H5,ds2,c2,s2,l2⟩,fun x H4 y=>?_⟩
  obtain ⟨H5,e5,d,ed,rd⟩:=yld x H4 y
  rw [aB hi2] at ed
  cases ed
  refine d1 (c'.go e5) rd hl fun σ2 ds2 c2 _ h2=>?_
  refine d2 (e:={ e with nx:=fun ds4=>Tx g b e (xs.drop (i + 1)) ds4,ct:=fun ds4=>Tx g b e (xs.drop (i + 1)) ds4,bk:=e.nx }) (c2.rebase hB2 (s'.trans e5.s0)) h2 ⟨fun H6 H7 σ3 ds3 c3 l3=>?_,fun v d' H6 H7 x3=>o.rt v d' H6 H7 (x3.SD hB2 hN2),fun H6 H7 σ3 ds3 C c3=>o.xc H6 H7 σ3 ds3 C (c3.SD hB2 hN2),fun H6 H7 σ3 ds3 c3=>o.nx H6 H7 σ3 ds3 (c3.SD hB2 hN2),fun H6 H7 σ3 ds3 c3 l3=>?_,fun v d' H6 H7 σ3 ds3 c3=>o.rb v d' H6 H7 σ3 ds3 (c3.SD hB2 hN2),fun a vs ys H6 H7 σ3 ds3 c3=>o.ro a vs ys H6 H7 σ3 ds3 (c3.SD hB2 hN2)⟩
  ·exact ⟨H6,ds3,c3.SD hB2 hN2,c3.ext.s0,l3⟩
  ·exact ⟨H6,ds3,c3.SD hB2 hN2,c3.ext.s0,l3⟩
 ·left
  have hx:xs.drop i=[]:=List.drop_eq_nil_of_le (by omega)
  rw [hx] at hl
  exact ⟨w2 (by omega),o.nx _ _ _ _ c' hl⟩
end
section
variable {X:Cx}{XE:St→XK}
noncomputable def nC (pk:List Nat) (c:DT) (b:DS):DS:=fun ds e=>∃ W:Nat→DSt→Prop,(∃ m,W m ds)∧∀ m ds,W m ds →
 c (peekAt pk ds) (fun k=>if k=true then b ds { e with nx:=fun ds'=>∃ m',m' < m∧W m' ds',ct:=fun ds'=>∃ m',m' < m∧W m' ds',bk:=e.nx } else e.nx ds) (e.xc ds)
theorem RV (pk:List Nat) {c:Expr}{body:List Stmt}{dc:DT}{b:DS}{pos:Pos}(hp:PassesOwn (model X.prog X.w) X.A X.env X.xe) (hc:JT X XE c dc) (hb:JSs X XE body b):JS X XE (.While c body [] pos) (nC pk dc b):=by
 obtain ⟨tc,p0,d0⟩:=hc.ex
 obtain ⟨tb,p1,d1⟩:=hb.ex
 refine ⟨_,yN hp p0 p1,fun {B0 B H0 H σ ds e T} c h o=>?_⟩
 obtain ⟨W,⟨m,w⟩,h⟩:=h
 refine ⟨fun m σ' H'=>∃ H0' ds',Cfg X.K B0 B H0' H' σ' ds'∧W m ds',⟨m,H0,ds,c,w⟩,?_⟩
 rintro m σ' H' ⟨H0',ds',c',w'⟩
 obtain ⟨H1,c1,s1,l1,n1⟩:=c'.peekAt pk
 refine d0 c1 (h m ds' w') (fun k H2 H3 e h=>?_) (o.kx c')
 obtain ⟨H4,e4,_⟩:=e.GQ s1 c'.sub l1 n1
 cases k with
 | true =>
  rw [if_pos rfl] at h ⊢
  refine ⟨fun σ2 H5=>∃ m',m' < m∧∃ H6 ds2,Cfg X.K B0 B H6 H5 σ2 ds2∧W m' ds2,fun σ2 H5 z=>z,?_⟩
  exact d1 (c'.go e4) h ⟨fun H6 H7 σ2 ds2 c2 ⟨m',l,w2⟩=>⟨m',l,H6,ds2,c2,w2⟩,o.rt,o.xc,o.nx,fun H6 H7 σ2 ds2 c2 ⟨m',l,w2⟩=>⟨m',l,H6,ds2,c2,w2⟩,o.rb,o.ro⟩
 | false =>
  rw [if_neg aC] at h ⊢
  exact o.nx _ _ _ _ (c'.go e4) h
noncomputable def zI (K:aj) (XE:St→XK) (te:TE) (df:DA):Prop:=∀ {B0 B H0 H:Hp}{σ:St}{ds:DSt}{q:List D→Prop}{x:Addr→Prop}{Q:VK},Cfg K B0 B H0 H σ ds→df ds q x →
 (∀ a vs xs H0' H',Ext H0 H H0' H'→H a=none→H0' a=none→H' a=some (.lst vs)→Rps K H0' xs vs→q xs→Q (.ref a) H')→KX XE σ H x→te σ H Q
structure JF (X:Cx) (XE:St→XK) (e:Expr) (df:DA):Prop where
 ex:∃ te,PE X e te∧zI X.K XE te df
noncomputable def dFz (df:DA):DE:=fun ds q x=>df ds (fun xs=>q (.lst xs)) x
theorem wx {H0 H H0' H':Hp}{a:Addr}{o:HO}(e:Ext H0 H H0' H') (n:H a=none) (n0:H0' a=none) (h:H' a=some o):Ext H0 H (upd H0' a o) H':=by
 refine ⟨e.s,e.s0.trans (Zv.upd n0),fun b u z=>?_,fun b z y=>?_⟩
 ·by_cases hb:b=a
  ·subst hb;rw [Zu] at z;rw [h];exact z
  ·rw [Zk hb] at z;exact e.sub _ _ z
 ·rw [Zk (fun w=>y (by rw [w];exact n))]
  exact e.new b z y
theorem wy {K:aj}{te:TE}{df:DA}(d:zI K XE te df):Den K XE te (dFz df):=fun c h k kx =>
 d c h (fun a vs xs H0' H' e n n0 ha r hq=>k _ (.lst xs) _ _ (wx e n n0 ha) (Vh r n0) hq) kx
theorem JF.je {e:Expr}{df:DA}(h:JF X XE e df):JE X XE e (dFz df):=by
 obtain ⟨te,p,d⟩:=h.ex
 exact ⟨_,p,wy d⟩
theorem Xw {es:List Expr}{pos:Pos}{da:DA}(h:JAs X XE es da):JF X XE (.List es pos) (fun ds q x=>da ds (fun xs=>xs.length≤aA∧q xs) x):=by
 obtain ⟨ta,p1,d1⟩:=h.ex
 refine ⟨_,yZ p1,fun c h k kx=>d1 c h (fun vs xs H1 H2 e r hb=>⟨by rw [r.length];exact hb.1,fun p hp=>?_⟩) kx⟩
 exact k p vs xs H1 _ (e.trans (.grow e.sub (Zv.upd hp))) (e.s.free hp) (e.sub.free hp) Zu r hb.2
theorem jf_cat {a b:Expr}{da db:DE}{pos:Pos}(ha:JE X XE a da) (hb:JE X XE b db):JF X XE (.BinOp a .Add b pos) (fun ds q x=>da ds (fun a=>db ds (fun b=>match a,b with
  | .lst xs,.lst ys=>xs.length + ys.length≤aA∧q (xs++ys) | .scr xs,.lst ys=>xs.length + ys.length≤aA∧q (xs++ys) | _,_=>False) x) x):=by
 obtain ⟨ta,p1,d1⟩:=ha.ex
 obtain ⟨tb,p2,d2⟩:=hb.ex
 refine ⟨_,yP BL p1 p2,fun c h k kx=>d1 c h (fun v a H1 H2 e r1 h=>d2 (c.go e) h (fun u b H3 H4 e' r2 h'=>?_) (kx.go e.s)) kx⟩
 have e3:=e.trans e'
 have r3:=r1.same e'.s0
 split at h'
 ·obtain ⟨a1,vs,rfl,h1,h2⟩:=r3
  obtain ⟨b1,us,rfl,h3,h4⟩:=r2
  exact ⟨a1,b1,vs,us,rfl,rfl,SqL.of (e3.sub _ _ h1),SqL.of (e3.sub _ _ h3),by rw [h2.length,h4.length];exact h'.1,fun p hp=>k p _ _ H3 _ (e3.trans (.grow e3.sub (Zv.upd hp))) (e3.s.free hp) (e3.sub.free hp) Zu (h2.app h4) h'.2⟩
 ·obtain ⟨a1,vs,rfl,h1,h2⟩:=r3
  obtain ⟨b1,us,rfl,h3,h4⟩:=r2
  exact ⟨a1,b1,vs,us,rfl,rfl,e3.sub.seq h1,SqL.of (e3.sub _ _ h3),by rw [h2.length,h4.length];exact h'.1,fun p hp=>k p _ _ H3 _ (e3.trans (.grow e3.sub (Zv.upd hp))) (e3.s.free hp) (e3.sub.free hp) Zu (h2.app h4) h'.2⟩
 ·exact h'.elim
theorem nE {a b:Expr}{da db:DE}{pos:Pos}(ha:JE X XE a da) (hb:JE X XE b db):JF X XE (.BinOp a .Mult b pos) (fun ds q x=>da ds (fun a=>db ds (fun b=>match a,b with
  | .lst xs,.int k => -(2 ^ 63)≤k∧k < 2 ^ 63∧xs.length * k.toNat≤aA∧q (replicate k.toNat xs).flatten | _,_=>False) x) x):=by
 obtain ⟨ta,p1,d1⟩:=ha.ex
 obtain ⟨tb,p2,d2⟩:=hb.ex
 refine ⟨_,yP xr p1 p2,fun c h k kx=>d1 c h (fun v a H1 H2 e r1 h=>d2 (c.go e) h (fun u b H3 H4 e' r2 h'=>?_) (kx.go e.s)) kx⟩
 have e3:=e.trans e'
 have r3:=r1.same e'.s0
 split at h'
 ·obtain ⟨a1,vs,rfl,h1,h2⟩:=r3
  exact ⟨a1,_,vs,rfl,r2,e3.sub _ _ h1,h'.1,h'.2.1,by rw [h2.length];exact h'.2.2.1,fun p hp=>k p _ _ H3 _ (e3.trans (.grow e3.sub (Zv.upd hp))) (e3.s.free hp) (e3.sub.free hp) Zu (h2.flatten _) h'.2.2.2⟩
 ·exact h'.elim
noncomputable def XN:St→XK:=fun _ _ _ _=>False
noncomputable def dpre (n:Nat) (fr:List Nat) (ds:DSt):DSt:=replicate n .un++fr.map fun j=>match ds[j]? with
 | some (.v d) => .v d
 | _ => .un
noncomputable def WY (g:DG) (f:DT) (e:DE) (q:List D→Prop):List D→DSt→List D→Prop
 | [],_,acc=>q acc
 | x::xs,ds,acc=>g x ds fun ds1=>f ds1 (fun b=>if b=true then e ds1 (fun y=>acc.length < aA∧WY g f e q xs ds1 (acc++[y])) (fun _=>False) else WY g f e q xs ds1 acc) (fun _=>False)
noncomputable def Ib (n:Nat) (fr:List Nat) (di:DI) (g:DG) (f:DT) (e:DE):DA:=fun ds q x=>di ds (fun xs=>WY g f e q xs (dpre n fr ds) []) x
noncomputable def zJ:DT:=fun _ q _=>q true
noncomputable def KD (ds:DSt):Prop:=∀ (i:Nat) s,ds[i]?=some s→s.isOwn=false
theorem KD.keeps {ds ds':DSt}(h:KD ds) (k:Keeps ds ds'):KD ds':=fun i s e=>by
 cases w:s.isOwn with
 | false=>rfl
 | true=>rw [h i s (k i s e w)] at w;cases w
theorem nF (n:Nat) (fr:List Nat) (σ:St) (i:Nat):((pre n fr σ)[i]?).getD none=if i < n then none else ((fr[i - n]?).map fun j=>(σ[j]?).getD none).getD none:=by
 unfold pre
 by_cases h:i < n
 ·rw [if_pos h,getElem?_append_left (by rw [length_replicate];exact h),getElem?_replicate,if_pos h];rfl
 ·rw [if_neg h,getElem?_append_right (by rw [length_replicate];omega),length_replicate,getElem?_map]
theorem tX {K:aj}{B0 B H0 H H':Hp}{σ:St}{ds:DSt}(c:Cfg K B0 B H0 H σ ds) (s:Zv H H') (n:Nat) (fr:List Nat):Cfg K H0 H H0 H' (pre n fr σ) (dpre n fr ds)∧KD (dpre n fr ds):=by
 have no:KD (dpre n fr ds):=fun i s e=>by
  unfold dpre at e
  by_cases h:i < n
  ·rw [getElem?_append_left (by rw [length_replicate];exact h),getElem?_replicate,if_pos h] at e
   cases e;rfl
  ·rw [getElem?_append_right (by rw [length_replicate];omega),length_replicate,getElem?_map] at e
   cases q:fr[i - n]? with
   | none=>rw [q] at e;cases e
   | some j =>
    rw [q] at e
    cases e
    dsimp only
    split <;> rfl
 refine ⟨⟨.grow c.sub s,fun i t e=>?_,fun i t a e w=>?_,fun i j t u a _ e _ w=>?_,?_⟩,no⟩
 ·rw [nF]
  unfold dpre at e
  by_cases h:i < n
  ·rw [getElem?_append_left (by rw [length_replicate];exact h),getElem?_replicate,if_pos h] at e
   cases e;trivial
  ·rw [if_neg h]
   rw [getElem?_append_right (by rw [length_replicate];omega),length_replicate,getElem?_map] at e
   cases q:fr[i - n]? with
   | none=>rw [q] at e;cases e
   | some j =>
    rw [q] at e
    cases e
    dsimp only [Option.map_some,Option.getD_some]
    split
    ·rename_i d qd
     obtain ⟨v,e1,r⟩:=c.slot j _ qd
     exact ⟨v,e1,r⟩
    ·trivial
 ·have:=no i t e;rw [Slot.Xx w] at this;cases this
 ·have:=no i t e;rw [Slot.Xx w] at this;cases this
 ·unfold pre dpre
  simp
theorem Cfg.aside {K:aj}{B0 B H0 H:Hp}{σ:St}{ds:DSt}{a:Addr}{o:HO}(c:Cfg K B0 B H0 H σ ds) (n:KD ds) (hb:B a=none) (h0:H0 a=none):Cfg K B0 B H0 (upd H a o) σ ds:=by
 refine ⟨⟨fun b u z=>?_,c.ext.s0,fun b u z=>?_,c.ext.new⟩,fun j t r=>?_,c.young,c.sep,c.len⟩
 ·rw [Zk (fun y=>by rw [y,hb] at z;cases z)]
  exact c.ext.s _ _ z
 ·rw [Zk (fun y=>by rw [y,h0] at z;cases z)]
  exact c.sub _ _ z
 ·have old:=c.slot j t r
  have w:=n j t r
  cases t with
  | un=>trivial
  | v d=>exact old
  | own _=>cases w
  | ob _ _ _ _=>cases w
  | od _=>cases w
  | st _ _=>cases w
theorem Ey {K:aj}{wi:TI}{t:TG}{tf:TT}{te:TE}{di:DI}{g:DG}{f:DT}{e:DE}(n:Nat) (fr:List Nat) (d0:DenI K XE wi di) (d1:Cv K t g) (d2:zy K XN tf f) (d3:Den K XN te e):zI K XE (xK n fr wi t tf te) (Ib n fr di g f e):=by
 intro B0 B H0 H σ ds q x Q c h k kx
 refine d0 c h (fun J xs H1 H2 e1 w h=>fun Dd hD=>?_) kx
 obtain ⟨c1,no1⟩:=tX (c.go e1) (Zv.upd (o := .lst []) hD) n fr
 have hD1:H1 Dd=none:=e1.sub.free hD
 refine ⟨fun i m σ' H'=>m=xs.length - i∧i≤xs.length∧∃ H0' ds' acc vs,Cfg K H1 H2 H0' H' σ' ds'∧KD ds'∧H0' Dd=none∧H' Dd=some (.lst vs)∧Rps K H0' acc vs∧WY g f e q (xs.drop i) ds' acc,⟨_,rfl,Nat.zero_le _,H1,_,[],[],c1,no1,hD1,Zu,rfl,h⟩,?_⟩
 rintro i m σ' H' ⟨rfl,hi,H0',ds',acc,vs,c',no',n',hv,r',hl⟩
 obtain ⟨w1,w2⟩:=w i H0' H' c'.ext.s0 c'.sub
 by_cases hi2:i < xs.length
 ·right
  obtain ⟨go,yld⟩:=w1 hi2
  rw [List.drop_eq_getElem_cons hi2] at hl
  unfold WY at hl
  refine ⟨go,fun σ2 H4=>∃ H0'' ds2 acc2 vs2,Cfg K H1 H2 H0'' H4 σ2 ds2∧KD ds2∧H0'' Dd=none∧H4 Dd=some (.lst vs2)∧Rps K H0'' acc2 vs2∧WY g f e q (xs.drop (i + 1)) ds2 acc2,fun σ2 H4 ⟨a1,a2,a3,a4,a5⟩=>⟨_,by omega,rfl,hi2,a1,a2,a3,a4,a5⟩,fun y H4 z=>?_⟩
  obtain ⟨H5,e5,d,ed,rd⟩:=yld y H4 z
  rw [aB hi2] at ed
  cases ed
  have hne:H' Dd≠none:=by rw [hv];simp
  refine d1 (c'.go e5) rd hl fun σ2 ds2 c2 kp h2=>?_
  have no2:=no'.keeps kp
  have n5:H5 Dd=none:=e5.new Dd n' hne
  have v5:H4 Dd=some (.lst vs):=e5.s _ _ hv
  refine d2 c2 h2 (fun b H6 H7 e6 h6=>?_) (fun _ _ _ h=>h.elim)
  have n6:H6 Dd=none:=e6.new Dd n5 (by rw [v5];simp)
  have v6:H7 Dd=some (.lst vs):=e6.s _ _ v5
  cases b with
  | false =>
   rw [if_neg aC] at h6 ⊢
   exact ⟨H6,ds2,acc,vs,c2.go e6,no2,n6,v6,r'.same (e5.trans e6).s0,h6⟩
  | true =>
   rw [if_pos rfl] at h6 ⊢
   refine d3 (c2.go e6) h6 (fun u y' H8 H9 e8 r8 h8=>?_) (fun _ _ _ h=>h.elim)
   have n8:H8 Dd=none:=e8.new Dd n6 (by rw [v6];simp)
   have v8:H9 Dd=some (.lst vs):=e8.s _ _ v6
   have ra:=r'.same (e5.trans (e6.trans e8)).s0
   refine ⟨vs,v8,by rw [ra.length];exact h8.1,H8,ds2,acc++[y'],vs++[u],((c2.go e6).go e8).aside no2 hD n8,no2,n8,Zu,ra.snoc r8,h8.2⟩
 ·left
  have hx:xs.drop i=[]:=List.drop_eq_nil_of_le (by omega)
  rw [hx] at hl
  refine ⟨w2 (by omega),k Dd vs acc H0' H' (e1.trans c'.ext) (e1.s.free hD) n' hv r' hl⟩
structure JIf (X:Cx) (XE:St→XK) (ifs:List Expr) (d:DT):Prop where
 ex:∃ t,PIf X ifs t∧zy X.K XE t d
theorem Yu:JIf X XE [] zJ:=⟨_,oU,fun c h k kx=>k _ _ _ (.refl c.sub) h⟩
theorem Og {c:Expr}{d:DT}(h:JT X XE c d):JIf X XE [c] d:=by
 obtain ⟨t,p,d⟩:=h.ex
 exact ⟨_,oV p,d⟩
end
theorem qT {σ:St}{H:Hp}{x:Addr→Prop}(k:KX XN σ H x):x=fun _=>False:=funext fun C=>propext ⟨fun h=>k C H (.refl _) h,fun h=>h.elim⟩
theorem qU {ι:Type}{Xf:ι→Cx}{K:aj}{e:Expr}{de:DE}(hK:∀ z,(Xf z).K=K) (h:∀ z,JE (Xf z) XN e de):∃ te,(∀ z,PE (Xf z) e te)∧Den K XN te de:=by
 refine ⟨fun σ H Q=>∃ B0 B H0 ds q,Cfg K B0 B H0 H σ ds∧de ds q (fun _=>False)∧KE K H0 H q Q,fun z=>?_,fun c hd k kx=>?_⟩
 ·intro pins s σ H Q I ⟨B0,B,H0,ds,q,c,hd,k⟩
  obtain ⟨te,p,d⟩:=(h z).ex
  have kk:=hK z
  subst kk
  exact p pins s σ H Q I (d c hd k fun _ _ _ h=>h.elim)
 ·rw [qT kx] at hd
  exact ⟨_,_,_,_,_,c,hd,k⟩
theorem qV {ι:Type}{Xf:ι→Cx}{K:aj}{ifs:List Expr}{de:DT}(hK:∀ z,(Xf z).K=K) (h:∀ z,JIf (Xf z) XN ifs de):∃ te,(∀ z,PIf (Xf z) ifs te)∧zy K XN te de:=by
 refine ⟨fun σ H Q=>∃ B0 B H0 ds q,Cfg K B0 B H0 H σ ds∧de ds q (fun _=>False)∧∀ b H0' H',Ext H0 H H0' H'→q b→Q b H',fun z=>?_,fun c hd k kx=>?_⟩
 ·intro pins s σ H Q I ⟨B0,B,H0,ds,q,c,hd,k⟩
  obtain ⟨te,p,d⟩:=(h z).ex
  have kk:=hK z
  subst kk
  exact p pins s σ H Q I (d c hd k fun _ _ _ h=>h.elim)
 ·rw [qT kx] at hd
  exact ⟨_,_,_,_,_,c,hd,k⟩
theorem qW {ι:Type}{Xf:ι→Cx}{K:aj}{tg:Expr}{g:DG}(hK:∀ z,(Xf z).K=K) (h:∀ z,JG (Xf z) tg g):∃ t,(∀ z,PG (Xf z) tg t)∧Cv K t g:=by
 refine ⟨fun v σ H Q=>∃ B0 B H0 ds d q,Cfg K B0 B H0 H σ ds∧Rp K H0 d v∧g d ds q∧∀ σ' ds',Cfg K B0 B H0 H σ' ds'→Keeps ds ds'→q ds'→Q σ' H,fun z=>?_,fun c r hd k=>⟨_,_,_,_,_,_,c,r,hd,k⟩⟩
 intro pins s σ H v u Q I rv ⟨B0,B,H0,ds,d,q,c,r,hd,k⟩
 obtain ⟨te,p,dd⟩:=(h z).ex
 have kk:=hK z
 subst kk
 exact p pins s σ H v u Q I rv (dd c r hd k)
section
variable {X:Cx}{XE:St→XK}
theorem Ah {elt tg iter:Expr}{ifs:List Expr}{own:Scope}{pos:Pos}(ts Nc:List Str) (fr:List Nat) {di:DI}{g:DG}{f:DT}{e:DE}(hi:JI X XE tg iter di)
  (hg:∀ z,JG (Zz X own (ts++Nc) z) tg g) (hf:∀ z,JIf (Zz X own (ts++Nc) z) XN ifs f) (he:∀ z,JE (Zz X own (ts++Nc) z) XN elt e) (hc:autoParam (X.calm=true) auR) (c:autoParam (Sv own X.env.scope Nc=true) auR) (hN:autoParam (fr.map (X.N[·]?)=Nc.map some) auR)
  (hs:∀ x,foldedSetIterable iter X.env x=pure x:=by intro _;rfl):JF X XE (.ListComp elt [⟨tg,iter,ifs,0⟩] own pos) (Ib ts.length fr di g f e):=by
 obtain ⟨wi,p0,d0⟩:=hi.ex
 obtain ⟨t,p1,d1⟩:=qW (Xf:=fun z=>Zz X own (ts++Nc) z) (K:=X.K) (fun _=>rfl) hg
 obtain ⟨tf,p2,d2⟩:=qV (Xf:=fun z=>Zz X own (ts++Nc) z) (K:=X.K) (fun _=>rfl) hf
 obtain ⟨te,p3,d3⟩:=qU (Xf:=fun z=>Zz X own (ts++Nc) z) (K:=X.K) (fun _=>rfl) he
 exact ⟨_,tM ts Nc fr p0 p1 p2 p3 hc c hN hs,Ey _ fr d0 d1 d2 d3⟩
theorem Yi {elt tg iter:Expr}{ifs:List Expr}{own:Scope}{pos:Pos}(ts Nc:List Str) (fr:List Nat) {di:DI}{g:DG}{f:DT}{e:DE}(hi:JI X XE tg iter di)
  (hg:∀ z,JG (Zz X own (ts++Nc) z) tg g) (hf:∀ z,JIf (Zz X own (ts++Nc) z) XN ifs f) (he:∀ z,JE (Zz X own (ts++Nc) z) XN elt e) (hc:autoParam (X.calm=true) auR) (c:autoParam (Sv own X.env.scope Nc=true) auR) (hN:autoParam (fr.map (X.N[·]?)=Nc.map some) auR)
  (hs:∀ x,foldedSetIterable iter X.env x=pure x:=by intro _;rfl):JE X XE (.ListComp elt [⟨tg,iter,ifs,0⟩] own pos) (dFz (Ib ts.length fr di g f e)):=(Ah ts Nc fr hi hg hf he hc c hN hs).je
noncomputable def wz (i:Nat) (df:DA):DS:=fun ds e=>df ds (fun xs=>e.nx (ds.set i (.own xs))) (e.xc ds)
theorem wA {K:aj}{te:TE}{df:DA}(i:Nat) (d:zI K XE te df):Fe K XE (Gs te (Jy i)) (wz i df):=fun c h o =>
 d c h (fun a vs xs H0' H' e n n0 ha r hq=>o.nx _ _ _ _ (c.newO i e n n0 ha r) hq) (o.kx c)
noncomputable def wC (pk:List Nat) (de:DE) (g:DG):DS:=fun ds e=>de (peekAt pk ds) (fun d=>g d (if d.imm=true then ds else peekAt pk ds) e.nx) (e.xc ds)
theorem wF {K:aj}{te:TE}{de:DE}{t:TG}{g:DG}(pk:List Nat) (d:Den K XE te de) (dg:Cv K t g):Fe K XE (Gs te t) (wC pk de g):=fun c h o=>by
 obtain ⟨H1,c1,s1,l1,n1⟩:=c.peekAt pk
 refine d c1 h (fun v a H2 H3 e r h=>?_) (o.kx c)
 by_cases hi:a.imm=true
 ·rw [if_pos hi] at h
  obtain ⟨H4,e4,l4,_⟩:=e.GQ s1 c.sub l1 n1
  exact dg (c.go e4) (Rp.less l4 a hi r) h fun σ' ds' c' _ h'=>o.nx _ _ _ _ c' h'
 ·rw [if_neg hi] at h
  exact dg (c1.go e) r h fun σ' ds' c' _ h'=>o.nx _ _ _ _ c' h'
theorem Xd {i:Nat}{x:Str}{e:Expr}{df:DA}{pos pos':Pos}(hN:X.N.Nodup) (hi:X.N[i]?=some x) (hx:Loc X.env.scope x) (he:JF X XE e df) (hs:autoParam (swapsWith e (some (.Name x pos')) pos.line X.env=pure false) auR)
  (hf:X.fn x=true∨X.env.scope.names.lookup x=some .local:=by first | exact .inl rfl | exact .inr rfl | assumption):JS X XE (.Assign [.Name x pos'] e pos) (wz i df):=by
 obtain ⟨te,p,d⟩:=he.ex
 exact ⟨_,Mq hN hi hx p hs hf,wA i d⟩
theorem Ai (pk:List Nat) {i:Nat}{x:Str}{e:Expr}{de:DE}{pos pos':Pos}(hN:X.N.Nodup) (hi:X.N[i]?=some x) (hx:Loc X.env.scope x) (he:JE X XE e de) (hs:autoParam (swapsWith e (some (.Name x pos')) pos.line X.env=pure false) auR)
  (hf:X.fn x=true∨X.env.scope.names.lookup x=some .local:=by first | exact .inl rfl | exact .inr rfl | assumption):JS X XE (.Assign [.Name x pos'] e pos) (wC pk de (XO i)):=by
 obtain ⟨te,p,d⟩:=he.ex
 exact ⟨_,Mq hN hi hx p hs hf,wF pk d (NK i)⟩
noncomputable def Cy (pk:List Nat) (i:Nat) (df:DA):DS:=fun ds e=>df (peekAt pk ds) (fun xs=>e.nx ((if D.GO xs=true then ds else peekAt pk ds).set i (.own xs))) (e.xc ds)
theorem zK {K:aj}{te:TE}{df:DA}(pk:List Nat) (i:Nat) (d:zI K XE te df):Fe K XE (Gs te (Jy i)) (Cy pk i df):=fun {B0 B H0 H σ ds e T} c h o=>by
 obtain ⟨H1,c1,s1,l1,n1⟩:=c.peekAt pk
 refine d c1 h (fun a vs xs H2 H3 ee n n0 ha r hq=>?_) (o.kx c)
 by_cases hi:D.GO xs=true
 ·rw [if_pos hi] at hq
  obtain ⟨H4,e4,l4,s4⟩:=ee.GQ s1 c.sub l1 n1
  exact o.nx _ _ _ _ (c.newO i e4 n (s4.free n0) ha (Rps.less l4 xs hi r)) hq
 ·rw [if_neg hi] at hq
  exact o.nx _ _ _ _ (c1.newO i ee n n0 ha r) hq
theorem Ez {elt tg iter:Expr}{ifs:List Expr}{own:Scope}{pos:Pos}{i:Nat}{x:Str}{px spos:Pos}{S:DS}(ts Nc:List Str) (fr:List Nat) {di:DI}{g:DG}{f:DT}{e:DE}(hnd:X.N.Nodup) (hix:X.N[i]?=some x) (hx:Loc X.env.scope x) (hi:JI X XE tg iter di)
  (hg:∀ z,JG (Zz X own (ts++Nc) z) tg g) (hf:∀ z,JIf (Zz X own (ts++Nc) z) XN ifs f) (he:∀ z,JE (Zz X own (ts++Nc) z) XN elt e) (hsw:swapsWith (.ListComp elt [⟨tg,iter,ifs,0⟩] own pos) (some (.Name x px)) spos.line X.env=pure true)
  (hc:X.calm=true) (c:Sv own X.env.scope Nc=true) (hN:fr.map (X.N[·]?)=Nc.map some)
  (hs:∀ x,foldedSetIterable iter X.env x=pure x) (hfn:X.fn x=true∨X.env.scope.names.lookup x=some .local)
  (hS:∀ te,zI X.K XE te (Ib ts.length fr di g f e)→Fe X.K XE (Gs te (Jy i)) S) :
  JS X XE (.Assign [.Name x px] (.ListComp elt [⟨tg,iter,ifs,0⟩] own pos) spos) S:=by
 obtain ⟨wi,p0,d0⟩:=hi.ex
 obtain ⟨t,p1,d1⟩:=qW (Xf:=fun z=>Zz X own (ts++Nc) z) (K:=X.K) (fun _=>rfl) hg
 obtain ⟨tf,p2,d2⟩:=qV (Xf:=fun z=>Zz X own (ts++Nc) z) (K:=X.K) (fun _=>rfl) hf
 obtain ⟨te,p3,d3⟩:=qU (Xf:=fun z=>Zz X own (ts++Nc) z) (K:=X.K) (fun _=>rfl) he
 exact ⟨_,tN ts Nc fr hnd hix hx p0 p1 p2 p3 hsw hc c hN hs hfn,hS _ (Ey _ fr d0 d1 d2 d3)⟩
theorem Fh {elt tg iter:Expr}{ifs:List Expr}{own:Scope}{pos:Pos}{i:Nat}{x:Str}{px spos:Pos}(ts Nc:List Str) (fr:List Nat) {di:DI}{g:DG}{f:DT}{e:DE}(hnd:X.N.Nodup) (hix:X.N[i]?=some x) (hx:Loc X.env.scope x) (hi:JI X XE tg iter di)
  (hg:∀ z,JG (Zz X own (ts++Nc) z) tg g) (hf:∀ z,JIf (Zz X own (ts++Nc) z) XN ifs f) (he:∀ z,JE (Zz X own (ts++Nc) z) XN elt e) (hsw:autoParam (swapsWith (.ListComp elt [⟨tg,iter,ifs,0⟩] own pos) (some (.Name x px)) spos.line X.env=pure true) auR)
  (hc:autoParam (X.calm=true) auR) (c:autoParam (Sv own X.env.scope Nc=true) auR) (hN:autoParam (fr.map (X.N[·]?)=Nc.map some) auR)
  (hs:∀ x,foldedSetIterable iter X.env x=pure x:=by intro _;rfl) (hfn:X.fn x=true∨X.env.scope.names.lookup x=some .local:=by first | exact .inl rfl | exact .inr rfl | assumption) :
  JS X XE (.Assign [.Name x px] (.ListComp elt [⟨tg,iter,ifs,0⟩] own pos) spos) (wo (dFz (Ib ts.length fr di g f e)) (XO i)) :=
 Ez ts Nc fr hnd hix hx hi hg hf he hsw hc c hN hs hfn fun te d=>Ff (wy d) (NK i)
theorem wG (pk:List Nat) {elt tg iter:Expr}{ifs:List Expr}{own:Scope}{pos:Pos}{i:Nat}{x:Str}{px spos:Pos}(ts Nc:List Str) (fr:List Nat) {di:DI}{g:DG}{f:DT}{e:DE}(hnd:X.N.Nodup) (hix:X.N[i]?=some x) (hx:Loc X.env.scope x) (hi:JI X XE tg iter di)
  (hg:∀ z,JG (Zz X own (ts++Nc) z) tg g) (hf:∀ z,JIf (Zz X own (ts++Nc) z) XN ifs f) (he:∀ z,JE (Zz X own (ts++Nc) z) XN elt e) (hsw:autoParam (swapsWith (.ListComp elt [⟨tg,iter,ifs,0⟩] own pos) (some (.Name x px)) spos.line X.env=pure true) auR)
  (hc:autoParam (X.calm=true) auR) (c:autoParam (Sv own X.env.scope Nc=true) auR) (hN:autoParam (fr.map (X.N[·]?)=Nc.map some) auR)
  (hs:∀ x,foldedSetIterable iter X.env x=pure x:=by intro _;rfl) (hfn:X.fn x=true∨X.env.scope.names.lookup x=some .local:=by first | exact .inl rfl | exact .inr rfl | assumption) :
  JS X XE (.Assign [.Name x px] (.ListComp elt [⟨tg,iter,ifs,0⟩] own pos) spos) (Cy pk i (Ib ts.length fr di g f e)) :=
 Ez ts Nc fr hnd hix hx hi hg hf he hsw hc c hN hs hfn fun te d=>zK pk i d
end
section
variable {X:Cx}{XE:St→XK}
noncomputable def dPut (pk:List Nat) (i:Nat) (de:DE) (w:List D→D→(List D→Prop)→Prop):DS:=fun ds e=>∃ xs,ds[i]?=some (.own xs)∧de (peekAt pk ds) (fun d=>(pk=[]∨d.imm=true)∧w xs d fun ys=>e.nx (ds.set i (.own ys))) (e.xc ds)
theorem Aj {K:aj}{te:TE}{de:DE}{w:List D→D→(List D→Prop)→Prop}{ts:TS}{R:Ends→St→Addr→VK}(pk:List Nat) (i:Nat) (d:Den K XE te de)
  (hr:∀ {σ:St}{T:Ends}{l:Addr}{us:List V}{H0 H2:Hp}{xs:List D}{a:D}{y:V}{q:List D→Prop},H2 l=some (.lst us)→Zv H0 H2→Rps K H0 xs us→Rp K H0 a y→w xs a q→(∀ ys vs,Rps K H0 ys vs→q ys→T.nx σ (upd H2 l (.lst vs)))→R T σ l y H2)
  (hw:∀ {σ:St}{H:Hp}{T:Ends}{l:Addr}{us:List V},σ[i]?=some (some (.ref l))→H l=some (.lst us)→te σ H (R T σ l)→ts T σ H):Fe K XE ts (dPut pk i de w):=by
 intro B0 B H0 H σ ds e T c h o
 obtain ⟨xs,hi,h⟩:=h
 obtain ⟨l,us,e1,h1,h2,h3⟩:=c.slot i _ hi
 refine hw (Wb e1) h2 ?_
 by_cases hpk:pk=[]
 ·subst hpk
  refine d c h (fun v a H1 H2 e' r h=>?_) (o.kx c)
  refine hr (e'.s _ _ h2) e'.sub (h3.same e'.s0) r h.2 fun ys vs rv hq=>?_
  obtain ⟨a',us',f1,f2,f3,f4⟩:=c.push (ys:=ys) hi
  rw [e1] at f1
  cases f1
  exact o.nx _ _ _ _ (f4 H1 H2 vs e' rv) hq
 ·obtain ⟨H1,c1,s1,l1,n1⟩:=c.peekAt pk
  refine d c1 h (fun v a H2 H3 e' r h=>?_) (o.kx c)
  obtain ⟨H4,e4,l4,_⟩:=e'.GQ s1 c.sub l1 n1
  have im:a.imm=true:=h.1.resolve_left hpk
  refine hr (e4.s _ _ h2) e4.sub (h3.same e4.s0) (Rp.less l4 a im r) h.2 fun ys vs rv hq=>?_
  obtain ⟨a',us',f1,f2,f3,f4⟩:=c.push (ys:=ys) hi
  rw [e1] at f1
  cases f1
  exact o.nx _ _ _ _ (f4 H4 H3 vs e4 rv) hq
noncomputable def wApp:List D→D→(List D→Prop)→Prop:=fun xs d q=>xs.length < aA∧q (xs++[d])
noncomputable def wExt:List D→D→(List D→Prop)→Prop:=fun xs d q=>match d with
 | .lst ys=>xs.length + ys.length≤aA∧q (xs++ys)
 | _=>False
theorem Vj (pk:List Nat) (i:Nat) {x:Str}{p apos cpos pos:Pos}{e:Expr}{de:DE}(he:JE X XE e de) (hN:autoParam (X.N[i]?=some x) auR) (hv:Vis X.env.scope x:=by first | exact Or.inl rfl | exact Or.inr (Or.inl rfl) | exact Or.inr (Or.inr rfl))
  (hst:autoParam (noStar e=true) auR) (hbase:autoParam (attributeBase (.Name x p) "append" X.env (eval (.Name x p) X.env)=eval (.Name x p) X.env) auR)
  (hfew:autoParam (((backTo cpos (starEach [e] X.env)).all (fun x => !x.1) && (backToKw cpos (keywordEach [] X.env)).all (fun x=>x.1.isSome)
   && decide ([e].length + ([]:List Keyword).length + (if ([]:List Keyword).isEmpty then 0 else 1) < 30))=true) auR)
  (hline:autoParam ((apos.endLine == cpos.line)=true) auR) (hs:autoParam (starEach [e] X.env=(false,eval e X.env)::starEach [] X.env) auR) (hplain:autoParam ((backTo cpos (starEach [] X.env)).any (·.1)=false) auR)
  (hsw:autoParam (swapsWith (.Call (.Attribute (.Name x p) "append" apos) [e] [] cpos) none pos.line X.env=pure false) auR) (hd:autoParam ((x == ("__debug__" : Str))=false) auD) (hcd:autoParam ((x == ("__classdict__" : Str))=false) auD) :
  JS X XE (.Expr (.Call (.Attribute (.Name x p) "append" apos) [e] [] cpos) pos) (dPut pk i de wApp):=by
 obtain ⟨te,p1,d1⟩:=he.ex
 refine ⟨_,Nt (BH PySem.F.plainAttrs_list PySem.F.slot_list_append PySem.F.type_list_append JQ (pv i hN hv hd hcd) (Ei p1 PX hst) hbase hfew hline hs hplain) hsw,Aj (R:=fun T σ l y H2=>GH (.ref l) [y] H2 fun _ H3=>T.nx σ H3) pk i d1 ?_ ?_⟩
 ·intro σ T l us H0 H2 xs a y q h1 s r ra hq k
  exact ⟨l,us,y,rfl,rfl,h1,by rw [r.length];exact hq.1,k _ _ (r.snoc ra) hq.2⟩
 ·intro σ H T l us hl hH h
  exact ⟨.ref l,hl,.inl ⟨rfl,us,SqL.of hH⟩,h⟩
theorem Cz (pk:List Nat) (i:Nat) {x:Str}{p apos cpos pos:Pos}{e:Expr}{de:DE}(he:JE X XE e de) (hN:autoParam (X.N[i]?=some x) auR) (hv:Vis X.env.scope x:=by first | exact Or.inl rfl | exact Or.inr (Or.inl rfl) | exact Or.inr (Or.inr rfl))
  (hst:autoParam (noStar e=true) auR) (hbase:autoParam (attributeBase (.Name x p) "extend" X.env (eval (.Name x p) X.env)=eval (.Name x p) X.env) auR)
  (hfew:autoParam (((backTo cpos (starEach [e] X.env)).all (fun x => !x.1) && (backToKw cpos (keywordEach [] X.env)).all (fun x=>x.1.isSome)
   && decide ([e].length + ([]:List Keyword).length + (if ([]:List Keyword).isEmpty then 0 else 1) < 30))=true) auR)
  (hline:autoParam ((apos.endLine == cpos.line)=true) auR) (hs:autoParam (starEach [e] X.env=(false,eval e X.env)::starEach [] X.env) auR) (hplain:autoParam ((backTo cpos (starEach [] X.env)).any (·.1)=false) auR)
  (hsw:autoParam (swapsWith (.Call (.Attribute (.Name x p) "extend" apos) [e] [] cpos) none pos.line X.env=pure false) auR) (hd:autoParam ((x == ("__debug__" : Str))=false) auD) (hcd:autoParam ((x == ("__classdict__" : Str))=false) auD) :
  JS X XE (.Expr (.Call (.Attribute (.Name x p) "extend" apos) [e] [] cpos) pos) (dPut pk i de wExt):=by
 obtain ⟨te,p1,d1⟩:=he.ex
 refine ⟨_,Nt (BH PySem.F.plainAttrs_list PySem.F.slot_list_extend PySem.F.type_list_extend Cr (pv i hN hv hd hcd) (Ei p1 PX hst) hbase hfew hline hs hplain) hsw,Aj (R:=fun T σ l y H2=>GI (.ref l) [y] H2 fun _ H3=>T.nx σ H3) pk i d1 ?_ ?_⟩
 ·intro σ T l us H0 H2 xs a y q h1 s r ra hq k
  unfold wExt at hq
  split at hq
  ·obtain ⟨b,vs,rfl,h2,h3⟩:=ra
   exact ⟨l,b,us,vs,rfl,rfl,h1,s _ _ h2,by rw [r.length,h3.length];exact hq.1,k _ _ (r.app h3) hq.2⟩
  ·exact hq.elim
 ·intro σ H T l us hl hH h
  exact ⟨.ref l,hl,.inl ⟨rfl,us,SqL.of hH⟩,h⟩
noncomputable def qX (pk:List Nat) (i:Nat) (dk de:DE):DS:=fun ds e=>∃ xs,ds[i]?=some (.own xs)∧de (peekAt pk ds) (fun d=>(pk=[]∨d.imm=true)∧dk ds (fun k=>∃ n j,k = .int n∧ixN xs.length n=some j∧e.nx (ds.set i (.own (xs.set j d)))) (e.xc ds)) (e.xc ds)
theorem Rps.set {K:aj}{H:Hp}{d:D}{v:V}(r:Rp K H d v):∀ {xs:List D}{vs:List V}(j:Nat),Rps K H xs vs→Rps K H (xs.set j d) (vs.set j v)
 | [],_,_,h=>by rw [show _=[] from h];rfl
 | x::xs,_,0,⟨u,us,e,_,h⟩=>by subst e;exact ⟨v,us,rfl,r,h⟩
 | x::xs,_,j + 1,⟨u,us,e,h1,h⟩=>by subst e;exact ⟨u,_,rfl,h1,Rps.set r j h⟩
theorem tY (pk:List Nat) (i:Nat) {x:Str}{p ipos pos:Pos}{k e:Expr}{dk de:DE}(hk:JE X XE k dk) (he:JE X XE e de) (hN:autoParam (X.N[i]?=some x) auR) (hv:Vis X.env.scope x:=by first | exact Or.inl rfl | exact Or.inr (Or.inl rfl) | exact Or.inr (Or.inr rfl))
  (ha:∀ v,assign (.Subscript (.Name x p) k ipos) X.env v=(do
   let ov ← holding [v] (eval (.Name x p) X.env)
   let iv ← holding [v,ov] (eval k X.env)
   standAt ipos
   holding [v,ov,iv] (setItem ov iv v)
   release [v,ov,iv] []):=by intro _;rfl)
  (hs:autoParam (swapsWithSole [.Subscript (.Name x p) k ipos] e pos.line X.env=pure false) auR) (hw:autoParam (swappedStores [.Subscript (.Name x p) k ipos] e X.env=pure none) auR)
  (h1:autoParam ((assignEach [.Subscript (.Name x p) k ipos] X.env).map (·.2)=[assign (.Subscript (.Name x p) k ipos) X.env]) auR) (hd:autoParam ((x == ("__debug__" : Str))=false) auD) (hcd:autoParam ((x == ("__classdict__" : Str))=false) auD) :
  JS X XE (.Assign [.Subscript (.Name x p) k ipos] e pos) (qX pk i dk de):=by
 obtain ⟨tk,p2,d2⟩:=hk.ex
 obtain ⟨te,p1,d1⟩:=he.ex
 refine ⟨_,Gu p1 (yM (pv i hN hv hd hcd) p2 set_list ha) hs hw h1,fun {B0 B H0 H σ ds e T} c h o=>?_⟩
 obtain ⟨xs,hi,h⟩:=h
 obtain ⟨l,us,e1,f1,f2,f3⟩:=c.slot i _ hi
 have fin:∀ {H1 H2:Hp}{a:D}{v:V},Ext H0 H H1 H2→Rp X.K H1 a v→dk ds (fun k=>∃ n j,k = .int n∧ixN xs.length n=some j∧e.nx (ds.set i (.own (xs.set j a)))) (e.xc ds)→gSub (tVar i) tk xl v σ H2 T.nx:=by
  intro H1 H2 a v e' r h
  refine ⟨.ref l,Wb e1,d2 (c.go e') h (fun kv kd H3 H4 e2 rk ⟨n,j,z,ij,hq⟩=>?_) ((o.kx c).go e'.s)⟩
  subst z
  have e3:=e'.trans e2
  refine ⟨l,us,n,j,rfl,rk,e3.s _ _ f2,by rw [f3.length];exact ij,?_⟩
  obtain ⟨a',us',g1,g2,g3,g4⟩:=c.push (ys:=xs.set j a) hi
  rw [e1] at g1
  cases g1
  exact o.nx _ _ _ _ (g4 H3 H4 _ e3 (Rps.set (r.same e2.s0) j (f3.same e3.s0))) hq
 by_cases hpk:pk=[]
 ·subst hpk
  exact d1 c h (fun v a H1 H2 e' r h=>fin e' r h.2) (o.kx c)
 ·obtain ⟨H1,c1,s1,l1,n1⟩:=c.peekAt pk
  refine d1 c1 h (fun v a H2 H3 e' r h=>?_) (o.kx c)
  obtain ⟨H4,e4,l4,_⟩:=e'.GQ s1 c.sub l1 n1
  exact fin e4 (Rp.less l4 a (h.1.resolve_left hpk) r) h.2
noncomputable def dPop (i:Nat) (g:DG):DS:=fun ds e=>∃ xs d,ds[i]?=some (.own (xs++[d]))∧g d (ds.set i (.own xs)) e.nx
theorem EA {K:aj}{H:Hp}:∀ {xs:List D}{d:D}{vs:List V},Rps K H (xs++[d]) vs→∃ us v,vs=us++[v]∧Rps K H xs us∧Rp K H d v
 | [],_,_,h=>by
  obtain ⟨v,rfl,r⟩:=Uy h
  exact ⟨[],v,rfl,rfl,r⟩
 | x::xs,d,_,⟨u,us,e,h1,h⟩=>by
  subst e
  obtain ⟨ws,v,rfl,r1,r2⟩:=EA h
  exact ⟨u::ws,v,rfl,⟨u,ws,rfl,h1,r1⟩,r2⟩
theorem tZ {K:aj}{t:TG}{g:DG}(i:Nat) (dg:Cv K t g):Fe K XE (Gs (tBM0 K "list" rPop (tVar i)) t) (dPop i g):=fun {B0 B H0 H σ ds e T} c h o=>by
 obtain ⟨xs,d,hi,h⟩:=h
 obtain ⟨l,vs,e1,f1,f2,f3⟩:=c.slot i _ hi
 obtain ⟨us,v,rfl,r1,r2⟩:=EA f3
 refine ⟨.ref l,Wb e1,.inl ⟨rfl,_,SqL.of f2⟩,l,us++[v],v,rfl,rfl,f2,by simp,?_⟩
 rw [List.dropLast_concat]
 obtain ⟨a',us',g1,g2,g3,g4⟩:=c.push (ys:=xs) hi
 rw [e1] at g1
 cases g1
 exact dg (g4 H0 H us (.refl c.sub) r1) r2 h fun σ' ds' c' _ h'=>o.nx _ _ _ _ c' h'
theorem wH (i:Nat) {x:Str}{tg:Expr}{p apos cpos pos:Pos}{g:DG}(hg:JG X tg g) (hN:autoParam (X.N[i]?=some x) auR) (hv:Vis X.env.scope x:=by first | exact Or.inl rfl | exact Or.inr (Or.inl rfl) | exact Or.inr (Or.inr rfl))
  (hbase:autoParam (attributeBase (.Name x p) "pop" X.env (eval (.Name x p) X.env)=eval (.Name x p) X.env) auR) (hline:autoParam ((apos.endLine == cpos.line)=true) auR)
  (hs:autoParam (swapsWithSole [tg] (.Call (.Attribute (.Name x p) "pop" apos) [] [] cpos) pos.line X.env=pure false) auR) (hw:autoParam (swappedStores [tg] (.Call (.Attribute (.Name x p) "pop" apos) [] [] cpos) X.env=pure none) auR)
  (h1:autoParam ((assignEach [tg] X.env).map (·.2)=[assign tg X.env]) auR) (hd:autoParam ((x == ("__debug__" : Str))=false) auD) (hcd:autoParam ((x == ("__classdict__" : Str))=false) auD) :
  JS X XE (.Assign [tg] (.Call (.Attribute (.Name x p) "pop" apos) [] [] cpos) pos) (dPop i g):=by
 obtain ⟨t,p2,d2⟩:=hg.ex
 exact ⟨_,Gu (oJ PySem.F.plainAttrs_list PySem.F.slot_list_pop PySem.F.type_list_pop tS (pv i hN hv hd hcd) hbase hline) p2 hs hw h1,tZ i d2⟩
theorem Rfs.lookup {K:aj}{H:Hp}{f:Str}{d:D}:∀ {gs:List (Str × D)}{fs:List (Str × V)},Rfs K H gs fs→gs.lookup f=some d→∃ v,fs.lookup f=some v∧Rp K H d v
 | [],_,_,e=>by cases e
 | (k,d')::gs,_,⟨v,us,e,r,h⟩,q=>by
  subst e
  rw [lookup_cons] at q ⊢
  cases z:f == k with
  | true=>rw [z] at q;cases q;exact ⟨v,rfl,r⟩
  | false=>rw [z] at q;exact Rfs.lookup h q
theorem Rfs.Ak {K:aj}{H:Hp}{f:Str}:∀ {gs:List (Str × D)}{fs:List (Str × V)},Rfs K H gs fs→gs.lookup f=none→fs.lookup f=none
 | [],_,h,_=>by rw [show _=[] from h];rfl
 | (k,d')::gs,_,⟨v,us,e,r,h⟩,q=>by
  subst e
  rw [lookup_cons] at q ⊢
  cases z:f == k with
  | true=>rw [z] at q;cases q
  | false=>rw [z] at q;exact Rfs.Ak h q
noncomputable def dFld (K:aj) (f:Str) (de:DE):DE:=fun ds q x=>de ds (fun d=>∃ C gs v,d = .obj C gs∧Cls K C∧YN K C f∧gs.lookup f=some v∧q v) x
theorem ZL {K:aj}{e:Expr}{f:Str}{pos:Pos}{de:DE}(hK:X.K=K) (h:JE X XE e de) (hb:autoParam (attributeBase e f X.env (eval e X.env)=eval e X.env) auR):JE X XE (.Attribute e f pos) (dFld K f de):=by
 subst hK
 obtain ⟨te,p,d⟩:=h.ex
 refine ⟨_,oz p hb,fun c h k kx=>d c h (fun v a H1 H2 e r ⟨C,gs,w,z,h1,h2,h3,h4⟩=>?_) kx⟩
 subst z
 obtain ⟨a,dx,fs,rfl,h5,h6⟩:=r
 obtain ⟨u,h7,h8⟩:=h6.lookup h3
 exact ⟨a,C,dx,fs,u,rfl,e.sub _ _ h5,h1,h2,h7,k _ w _ _ e h8 h4⟩
noncomputable def putD (f:Str) (v:D):List (Str × D)→List (Str × D)
 | []=>[(f,v)]
 | (g,w)::r=>if g=f then (g,v)::r else (g,w)::putD f v r
end
abbrev DSp:=List D→(D→Prop)→(Addr→Prop)→Prop
noncomputable def spD (K:aj) (g:DSp):Sp:=fun vs H Q E=>∃ H0 xs q x,Zv H0 H∧Rps K H0 xs vs∧g xs q x∧KE K H0 H q Q∧∀ C H',Zv H H'→x C→E (.ref C) none H'
theorem QK {X:Cx}:Yy X XN:=xP
section
variable {X:Cx}{XE:St→XK}
noncomputable def dCall (g:DSp) (da:DA):DE:=fun ds q x=>da ds (fun xs=>g xs q x) x
theorem sd {k:Nat}{f:Addr}{fd:FuncData}{ps:List Str}{g:DSp}{x:Str}{p pos:Pos}{e:Expr}{es:List Expr}{da:DA}(F:Zy X.prog X.w X.K X.mg X.base (CXE X.prog X.w) k f fd ps (spD X.K g)) (hr:YF k X.A) (hg:Gl X x) (hm:X.mg x=some (.ref f)) (hk:keepIn X.K (.ref f)=true) (hb:Binds X.K fd ps []) (hx:Yy X XE)
  (ha:JAs X XE (e::es) da) (hst:autoParam (ZS (e::es)=true) auR) (hdb:autoParam ((x == ("__debug__" : Str))=false) auD):JE X XE (.Call (.Name x p) (e::es) [] pos) (dCall g da):=by
 obtain ⟨ta,p1,d1⟩:=ha.ex
 refine ⟨_,(NA F hr hg hm hk hb hx ⟨p1⟩ hst hdb).get,fun c h k kx=>d1 c h (fun vs xs H1 H2 e r h=>?_) kx⟩
 exact ⟨H1,xs,_,_,e.sub,r,h,k.go e,(kx.go e.s)⟩
structure MOkD (P:Program) (w:World) (K:aj) (mg:Str→Option Value) (base:Heap) (k:Nat) (C:Addr) (m:Str) (g:DSp):Prop where
 cl:Cls K C
 ok:∃ f fd ps,Meth K C m f∧Zy P w K mg base (CXE P w) k f fd ps (spD K g)∧Binds K fd ps []
noncomputable def wI (P:Program) (w:World) (K:aj) (mg:Str→Option Value) (base:Heap) (k:Nat) (m:Str) (dO:DE) (da:DA):DE:=fun ds q x=>dO ds (fun o=>∃ C gs g,o = .obj C gs∧MOkD P w K mg base k C m g∧gs.lookup m=none∧da ds (fun xs=>g (o::xs) q x) x) x
noncomputable def wJ (X:Cx) (XE:St→XK) (k:Nat) (m:Str) (ta:TE) (t:TA):TE:=fun σ H Q=>ta σ H fun x H1=>∃ a C dx fs sp,x = .ref a∧H1 a=some (.ins C dx fs)∧(Cls X.K C∧∃ f fd ps,Meth X.K C m f∧Zy X.prog X.w X.K X.mg X.base (CXE X.prog X.w) k f fd ps sp∧Binds X.K fd ps [])∧fs.lookup m=none ∧
 t σ H1 fun vs H2=>sp (x::vs) H2 Q (XE σ)
theorem wK {k:Nat}{m:Str}{pos apos:Pos}{e o:Expr}{es:List Expr}{ta:TE}{t:TA}{pl:Sem Bool}(hr:YF k X.A) (hx:Yy X XE) (he:PE X o ta) (ha:PA X (e::es) t)
  (hst:starEach (e::es) X.env=(false,eval e X.env)::starEach es X.env) (hpl:(backTo pos (starEach es X.env)).any (·.1)=false)
  (ht:eval (.Call (.Attribute o m apos) (e::es) [] pos) X.env=(do
   let ov ← eval o X.env
   standAt apos.atName
   let (f,first) ← holding [ov] (getMethod ov m pl)
   callWith pos f first (backTo pos (starEach (e::es) X.env)) (backToKw pos (keywordEach [] X.env)))) :
  PE X (.Call (.Attribute o m apos) (e::es) [] pos) (wJ X XE k m ta t):=by
 intro pins s σ H Q I h
 refine PySem.W.methodCall_KW (pl:=pl) (thn (he pins s σ H _ I h) fun u s1 ⟨x,H1,I1,rx,a,C,dx,fs,sp,ex,ea,mo,l,q⟩=>?_) ht
 obtain ⟨c,f,fd,ps,hm,F,hb⟩:=mo
 subst ex
 obtain rfl:u=Value.ref a:=rx
 refine DV I1 ea c hm l ?_
 refine callWith_K (first:=[.ref a]) (h₀:=X.base) I.ok.mod.kin hm.kp (thn (ha pos pins s1 σ H1 _ I1 q) fun us s2 ⟨vs,H2,I2,r,q2⟩=>⟨I2.kIn,?_⟩) hst hpl
 exact BO (us := .ref a::us) (vs := .ref a::vs) F hr hb hx I2 (.cons rfl r) q2
theorem wL {ta:TE}{dO:DE}{t:TA}{da:DA}{k:Nat}{m:Str}{P:Program}{w:World}{K:aj}{mg:Str→Option Value}{base:Heap}(e1:X.prog=P) (e2:X.w=w) (e3:X.K=K) (e4:X.mg=mg) (e5:X.base=base) (d1:Den X.K XE ta dO) (d2:DenA X.K XE t da):Den X.K XE (wJ X XE k m ta t) (wI P w K mg base k m dO da):=by
 subst e1 e2 e3 e4 e5
 intro B0 B H0 H σ ds q x Q c h kq kx
 refine d1 c h (fun v o H1 H2 e r ⟨C,gs,g,z,mo,l,h⟩=>?_) kx
 subst z
 obtain ⟨a,dx,fs,rfl,h1,h2⟩:=r
 obtain ⟨cl,f,fd,ps,hm,F,hb⟩:=mo
 refine ⟨a,C,dx,fs,_,rfl,e.sub _ _ h1,⟨cl,f,fd,ps,hm,F,hb⟩,h2.Ak l,d2 (c.go e) h (fun vs xs H3 H4 e' r' h'=>?_) (kx.go e.s)⟩
 exact ⟨H3,.obj C gs::xs,_,_,(e.trans e').sub,⟨_,vs,rfl,⟨a,dx,fs,rfl,e'.s0 _ _ h1,h2.same e'.s0⟩,r'⟩,h',kq.go (e.trans e'),kx.go (e.trans e').s⟩
theorem se {P:Program}{w:World}{K:aj}{mg:Str→Option Value}{base:Heap}{k:Nat}{m:Str}{pos apos:Pos}{e o:Expr}{es:List Expr}{dO:DE}{da:DA}{pl:Sem Bool}(hr:YF k X.A) (hx:Yy X XE) (ho:JE X XE o dO) (ha:JAs X XE (e::es) da)
  (e1:autoParam (X.prog=P) auR) (e2:autoParam (X.w=w) auR) (e3:autoParam (X.K=K) auR) (e4:autoParam (X.mg=mg) auR) (e5:autoParam (X.base=base) auR)
  (hst:autoParam (starEach (e::es) X.env=(false,eval e X.env)::starEach es X.env) auR) (hpl:autoParam ((backTo pos (starEach es X.env)).any (·.1)=false) auR)
  (ht:autoParam (eval (.Call (.Attribute o m apos) (e::es) [] pos) X.env=(do
   let ov ← eval o X.env
   standAt apos.atName
   let (f,first) ← holding [ov] (getMethod ov m pl)
   callWith pos f first (backTo pos (starEach (e::es) X.env)) (backToKw pos (keywordEach [] X.env)))) auR):JE X XE (.Call (.Attribute o m apos) (e::es) [] pos) (wI P w K mg base k m dO da):=by
 obtain ⟨to,p1,d1⟩:=ho.ex
 obtain ⟨ta,p2,d2⟩:=ha.ex
 exact ⟨_,wK (pl:=pl) hr hx p1 p2 hst hpl ht,wL e1 e2 e3 e4 e5 d1 d2⟩
theorem EB {C:Addr}{x:Str}{p pos:Pos}(M:MkP X.K C) (hg:Gl X x) (hm:X.mg x=some (.ref C)) (hdb:autoParam ((x == ("__debug__" : Str))=false) auD):JE X XE (.Call (.Name x p) [] [] pos) (dC (.obj C [])) :=
 ⟨_,xF M hg hm hdb,fun {B0 B H0 H σ ds q x Q} c h k kx=>fun a dx ha hd ne=>by
  have s0:=c.sub
  have e1:Ext H0 H H0 (upd H dx (.own a)) := .grow s0 (Zv.upd hd)
  have ha2:upd H dx (.own a) a=none:=by rw [Zk ne.symm];exact ha
  exact k _ (.obj C []) _ _ (e1.trans (.put e1.sub ha2)) ⟨a,dx,[],rfl,Zu,rfl⟩ h⟩
abbrev EC:=List D→(List (Str × D)→Prop)→(Addr→Prop)→Prop
noncomputable def wM (a:Addr) (H H':Hp):Prop:=∀ b o,b≠a→H b=some o→H' b=some o
noncomputable def spI (K:aj) (C:Addr) (g:EC):Sp:=fun vs H Q E=>∃ a dx us H0 xs q x,vs = .ref a::us∧H a=some (.ins C dx [])∧H0 a=none∧Zv H0 H∧Rps K H0 xs us∧g xs q x ∧
 (∀ gs fs H0' H',wM a H H'→Zv H0 H0'→Zv H0' H'→(∀ b,H0 b=none→H b≠none→H0' b=none)→H' a=some (.ins C dx fs)→Rfs K H0' gs fs→q gs→Q .non H')∧∀ C' H',wM a H H'→x C'→E (.ref C') none H'
noncomputable def qY (C:Addr) (g:EC) (dvs:List D) (da:DA):DE:=fun ds q x=>da ds (fun xs=>g (xs++dvs) (fun gs=>q (.obj C gs)) x) x
theorem Fi {k:Nat}{f C:Addr}{fd:FuncData}{ps:List Str}{g:EC}{dvs:List V}{dds:List D}{ds:List Value}{x:Str}{p pos:Pos}{e:Expr}{es:List Expr}{da:DA}(M:Mk X.K C f) (F:Zy X.prog X.w X.K X.mg X.base (CXE X.prog X.w) k f fd ps (spI X.K C g)) (hr:YF (k + 1) X.A) (hg:Gl X x) (hm:X.mg x=some (.ref C)) (hb:Binds X.K fd ps ds) (hd:Vals dvs ds) (hdd:∀ H,Rps X.K H dds dvs) (hx:Yy X XE)
  (ha:JAs X XE (e::es) da) (hst:autoParam (ZS (e::es)=true) auR) (hdb:autoParam ((x == ("__debug__" : Str))=false) auD):JE X XE (.Call (.Name x p) (e::es) [] pos) (qY C g dds da):=by
 obtain ⟨ta,p1,d1⟩:=ha.ex
 refine ⟨_,(tQ M F hr hg hm hb hd hx ⟨p1⟩ hst hdb).get,fun {B0 B H0 H σ ds q x Q} c h kq kx=>d1 c h (fun vs xs H1 H2 ee r h=>fun a dx hna hnd ne=>?_) kx⟩
 have s2:Zv H1 H2:=ee.sub
 have na2:upd H2 dx (.own a) a=none:=by rw [Zk ne.symm];exact hna
 have s3:Zv H2 (upd (upd H2 dx (.own a)) a (.ins C dx [])):=(Zv.upd hnd).trans (Zv.upd na2)
 have h1a:H1 a=none:=s2.free hna
 have h1d:H1 dx=none:=s2.free hnd
 refine ⟨a,dx,vs++dvs,H1,xs++dds,fun gs=>q (.obj C gs),x,rfl,Zu,h1a,s2.trans s3,r.app (hdd H1),h,fun gs fs H0' H' so s0 sub nw hfa rf hq=>⟨rfl,?_⟩,fun C' H' so hx'=>?_⟩
 ·have up:Zv H2 H':=fun b o z=>so b o (fun y=>by rw [y,hna] at z;cases z) (s3 _ _ z)
  have n0a:H0' a=none:=nw a h1a (by rw [Zu];simp)
  have ext:Ext H1 H2 (upd H0' a (.ins C dx fs)) H':=by
   refine ⟨up,s0.trans (Zv.upd n0a),fun b o z=>?_,fun b z y=>?_⟩
   ·by_cases hb:b=a
    ·subst hb;rw [Zu] at z;rw [hfa];exact z
    ·rw [Zk hb] at z;exact sub _ _ z
   ·rw [Zk (fun w=>y (by rw [w];exact hna))]
    refine nw b z fun w=>y ?_
    exact s3.free w
  exact kq _ (.obj C gs) _ _ (ee.trans ext) ⟨a,dx,fs,rfl,Zu,rf.same (Zv.upd n0a)⟩ hq
 ·refine kx C' H' (ee.s.trans fun b o z=>so b o (fun y=>by rw [y,hna] at z;cases z) (s3 _ _ z)) hx'
theorem Rfs.put {K:aj}{H:Hp}{f:Str}{d:D}{v:V}(r:Rp K H d v):∀ {gs:List (Str × D)}{fs:List (Str × V)},Rfs K H gs fs→Rfs K H (putD f d gs) (Su f v fs)
 | [],_,h=>by rw [show _=[] from h];exact ⟨v,[],rfl,r,rfl⟩
 | (k,d')::gs,_,⟨u,us,e,r',h⟩=>by
  subst e
  unfold putD Su
  split
  ·exact ⟨v,us,rfl,r,h⟩
  ·exact ⟨u,_,rfl,r',Rfs.put r h⟩
theorem Rfs.length {K:aj}{H:Hp}:∀ {gs:List (Str × D)}{fs:List (Str × V)},Rfs K H gs fs→fs.length=gs.length
 | [],_,h=>by rw [show _=[] from h];rfl
 | (k,d')::gs,_,⟨u,us,e,r',h⟩=>by subst e;rw [length_cons,length_cons,Rfs.length h]
noncomputable def qZ (K:aj) (pk:List Nat) (i:Nat) (f:Str) (de:DE):DS:=fun ds e=>∃ a dx C gs,ds[i]?=some (.ob a dx C gs)∧Cls K C∧YN K C f∧gs.length < 1000∧de (peekAt pk ds) (fun d=>e.nx ((peekAt pk ds).set i (.ob a dx C (putD f d gs)))) (e.xc ds)
theorem sf {pk:List Nat}{ds:DSt}{i:Nat}{a dx C:Addr}{gs:List (Str × D)}(h:ds[i]?=some (.ob a dx C gs)):(peekAt pk ds)[i]?=some (.ob a dx C gs):=by
 unfold peekAt
 induction pk generalizing ds with
 | nil=>exact h
 | cons j pk ih =>
  refine ih ?_
  rw [List.getElem?_modify,h]
  by_cases z:j=i
  ·simp [z,Slot.peek]
  ·simp [z]
theorem SE {K:aj}(pk:List Nat) (i:Nat) {x f:Str}{p apos pos:Pos}{e:Expr}{de:DE}(hK:X.K=K) (he:JE X XE e de) (hN:autoParam (X.N[i]?=some x) auR) (hv:Vis X.env.scope x:=by first | exact Or.inl rfl | exact Or.inr (Or.inl rfl) | exact Or.inr (Or.inr rfl))
  (hs:autoParam (swapsWith e (some (.Attribute (.Name x p) f apos)) pos.line X.env=pure false) auR) (hd:autoParam ((x == ("__debug__" : Str))=false) auD) (hcd:autoParam ((x == ("__classdict__" : Str))=false) auD):JS X XE (.Assign [.Attribute (.Name x p) f apos] e pos) (qZ K pk i f de):=by
 subst hK
 obtain ⟨te,p1,d1⟩:=he.ex
 refine ⟨_,oA (pv i hN hv hd hcd) p1 hs,fun {B0 B H0 H σ ds e T} c h o=>?_⟩
 obtain ⟨a,dx,C,gs,hi,h1,h2,h3,h⟩:=h
 obtain ⟨Hp,cp,_⟩:=c.peekAt pk
 have hip:=sf (pk:=pk) hi
 obtain ⟨fs,e1,f1,f2,f3⟩:=cp.slot i _ hip
 refine d1 cp h (fun v d H1 H2 ee r hq=>⟨.ref a,Wb e1,a,C,dx,fs,rfl,ee.s _ _ f2,h1,h2,by rw [f3.length];exact h3,?_⟩) (o.kx c)
 have c':=cp.go ee
 refine o.nx _ _ _ _ (c'.write hip e1 (fun b z=>z) (s' := .ob a dx C (putD f d gs)) ⟨_,e1,ee.new a f1 (by rw [f2];simp),Zu,(f3.same ee.s0).put r⟩) hq
end
section
variable {P:Program}{w:World}{K:aj}{mg:Str→Option Value}{base:Heap}{N:List Str}{qual:Str}{scope:Scope}{f C:Addr}{cdv:Value}{A:Around}{outer:List Env}{s:Shared}{H:Hp}{E:XK}
 {x:Str}{np cpos pos:Pos}{e₀:Expr}{rest:List Expr}{da:DA}
noncomputable def wN (C:Addr) (pk:List Nat) (da:DA):DS:=fun ds e=>da (peekAt pk ds) (fun xs=>xs.length≤aA∧e.xc ds C) (e.xc ds)
theorem YX (pk:List Nat) (c:Cj K C) (hm:mg x=some (.ref C)) (ha:JAs (Xe (CXE P w) P w K mg base N qual scope f cdv A outer s H E) (fun _=>E) (e₀::rest) da)
  (hg:autoParam (Gl (Xe (CXE P w) P w K mg base N qual scope f cdv A outer s H E) x) auR) (hst:autoParam (ZS (e₀::rest)=true) auR) (hdb:autoParam ((x == ("__debug__" : Str))=false) auD) :
  JS (Xe (CXE P w) P w K mg base N qual scope f cdv A outer s H E) (fun _=>E) (.Raise (some (.Call (.Name x np) (e₀::rest) [] cpos)) none pos) (wN C pk da):=by
 obtain ⟨ta,p1,d1⟩:=ha.ex
 refine ⟨_,(xQ c hm ⟨p1⟩ hg hst hdb).get,fun {B0 B H0 H σ ds e T} c h o=>?_⟩
 obtain ⟨H1,c1,_⟩:=c.peekAt pk
 exact d1 c1 h (fun vs xs H2 H3 ee r hb=>⟨by rw [r.length];exact hb.1,o.kx c C H3 ee.s hb.2⟩) (o.kx c)
end
section
variable {X:Cx}{XE:St→XK}
end
section
variable {P:Program}{w:World}{K:aj}{mg:Str→Option Value}{base:Heap}
noncomputable def Wq (N:List Str) (xs:List D):DSt:=xs.map .v++replicate (N.length - xs.length) .un
theorem Rps.at {K:aj}{H:Hp}:∀ {xs:List D}{vs:List V}{i:Nat}{d:D},Rps K H xs vs→xs[i]?=some d→∃ v,vs[i]?=some v∧Rp K H d v:=fun h e=>h.get e
theorem ME {H0 H:Hp}{N:List Str}{xs:List D}{vs:List V}(s:Zv H0 H) (r:Rps K H0 xs vs) (hl:xs.length≤N.length):Cfg K H0 H H0 H (start N vs) (Wq N xs):=by
 have no:∀ (i:Nat) t,(Wq N xs)[i]?=some t→t.isOwn=false:=fun i t e=>by
  unfold Wq at e
  by_cases h:i < xs.length
  ·rw [getElem?_append_left (by rw [length_map];exact h),getElem?_map,aB h] at e
   cases e;rfl
  ·rw [getElem?_append_right (by rw [length_map];omega),length_map,getElem?_replicate] at e
   split at e
   ·cases e;rfl
   ·cases e
 refine ⟨.refl s,fun i t e=>?_,fun i t a e q=>?_,fun i j t u a _ e _ q=>?_,?_⟩
 ·unfold Wq at e
  unfold start
  by_cases h:i < xs.length
  ·rw [getElem?_append_left (by rw [length_map];exact h),getElem?_map,aB h] at e
   cases e
   obtain ⟨v,e1,r1⟩:=r.get (aB h)
   rw [getElem?_append_left (by rw [length_map,r.length];exact h),getElem?_map,e1]
   exact ⟨v,rfl,r1⟩
  ·rw [getElem?_append_right (by rw [length_map];omega),length_map,getElem?_replicate] at e
   split at e
   ·cases e;trivial
   ·cases e
 ·have:=no i t e;rw [Slot.Xx q] at this;cases this
 ·have:=no i t e;rw [Slot.Xx q] at this;cases this
 ·unfold start Wq
  simp only [length_append,length_map,length_replicate,r.length]
theorem Fun.okJ {x qual:Str}{st:Stmt}{f:Addr}{fd:FuncData}{N ps:List Str}{k:Nat}{g:DSp}(F:Fun K x qual st f fd) (S:Zj N ps (Zf st)) (len:∀ xs q x,g xs q x→xs.length=ps.length)
  (hbody:∀ (cdv:Value) (A:Around) (outer:List Env) (s:Shared) (H:Hp) (E:XK),YF k (A.deeper (envOfC qual (Zf st) s.heap.objs.size f cdv)) →
   ∃ b,JSs (Xe (CXE P w) P w K mg base N qual (Zf st) f cdv A outer s H E) (fun _=>E) (ZR st) b∧∀ xs q x,g xs q x→b (Wq N xs) { nx:=fun _=>q .non,rt:=q,xc:=fun _=>x }):Zy P w K mg base (CXE P w) (k + 1) f fd ps (spD K g):=by
 have hpl:ps.length≤N.length:=by have:=congrArg length S.pre;rw [length_take] at this;omega
 refine F.okX S (fun vs H Q E ⟨H0,xs,q,x,s,r,h,_⟩=>by rw [r.length];exact len xs q x h) fun cdv A outer s H vs Q E hr hsp=>?_
 obtain ⟨H0,xs,q,x,s0,r,h,kq,kx⟩:=hsp
 obtain ⟨b,j,hb⟩:=hbody cdv A outer s H E hr
 obtain ⟨t,p,d⟩:=j.ex
 refine ⟨t,⟨p⟩,d (ME s0 r (by rw [len xs q x h];exact hpl)) (hb xs q x h) ⟨fun H0' H' σ ds c hq=>kq _ .non _ _ c.ext rfl hq,fun v d H0' H' e rv hq=>kq _ _ _ _ e rv hq,fun H0' H' σ ds C c hx=>kx C H' c.ext.s hx,fun _ _ _ _ _ h=>h.elim,fun _ _ _ _ _ h=>h.elim,fun _ _ _ _ _ _ _ _ h=>h.elim,fun _ _ _ _ _ _ _ _ _ _ _ _ _ h=>h.elim⟩⟩
theorem Al {qual:Str}{st:Stmt}{f C:Addr}{N ps:List Str}{g:EC}{cdv:Value}{A:Around}{outer:List Env}{s:Shared}{H:Hp}{vs:List V}{Q:VK}{E:XK}(hpl:ps.length≤N.length) (len:∀ xs q x,g xs q x→xs.length + 1=ps.length)
  (hbody:∃ b,JSs (Xe (CXE P w) P w K mg base N qual (Zf st) f cdv A outer s H E) (fun _=>E) (ZR st) b∧∀ a dx xs q x,g xs q x→b (.ob a dx C []::(xs.map .v++replicate (N.length - (xs.length + 1)) .un)) { nx:=fun ds=>∃ gs,ds[0]?=some (.ob a dx C gs)∧q gs,rt:=fun _=>False,xc:=fun _=>x })
  (hsp:spI K C g vs H Q E):∃ t,QSs (Xe (CXE P w) P w K mg base N qual (Zf st) f cdv A outer s H E) (ZR st) t∧t { nx:=fun _ H'=>Q .non H',rt:=Q } (start N vs) H:=by
 classical
 obtain ⟨a,dx,us,H0,xs,q,x,rfl,ha,h0,s0,r,h,kq,kx⟩:=hsp
 obtain ⟨b,j,hb⟩:=hbody
 obtain ⟨t,p,d⟩:=j.ex
 have hl:=len xs q x h
 -- the heap without the new object
 let B:Hp:=fun c=>if c=a then none else H c
 have sB:Zv H0 B:=fun c o z=>by
  show (if c=a then none else H c)=_
  rw [if_neg (fun y=>by rw [y,h0] at z;cases z)]
  exact s0 _ _ z
 have sBH:Zv B H:=fun c o z=>by
  have z:(if c=a then none else H c)=some o:=z
  split at z
  ·cases z
  ·exact z
 have hBa:B a=none:=if_pos rfl
 have len1:(start N (.ref a::us)).length=(Slot.ob a dx C []::(xs.map Slot.v++replicate (N.length - (xs.length + 1)) Slot.un)).length:=by
  unfold start
  simp only [length_append,length_map,length_replicate,length_cons,r.length]
  omega
 have at0:∀ i,(start N (.ref a::us))[i + 1]?=(us.map some++replicate (N.length - (us.length + 1)) none)[i]?:=fun i=>by
  unfold start
  rw [map_cons,cons_append,List.getElem?_cons_succ,length_cons]
 have own0:∀ (i:Nat) t,(Slot.ob a dx C []::(xs.map Slot.v++replicate (N.length - (xs.length + 1)) Slot.un))[i]?=some t→t.isOwn=true→i=0:=fun i t e w=>by
  cases i with
  | zero=>rfl
  | succ i =>
   rw [List.getElem?_cons_succ] at e
   by_cases hi:i < xs.length
   ·rw [getElem?_append_left (by rw [length_map];exact hi),getElem?_map,aB hi] at e
    cases e;cases w
   ·rw [getElem?_append_right (by rw [length_map];omega),length_map,getElem?_replicate] at e
    split at e
    ·cases e;cases w
    ·cases e
 have c:Cfg K H0 B H0 H (start N (.ref a::us)) (.ob a dx C []::(xs.map .v++replicate (N.length - (xs.length + 1)) .un)):=by
  refine ⟨⟨sBH,.refl _,s0,fun b z _=>z⟩,fun i t e=>?_,fun i t b e w=>?_,fun i j t u b ne e e' w w'=>ne ((own0 i t e (Slot.Xx w)).trans (own0 j u e' (Slot.Xx w')).symm),len1⟩
  ·cases i with
   | zero =>
    cases e
    exact ⟨[],rfl,h0,ha,rfl⟩
   | succ i =>
    rw [List.getElem?_cons_succ] at e
    rw [at0]
    by_cases hi:i < xs.length
    ·rw [getElem?_append_left (by rw [length_map];exact hi),getElem?_map,aB hi] at e
     cases e
     obtain ⟨v,e1,r1⟩:=r.get (aB hi)
     rw [getElem?_append_left (by rw [length_map,r.length];exact hi),getElem?_map,e1]
     exact ⟨v,rfl,r1⟩
    ·rw [getElem?_append_right (by rw [length_map];omega),length_map,getElem?_replicate] at e
     split at e
     ·cases e;trivial
     ·cases e
  ·have:=own0 i t e (Slot.Xx w)
   subst this
   cases e
   have z:some (V.ref a)=some (V.ref b):=w
   cases z
   exact hBa
 have so:∀ {H':Hp},Zv B H'→wM a H H':=fun sh b o ne z=>sh b o (by show (if b=a then none else H b)=_;rw [if_neg ne];exact z)
 refine ⟨t,⟨p⟩,d c (hb a dx xs q x h) ⟨fun H0' H' σ ds c' ⟨gs,e,hq⟩=>?_,fun _ _ _ _ _ _ h=>h.elim,fun H0' H' σ ds C' c' hx=>kx C' H' (so c'.ext.s) hx,fun _ _ _ _ _ h=>h.elim,fun _ _ _ _ _ h=>h.elim,fun _ _ _ _ _ _ _ _ h=>h.elim,fun _ _ _ _ _ _ _ _ _ _ _ _ _ h=>h.elim⟩⟩
 obtain ⟨fs,f0,f1,f2,f3⟩:=c'.slot 0 _ e
 refine kq gs fs H0' H' (so c'.ext.s) c'.ext.s0 c'.sub (fun b z y=>?_) f2 f3 hq
 by_cases hb:b=a
 ·rw [hb];exact f1
 ·refine c'.ext.new b z ?_
  show (if b=a then none else H b)≠none
  rw [if_neg hb]
  exact y
theorem Fun.okI {x qual:Str}{st:Stmt}{f C:Addr}{fd:FuncData}{N ps:List Str}{k:Nat}{g:EC}(F:Fun K x qual st f fd) (S:Zj N ps (Zf st)) (len:∀ xs q x,g xs q x→xs.length + 1=ps.length)
  (hbody:∀ (cdv:Value) (A:Around) (outer:List Env) (s:Shared) (H:Hp) (E:XK),YF k (A.deeper (envOfC qual (Zf st) s.heap.objs.size f cdv)) →
   ∃ b,JSs (Xe (CXE P w) P w K mg base N qual (Zf st) f cdv A outer s H E) (fun _=>E) (ZR st) b∧∀ a dx xs q x,g xs q x→b (.ob a dx C []::(xs.map .v++replicate (N.length - (xs.length + 1)) .un)) { nx:=fun ds=>∃ gs,ds[0]?=some (.ob a dx C gs)∧q gs,rt:=fun _=>False,xc:=fun _=>x }):Zy P w K mg base (CXE P w) (k + 1) f fd ps (spI K C g):=by
 have hpl:ps.length≤N.length:=by have:=congrArg length S.pre;rw [length_take] at this;omega
 refine F.okX S (fun vs H Q E ⟨a,dx,us,H0,xs,q,x,e,_,_,_,r,h,_⟩=>by rw [e,length_cons,r.length];exact len xs q x h) fun cdv A outer s H vs Q E hr hsp=>?_
 exact Al hpl len (hbody cdv A outer s H E hr) hsp
theorem El.okI {x qual:Str}{st:Stmt}{f C:Addr}{fd:FuncData}{ds:List Value}{N ps:List Str}{k:Nat}{g:EC}(F:El K x qual st f fd ds) (S:Zj N ps (Zf st)) (len:∀ xs q x,g xs q x→xs.length + 1=ps.length)
  (hbody:∀ (cdv:Value) (A:Around) (outer:List Env) (s:Shared) (H:Hp) (E:XK),YF k (A.deeper (envOfC qual (Zf st) s.heap.objs.size f cdv)) →
   ∃ b,JSs (Xe (CXE P w) P w K mg base N qual (Zf st) f cdv A outer s H E) (fun _=>E) (ZR st) b∧∀ a dx xs q x,g xs q x→b (.ob a dx C []::(xs.map .v++replicate (N.length - (xs.length + 1)) .un)) { nx:=fun ds=>∃ gs,ds[0]?=some (.ob a dx C gs)∧q gs,rt:=fun _=>False,xc:=fun _=>x }):Zy P w K mg base (CXE P w) (k + 1) f fd ps (spI K C g):=by
 have hpl:ps.length≤N.length:=by have:=congrArg length S.pre;rw [length_take] at this;omega
 refine F.okX S (fun vs H Q E ⟨a,dx,us,H0,xs,q,x,e,_,_,_,r,h,_⟩=>by rw [e,length_cons,r.length];exact len xs q x h) fun cdv A outer s H vs Q E hr hsp=>?_
 exact Al hpl len (hbody cdv A outer s H E hr) hsp
end
section
variable {X:Cx}{XE:St→XK}
noncomputable def dAug (i:Nat) (de:DE) (g:Int→Int→Int):DS:=fun ds e=>∃ a,ds[i]?=some (.v (.int a))∧de ds (fun d=>∃ b,d = .int b∧e.nx (ds.set i (.v (.int (g a b))))) (e.xc ds)
end
theorem Zy.noX {P:Program}{w:World}{K:aj}{mg:Str→Option Value}{base:Heap}{k:Nat}{f:Addr}{fd:FuncData}{ps:List Str}{sp sp':Sp}(F:Zy P w K mg base (CXE P w) k f fd ps sp)
  (h:∀ vs H Q E,sp' vs H Q E→sp vs H Q (fun _ _ _=>False)):Zy P w K mg base CX0 k f fd ps sp':=by
 refine ⟨fun vs H Q E q=>F.len vs H Q _ (h _ _ _ _ q),fun A outer s H args us vs Q E hr he hb hv hs=>?_⟩
 refine codeAny_mono (F.run A outer s H args us vs Q _ hr he hb hv (h _ _ _ _ hs)) fun r s' hq=>?_
 cases r with
 | ok fl=>cases fl <;> exact hq
 | error e =>
  obtain ⟨_,_,_,_,_,_,_,_,_,_,_,_,_,_,z⟩:=hq
  exact z.elim
noncomputable def Am (K:aj):Sp:=fun vs H Q _=>∃ (a:Addr) (ns:List Int),vs=[.ref a]∧SqL K H a (ns.map V.int)∧ns.length≤63∧∀ H',Q (.bl true) H'
noncomputable def gLaw:DSp:=fun xs q _=>∃ ns:List Int,xs=[.scr (ns.map .int)]∧ns.length≤63∧q (.bl true)
theorem ED {K:aj}{H:Hp}:∀ ns:List Int,Rps K H (ns.map .int) (ns.map V.int)
 | []=>rfl
 | n::ns=>⟨.int n,_,rfl,rfl,ED ns⟩
theorem Zy.law {P:Program}{w:World}{K:aj}{mg:Str→Option Value}{base:Heap}{k:Nat}{f:Addr}{fd:FuncData}{ps:List Str}(F:Zy P w K mg base (CXE P w) k f fd ps (spD K gLaw)):Zy P w K mg base CX0 k f fd ps (Am K) :=
 F.noX fun vs H Q E ⟨a,ns,e,hS,hl,kq⟩=>⟨H,[.scr (ns.map .int)],fun d=>d = .bl true,fun _=>False,.refl _,by subst e;exact ⟨_,[],rfl,⟨a,_,rfl,hS,ED ns⟩,rfl⟩,⟨ns,rfl,hl,rfl⟩,fun v d H0' H' e r z=>by subst z;rw [show v = .bl true from r];exact kq H',fun _ _ _ h=>h.elim⟩
section
variable {q:D→Prop}{x:Addr→Prop}
theorem sg {i j:Int}:Cu (.int i) (.int j) q=q (.int (i + j)):=rfl
theorem si {i j:Str}:Cu (.str i) (.str j) q=(i.length + j.length≤aA∧q (.str (i++j))):=rfl
theorem sk {i j:List D}:Cu (.lst i) (.lst j) q=(i.length + j.length≤aA∧q (.lst (i++j))):=rfl
theorem sr {i j:List D}:Cu (.scr i) (.lst j) q=(i.length + j.length≤aA∧q (.lst (i++j))):=rfl
theorem su {i j:List D}:Cu (.tup i) (.tup j) q=(i≠[]∧i.length + j.length≤aA∧q (.tup (i++j))):=rfl
theorem z_ii {C:Int→Int→Prop}{g:Int→Int→D}{i j:Int}:dII C g (.int i) (.int j) q=(C i j∧q (g i j)):=rfl
theorem z_i0 {g:Int→Int→D}{i j:Int}:dI0 g (.int i) (.int j) q=q (g i j):=rfl
theorem z_mul {i j:Int}:dMul (.int i) (.int j) q=(PK i j∧q (.int (i * j))):=rfl
theorem z_rep {xs:List D}{k:Int}:dMul (.lst xs) (.int k) q=(-(2 ^ 63)≤k∧k < 2 ^ 63∧xs.length * k.toNat≤aA∧q (.lst (replicate k.toNat xs).flatten)):=rfl
theorem z_lt {i j:Int}:dLt (.int i) (.int j) q=q (.bl (decide (i < j))):=rfl
theorem z_le {i j:Int}:dLe (.int i) (.int j) q=q (.bl (decide (i≤j))):=rfl
theorem z_gt {i j:Int}:dGt (.int i) (.int j) q=q (.bl (decide (j < i))):=rfl
theorem z_ge {i j:Int}:dGe (.int i) (.int j) q=q (.bl (decide (j≤i))):=rfl
theorem z_isN {a:D}:dIsN a .non q=q (.bl a.Vu):=rfl
theorem nG {a:D}:xV a .non q=q (.bl (!a.Vu)):=rfl
theorem nH {xs:List D}{i:Int}:dIx (.lst xs) (.int i) q=∃ d,atI xs i=some d∧q d:=rfl
theorem nI {xs:List D}{i:Int}:dIx (.scr xs) (.int i) q=∃ d,atI xs i=some d∧q d:=rfl
theorem nJ {xs:List D}{i:Int}:dIx (.tup xs) (.int i) q=∃ d,atI xs i=some d∧q d:=rfl
theorem nK {z:Str}{i:Int}:dIx (.str z) (.int i) q=(z.length≤aA∧∃ c,atI z.cps.toList i=some c∧q (.str ⟨#[c]⟩)):=rfl
theorem nL {xs:List D}{lo hi:Option Int}:dSl (.lst xs) lo hi q=q (.lst (cutD xs lo hi)):=rfl
theorem nM {xs:List D}{lo hi:Option Int}:dSl (.scr xs) lo hi q=q (.lst (cutD xs lo hi)):=rfl
theorem nN {y:Str}{lo hi:Option Int}:dSl (.str y) lo hi q=(y.length≤aA∧q (.str (Txt.slice y lo hi))):=rfl
theorem sv {xs:List D}:zz [.lst xs] q=q (.int xs.length):=rfl
theorem sx {xs:List D}:zz [.scr xs] q=q (.int xs.length):=rfl
theorem sy {xs:List D}:zz [.tup xs] q=q (.int xs.length):=rfl
theorem sA {z:Str}:zz [.str z] q=(z.length≤aA∧q (.int z.length)):=rfl
theorem EE {i:Int}:dAbs [.int i] q=q (.int (if i < 0 then -i else i)):=rfl
theorem EF {i j:Int}:Aa [.int i,.int j] q=q (.int (if j > i then j else i)):=rfl
theorem EG {i:Int}:Ab [.int i] q=q (.int i):=rfl
theorem sC {b:Bool}:Ab [.bl b] q=q (.int (if b then 1 else 0)):=rfl
theorem EH {i:Int}:dStr1 [.int i] q=(i.natAbs.log2 < 1920∧q (.str (toString i))):=rfl
theorem wO {xs:List D}:JY [.lst xs] q=q (.lst xs):=rfl
theorem wR {xs:List D}:JY [.scr xs] q=q (.lst xs):=rfl
theorem wU {xs:List D}:JY [.tup xs] q=q (.lst xs):=rfl
theorem sD {xs:List D}:HV [.lst xs] q=q (.tup xs):=rfl
theorem sE {xs:List D}:HV [.tup xs] q=q (.tup xs):=rfl
theorem nP {b:Bool}{i j:Int}:dEq b (.int i) (.int j) q=q (.bl (if b then !decide (i=j) else decide (i=j))):=by
 show (true=true∧true=true∧true=true∧_)=_
 simp only [D.toV,true_and,V.int.injEq]
theorem nQ {b:Bool}{i j:Str}:dEq b (.str i) (.str j) q=q (.bl (if b then !decide (i=j) else decide (i=j))):=by
 show (true=true∧true=true∧true=true∧_)=_
 simp only [D.toV,true_and,V.str.injEq]
theorem nR {b:Bool}{i j:Bool}:dEq b (.bl i) (.bl j) q=q (.bl (if b then !decide (i=j) else decide (i=j))):=by
 show (true=true∧true=true∧true=true∧_)=_
 simp only [D.toV,true_and,V.bl.injEq]
theorem nS {b:Bool}{xs ys:List D}:dEq b (.tup xs) (.tup ys) q=(RT (D.JZ 80) xs ys=true∧q (.bl (if b then !D.SC xs ys else D.SC xs ys))):=rfl
theorem nT {b:Bool}{xs ys:List D}:dEq b (.lst xs) (.lst ys) q=(RT (D.JZ 80) xs ys=true∧q (.bl (if b then !D.SC xs ys else D.SC xs ys))):=rfl
theorem nU {b:Bool}{i j:Str}:dIn b (.str i) (.str j) q=q (.bl (if b then !inS i j else inS i j)):=rfl
theorem HY (zs:List Str):(zs.map D.str).all D.flat=true:=by rw [all_map,all_eq_true];intro _ _;rfl
theorem zL (zs:List Int):(zs.map D.int).all D.flat=true:=by rw [all_map,all_eq_true];intro _ _;rfl
theorem EI (a:Str) (zs:List Str):inD (.str a) (zs.map .str)=decide (a∈zs):=by
 unfold inD
 rw [any_map]
 induction zs with
 | nil=>rfl
 | cons z zs ih =>
  rw [any_cons,ih]
  have:((fun y=>D.eqF y (.str a)) ∘ D.str) z=decide (z=a):=by
   show (z == a)=_
   rw [Bool.eq_iff_iff];simp only [beq_iff_eq,decide_eq_true_eq]
  rw [this,Bool.eq_iff_iff]
  simp only [Bool.or_eq_true,decide_eq_true_eq,mem_cons]
  exact or_congr eq_comm Iff.rfl
theorem wV (a:Int) (zs:List Int):inD (.int a) (zs.map .int)=decide (a∈zs):=by
 unfold inD
 rw [any_map]
 induction zs with
 | nil=>rfl
 | cons z zs ih =>
  rw [any_cons,ih]
  have:((fun y=>D.eqF y (.int a)) ∘ D.int) z=decide (z=a):=by
   show (z == a)=_
   rw [Bool.eq_iff_iff];simp only [beq_iff_eq,decide_eq_true_eq]
  rw [this,Bool.eq_iff_iff]
  simp only [Bool.or_eq_true,decide_eq_true_eq,mem_cons]
  exact or_congr eq_comm Iff.rfl
theorem sF {b:Bool}{a:Str}{zs:List Str}:dIn b (.str a) (.lst (zs.map .str)) q=q (.bl (if b then !decide (a∈zs) else decide (a∈zs))):=by
 show (true=true∧_∧_)=_
 rw [HY,EI]
 simp only [true_and]
theorem An {b:Bool}{a:Str}{zs:List Str}:dIn b (.str a) (.tup (zs.map .str)) q=q (.bl (if b then !decide (a∈zs) else decide (a∈zs))):=by
 show (true=true∧_∧_)=_
 rw [HY,EI]
 simp only [true_and]
theorem sG {b:Bool}{a:Int}{zs:List Int}:dIn b (.int a) (.lst (zs.map .int)) q=q (.bl (if b then !decide (a∈zs) else decide (a∈zs))):=by
 show (true=true∧_∧_)=_
 rw [zL,wV]
 simp only [true_and]
theorem HZ (bs:List Bool):bools (bs.map .bl)=some bs:=by
 induction bs with
 | nil=>rfl
 | cons b bs ih=>rw [map_cons];unfold bools;rw [ih];rfl
theorem Ga (bs:List Str):texts (bs.map .str)=some bs:=by
 induction bs with
 | nil=>rfl
 | cons b bs ih=>rw [map_cons];unfold texts;rw [ih];rfl
theorem Gb {bs:List Bool}:zF [.lst (bs.map .bl)] q=q (.bl (bs.all id)):=by
 show (∃ cs,bools _=some cs∧_)=_
 rw [HZ]
 simp only [Option.some.injEq,exists_eq_left']
theorem pd {bs:List Bool}:dAny [.lst (bs.map .bl)] q=q (.bl (bs.any id)):=by
 show (∃ cs,bools _=some cs∧_)=_
 rw [HZ]
 simp only [Option.some.injEq,exists_eq_left']
theorem wW {sep:Str}{ys:List Str}:Ae (.str sep) [.lst (ys.map .str)] q=((ys.map (·.length)).sum + ys.length * sep.length≤16777216∧q (.str (Txt.join sep ys))):=by
 show (∃ cs,texts _=some cs∧_)=_
 rw [Ga]
 simp only [Option.some.injEq,exists_eq_left']
theorem Fj {α:Type}{f:α→Bool}{xs:List α}:zF [.lst (xs.map fun x => .bl (f x))] q=q (.bl (xs.all f)):=by
 have:=Gb (q:=q) (bs:=xs.map f)
 rw [map_map,all_map] at this
 exact this
theorem nV {α:Type}{f:α→Bool}{xs:List α}:dAny [.lst (xs.map fun x => .bl (f x))] q=q (.bl (xs.any f)):=by
 have:=pd (q:=q) (bs:=xs.map f)
 rw [map_map,any_map] at this
 exact this
theorem sH {α:Type}{f:α→Str}{xs:List α}{sep:Str}:Ae (.str sep) [.lst (xs.map fun x => .str (f x))] q=((xs.map fun x=>(f x).length).sum + xs.length * sep.length≤16777216∧q (.str (Txt.join sep (xs.map f)))):=by
 have:=wW (q:=q) (sep:=sep) (ys:=xs.map f)
 rw [map_map,map_map,length_map] at this
 exact this
theorem sI {y:Str}:nz (.str y) [] q=(y.length≤5592405∧q (.str (Txt.lower y))):=rfl
theorem sJ {y:Str}:ny (.str y) [] q=(y.length≤5592405∧q (.str (Txt.upper y))):=rfl
theorem VO {K:aj}{d:D}{t n:String}(ht:d.tyN=some t) (hn:n∈MC) (he:Tw K [d,.ty n] q=∃ t,d.tyN=some t∧n∈MC∧q (.bl (wm t n))):Tw K [d,.ty n] q=q (.bl (wm t n)):=by
 rw [he,ht]
 simp only [Option.some.injEq,exists_eq_left',hn,true_and]
variable {K:aj}
theorem wX {i:Int}:Tw K [.int i,.ty "int"] q=q (.bl true):=VO (t := "int") rfl (by decide) rfl
theorem wY {i:Int}:Tw K [.int i,.ty "bool"] q=q (.bl false):=VO (t := "int") rfl (by decide) rfl
theorem wZ {i:Int}:Tw K [.int i,.ty "str"] q=q (.bl false):=VO (t := "int") rfl (by decide) rfl
theorem vd {i:Int}:Tw K [.int i,.ty "tuple"] q=q (.bl false):=VO (t := "int") rfl (by decide) rfl
theorem ve {i:Int}:Tw K [.int i,.ty "list"] q=q (.bl false):=VO (t := "int") rfl (by decide) rfl
theorem vf {i:Bool}:Tw K [.bl i,.ty "bool"] q=q (.bl true):=VO (t := "bool") rfl (by decide) rfl
theorem vg {i:Bool}:Tw K [.bl i,.ty "int"] q=q (.bl true):=VO (t := "bool") rfl (by decide) rfl
theorem vh {i:Str}:Tw K [.str i,.ty "str"] q=q (.bl true):=VO (t := "str") rfl (by decide) rfl
theorem vi {i:Str}:Tw K [.str i,.ty "int"] q=q (.bl false):=VO (t := "str") rfl (by decide) rfl
theorem vj {i:Str}:Tw K [.str i,.ty "tuple"] q=q (.bl false):=VO (t := "str") rfl (by decide) rfl
theorem vm {i:List D}:Tw K [.tup i,.ty "tuple"] q=q (.bl true):=VO (t := "tuple") rfl (by decide) rfl
theorem vn {i:List D}:Tw K [.tup i,.ty "int"] q=q (.bl false):=VO (t := "tuple") rfl (by decide) rfl
theorem vo {i:List D}:Tw K [.tup i,.ty "str"] q=q (.bl false):=VO (t := "tuple") rfl (by decide) rfl
theorem vp {i:List D}:Tw K [.lst i,.ty "list"] q=q (.bl true):=VO (t := "list") rfl (by decide) rfl
theorem vq {i:List D}:Tw K [.lst i,.ty "tuple"] q=q (.bl false):=VO (t := "list") rfl (by decide) rfl
theorem vt {i:List D}:Tw K [.lst i,.tup [.ty "list",.ty "tuple"]] q=q (.bl true):=by
 show (∃ as b,tys _=some as∧_)=_
 refine propext ⟨?_,fun h=>⟨_,true,rfl,by with_unfolding_all rfl,h⟩⟩
 rintro ⟨as,b,e,k,h⟩
 cases e
 have:kitAny K (.type "list") (["list", "tuple"].map Value.type)=some true:=by with_unfolding_all rfl
 rw [this] at k
 cases k
 exact h
theorem vw {i:List D}:Tw K [.tup i,.tup [.ty "list",.ty "tuple"]] q=q (.bl true):=by
 show (∃ as b,tys _=some as∧_)=_
 refine propext ⟨?_,fun h=>⟨_,true,rfl,by with_unfolding_all rfl,h⟩⟩
 rintro ⟨as,b,e,k,h⟩
 cases e
 have:kitAny K (.type "tuple") (["list", "tuple"].map Value.type)=some true:=by with_unfolding_all rfl
 rw [this] at k
 cases k
 exact h
theorem sL {k:Bool→Prop}:D.tru .non k=k false:=rfl
theorem sM {k:Bool→Prop}{b:Bool}:D.tru (.bl b) k=k b:=rfl
theorem sN {k:Bool→Prop}{i:Int}:D.tru (.int i) k=k (i != 0):=rfl
theorem sO {k:Bool→Prop}{y:Str}:D.tru (.str y) k=(y.length≤aA∧k ((y.length:Int) != 0)):=rfl
theorem sP {k:Bool→Prop}{xs:List D}:D.tru (.lst xs) k=k (!xs.isEmpty):=rfl
theorem sQ {k:Bool→Prop}{xs:List D}:D.tru (.tup xs) k=k (!xs.isEmpty):=rfl
theorem sR:D.Vu .non=true:=rfl
theorem sS {i:Int}:D.Vu (.int i)=false:=rfl
theorem sU {i:Bool}:D.Vu (.bl i)=false:=rfl
theorem sV {i:Str}:D.Vu (.str i)=false:=rfl
theorem sW {i:List D}:D.Vu (.tup i)=false:=rfl
theorem sX {i:List D}:D.Vu (.lst i)=false:=rfl
theorem sY {C:Addr}{i:List (Str × D)}:D.Vu (.obj C i)=false:=rfl
theorem sZ {C:Addr}:D.Vu (.exc C)=false:=rfl
theorem vx {i:Int}{n:Nat}:GU i (no_index (@OfNat.ofNat Int n instOfNat))=i % (@OfNat.ofNat Int n instOfNat):=by
 unfold GU
 rw [if_pos]
 exact Int.natCast_nonneg n
theorem vy {i:Int}{n:Nat}:Er i (no_index (@OfNat.ofNat Int n instOfNat))=i / (@OfNat.ofNat Int n instOfNat):=by
 unfold Er
 rw [if_pos]
 exact Int.natCast_nonneg n
theorem Xy {i j:Int}(h:0 < j):GU i j=i % j:=by unfold GU;rw [if_pos (by omega)]
end
theorem EJ {g:DG}{b:DS}{e:RU}{xs:List D}{ds:DSt}(I:Nat→DSt→Prop) (h0:I 0 ds)
  (hs:∀ i x ds N,xs[i]?=some x→I i ds→(∀ ds',I (i + 1) ds'→N ds')→g x ds fun ds'=>b ds' { e with nx:=N,ct:=N,bk:=e.nx })
  (he:∀ ds,I xs.length ds→e.nx ds):Tx g b e xs ds:=by
 have key:∀ (k:Nat) (ys:List D) (i:Nat) (ds:DSt),ys.length=k→xs.drop i=ys→i≤xs.length→I i ds→Tx g b e ys ds:=by
  intro k
  induction k with
  | zero =>
   intro ys i ds hl hd hi h
   have:ys=[]:=List.eq_nil_of_length_eq_zero hl
   subst this
   have:i=xs.length:=by have:=List.drop_eq_nil_iff.mp hd;omega
   subst this
   exact he ds h
  | succ k ih =>
   intro ys i ds hl hd hi h
   cases ys with
   | nil=>cases hl
   | cons y ys =>
    have hi2:i < xs.length:=by
     rcases Nat.lt_or_ge i xs.length with z | z
     ·exact z
     ·rw [List.drop_eq_nil_of_le z] at hd;cases hd
    rw [List.drop_eq_getElem_cons hi2] at hd
    cases hd
    unfold Tx
    exact hs i _ ds _ (aB hi2) h fun ds' h'=>ih _ (i + 1) ds' (by simp at hl ⊢;omega) rfl hi2 h'
 exact key xs.length xs 0 ds rfl rfl (Nat.zero_le _) h0
theorem Yq {α:Type}{c:α→D}{g:DG}{b:DS}{e:RU}{xs:List α}{ds:DSt}(I:Nat→DSt→Prop) (h0:I 0 ds)
  (hs:∀ i x ds N,xs[i]?=some x→I i ds→(∀ ds',I (i + 1) ds'→N ds')→g (c x) ds fun ds'=>b ds' { e with nx:=N,ct:=N,bk:=e.nx })
  (he:∀ ds,I xs.length ds→e.nx ds):Tx g b e (xs.map c) ds:=by
 refine EJ I h0 (fun i x ds N hx hi hn=>?_) (by rw [length_map];exact he)
 rw [getElem?_map] at hx
 cases q:xs[i]? with
 | none=>rw [q] at hx;cases hx
 | some y=>rw [q] at hx;cases hx;exact hs i y ds N q hi hn
theorem SF {lo:Int}{n:Nat}{g:DG}{b:DS}{e:RU}{ds:DSt}(I:Nat→DSt→Prop) (h0:I 0 ds)
  (hs:∀ i ds N,i < n→I i ds→(∀ ds',I (i + 1) ds'→N ds')→g (.int (lo + i)) ds fun ds'=>b ds' { e with nx:=N,ct:=N,bk:=e.nx })
  (he:∀ ds,I n ds→e.nx ds):Tx g b e (intsFrom lo n) ds:=by
 refine Yq (xs:=List.range n) I h0 (fun i x ds N hx hi hn=>?_) (by rw [List.length_range];exact he)
 obtain ⟨h1,h2⟩:=List.getElem?_eq_some_iff.mp hx
 rw [List.length_range] at h1
 rw [List.getElem_range] at h2
 subst h2
 exact hs i ds N h1 hi hn
theorem Ic {α:Type}{c:α→D}{g:DG}{f:DT}{e:DE}{q:List D→Prop}{xs:List α}{ds:DSt}{acc:List D}(C:DSt→Prop) (p:α→Bool) (h:α→D) (h0:C ds)
  (hs:∀ x∈xs,∀ ds (N0:DSt→Prop) (N1:DSt→D→Prop),C ds→(p x=false→∀ ds',C ds'→N0 ds')→(p x=true→∀ ds',C ds'→N1 ds' (h x))→g (c x) ds fun ds1=>f ds1 (fun b=>if b=true then e ds1 (fun y=>N1 ds1 y) (fun _=>False) else N0 ds1) (fun _=>False))
  (hl:acc.length + xs.length≤aA) (hq:q (acc++(xs.filter p).map h)):WY g f e q (xs.map c) ds acc:=by
 induction xs generalizing ds acc with
 | nil =>
  unfold WY
  simpa using hq
 | cons x xs ih =>
  rw [map_cons]
  unfold WY
  refine hs x (mem_cons_self ..) ds _ (fun ds1 y=>acc.length < aA∧WY g f e q (xs.map c) ds1 (acc++[y])) h0 (fun hp ds' h'=>?_) (fun hp ds' h'=>?_)
  ·refine ih h' (fun y hy=>hs y (mem_cons_of_mem _ hy)) (by simp at hl ⊢;omega) ?_
   rw [filter_cons,hp] at hq
   exact hq
  ·refine ⟨by simp at hl;omega,ih h' (fun y hy=>hs y (mem_cons_of_mem _ hy)) (by simp at hl ⊢;omega) ?_⟩
   rw [filter_cons,hp,if_pos rfl,map_cons] at hq
   simpa using hq
theorem Ie {α:Type}(xs:List α):xs.filter (fun _=>true)=xs:=List.filter_eq_self.mpr fun _ _=>rfl
theorem YG {α:Type}{c:α→D}{e:DE}{q:List D→Prop}{xs:List α}{s:Slot}{caps:DSt}(h:α→D) (hl:xs.length≤aA)
  (hs:∀ x∈xs,∀ N:D→Prop,N (h x)→e (.v (c x)::caps) N (fun _=>False)) (hq:q (xs.map h)):WY (XO 0) zJ e q (xs.map c) (s::caps) []:=by
 refine Ic (fun ds=>∃ s,ds=s::caps) (fun _=>true) h ⟨s,rfl⟩ (fun x hx ds N0 N1 hc _ h1=>?_) (by simpa using hl) (by rw [Ie];exact hq)
 obtain ⟨s,rfl⟩:=hc
 have z:=hs x hx (fun y=>N1 (.v (c x)::caps) y) (h1 rfl _ ⟨_,rfl⟩)
 show (if true=true then e (.v (c x)::caps) (fun y=>N1 (.v (c x)::caps) y) (fun _=>False) else N0 (.v (c x)::caps))
 rw [if_pos rfl]
 exact z
theorem NP {α:Type}{c:α→D}{f:DT}{e:DE}{q:List D→Prop}{xs:List α}{s:Slot}{caps:DSt}(p:α→Bool) (h:α→D) (hl:xs.length≤aA)
  (hf:∀ x∈xs,∀ N:Bool→Prop,N (p x)→f (.v (c x)::caps) N (fun _=>False))
  (hs:∀ x∈xs,p x=true→∀ N:D→Prop,N (h x)→e (.v (c x)::caps) N (fun _=>False)) (hq:q ((xs.filter p).map h)):WY (XO 0) f e q (xs.map c) (s::caps) []:=by
 refine Ic (fun ds=>∃ s,ds=s::caps) p h ⟨s,rfl⟩ (fun x hx ds N0 N1 hc h0 h1=>?_) (by simpa using hl) (by simpa using hq)
 obtain ⟨s,rfl⟩:=hc
 refine hf x hx _ ?_
 cases hp:p x with
 | true=>rw [if_pos rfl];exact hs x hx hp _ (h1 hp _ ⟨_,rfl⟩)
 | false=>rw [if_neg aC];exact h0 hp _ ⟨_,rfl⟩
theorem Ig {α:Type}{c c':α→D}{f:DT}{e:DE}{q:List D→Prop}{xs:List α}{s s':Slot}{caps:DSt}(p:α→Bool) (h:α→D) (hl:xs.length≤aA)
  (hf:∀ x∈xs,∀ N:Bool→Prop,N (p x)→f (.v (c x) :: .v (c' x)::caps) N (fun _=>False))
  (hs:∀ x∈xs,p x=true→∀ N:D→Prop,N (h x)→e (.v (c x) :: .v (c' x)::caps) N (fun _=>False)) (hq:q ((xs.filter p).map h)) :
  WY (Ag 2 (MD (XO 0) (MD (XO 1) Af))) f e q (xs.map fun x => .tup [c x,c' x]) (s::s'::caps) []:=by
 refine Ic (c:=fun x => .tup [c x,c' x]) (fun ds=>∃ s s',ds=s::s'::caps) p h ⟨s,s',rfl⟩ (fun x hx ds N0 N1 hc h0 h1=>?_) (by simpa using hl) (by simpa using hq)
 obtain ⟨s,s',rfl⟩:=hc
 refine ⟨_,rfl,rfl,_,_,rfl,_,_,rfl,rfl,?_⟩
 refine hf x hx _ ?_
 cases hp:p x with
 | true=>rw [if_pos rfl];exact hs x hx hp _ (h1 hp _ ⟨_,_,rfl⟩)
 | false=>rw [if_neg aC];exact h0 hp _ ⟨_,_,rfl⟩
theorem Gc {α:Type}{c c':α→D}{e:DE}{q:List D→Prop}{xs:List α}{s s':Slot}{caps:DSt}(h:α→D) (hl:xs.length≤aA)
  (hs:∀ x∈xs,∀ N:D→Prop,N (h x)→e (.v (c x) :: .v (c' x)::caps) N (fun _=>False)) (hq:q (xs.map h)) :
  WY (Ag 2 (MD (XO 0) (MD (XO 1) Af))) zJ e q (xs.map fun x => .tup [c x,c' x]) (s::s'::caps) [] :=
 Ig (fun _=>true) h hl (fun _ _ _ hn=>hn) (fun x hx _=>hs x hx) (by rw [Ie];exact hq)
abbrev TP2:=Str→St→Hp→(Str→Hp→Prop)→Prop
noncomputable def PP (X:Cx) (n:Nat) (es:List Expr) (t:TP2):Prop :=
 ∀ (acc:Str) (pins:List (Addr × Obj)) (s:Shared) (σ:St) (H:Hp) (Q:Str→Hp→Prop),acc.length + n≤aA→Inv X pins σ H s→t acc σ H Q →
  wpAny (model X.prog X.w) X.A (joinParts acc (evalEach es X.env)) (EP X pins σ fun v H'=>∃ z,v = .str z∧Q z H') X.xe s
noncomputable def D.fmt:D→(Str→Prop)→Prop
 | .str y,q=>y.length≤100000∧q y
 | .int i,q=>i.natAbs.log2 < 1920∧(toString i:Str).length≤100000∧q (toString i)
 | _,_=>False
noncomputable def vFmt (K:aj) (v:V) (q:Str→Prop):Prop:=(∃ y:Str,v = .str y∧y.length≤100000∧q y)∨(∃ i:Int,v = .int i∧i.natAbs.log2 < 1920∧(toString i:Str).length≤100000∧q (toString i))
section
variable {X:Cx}{XE:St→XK}
theorem nW:PP X 0 [] fun acc σ H Q=>Q acc H:=fun acc pins s σ H Q hn I h=>joinParts_nil ⟨.str acc,H,I.tok _,⟨_,rfl⟩,acc,rfl,h⟩ (by omega)
theorem rg {n:Nat}{es:List Expr}{t:TP2}{x:Str}{j pos}(hr:PP X n es t) (hx:x.length≤100000):PP X (n + 100000) (.Constant (.str x) j pos::es) fun acc σ H Q=>t (acc++x) σ H Q :=
 fun acc pins s σ H Q hn I h=>by
  have e:=strLen_append acc x
  exact joinParts_cons (Calls.Constant_str ⟨by omega,hr _ _ _ _ _ _ (by omega) (I.tok _) h⟩)
theorem nX {n:Nat}{es:List Expr}{t:TP2}{e:Expr}{te:TE}{pos}(he:PE X e te) (hr:PP X n es t):PP X (n + 100000) (.FormattedValue e (-1) none pos::es) fun acc σ H Q=>te σ H fun v H1=>vFmt X.K v fun y=>t (acc++y) σ H1 Q :=
 fun acc pins s σ H Q hn I h=>by
  refine joinParts_cons (FormattedValue_plain (thn (he pins s σ H _ I h) fun u s1 ⟨v,H1,I1,r1,q1⟩=>?_))
  rcases q1 with ⟨y,rfl,hy,q⟩ | ⟨i,rfl,hi,hy,q⟩
  ·obtain ⟨tk,rfl⟩:=r1
   have e:=strLen_append acc y
   exact formatField_str (fun t' tk=>⟨by omega,hr _ _ _ _ _ _ (by omega) (I1.tok _) q⟩) (by omega)
  ·obtain ⟨tk,rfl⟩:=r1
   have e:=strLen_append acc (toString i)
   exact formatField_int_small hi ⟨by omega,hr _ _ _ _ _ _ (by omega) (I1.tok _) q⟩
theorem rh {n:Nat}{a b:Expr}{es:List Expr}{t:TP2}{pos}(hr:PP X n (a::b::es) t) (hn:n≤aA):PE X (.JoinedStr (a::b::es) pos) fun σ H Q=>t Str.empty σ H fun z H'=>Q (.str z) H' :=
 fun pins s σ H Q I h=>JoinedStr_many (thn (hr Str.empty pins s σ H _ (by rw [show Str.empty.length=0 from rfl];omega) I h) fun u s1 ⟨v,H1,I1,r1,z,e,q⟩=>⟨v,H1,I1,r1,by rw [e];exact q⟩)
abbrev DP:=Str→DSt→(Str→Prop)→(Addr→Prop)→Prop
noncomputable def DenP (K:aj) (XE:St→XK) (te:TP2) (de:DP):Prop:=∀ {acc:Str}{B0 B H0 H:Hp}{σ:St}{ds:DSt}{q:Str→Prop}{x:Addr→Prop}{Q:Str→Hp→Prop},Cfg K B0 B H0 H σ ds→de acc ds q x→(∀ z H0' H',Ext H0 H H0' H'→q z→Q z H')→KX XE σ H x→te acc σ H Q
structure JP (X:Cx) (XE:St→XK) (n:Nat) (es:List Expr) (de:DP):Prop where
 ex:∃ te,PP X n es te∧DenP X.K XE te de
noncomputable def ph:DP:=fun acc _ q _=>q acc
noncomputable def vz (x:Str) (dr:DP):DP:=fun acc ds q y=>dr (acc++x) ds q y
noncomputable def pj (de:DE) (dr:DP):DP:=fun acc ds q x=>de ds (fun d=>d.fmt fun y=>dr (acc++y) ds q x) x
noncomputable def pq (dr:DP):DE:=fun ds q x=>dr Str.empty ds (fun z=>q (.str z)) x
theorem Fk:JP X XE 0 [] ph:=⟨_,nW,fun c h k _=>k _ _ _ (.refl c.sub) h⟩
theorem SG {n:Nat}{es:List Expr}{dr:DP}{x:Str}{j pos}(hr:JP X XE n es dr) (hx:autoParam (x.length≤100000) auD):JP X XE (n + 100000) (.Constant (.str x) j pos::es) (vz x dr):=by
 obtain ⟨t,p,d⟩:=hr.ex
 exact ⟨_,rg p hx,fun c h k kx=>d c h k kx⟩
theorem Fl {n:Nat}{es:List Expr}{dr:DP}{e:Expr}{de:DE}{pos}(he:JE X XE e de) (hr:JP X XE n es dr):JP X XE (n + 100000) (.FormattedValue e (-1) none pos::es) (pj de dr):=by
 obtain ⟨te,p1,d1⟩:=he.ex
 obtain ⟨t,p,d⟩:=hr.ex
 refine ⟨_,nX p1 p,fun {acc _ _ _ _ σ ds q x Q} c h k kx=>d1 c h (fun v a H1 H2 e r h=>?_) kx⟩
 have go:∀ {y:Str},dr (acc++y) ds q x→t (acc++y) σ H2 Q:=fun h=>d (c.go e) h (fun z H0' H' e' hq=>k z _ _ (e.trans e') hq) (kx.go e.s)
 cases a with
 | str y=>rw [show v = .str y from r];exact .inl ⟨y,rfl,h.1,go h.2⟩
 | int i=>rw [show v = .int i from r];exact .inr ⟨i,rfl,h.1,h.2.1,go h.2.2⟩
 | _=>exact h.elim
theorem Jp {n:Nat}{a b:Expr}{es:List Expr}{dr:DP}{pos}(hr:JP X XE n (a::b::es) dr) (hn:autoParam (n≤aA) auD):JE X XE (.JoinedStr (a::b::es) pos) (pq dr):=by
 obtain ⟨t,p,d⟩:=hr.ex
 exact ⟨_,rh p hn,fun c h k kx=>d c h (fun z H0' H' e hq=>k (.str z) (.str z) _ _ e rfl hq) kx⟩
end
theorem vA {k:Key}{v:Value}(h:Tn k v=true):v.scannable=true:=by
 rcases Yf h with ⟨i,t,rfl,rfl⟩ | ⟨x,t,rfl,rfl⟩ <;> rfl
instance lawKey:LawfulBEq Key where
 eq_of_beq {a b} h:=by
  cases a <;> cases b
  ·exact congrArg _ (eq_of_beq h)
  ·cases h
  ·cases h
  ·exact congrArg _ (eq_of_beq h)
 rfl {a}:=by
  cases a with
  | inl i=>exact (beq_self_eq_true i:(i == i)=true)
  | inr i=>exact (beq_self_eq_true i:(i == i)=true)
instance memKey (k:Key) (a:List Key):Decidable (k∈a):=@List.instDecidableMemOfLawfulBEq Key instBEqOfDecidableEq inferInstance k a
noncomputable def Vk (a:List Key) (k:Key):List Key:=if k∈a then a else a++[k]
noncomputable def dedup (ks:List Key):List Key:=ks.foldl Vk []
theorem Ih (ks:List Key) (k:Key):dedup (ks++[k])=Vk (dedup ks) k:=by unfold dedup;rw [foldl_append];rfl
theorem CA (a:List Key) (k j:Key):j∈Vk a k↔j∈a∨j=k:=by
 unfold Vk
 split
 ·rename_i h
  exact ⟨.inl,fun z=>z.elim id fun e=>e ▸ h⟩
 ·simp
theorem Ii (a:List Key) (k:Key):(Vk a k).length=if k∈a then a.length else a.length + 1:=by
 unfold Vk
 split <;> simp
theorem Ij (ks:List Key):(dedup ks).length≤ks.length:=by
 have go:∀ (ks a:List Key),(ks.foldl Vk a).length≤a.length + ks.length:=by
  intro ks
  induction ks with
  | nil=>intro a;exact Nat.le_refl _
  | cons k ks ih =>
   intro a
   rw [foldl_cons]
   have h1:=ih (Vk a k)
   have h2:=Ii a k
   rw [length_cons]
   split at h2 <;> omega
 have:=go ks []
 simpa [dedup] using this
section
variable {P:Program}{w:World}{A:Around}
theorem SetOf.eq' {h:Heap}{a:Addr}{S S':Key→Bool}{n n':Nat}(z:h.SetOf (ZE P w) a S n) (e:∀ k,S k=S' k) (m:n=n'):h.SetOf (ZE P w) a S' n':=by
 rw [←m,←(funext e:S=S')]
 exact z
theorem vB {R:Result→Shared→Prop}{I Z:Addr}{fp wr:List Addr}{G:Array GenState→Array GenState→Prop}{ks:List Key}{Pv:Nat→Value→Prop}{St:Nat→Shared→Prop}
  (W:WalksS P w A.in1 I fp wr G ks.length Pv St) (out:Z∉fp) (hv:∀ i v,Pv i v→∃ k,ks[i]?=some k∧Tn k v=true) (hb:ks.length + 1 < scanBound) :
  ∀ (m i:Nat) (s:Shared),i + m=ks.length→St i s→s.heap.SetOf (ZE P w) Z (fun k=>decide (k∈dedup (ks.take i))) (dedup (ks.take i)).length →
   (∀ s',Moved (Z::wr) G s s'→s'.heap.SetOf (ZE P w) Z (fun k=>decide (k∈dedup ks)) (dedup ks).length→R (.ok (.ret .none)) s') →
   codeAny (model P w) A (.builtin "set.update.loop" ⟨[.ref Z,.ref I],[]⟩) R s:=by
 have outw:Z∉wr:=fun h=>out (W.sub _ h)
 intro m
 induction m with
 | zero =>
  intro i s hi st hS k
  have ei:i=ks.length:=by omega
  subst ei
  rw [take_length] at hS
  refine codeAny_builtin F.entry_set_update_loop ?_
  rw [Around.under_plainId F.plain_set_update_loop _]
  refine ak (m:=pyNext (.ref I)) (W.done s _ _ st fun s' mv=>ao (k s' (mv.mono fun b h=>mem_cons_of_mem _ h) ?_))
  obtain ⟨o,es,ep,t,ho,r⟩:=hS
  exact ⟨o,es,ep,t,mv.heap Z _ outw ho,r⟩
 | succ m ih =>
  intro i s hi st hS k
  have lt:i < ks.length:=by omega
  refine codeAny_builtin F.entry_set_update_loop ?_
  rw [Around.under_plainId F.plain_set_update_loop _]
  refine ak (m:=pyNext (.ref I)) (W.item i s _ _ lt st fun v s' pv st' mv=>?_)
  obtain ⟨c,hc,hcv⟩:=hv i v pv
  have hS':s'.heap.SetOf (ZE P w) Z (fun k=>decide (k∈dedup (ks.take i))) (dedup (ks.take i)).length:=by
   obtain ⟨o,es,ep,t,ho,r⟩:=hS
   exact ⟨o,es,ep,t,mv.heap Z _ outw ho,r⟩
  have et:ks.take (i + 1)=ks.take i++[c]:=by rw [take_add_one,hc];rfl
  have room:(dedup (ks.take i)).length + 1 < scanBound:=by
   have:=Ij (ks.take i)
   rw [length_take] at this
   omega
  refine ak (m:=holding [v] (setAdd Z v)) (wpAny_holding ?_)
  unfold setAdd
  refine wpAny_holding (ak ((ZE P w).pyHash (k:=c) hcv (wpAny_setAddHashed_of (knd:=ZE P w) (s:={ s' with toks:=s'.toks + 1 }) hcv (vA hcv) hS' room fun h' sb hS2=>?_)))
  have hS3:h'.SetOf (ZE P w) Z (fun k=>decide (k∈dedup (ks.take (i + 1)))) (dedup (ks.take (i + 1))).length:=by
   refine SetOf.eq' hS2 (fun j=>?_) ?_
   ·rw [et,Ih]
    simp [CA]
   ·rw [et,Ih,Ii]
    simp
  refine ao ⟨plainId_quiet F.plain_set_update_loop _,ih (i + 1) _ (by omega) (W.frame _ s' _ _ st' (Nat.le_succ _) fun b hb o e=>?_) hS3 fun s'' mv' hS4=>k s'' (Moved.trans W.gtrans ((mv.mono fun b h=>mem_cons_of_mem _ h).then_heap (Nat.le_succ _) fun b o nb e=>?_) mv') hS4⟩
  ·exact (sb.2 b (fun y=>out (y ▸ hb))).trans e
  ·exact (sb.2 b (fun y=>nb (y ▸ mem_cons_self))).trans e
noncomputable def RX (led:Bool):Obj:={ cls := .type "set",dict:=none,data := .set #[] 0 (.fresh 0 0 led) }
theorem vC {E:Value→Shared→Prop}{s:Shared}{l:Addr}{us:Array Value}{ks:List Key}{Q:Value→Shared→Prop}(hh:A.handled=none) (hl:s.heap.IsList l us) (en:us.size=ks.length)
  (hk:∀ (i:Nat) v,us[i]?=some v→∃ k,ks[i]?=some k∧Tn k v=true) (hb:ks.length + 1 < scanBound)
  (h:∀ (h':Heap) (tk:Nat),h'.SetOf (ZE P w) s.heap.objs.size (fun k=>decide (k∈dedup ks)) (dedup ks).length→(∀ b o,s.heap.get? b=some o→h'.get? b=some o)→Q (.ref s.heap.objs.size) { s with heap:=h',toks:=tk }) :
  wpAny (model P w) A (call (.type "set") [.ref l]) Q E s:=by
 obtain ⟨cc,tl,hmro⟩:=PySem.F.called_set.mro
 have made:=PySem.F.called_set.made
 have sub:=PySem.F.called_set.sub
 have h1:=PySem.F.called_set.notType
 have h2:=PySem.F.called_set.canCreate
 have ct:=PySem.F.typeCall_set_1 (.ref l)
 refine wpAny_call (codeAny_of_tree (show wpAny _ _ (callAny (.type "set") _) _ _ _ from ao ⟨Code.quiet_builtin _ (by decide +kernel),codeAny_builtin PySem.F.entry_type_call ?_⟩))
 rw [Around.under_plain (weight_type_call_type "set" [.ref l] []) rfl]
 repeat (any_goals (first | assumption | wp_step))
 refine codeAny_mono (PySem.code_set_new_1 (.ref l) (E:=E) (Q₁:=fun ob s1=>∃ led:Bool,ob = .ref s.heap.objs.size∧s1={ s with heap:=s.heap.push (RX led) }) fun led=>⟨led,rfl,rfl⟩) fun r s1 hr=>?_
 rcases r with e | fl
 ·exact hr
 cases fl with
 | ret ob =>
  obtain ⟨led,rfl,rfl⟩:=hr
  have at0:(s.heap.push (RX led)).get? s.heap.objs.size=some (RX led):=au _ rfl
  have ty:Shared.TypeIs { s with heap:=s.heap.push (RX led) } (.ref s.heap.objs.size) "set" := ⟨_,at0,rfl⟩
  have look:=PySem.F.called_set.init.lookup
  have bnd:=PySem.F.called_set.init.bind (.ref s.heap.objs.size)
  repeat (any_goals (first | assumption | wp_step))
  refine codeAny_mono (codeAny_call_builtin (R:=wants (fun r s2=>r = .none∧Q (.ref s.heap.objs.size) s2) E) PySem.F.called_set.init.plain PySem.F.entry_set_init (PySem.check_set_init_1 ty ?_)) fun r2 s2 hr2=>?_
  ·obtain ⟨⟨c0,d0,x0,sl0⟩,hol,hcl,nl,hdl⟩:=id hl
   simp only at hcl hdl
   subst hcl
   subst hdl
   have hol':(s.heap.push (RX led)).get? l=some { cls := .type "list",dict:=d0,data := .seq us nl,slots:=sl0 }:=aq _ hol
   have l1:(s.heap.push (RX led)).IsList l us:=⟨_,hol',rfl,nl,rfl⟩
   have n1:=PySem.F.sub_list_set
   have n2:=PySem.F.sub_list_frozenset
   have n3:(Value.type "list" == Value.type "dict")=false:=by decide
   have lts:l < s.heap.objs.size:=az hol
   unfold Builtin.«set.__init__» noKeywords Builtin.Frozenset.updateFrom
   generalize gi:pyIter=PI
   wp_walk
   subst gi
   refine wpAny_pyIter_list l1 (ak (wpAny_runValue ?_))
   have ne1:l≠(s.heap.push (RX led)).objs.size:=by rw [Heap.size_push];exact Nat.ne_of_lt (Nat.lt_succ_of_lt lts)
   have out:s.heap.objs.size∉[(s.heap.push (RX led)).objs.size,l]:=by
    rw [Heap.size_push]
    intro z
    rcases mem_cons.mp z with z | z
    ·exact absurd z (Nat.ne_of_lt (Nat.lt_succ_self _))
    ·exact absurd (mem_singleton.mp z) (Nat.ne_of_gt lts)
   have at1:((s.heap.push (RX led)).push { cls := .type "list_iterator",data := .fields #[.ref l,.int 0 0] }).get? s.heap.objs.size=some (RX led):=aq _ at0
   have W:=(Walks.list (prog:=P) (w:=w) (A:=A.in1.in1.in1) (by simp [hh]) (s.heap.push (RX led)).objs.size l ne1 us).toS
   rw [en] at W
   refine vB W out hk hb ks.length 0 _ (by omega) ⟨⟨_,au _ rfl,rfl,rfl⟩,l1.push _⟩ (SetOf.eq' ((setObjOf_fresh (knd:=ZE P w) led).setOf at1 (by unfold scanBound;omega)) (fun _=>rfl) rfl) fun s' mv hS=>?_
   obtain ⟨h',g',dr',tk',os'⟩:=s'
   have e1:g'=s.gens:=mv.gens
   have e2:dr'=s.drawn:=mv.drawn
   have e3:os'=s.os:=mv.os
   subst e1
   subst e2
   subst e3
   refine ao (show wpAny _ _ (ret Value.none) _ _ _ from ao ⟨rfl,h h' tk' hS fun b o e=>?_⟩)
   have lb:=az e
   refine mv.heap b o ?_ (aq _ (aq _ e))
   rw [Heap.size_push]
   intro z
   rcases mem_cons.mp z with z | z
   ·exact absurd z (Nat.ne_of_lt lb)
   ·exact absurd (mem_singleton.mp z) (Nat.ne_of_lt (Nat.lt_succ_of_lt lb))
  ·rcases r2 with e | f2
   ·exact hr2
   cases f2 with
   | ret r =>
    obtain ⟨rfl,hq⟩:=hr2
    repeat (any_goals (first | assumption | wp_step))
   | _=>exact hr2.elim
 | _=>exact hr.elim
end
theorem Fm {P:Program}{w:World}{A:Around}{E:Value→Shared→Prop}{s:Shared}{a:Addr}{xs:Array Value}{n:Nat}{Q:Option Value→Shared→Prop}(hx:s.heap.get? a=some { cls := .type "list",data := .seq xs n }) (hA:A.handled=none)
  (h:∀ h' tk,(∀ b o,s.heap.get? b=some o→h'.get? b=some o)→Q none { s with heap:=h',toks:=tk }):wpAny (model P w) A (getAttr? (.ref a) "keys") Q E s:=by
 have miss:typeLookup (.type "list") "keys" = pure none:=by rw [typeLookup_type,builtinLookup_eq_fast];kernel_rfl
 have nm:(["__module__", "__name__", "__qualname__", "__doc__", "__annotations__"]:List Str).contains "keys" = false:=by decide
 obtain ⟨hp,g,d,tk,os⟩:=s
 have ty:∀ tk',(⟨hp,g,d,tk',os⟩:Shared).TypeIs (.ref a) "list" := fun _=>⟨_,hx,rfl⟩
 have f1:=sub_AttributeError
 have f3:=PySem.F.slot_list_getattribute.lookup
 have f4:=PySem.F.slot_list_getattribute.bind (.ref a)
 have f5:=am_list_getattr_none
 unfold getAttr? getAttrBy? getAttrBy
 repeat (any_goals (first | assumption | exact ty _ | ((with_reducible show wpAny _ _ (call (Value.builtin "list.__getattribute__") _ _) _ _ _);refine call_meets PySem.F.slot_list_getattribute (ty _) am_entry_list_getattribute (PySem.F.args_list_getattribute_2 _ _) (meets_getattribute_miss_list a xs n _ "keys" _ miss nm) ⟨hx,hA,fun h' tk' e hn=>?_⟩) | wp_step))
 obtain ⟨t',u',he⟩:=hn.there
 show wpAny _ _ (getattributeRaised _ _ _ _ _ _ _) _ _ _
 unfold getattributeRaised
 repeat (any_goals (first | assumption | wp_step))
 exact h _ _ hn.keeps
theorem Gd:entryFor table "dict.update.loop" = some Builtin.«dict.update.loop»:=entryFor_of_tree (by kernel_rfl)
theorem QL:plainId "dict.update.loop" = true:=by decide +kernel
structure Pr where
 p:Addr
 k:Key
 kv:Value
 vv:Value
noncomputable def Pr.ok (h:Heap) (r:Pr):Prop:=IsTup h r.p #[r.kv,r.vv]∧Tn r.k r.kv=true
noncomputable def putAll (xs:List Pr):List (Key × Value):=xs.foldl (fun a r=>stored a r.k r.vv) []
theorem putAll_snoc (xs:List Pr) (r:Pr):putAll (xs++[r])=stored (putAll xs) r.k r.vv:=by unfold putAll;rw [foldl_append];rfl
theorem zM {K:Type} [DecidableEq K] (kvs:List (K × Value)) (k:K) (v:Value):(stored kvs k v).length≤kvs.length + 1:=by
 unfold stored
 split <;> simp
theorem Ge (xs:List Pr):(putAll xs).length≤xs.length:=by
 have go:∀ (xs:List Pr) (a:List (Key × Value)),(xs.foldl (fun a r=>stored a r.k r.vv) a).length≤a.length + xs.length:=by
  intro xs
  induction xs with
  | nil=>intro a;exact Nat.le_refl _
  | cons r xs ih =>
   intro a
   have h1:=ih (stored a r.k r.vv)
   have h2:=zM a r.k r.vv
   rw [foldl_cons,length_cons]
   omega
 have:=go xs []
 simpa [putAll] using this
section
variable {P:Program}{w:World}{A:Around}
theorem pair_items {E:Value→Shared→Prop}{s:Shared}{p:Addr}{us:Array Value}{Q:List Value→Shared→Prop}(h:IsTup s.heap p us) (q:Q us.toList s):wpAny (model P w) A (Builtin.Dict.pairItems (.ref p)) Q E s:=by
 obtain ⟨o,ho,hc,n,hd⟩:=h
 have ty:s.TypeIs (.ref p) "tuple" := ⟨o,ho,hc⟩
 unfold Builtin.Dict.pairItems
 refine ak (wpAny_typeOf ty ?_)
 rw [if_pos (by decide)]
 unfold seqItems?
 refine ak (ak (wpAny_load ho ?_))
 rw [hd]
 exact ao (ao q)
theorem vD {R:Result→Shared→Prop}{I Z:Addr}{fp wr:List Addr}{G:Array GenState→Array GenState→Prop}{xs:List Pr}{Pv:Nat→Value→Prop}{St:Nat→Shared→Prop}
  (W:WalksS P w A.in1 I fp wr G xs.length Pv St) (out:Z∉fp) (hv:∀ i v,Pv i v→∃ r,xs[i]?=some r∧v = .ref r.p) (hz:xs.length≤aA) (away:∀ r∈xs,r.p∉Z::wr) :
  ∀ (m i:Nat) (t:Tok) (s:Shared),i + m=xs.length→St i s→(∀ r∈xs,r.ok s.heap)→s.heap.DictOf (ZE P w) Z (putAll (xs.take i)) →
   (∀ s',Moved (Z::wr) G s s'→s'.heap.DictOf (ZE P w) Z (putAll xs)→R (.ok (.ret .none)) s') →
   codeAny (model P w) A (.builtin "dict.update.loop" ⟨[.ref Z,.ref I,.int i t,.none],[]⟩) R s:=by
 have outw:Z∉wr:=fun h=>out (W.sub _ h)
 intro m
 induction m with
 | zero =>
  intro i t s hi st ok hS k
  have ei:i=xs.length:=by omega
  subst ei
  rw [take_length] at hS
  refine codeAny_builtin Gd ?_
  rw [Around.under_plainId QL _]
  refine ak (m:=pyNext (.ref I)) (W.done s _ _ st fun s' mv=>?_)
  refine ak (m:=Builtin.Dict.addKeywords Z []) (ao (ao (k s' (mv.mono fun b h=>mem_cons_of_mem _ h) ?_)))
  obtain ⟨o,es,ep,ho,r⟩:=hS
  exact ⟨o,es,ep,mv.heap Z _ outw ho,r⟩
 | succ m ih =>
  intro i t s hi st ok hS k
  have lt:i < xs.length:=by omega
  refine codeAny_builtin Gd ?_
  rw [Around.under_plainId QL _]
  refine ak (m:=pyNext (.ref I)) (W.item i s _ _ lt st fun v s' pv st' mv=>?_)
  obtain ⟨r,hr,rfl⟩:=hv i v pv
  have rm:r∈xs:=mem_of_getElem? hr
  have ok':∀ r∈xs,r.ok s'.heap:=fun r h=>by
   obtain ⟨⟨o,ho,z⟩,y⟩:=ok r h
   exact ⟨⟨o,mv.heap _ _ (fun q=>away r h (mem_cons_of_mem _ q)) ho,z⟩,y⟩
  have hS':s'.heap.DictOf (ZE P w) Z (putAll (xs.take i)):=by
   obtain ⟨o,es,ep,ho,r⟩:=hS
   exact ⟨o,es,ep,mv.heap Z _ outw ho,r⟩
  have et:xs.take (i + 1)=xs.take i++[r]:=by rw [take_add_one,hr];rfl
  have fits:(putAll (xs.take i)).length≤aA:=by
   have:=Ge (xs.take i)
   rw [length_take] at this
   omega
  refine ak (wpAny_holding (ak (wpAny_tryCatch (pair_items (ok' r rm).1 (wpAny_holding ?_)))))
  unfold dictSet
  refine wpAny_holding (ak ((ZE P w).pyHash (k:=r.k) (ok' r rm).2 (wpAny_dictSetHashed_pairs (s:={ s' with toks:=s'.toks + 1 }) (ok' r rm).2 hS' (fun h' hS2 sb=>?_) fits)))
  rw [←putAll_snoc,←et] at hS2
  refine ao ⟨plainId_quiet QL _,ih (i + 1) _ _ (by omega) (W.frame _ s' _ _ st' (Nat.le_succ _) fun b hb o e=>?_) (fun r h=>?_) hS2 fun s'' mv' hS4=>k s'' (Moved.trans W.gtrans ((mv.mono fun b h=>mem_cons_of_mem _ h).then_heap (Nat.le_succ _) fun b o nb e=>?_) mv') hS4⟩
  ·exact (sb.2 b (fun y=>out (y ▸ hb))).trans e
  ·obtain ⟨⟨o,ho,z⟩,y⟩:=ok' r h
   exact ⟨⟨o,(sb.2 _ (fun y=>away r h (y ▸ mem_cons_self))).trans ho,z⟩,y⟩
  ·exact (sb.2 b (fun y=>nb (y ▸ mem_cons_self))).trans e
noncomputable def Fo:Obj:={ cls := .type "dict",data := .dict #[] }
theorem zN {E:Value→Shared→Prop}{s:Shared}{l:Addr}{us:List Value}{n:Nat}{xs:List Pr}{Q:Value→Shared→Prop}(hh:A.handled=none) (hl:s.heap.get? l=some { cls := .type "list",data := .seq us.toArray n }) (en:us=xs.map fun r => .ref r.p)
  (ok:∀ r∈xs,r.ok s.heap) (hz:xs.length≤aA)
  (h:∀ (h':Heap) (tk:Nat),h'.DictOf (ZE P w) s.heap.objs.size (putAll xs)→(∀ b o,s.heap.get? b=some o→h'.get? b=some o)→Q (.ref s.heap.objs.size) { s with heap:=h',toks:=tk }) :
  wpAny (model P w) A (call (.type "dict") [.ref l]) Q E s:=by
 refine callType_codes (Q₁:=fun ob s1=>ob = .ref s.heap.objs.size∧s1={ s with heap:=s.heap.push Fo }) PySem.F.kt_called_dict (PySem.F.kt_typeCall_dict_1 _) PySem.F.entry_dict_init (kt_code_dict_new _ ⟨rfl,rfl⟩) ?_
 rintro ob s1 ⟨rfl,rfl⟩
 have new:(s.heap.push Fo).DictOf (ZE P w) s.heap.objs.size []:=Heap.DictOf.new s.heap
 have lts:l < s.heap.objs.size:=az hl
 have hl1:(s.heap.push Fo).get? l=some { cls := .type "list",data := .seq us.toArray n }:=aq _ hl
 have ty:Shared.TypeIs { s with heap:=s.heap.push Fo } (.ref l) "list" := ⟨_,hl1,rfl⟩
 refine ⟨new.typeIs,PySem.F.args_dict_init_2 _ _,?_⟩
 unfold Builtin.«dict.__init__»
 refine ak ?_
 unfold Builtin.Dict.selfAndRest
 refine ak (wpAny_notOrdered_dict new.typeIs (show wpAny _ _ (pure (s.heap.objs.size,[Value.ref l])) _ _ _ from ao ?_))
 show wpAny _ _ (Builtin.Dict.updateFrom "dict.__init__" s.heap.objs.size (.ref l) [] .none) _ _ _
 unfold Builtin.Dict.updateFrom
 refine ak (wpAny_typeOf ty ?_)
 rw [if_pos (by decide)]
 refine ak (Fm hl1 (by simp [hh]) fun h1 tk1 k1=>?_)
 have l1:h1.IsList l us.toArray:=⟨_,k1 _ _ hl1,rfl,n,rfl⟩
 have new1:h1.DictOf (ZE P w) s.heap.objs.size []:=by
  obtain ⟨o,es,ep,ho,r⟩:=new
  exact ⟨o,es,ep,k1 _ _ ho,r⟩
 have lt1:l < h1.objs.size:=az (k1 _ _ hl1)
 have ltn:s.heap.objs.size < h1.objs.size:=by
  obtain ⟨o,es,ep,ho,r⟩:=new1
  exact az ho
 refine ak (wpAny_rule (ak (wpAny_pyIter_list l1 ?_)))
 have W:=(Walks.list (prog:=P) (w:=w) (A:=A.in1.in1) (by simp [hh]) h1.objs.size l (Nat.ne_of_lt lt1) us.toArray).toS
 have out:s.heap.objs.size∉[h1.objs.size,l]:=fun z=>by
  rcases mem_cons.mp z with z | z
  ·exact absurd z (Nat.ne_of_lt ltn)
  ·exact absurd (mem_singleton.mp z) (Nat.ne_of_gt lts)
 have el:us.toArray.size=xs.length:=by rw [en];simp
 rw [el] at W
 have keep:∀ b o,s.heap.get? b=some o→h1.get? b=some o:=fun b o e=>k1 _ _ (aq _ e)
 refine ao ⟨plainId_quiet QL _,vD W out (fun i v hv=>?_) hz (fun r hr z=>?_) xs.length 0 0 _ (by omega) ⟨⟨_,au _ rfl,rfl,rfl⟩,l1.push _⟩ (fun r hr=>?_) ?_ fun s' mv hS=>?_⟩
 ·have hv:us.toArray[i]?=some v:=hv
  rw [en] at hv
  simp at hv
  obtain ⟨r,h1,h2⟩:=hv
  exact ⟨r,h1,h2.symm⟩
 ·obtain ⟨⟨o,ho,_⟩,_⟩:=ok r hr
  have lb:=az ho
  rcases mem_cons.mp z with z | z
  ·exact absurd z (Nat.ne_of_lt lb)
  ·exact absurd (mem_singleton.mp z) (Nat.ne_of_lt (Nat.lt_trans lb ltn))
 ·obtain ⟨⟨o,ho,z⟩,y⟩:=ok r hr
  exact ⟨⟨o,aq _ (keep _ _ ho),z⟩,y⟩
 ·obtain ⟨o,es,ep,ho,r⟩:=new1
  exact ⟨o,es,ep,aq _ ho,r⟩
 ·obtain ⟨h',g',dr',tk',os'⟩:=s'
  have e1:g'=s.gens:=mv.gens
  have e2:dr'=s.drawn:=mv.drawn
  have e3:os'=s.os:=mv.os
  subst e1
  subst e2
  subst e3
  refine ⟨rfl,h h' tk' hS fun b o e=>?_⟩
  have lb:=az e
  refine mv.heap b o (fun z=>?_) (aq _ (keep _ _ e))
  rcases mem_cons.mp z with z | z
  ·exact absurd z (Nat.ne_of_lt lb)
  ·exact absurd (mem_singleton.mp z) (Nat.ne_of_lt (Nat.lt_trans lb ltn))
end
noncomputable def Ik (h:Heap) (a:Addr) (n:Nat):Prop:=∃ o es ep t,h.get? a=some o∧o.ExactSet∧o.data = .set es ep t∧t.fits es.size=true∧es.size=n
theorem zO {P:Program}{w:World}{H:Hp}{h:Heap}{a:Addr}{n:Nat}(z:Ik h a n):ZZ P w H h a (.ext fun h=>Ik h a n):=by
 refine ⟨z,?_,fun h1 h2 z k=>?_⟩
 ·obtain ⟨o,es,ep,t,ho,_⟩:=z
  exact ⟨o,ho⟩
 ·obtain ⟨o,es,ep,t,ho,r⟩:=z
  exact ⟨o,es,ep,t,k _ ho,r⟩
theorem rj {ks:List Key}:∀ {us:List Value},Vals (ks.map kV) us→us.length=ks.length∧∀ (i:Nat) v,us[i]?=some v→∃ k,ks[i]?=some k∧Tn k v=true:=by
 induction ks with
 | nil=>intro us r;cases r;exact ⟨rfl,fun i v h=>by simp at h⟩
 | cons k ks ih =>
  intro us r
  cases r with
  | @cons _ u _ us r1 r2 =>
   obtain ⟨e,h⟩:=ih r2
   refine ⟨by rw [length_cons,length_cons,e],fun i v hv=>?_⟩
   cases i with
   | zero =>
    simp at hv
    subst hv
    refine ⟨k,rfl,?_⟩
    cases k with
    | inl i=>obtain ⟨t,rfl⟩:=r1;exact Mo i t
    | inr x=>obtain ⟨t,rfl⟩:=r1;exact Mp x t
   | succ i=>exact h i v (by simpa using hv)
section
variable {X:Cx}{XE:St→XK}
theorem zP (hc:X.calm=true):YW X (.type "set") (fun xs H Q=>∃ p ks,xs=[.ref p]∧SqL X.K H p (ks.map kV)∧ks.length + 1 < scanBound∧∀ l,H l=none→Q (.ref l) (upd H l (.ext fun h=>Ik h l (dedup ks).length))):=by
 intro pins s σ H xs us Q I r h
 obtain ⟨p,ks,rfl,hq,hb,q⟩:=h
 obtain ⟨u,rfl,rx⟩:=vals1 r
 cases rx
 obtain ⟨its,r',pl,hz⟩:=I.list hq
 obtain ⟨e,hk⟩:=rj r'
 refine vC (I.ok.hd hc) pl.isList (by simpa using e) (fun i v hv=>hk i v (by simpa using hv)) hb fun h' tk hS kp=>?_
 have z:Ik h' s.heap.objs.size (dedup ks).length:=by
  obtain ⟨o,es,ep,t,ho,hex,hd,_,_,_,hf,hn⟩:=hS
  exact ⟨o,es,ep,t,ho,hex,hd,hf,hn⟩
 exact ⟨.ref s.heap.objs.size,_,I.laid (t':=tk) kp (Nat.le_refl _) (zO z),rfl,q _ (I.hok.fresh (Nat.le_refl _))⟩
theorem EK:YW X (.builtin "len") (fun xs H Q=>∃ p n,xs=[.ref p]∧H p=some (.ext fun h=>Ik h p n)∧(n:Int) < 2 ^ 63∧Q (.int n) H):=by
 intro pins s σ H xs us Q I r h
 obtain ⟨p,n,rfl,hq,hb,q⟩:=h
 obtain ⟨u,rfl,rx⟩:=vals1 r
 cases rx
 obtain ⟨z,_⟩:=I.hok p _ hq
 obtain ⟨o,es,ep,t,ho,hex,hd,hf,hn⟩:=z
 exact call_len_set ho hex hd hf (by rw [hn];exact hb) ⟨.int n,H,I.tok _,⟨_,by rw [hn]⟩,q⟩
noncomputable def Fp (H:Hp):List Addr→List (Key × V)→Prop:=Paired fun a kv=>H a=some (.tup [kV kv.1,kv.2])
theorem nY {P:Program}{w:World}{H:Hp}{h:Heap}(ok:HOk P w H h):∀ {ps:List Addr}{kvs:List (Key × V)},Fp H ps kvs→∃ xs:List Pr,xs.map (·.p)=ps∧(∀ r∈xs,r.ok h)∧KV kvs (xs.map fun r=>(r.k,r.vv)):=by
 intro ps kvs r
 induction r with
 | nil=>exact ⟨[],rfl,fun r h=>by simp at h,.nil⟩
 | @cons a kv ps kvs ha _ ih =>
  obtain ⟨xs,h1,h2,h3⟩:=ih
  obtain ⟨_,its,rv,ht⟩:=ok a _ ha
  obtain ⟨u1,us,e1,r1,r2⟩:∃ u1 us,its=u1::us∧RelV (kV kv.1) u1∧Vals [kv.2] us:=by cases rv with | cons a b=>exact ⟨_,_,rfl,a,b⟩
  obtain ⟨u2,e2,r3⟩:=vals1 r2
  subst e1 e2
  have kk:Tn kv.1 u1=true:=by
   cases q:kv.1 with
   | inl i=>rw [q] at r1;obtain ⟨t,rfl⟩:=r1;exact Mo i t
   | inr x=>rw [q] at r1;obtain ⟨t,rfl⟩:=r1;exact Mp x t
  refine ⟨⟨a,kv.1,u1,u2⟩::xs,by rw [map_cons,h1],fun r h=>?_,.cons ⟨rfl,r3⟩ h3⟩
  rcases mem_cons.mp h with rfl | h
  ·exact ⟨ht,kk⟩
  ·exact h2 r h
theorem zQ:∀ (xs:List Pr) {kvs:List (Key × V)},KV kvs (xs.map fun r=>(r.k,r.vv))→KV (JC [] kvs) (putAll xs):=by
 have go:∀ (xs:List Pr) {kvs acc:List (Key × V)}{va:List (Key × Value)},KV kvs (xs.map fun r=>(r.k,r.vv))→KV acc va→KV (kvs.foldl (fun acc kv=>putK acc kv.1 kv.2) acc) (xs.foldl (fun a r=>stored a r.k r.vv) va):=by
  intro xs
  induction xs with
  | nil=>intro kvs acc va r ra;cases r;exact ra
  | cons x xs ih =>
   intro kvs acc va r ra
   rw [map_cons] at r
   cases r with
   | @cons kv _ kvs _ r1 r2 =>
    rw [foldl_cons,foldl_cons]
    refine ih r2 ?_
    rw [r1.1]
    exact ra.put _ r1.2
 exact fun xs kvs r=>go xs r .nil
theorem CB (hc:X.calm=true):YW X (.type "dict") (fun xs H Q=>∃ p ps kvs,xs=[.ref p]∧H p=some (.lst (ps.map .ref))∧Fp H ps kvs∧∀ l,H l=none→Q (.ref l) (upd H l (.dK (JC [] kvs)))):=by
 intro pins s σ H xs us Q I r h
 obtain ⟨p,ps,kvs,rfl,hq,hp,q⟩:=h
 obtain ⟨u,rfl,rx⟩:=vals1 r
 cases rx
 obtain ⟨hz,its,n,rv,ho⟩:=I.hok p _ hq
 obtain ⟨rs,e1,ok,rk⟩:=nY I.hok hp
 have el:rs.length=ps.length:=by rw [←e1,length_map]
 rw [length_map] at hz
 refine zN (I.ok.hd hc) ho (xs:=rs) (by rw [Mt rv,←e1,map_map];rfl) ok (by omega) fun h' tk hd kp=>?_
 have rm:=zQ rs rk
 refine ⟨.ref s.heap.objs.size,_,I.laid (t':=tk) kp (Nat.le_refl _) (show ZZ X.prog X.w _ h' _ (.dK (JC [] kvs)) from ⟨?_,?_,_,rm,hd⟩),rfl,q _ (I.hok.fresh (Nat.le_refl _))⟩
 ·rw [rm.length]
  have:=Ge rs
  omega
 ·exact beq_false_of_ne (Nat.ne_of_gt I.big)
theorem zR {kvs:List (Key × V)}{vs:List (Key × Value)}(r:KV kvs vs):∀ {us:List Value},us.length=vs.length→(∀ (i:Nat) v,us[i]?=some v→∃ k x,vs[i]?=some (k,x)∧Tn k v=true)→Vals (kvs.map fun kv=>kV kv.1) us:=by
 induction r with
 | nil=>intro us e _;rw [length_nil,List.length_eq_zero_iff] at e;rw [e];exact .nil
 | @cons kv ku kvs vs r1 _ ih =>
  intro us e h
  cases us with
  | nil=>simp at e
  | cons u us =>
   refine .cons ?_ (ih (by simpa using e) fun i v hv=>?_)
   ·obtain ⟨k,x,h1,h2⟩:=h 0 u rfl
    simp at h1
    show RelV (kV kv.1) u
    rw [r1.1,h1]
    rcases Yf h2 with ⟨i,t,rfl,rfl⟩ | ⟨y,t,rfl,rfl⟩
    ·exact ⟨t,rfl⟩
    ·exact ⟨t,rfl⟩
   ·obtain ⟨k,x,h1,h2⟩:=h (i + 1) v (by simpa using hv)
    exact ⟨k,x,by simpa using h1,h2⟩
theorem CC (hc:X.calm=true):YW X (.type "list") (fun xs H Q=>∃ p kvs,xs=[.ref p]∧H p=some (.dK kvs)∧∀ l,H l=none→Q (.ref l) (upd H l (.lst (kvs.map fun kv=>kV kv.1)))):=by
 intro pins s σ H xs us Q I r h
 obtain ⟨p,kvs,rfl,hq,q⟩:=h
 obtain ⟨u,rfl,rx⟩:=vals1 r
 cases rx
 obtain ⟨hz,lo,vs,rk,hd⟩:=I.hok p _ hq
 obtain ⟨ep,hat⟩:=hd.dictAt
 refine PySem.W.kdl_call (PySem.W.kdl_dict (knd:=ZE X.prog X.w) (kvs:=vs) (ep:=ep) lo) (I.ok.hd hc) hat (by rw [←rk.length];exact hz) fun h' tk acc c kp e it=>?_
 refine ⟨.ref s.heap.objs.size,_,I.laid (t':=tk) kp (Nat.le_refl _) (show ZZ X.prog X.w _ h' _ (.lst (kvs.map fun kv=>kV kv.1)) from ⟨by rw [length_map];exact hz,acc.toList,c,zR rk ?_ ?_,e⟩),rfl,q _ (I.hok.fresh (Nat.le_refl _))⟩
 ·rw [Array.length_toList];exact it.1
 ·exact fun i v hv=>it.2 i v (by simpa using hv)
theorem rn {y:Str}{q:Str→Prop}:D.fmt (.str y) q=(y.length≤100000∧q y):=rfl
theorem rp {i:Int}{q:Str→Prop}:D.fmt (.int i) q=(i.natAbs.log2 < 1920∧(toString i:Str).length≤100000∧q (toString i)):=rfl
noncomputable def kD:Key→D
 | .inl i => .int i
 | .inr x => .str x
noncomputable def D.key:D→Option Key
 | .int i=>some (.inl i)
 | .str x=>some (.inr x)
 | _=>none
theorem rp_kD {K:aj}{H:Hp}(k:Key):Rp K H (kD k) (kV k):=by cases k <;> rfl
theorem vE {K:aj}{H:Hp}{k:Key}{v:V}(r:Rp K H (kD k) v):v=kV k:=by
 cases k <;> exact r
theorem vF {K:aj}{H:Hp}:∀ {ks:List Key}{vs:List V},Rps K H (ks.map kD) vs→vs=ks.map kV:=by
 intro ks
 induction ks with
 | nil=>intro vs r;exact r
 | cons k ks ih =>
  intro vs r
  obtain ⟨v,us,rfl,r1,r2⟩:=r
  rw [vE r1,ih r2,map_cons]
noncomputable def Ao (de:DE):DE:=fun ds q x=>de ds (fun d=>∃ ks:List Key,d = .lst (ks.map kD)∧ks.length < 4000∧q (.int (dedup ks).length)) x
theorem zS {p1 pos1 p2 pos2:Pos}{e:Expr}{de:DE}(hg:Gl X "len") (hm:X.mg "len" = none) (hg':Gl X "set") (hm':X.mg "set" = none) (he:JE X XE e de) (hc:autoParam (X.calm=true) auR)
  (h1:autoParam (noStar e=true) auR) (hst:autoParam (ZS [e]=true) auR):JE X XE (.Call (.Name "len" p1) [.Call (.Name "set" p2) [e] [] pos2] [] pos1) (Ao de):=by
 obtain ⟨te,p,d⟩:=he.ex
 refine ⟨_,pe_b EK hg hm PySem.boot_len (Ei (qJ (zP hc) hg' hm' PyProof.Rows.boot_set (Ei p PX h1) hst) PX rfl) rfl,fun c h k kx=>d c h (fun v a H1 H2 e r h=>?_) kx⟩
 obtain ⟨ks,rfl,hb,hq⟩:=h
 obtain ⟨l,vs,rfl,h5,h6⟩:=r
 rw [vF h6] at h5
 refine ⟨l,ks,rfl,SqL.of (e.sub _ _ h5),by unfold scanBound;omega,fun n hn=>⟨n,_,rfl,Zu,?_,k _ (.int _) _ _ (e.trans (.grow e.sub (Zv.upd hn))) rfl hq⟩⟩
 have:=Ij ks
 omega
noncomputable def Tz (kvs:List (Key × D)) (k:Key) (d:D):List (Key × D):=if kvs.any (fun kv=>decide (kv.1=k)) then kvs.map (fun kv=>if kv.1=k then (kv.1,d) else kv) else kvs++[(k,d)]
noncomputable def RY (kvs more:List (Key × D)):List (Key × D):=more.foldl (fun acc kv=>Tz acc kv.1 kv.2) kvs
theorem rq {K:aj}{H:Hp}(k:Key):∀ {gs:List (Key × D)}{kvs:List (Key × V)},Rks K H gs kvs→(kvs.any fun kv=>decide (kv.1=k))=gs.any fun kv=>decide (kv.1=k):=by
 intro gs
 induction gs with
 | nil=>intro kvs r;rw [show kvs=[] from r];rfl
 | cons g gs ih =>
  intro kvs r
  obtain ⟨v,us,rfl,_,r2⟩:=r
  rw [any_cons,any_cons,ih r2]
theorem rA {K:aj}{H:Hp}{k:Key}{d:D}{v:V}(rd:Rp K H d v):∀ {gs:List (Key × D)}{kvs:List (Key × V)},Rks K H gs kvs→Rks K H (gs++[(k,d)]) (kvs++[(k,v)]):=by
 intro gs
 induction gs with
 | nil=>intro kvs r;rw [show kvs=[] from r];exact ⟨v,[],rfl,rd,rfl⟩
 | cons g gs ih =>
  intro kvs r
  obtain ⟨u,us,rfl,r1,r2⟩:=r
  exact ⟨u,_,rfl,r1,ih r2⟩
theorem vG {K:aj}{H:Hp}{k:Key}{d:D}{v:V}(rd:Rp K H d v):∀ {gs:List (Key × D)}{kvs:List (Key × V)},Rks K H gs kvs →
  Rks K H (gs.map fun kv=>if kv.1=k then (kv.1,d) else kv) (kvs.map fun kv=>if kv.1=k then (kv.1,v) else kv):=by
 intro gs
 induction gs with
 | nil=>intro kvs r;rw [show kvs=[] from r];rfl
 | cons g gs ih =>
  intro kvs r
  obtain ⟨u,us,rfl,r1,r2⟩:=r
  obtain ⟨g1,g2⟩:=g
  rw [map_cons,map_cons]
  by_cases e:g1=k
  ·rw [if_pos e,if_pos e]
   exact ⟨v,_,rfl,rd,ih r2⟩
  ·rw [if_neg e,if_neg e]
   exact ⟨u,_,rfl,r1,ih r2⟩
theorem Ap {K:aj}{H:Hp}{k:Key}{d:D}{v:V}{gs:List (Key × D)}{kvs:List (Key × V)}(r:Rks K H gs kvs) (rd:Rp K H d v):Rks K H (Tz gs k d) (putK kvs k v):=by
 unfold Tz putK
 rw [rq k r]
 split
 ·exact vG rd r
 ·exact rA rd r
theorem zT {K:aj}{H:Hp}:∀ {more:List (Key × D)}{mv:List (Key × V)}{gs:List (Key × D)}{kvs:List (Key × V)},Rks K H more mv→Rks K H gs kvs→Rks K H (RY gs more) (JC kvs mv):=by
 intro more
 induction more with
 | nil=>intro mv gs kvs rm r;rw [show mv=[] from rm];exact r
 | cons m more ih =>
  intro mv gs kvs rm r
  obtain ⟨v,us,rfl,r1,r2⟩:=rm
  show Rks K H (RY (Tz gs m.1 m.2) more) (JC (putK kvs m.1 v) us)
  exact ih r2 (Ap r r1)
noncomputable def prD (kv:Key × D):D := .tup [kD kv.1,kv.2]
theorem rB {K:aj}{H H':Hp}(s:Zv H H'):∀ {kvs:List (Key × D)}{vs:List V},Rps K H (kvs.map prD) vs→∃ ps mv,vs=ps.map V.ref∧Fp H' ps mv∧Rks K H kvs mv:=by
 intro kvs
 induction kvs with
 | nil=>intro vs r;exact ⟨[],[],r,.nil,rfl⟩
 | cons kv kvs ih =>
  intro vs r
  obtain ⟨v,us,rfl,r1,r2⟩:=r
  obtain ⟨ps,mv,rfl,h1,h2⟩:=ih r2
  obtain ⟨a,ws,rfl,h3,h4⟩:=r1
  obtain ⟨v1,v2,rfl,h5,h6⟩:=xY h4
  refine ⟨a::ps,(kv.1,v2)::mv,rfl,.cons ?_ h1,v2,mv,rfl,h6,h2⟩
  rw [vE h5] at h3
  exact s _ _ h3
noncomputable def nZ (xs:List D) (q:D→Prop):Prop:=∃ kvs:List (Key × D),xs=[.lst (kvs.map prD)]∧q (.dic (RY [] kvs))
theorem md {K:aj}{H:Hp}{p:Addr}{gs:List (Key × D)}{kvs:List (Key × V)}(r:Rks K H gs kvs) (hp:H p=none):Rp K (upd H p (.dK kvs)) (.dic gs) (.ref p):=⟨p,kvs,rfl,Zu,r.same (Zv.upd hp)⟩
theorem rC (hc:autoParam (X.calm=true) auR):Tu X (.type "dict") nZ:=by
 refine ⟨_,CB hc,fun {H0 H vs xs q Q} s r h k=>?_⟩
 obtain ⟨kvs,rfl,hq⟩:=h
 obtain ⟨v,rfl,p,ws,rfl,h1,h2⟩:=Uy r
 obtain ⟨ps,mv,rfl,h3,h4⟩:=rB s h2
 exact ⟨p,ps,mv,rfl,s _ _ h1,h3,fun l hl=>k _ (.dic _) _ _ (.put s hl) (md (zT h4 (show Rks X.K H0 [] [] from rfl)) (s.free hl)) hq⟩
noncomputable def me (xs:List D) (q:D→Prop):Prop:=∃ kvs:List (Key × D),xs=[.dic kvs]∧q (.lst (kvs.map fun kv=>kD kv.1))
theorem mh {K:aj}{H:Hp}:∀ {gs:List (Key × D)}{kvs:List (Key × V)},Rks K H gs kvs→Rps K H (gs.map fun kv=>kD kv.1) (kvs.map fun kv=>kV kv.1):=by
 intro gs
 induction gs with
 | nil=>intro kvs r;rw [show kvs=[] from r];rfl
 | cons g gs ih =>
  intro kvs r
  obtain ⟨u,us,rfl,r1,r2⟩:=r
  exact ⟨_,_,rfl,rp_kD _,ih r2⟩
theorem vH (hc:autoParam (X.calm=true) auR):Tu X (.type "list") me:=by
 refine ⟨_,CC hc,fun {H0 H vs xs q Q} s r h k=>?_⟩
 obtain ⟨kvs,rfl,hq⟩:=h
 obtain ⟨v,rfl,p,ws,rfl,h1,h2⟩:=Uy r
 exact ⟨p,ws,rfl,s _ _ h1,fun l hl=>k _ (.lst _) _ _ (.put s hl) (Vh (mh h2) (s.free hl)) hq⟩
noncomputable def D.fld (K:aj) (f:Str) (d:D) (q:D→Prop):Prop:=∃ C gs v,d = .obj C gs∧Cls K C∧YN K C f∧gs.lookup f=some v∧q v
theorem D.SH {K:aj}{f:Str}{C:Addr}{gs:List (Str × D)}{v:D}{q:D→Prop}(c:Cls K C) (n:YN K C f) (l:gs.lookup f=some v):D.fld K f (.obj C gs) q=q v:=by
 refine propext ⟨?_,fun h=>⟨C,gs,v,rfl,c,n,l,h⟩⟩
 rintro ⟨C',gs',v',e,_,_,l',h⟩
 cases e
 rw [l] at l'
 cases l'
 exact h
theorem mj {K:aj}{f:Str}{de:DE}{ds:DSt}{q:D→Prop}{x:Addr→Prop}:dFld K f de ds q x=de ds (fun d=>d.fld K f q) x:=rfl
end
section
variable {X:Cx}
noncomputable def ml:D→List D→(D→Prop)→Prop
 | .lst xs,[.str a]=>fun q=>∃ zs,texts xs=some zs∧a∈zs∧q (.int (zs.idxOf a:Nat))
 | _,_=>fun _=>False
theorem rD {zs:List Str}{a:Str}{q:D→Prop}:ml (.lst (zs.map .str)) [.str a] q=(a∈zs∧q (.int (zs.idxOf a:Nat))):=by
 show (∃ cs,texts _=some cs∧_)=_
 rw [Ga]
 simp only [Option.some.injEq,exists_eq_left']
end
noncomputable def sIt (tp:Bool) (h:Heap) (I l:Addr) (k:Nat):Prop:=if tp=true then h.IsTupleIter I l k else h.IsListIter I l k
noncomputable def sOb (tp:Bool) (h:Heap) (l:Addr) (xs:Array Value):Prop:=if tp=true then h.IsTuple l xs else h.IsList l xs
theorem sIt.mv {tp:Bool}{h h':Heap}{I l:Addr}{k:Nat}(x:sIt tp h I l k) (m:∀ o,h.get? I=some o→h'.get? I=some o):sIt tp h' I l k:=by
 cases tp <;> exact let ⟨o,ho,r⟩:=x;⟨o,m o ho,r⟩
theorem sOb.mv {tp:Bool}{h h':Heap}{l:Addr}{xs:Array Value}(x:sOb tp h l xs) (m:∀ o,h.get? l=some o→h'.get? l=some o):sOb tp h' l xs:=by
 cases tp <;> exact let ⟨o,ho,r⟩:=x;⟨o,m o ho,r⟩
theorem sIt.at {tp:Bool}{h:Heap}{I l:Addr}{k:Nat}(x:sIt tp h I l k):∃ o,h.get? I=some o∧o.data = .fields #[.ref l,.int k 0]:=by
 cases tp <;> exact let ⟨o,ho,_,d⟩:=x;⟨o,ho,d⟩
section
variable {P:Program}{w:World}{A:Around}{E:Value→Shared→Prop}{s:Shared}
theorem UD {tp:Bool}{I l:Addr}{k:Nat}{xs:Array Value}{x:Value}{Q:Value→Shared→Prop}(it:sIt tp s.heap I l k) (ob:sOb tp s.heap l xs) (hx:xs[k]?=some x)
  (hQ:∀ h',sIt tp h' I l (k + 1)→aF I s.heap h'→Q x { s with heap:=h' }):wpAny (model P w) A (Builtin.SmallTypes.nextOf (.ref I)) Q E s:=by
 cases tp with
 | false=>exact wpAny_nextOf_list_item it ob hx hQ
 | true =>
  obtain ⟨o,ho,hc,hd⟩:=id it
  obtain ⟨ol,hol,_,nl,hdl⟩:=ob
  have ty:s.TypeIs (.ref I) "tuple_iterator" := ⟨o,ho,hc⟩
  unfold Builtin.SmallTypes.nextOf
  refine ak (wpAny_callSpecial?_slot (name:=Str.ofString "__next__") ty PySem.F.slot_tuple_iterator_next (wpAny_call_entry PySem.F.slot_tuple_iterator_next ty PySem.F.entry_tuple_iterator_next ?_ (PySem.F.args_tuple_iterator_next_1 _)))
  refine ak (m:=field (.ref I) 0) (wpAny_field ho hd (x := .ref l) rfl ?_)
  show wpAny _ _ (if (Value.ref l == Value.none)=true then _ else _) _ _ s
  rw [if_neg (fun z=>by cases z)]
  refine ak (m:=field (.ref I) 1) (wpAny_field ho hd (x := .int k 0) rfl (ak (m:=seqItems? (.ref l)) (wpAny_seqItems hol hdl ?_)))
  simp only [Int.toNat_natCast,hx]
  refine ak (wpAny_setField ho hd (by simp) (ao ⟨x,rfl,ao (hQ _ (show Heap.IsTupleIter _ I l (k + 1) from ⟨_,Heap.get?_update_self _ ho (Obj.isFreed_of_fields (Obj.data_mapFields hd _)),(Obj.cls_mapFields ..).trans hc,?_⟩) (Heap.SameBut.update ..))⟩))
  rw [Obj.data_mapFields hd]
  simp [rawInt]
theorem Il {tp:Bool}{I l:Addr}{k:Nat}{xs:Array Value}{Q:Value→Shared→Prop}(hh:A.handled=none) (it:sIt tp s.heap I l k) (ob:sOb tp s.heap l xs) (hx:xs[k]?=none)
  (hE:∀ h' e,Heap.ExtBut I s.heap h'→(∃ o,h'.get? e=some o∧o.cls = .type "StopIteration")→E (.ref e) { s with heap:=h' }):wpAny (model P w) A (Builtin.SmallTypes.nextOf (.ref I)) Q E s:=by
 cases tp with
 | false=>exact wpAny_nextOf_list_end hh it ob hx hE
 | true =>
  obtain ⟨o,ho,hc,hd⟩:=id it
  obtain ⟨ol,hol,_,nl,hdl⟩:=ob
  have ty:s.TypeIs (.ref I) "tuple_iterator" := ⟨o,ho,hc⟩
  unfold Builtin.SmallTypes.nextOf
  refine ak (wpAny_callSpecial?_slot (name:=Str.ofString "__next__") ty PySem.F.slot_tuple_iterator_next (wpAny_call_entry PySem.F.slot_tuple_iterator_next ty PySem.F.entry_tuple_iterator_next ?_ (PySem.F.args_tuple_iterator_next_1 _)))
  refine ak (m:=field (.ref I) 0) (wpAny_field ho hd (x := .ref l) rfl ?_)
  show wpAny _ _ (if (Value.ref l == Value.none)=true then _ else _) _ _ s
  rw [if_neg (fun z=>by cases z)]
  refine ak (m:=field (.ref I) 1) (wpAny_field ho hd (x := .int k 0) rfl (ak (m:=seqItems? (.ref l)) (wpAny_seqItems hol hdl ?_)))
  simp only [Int.toNat_natCast,hx]
  refine ak (wpAny_rule (ak (wpAny_setField ho hd (by simp) (ak (m:=newExc (.type "StopIteration") []) ?_))))
  simp only [newExc,newTuple]
  refine ak (wpAny_newObj_type (ak (m:=firstArgMember _ _) (wpAny_of_eq (a:=Value.none) (by first | rfl | (simp only [firstArgMember];rfl)) (wpAny_newObj_type ?_ (by size_fits)))) (by size_fits))
  simp only [raiseNew]
  refine ak (wpAny_handled ?_)
  rw [show A.in1.handled=none from hh]
  exact ak (ao (wpAny_throw (hE _ _ (((Heap.SameBut.update ..).extBut.push _).push _) ⟨_,au _ rfl,rfl⟩)))
structure Zp (b1 b2:Bool) (h:Heap) (z TI TO i1 i2 l1 l2:Addr) (k:Nat) (f0:Value) (xs ys:Array Value):Prop where
 zip:IsZip h z TI TO f0
 ti:IsPair h TI (.ref i1) (.ref i2)
 to:∃ a b,IsPair h TO a b
 it1:sIt b1 h i1 l1 k
 it2:sIt b2 h i2 l2 k
 ob1:sOb b1 h l1 xs
 ob2:sOb b2 h l2 ys
theorem vI {b1 b2:Bool}{z TI TO i1 i2 l1 l2:Addr}{k:Nat}{xs ys:Array Value}{x y:Value}{Q:Value→Shared→Prop}(D:ZipApart z TI TO i1 i2 l1 l2) (Z:Zp b1 b2 s.heap z TI TO i1 i2 l1 l2 k .none xs ys) (hx:xs[k]?=some x) (hy:ys[k]?=some y)
  (hQ:∀ h',Zp b1 b2 h' z TI TO i1 i2 l1 l2 (k + 1) (rawInt s.heap.objs.size) xs ys→IsPair h' s.heap.objs.size x y→(∀ c o,c≠z→c≠TO→c≠i1→c≠i2→s.heap.get? c=some o→h'.get? c=some o)→Q (.ref s.heap.objs.size) { s with heap:=h' }) :
  wpAny (model P w) A (Builtin.«zip.__next__» ⟨[.ref z],[]⟩) (fun fin s'=>∃ v,fin = .done (.ret v)∧Q v s') E s:=by
 obtain ⟨hz,hTI,⟨a,b,hTO⟩,h1,h2,o1,o2⟩:=Z
 refine ak (m:=field (.ref z) 2) (wpAny_field hz rfl (x := .bool false) rfl ?_)
 refine ak (m:=field (.ref z) 3) (wpAny_field hz rfl (x := .ref TI) rfl (ak (wpAny_seqItems hTI rfl ?_)))
 refine ak (m:=Builtin.SmallTypes.ownedTupleIsFree (.ref z)) ?_
 unfold Builtin.SmallTypes.ownedTupleIsFree
 refine ak (wpAny_field hz rfl (x := .none) rfl (ao ?_))
 simp only [if_true]
 refine ak (wpAny_rule (ak (wpAny_field hz rfl (x := .ref TO) rfl (ak (wpAny_setField_rec hz (by simp) fun g1 gz gs=>ak ?_)))))
 replace gz:IsZip g1 z TI TO .ellipsis:=gz
 have m1:∀ c o,c≠z→s.heap.get? c=some o→g1.get? c=some o:=fun c o n e=>gs.extBut _ _ n e
 simp only [zipIdx_cons,zipIdx_nil,forIn_cons,forIn_nil]
 refine ak (ak (wpAny_onRaise (ak (m:=Builtin.SmallTypes.nextOf (.ref i1)) (UD (h1.mv fun o e=>m1 _ o D.i1z e) (o1.mv fun o e=>m1 _ o D.l1z e) hx fun g2 it2 gs2=>ao ?_))))
 have m2:∀ c o,c≠z→c≠i1→s.heap.get? c=some o→g2.get? c=some o:=fun c o n n' e=>gs2.extBut _ _ n' (m1 c o n e)
 have p2:IsPair g2 TO a b:=m2 _ _ D.TOz D.TOi1 hTO
 refine ak (wpAny_seqItems p2 rfl (ak (wpAny_updateSeq_pair p2 fun g3 p3 gs3=>ak (wpAny_letGo (ao ?_)))))
 replace p3:IsPair g3 TO x b:=p3
 have m3:∀ c o,c≠z→c≠i1→c≠TO→s.heap.get? c=some o→g3.get? c=some o:=fun c o n n' n'' e=>gs3.extBut _ _ n'' (m2 c o n n' e)
 refine ak (ak (wpAny_onRaise (ak (m:=Builtin.SmallTypes.nextOf (.ref i2)) (UD (h2.mv fun o e=>m3 _ o D.i2z D.i12.symm D.TOi2.symm e) (o2.mv fun o e=>m3 _ o D.l2z D.l2i1 D.l2TO e) hy fun g4 it4 gs4=>ao ?_))))
 have p4:IsPair g4 TO x b:=gs4.extBut _ _ D.TOi2 p3
 refine ak (wpAny_seqItems p4 rfl (ak (wpAny_updateSeq_pair p4 fun g5 p5 gs5=>ak (wpAny_letGo (ao (ao ?_))))))
 replace p5:IsPair g5 TO x y:=p5
 have m5:∀ c o,c≠z→c≠TO→c≠i1→c≠i2→s.heap.get? c=some o→g5.get? c=some o:=fun c o a1 a2 a3 a4 e=>gs5.extBut _ _ a2 (gs4.extBut _ _ a4 (m3 c o a1 a3 a2 e))
 refine ak (wpAny_seqItems p5 rfl (ak (wpAny_newTuple ?_)))
 have sz:g5.objs.size=s.heap.objs.size:=by rw [gs5.1,gs4.1,gs3.1,gs2.1,gs.1]
 have z5:IsZip g5 z TI TO .ellipsis:=gs5.extBut _ _ D.TOz.symm (gs4.extBut _ _ D.i2z.symm (gs3.extBut _ _ D.TOz.symm (gs2.extBut _ _ D.i1z.symm gz)))
 have j1:sIt b1 g5 i1 l1 (k + 1):=it2.mv fun o e=>gs5.extBut _ _ D.TOi1.symm (gs4.extBut _ _ D.i12 (gs3.extBut _ _ D.TOi1.symm e))
 have j2:sIt b2 g5 i2 l2 (k + 1):=it4.mv fun o e=>gs5.extBut _ _ D.TOi2.symm e
 have zlt:z < g5.objs.size:=az z5
 refine ak (m:=Builtin.SmallTypes.ownedTupleHandOut (.ref z) (.ref g5.objs.size)) ?_
 unfold Builtin.SmallTypes.ownedTupleHandOut
 have z6:IsZip (g5.push { cls := .type "tuple",data := .seq #[x,y] }) z TI TO .ellipsis:=aq _ z5
 refine ak (wpAny_setField_rec z6 (by simp) fun g7 z7 gs7=>?_)
 replace z7:IsZip g7 z TI TO (rawInt g5.objs.size):=z7
 refine wpAny_setField_rec z7 (by simp) fun g8 z8 gs8=>?_
 replace z8:IsZip g8 z TI TO (rawInt g5.objs.size):=z8
 have up:∀ c o,c≠z→g5.get? c=some o→g8.get? c=some o:=fun c o n e=>gs8.extBut _ _ n (gs7.extBut _ _ n (aq _ e))
 have t8:IsPair g8 g5.objs.size x y:=gs8.extBut _ _ (Nat.ne_of_gt zlt) (gs7.extBut _ _ (Nat.ne_of_gt zlt) (au _ rfl))
 refine ao ⟨_,rfl,?_⟩
 show Q (.ref g5.objs.size) _
 rw [sz] at z8 t8 ⊢
 have all:∀ c o,c≠z→c≠TO→c≠i1→c≠i2→s.heap.get? c=some o→g8.get? c=some o:=fun c o a1 a2 a3 a4 e=>up c o a1 (m5 c o a1 a2 a3 a4 e)
 exact hQ g8 ⟨z8,all _ _ D.TIz D.TITO D.TIi1 D.TIi2 hTI,⟨_,_,up _ _ D.TOz p5⟩,j1.mv fun o e=>up _ o D.i1z e,j2.mv fun o e=>up _ o D.i2z e,o1.mv fun o e=>all _ o D.l1z D.l1TO D.l1i1 D.l1i2 e,o2.mv fun o e=>all _ o D.l2z D.l2TO D.l2i1 D.l2i2 e⟩ t8 all
theorem rE {b1 b2:Bool}{z TI TO i1 i2 l1 l2:Addr}{k:Nat}{xs ys:Array Value}{Q:Fin→Shared→Prop}(hh:A.handled=none) (D:ZipApart z TI TO i1 i2 l1 l2) (Z:Zp b1 b2 s.heap z TI TO i1 i2 l1 l2 k .none xs ys) (hend:xs[k]?=none∨ys[k]?=none)
  (hE:∀ h' e,(∀ c o,c≠z→c≠TO→c≠i1→c≠i2→s.heap.get? c=some o→h'.get? c=some o)→(∃ o,h'.get? e=some o∧o.cls = .type "StopIteration")→E (.ref e) { s with heap:=h' }) :
  wpAny (model P w) A (Builtin.«zip.__next__» ⟨[.ref z],[]⟩) Q E s:=by
 obtain ⟨hz,hTI,⟨a,b,hTO⟩,h1,h2,o1,o2⟩:=Z
 refine ak (m:=field (.ref z) 2) (wpAny_field hz rfl (x := .bool false) rfl ?_)
 refine ak (m:=field (.ref z) 3) (wpAny_field hz rfl (x := .ref TI) rfl (ak (wpAny_seqItems hTI rfl ?_)))
 refine ak (m:=Builtin.SmallTypes.ownedTupleIsFree (.ref z)) ?_
 unfold Builtin.SmallTypes.ownedTupleIsFree
 refine ak (wpAny_field hz rfl (x := .none) rfl (ao ?_))
 simp only [if_true]
 refine ak (wpAny_rule (ak (wpAny_field hz rfl (x := .ref TO) rfl (ak (wpAny_setField_rec hz (by simp) fun g1 gz gs=>ak ?_)))))
 replace gz:IsZip g1 z TI TO .ellipsis:=gz
 have m1:∀ c o,c≠z→s.heap.get? c=some o→g1.get? c=some o:=fun c o n e=>gs.extBut _ _ n e
 simp only [zipIdx_cons,zipIdx_nil,forIn_cons,forIn_nil]
 cases hx:xs[k]? with
 | none =>
  refine ak (ak (wpAny_onRaise (ak (m:=Builtin.SmallTypes.nextOf (.ref i1)) (Il hh (h1.mv fun o e=>m1 _ o D.i1z e) (o1.mv fun o e=>m1 _ o D.l1z e) hx fun g2 e gs2 he=>?_))))
  obtain ⟨oe,hoe,hce⟩:=he
  have z2:IsZip g2 z TI TO .ellipsis:=gs2 _ _ D.i1z.symm gz
  have ez:e≠z:=fun q=>by subst q;rw [z2] at hoe;cases hoe;simp at hce
  exact wpAny_setField_rec z2 (by simp) fun g3 _ gs3=>hE g3 e (fun c o c1 _ c3 _ q=>gs3.extBut _ _ c1 (gs2 _ _ c3 (m1 _ _ c1 q))) ⟨oe,gs3.extBut _ _ ez hoe,hce⟩
 | some x =>
  have hy:ys[k]?=none:=hend.resolve_left fun q=>by rw [hx] at q;cases q
  refine ak (ak (wpAny_onRaise (ak (m:=Builtin.SmallTypes.nextOf (.ref i1)) (UD (h1.mv fun o e=>m1 _ o D.i1z e) (o1.mv fun o e=>m1 _ o D.l1z e) hx fun g2 it2 gs2=>ao ?_))))
  have m2:∀ c o,c≠z→c≠i1→s.heap.get? c=some o→g2.get? c=some o:=fun c o n n' e=>gs2.extBut _ _ n' (m1 c o n e)
  have p2:IsPair g2 TO a b:=m2 _ _ D.TOz D.TOi1 hTO
  refine ak (wpAny_seqItems p2 rfl (ak (wpAny_updateSeq_pair p2 fun g3 p3 gs3=>ak (wpAny_letGo (ao ?_)))))
  have m3:∀ c o,c≠z→c≠i1→c≠TO→s.heap.get? c=some o→g3.get? c=some o:=fun c o n n' n'' e=>gs3.extBut _ _ n'' (m2 c o n n' e)
  refine ak (ak (wpAny_onRaise (ak (m:=Builtin.SmallTypes.nextOf (.ref i2)) (Il hh (h2.mv fun o e=>m3 _ o D.i2z D.i12.symm D.TOi2.symm e) (o2.mv fun o e=>m3 _ o D.l2z D.l2i1 D.l2TO e) hy fun g4 e gs4 he=>?_))))
  obtain ⟨oe,hoe,hce⟩:=he
  have z4:IsZip g4 z TI TO .ellipsis:=gs4 _ _ D.i2z.symm (gs3.extBut _ _ D.TOz.symm (gs2.extBut _ _ D.i1z.symm gz))
  have ez:e≠z:=fun q=>by subst q;rw [z4] at hoe;cases hoe;simp at hce
  exact wpAny_setField_rec z4 (by simp) fun g5 _ gs5=>hE g5 e (fun c o c1 c2 c3 c4 q=>gs5.extBut _ _ c1 (gs4 _ _ c4 (m3 _ _ c1 c3 c2 q))) ⟨oe,gs5.extBut _ _ ez hoe,hce⟩
theorem vJ {b1 b2:Bool}{z TI TO i1 i2 l1 l2:Addr}{k:Nat}{xs ys:Array Value}{x y:Value}{Q:Option Value→Shared→Prop}(D:ZipApart z TI TO i1 i2 l1 l2) (Z:Zp b1 b2 s.heap z TI TO i1 i2 l1 l2 k .none xs ys) (hx:xs[k]?=some x) (hy:ys[k]?=some y)
  (hQ:∀ h',Zp b1 b2 h' z TI TO i1 i2 l1 l2 (k + 1) (rawInt s.heap.objs.size) xs ys→IsPair h' s.heap.objs.size x y→(∀ c o,c≠z→c≠TO→c≠i1→c≠i2→s.heap.get? c=some o→h'.get? c=some o)→Q (some (.ref s.heap.objs.size)) { s with heap:=h' }) :
  wpAny (model P w) A (pyNext (.ref z)) Q E s:=by
 have ty:s.TypeIs (.ref z) "zip" := ⟨_,Z.zip,rfl⟩
 unfold pyNext
 exact ak (wpAny_attempt (wpAny_callSpecial?_slot (name:=Str.ofString "__next__") ty PySem.F.slot_zip_next (wpAny_call_entry PySem.F.slot_zip_next ty PySem.F.entry_zip_next (vI D Z hx hy fun h' a1 a2 a3=>ao (hQ h' a1 a2 a3)) (PySem.F.args_zip_next_1 _))))
theorem vK {b1 b2:Bool}{z TI TO i1 i2 l1 l2:Addr}{k:Nat}{xs ys:Array Value}{Q:Option Value→Shared→Prop}(hh:A.handled=none) (D:ZipApart z TI TO i1 i2 l1 l2) (Z:Zp b1 b2 s.heap z TI TO i1 i2 l1 l2 k .none xs ys) (hend:xs[k]?=none∨ys[k]?=none)
  (hQ:∀ h',(∀ c o,c≠z→c≠TO→c≠i1→c≠i2→s.heap.get? c=some o→h'.get? c=some o)→Q none { s with heap:=h' }):wpAny (model P w) A (pyNext (.ref z)) Q E s:=by
 have ty:s.TypeIs (.ref z) "zip" := ⟨_,Z.zip,rfl⟩
 unfold pyNext
 refine ak (wpAny_attempt (wpAny_callSpecial?_slot (name:=Str.ofString "__next__") ty PySem.F.slot_zip_next (wpAny_call_entry PySem.F.slot_zip_next ty PySem.F.entry_zip_next (rE (A:=A.in1) (by simp [hh]) D Z hend fun h' e hk he=>?_) (PySem.F.args_zip_next_1 _))))
 obtain ⟨o,ho,hc⟩:=he
 exact ak (wpAny_isInstance (T := "StopIteration") (b:=true) ⟨o,ho,hc⟩ isSubtype_stop (ao (hQ _ hk)))
end
noncomputable def SqB (tp:Bool) (K:aj) (H:Hp) (a:Addr) (xs:List V):Prop:=if tp=true then SqT K H a xs else SqL K H a xs
theorem Inv.sq {X:Cx}{pins:List (Addr × Obj)}{σ:St}{H:Hp}{s:Shared}{tp:Bool}{a:Addr}{xs:List V}(I:Inv X pins σ H s) (h:SqB tp X.K H a xs):∃ its:List Value,Vals xs its∧sOb tp s.heap a its.toArray∧xs.length≤aA:=by
 cases tp with
 | false=>obtain ⟨its,r,p,z⟩:=I.list h;exact ⟨its,r,p.isList,z⟩
 | true=>obtain ⟨its,r,p,z⟩:=I.tuple h;exact ⟨its,r,p,z⟩
theorem Inv.Im {X:Cx}{pins:List (Addr × Obj)}{σ:St}{H:Hp}{s:Shared}{tp:Bool}{a:Addr}{xs ys:List V}(I:Inv X pins σ H s) (h:SqB tp X.K H a xs) (h':SqB tp X.K H a ys):xs=ys:=by
 cases tp with
 | false=>exact I.RK h h'
 | true=>exact I.QF h h'
noncomputable def Itz (b1 b2:Bool) (K:aj) (a b:Addr):It :=
  ⟨fun i H=>∃ xs ys x y,SqB b1 K H a xs∧SqB b2 K H b ys∧xs[i]?=some x∧ys[i]?=some y,
   fun i H v H'=>∃ p x y,v = .ref p∧H p=none∧H'=upd H p (.tup [x,y])∧(∀ xs,SqB b1 K H a xs→xs[i]?=some x)∧∀ ys,SqB b2 K H b ys→ys[i]?=some y,
   fun i H=>∃ xs ys,SqB b1 K H a xs∧SqB b2 K H b ys∧(xs.length≤i∨ys.length≤i)⟩
noncomputable def tnz (b1 b2:Bool) (z TI TO i1 i2 l1 l2:Addr) (k:Nat) (h:Heap):Prop:=IsZip h z TI TO .none∧IsPair h TI (.ref i1) (.ref i2)∧(∃ a b,IsPair h TO a b)∧sIt b1 h i1 l1 k∧sIt b2 h i2 l2 k
theorem vL {P:Program}{w:World}{K:aj}{elts:List Expr}{x1}{tpos:Pos}{b1 b2:Bool}{z TI TO i1 i2 l1 l2:Addr}(D:ZipApart z TI TO i1 i2 l1 l2) :
  Turn P w K (.Tuple elts x1 tpos) (Itz b1 b2 K l1 l2) [z,TI,TO,i1,i2] z (tnz b1 b2 z TI TO i1 i2 l1 l2) where
 mem:=by simp
 obj:=fun i h st b hb=>by
  obtain ⟨h1,h2,⟨_,_,h3⟩,h4,h5⟩:=st
  obtain ⟨o4,g4,d4⟩:=h4.at
  obtain ⟨o5,g5,d5⟩:=h5.at
  simp only [mem_cons,not_mem_nil,or_false] at hb
  rcases hb with rfl | rfl | rfl | rfl | rfl
  ·exact ⟨_,h1,fun v z=>by cases z⟩
  ·exact ⟨_,h2,fun v z=>by cases z⟩
  ·exact ⟨_,h3,fun v z=>by cases z⟩
  ·exact ⟨_,g4,fun v z=>by rw [d4] at z;cases z⟩
  ·exact ⟨_,g5,fun v z=>by rw [d5] at z;cases z⟩
 keep:=fun i h h' st k=>by
  obtain ⟨h1,h2,⟨a,b,h3⟩,h4,h5⟩:=st
  exact ⟨k z (by simp) _ h1,k TI (by simp) _ h2,⟨a,b,k TO (by simp) _ h3⟩,h4.mv fun o q=>k i1 (by simp) o q,h5.mv fun o q=>k i2 (by simp) o q⟩
 item:=by
  intro X hP hw hK hc i pins s σ H E I hf st hg
  subst hP hw hK
  obtain ⟨h1,h2,h3,h4,h5⟩:=st
  obtain ⟨xs,ys,x,y,hq,hq',hx,hy⟩:=hg
  obtain ⟨its,rv,p,hz⟩:=I.sq hq
  obtain ⟨its',rv',p',hz'⟩:=I.sq hq'
  obtain ⟨u,hu,ru⟩:=rv.get hx
  obtain ⟨u',hu',ru'⟩:=rv'.get hy
  have fr:∀ b,(b=z∨b=TO∨b=i1∨b=i2)→PU X pins H b:=fun b hb=>hf b (by rcases hb with rfl | rfl | rfl | rfl <;> simp)
  refine vJ D ⟨h1,h2,h3,h4,h5,p,p'⟩ (x:=u) (y:=u') (by simpa using hu) (by simpa using hu') fun h' Z t8 kp0=>?_
  refine ⟨_,rfl,wpAny_letOwnedTupleGo_zip Z.zip fun h'' z2 sb=>?_⟩
  have lt:∀ {c:Addr}{o:Obj},s.heap.get? c=some o→s.heap.objs.size≠c:=fun e=>Nat.ne_of_gt (az e)
  have lz:s.heap.objs.size≠z:=lt h1
  have hp0:H s.heap.objs.size=none:=I.fresh
  have kp:∀ b o,¬ (b=z∨b=TO∨b=i1∨b=i2)→s.heap.get? b=some o→h''.get? b=some o:=fun b o n q=>(sb.2 b (fun e=>n (.inl e))).trans (kp0 b o (fun e=>n (.inl e)) (fun e=>n (.inr (.inl e))) (fun e=>n (.inr (.inr (.inl e)))) (fun e=>n (.inr (.inr (.inr e)))) q)
  have tp:h''.get? s.heap.objs.size=some { cls := .type "tuple",data := .seq #[u,u'] }:=(sb.2 _ lz).trans t8
  refine ⟨.ref s.heap.objs.size,upd H s.heap.objs.size (.tup [x,y]),?_,rfl,⟨_,x,y,rfl,hp0,rfl,fun ys hy=>by rw [I.Im hy hq];exact hx,fun ys hy'=>by rw [I.Im hy' hq'];exact hy⟩,?_,fun b hb=>?_⟩
  ·have nt:∀ b o,H b=some o→¬ (b=z∨b=TO∨b=i1∨b=i2):=fun b o q hb=>by
    have:=(fr b hb).1
    rw [q] at this
    cases this
   have ok':HOk X.prog X.w (upd H s.heap.objs.size (.tup [x,y])) h'':=fun b o q=>by
    by_cases hb:b=s.heap.objs.size
    ·subst hb
     rw [Zu] at q
     cases q
     exact ⟨by show 2≤aA;decide,[u,u'],.cons ru (.cons ru' .nil),_,tp,rfl,0,rfl⟩
    ·rw [Zk hb] at q
     refine (I.hok b o q).stay (fun c v hc q'=>kp c v ?_ q') (fun c q'=>by rw [Zk (Zx q' hp0)];exact q') fun c zs q'=>by rw [Zk (Zx q' hp0)];exact q'
     rcases hc with rfl | hc
     ·exact nt _ _ q
     ·exact nt _ _ hc
   have I3:Inv X pins σ (upd H s.heap.objs.size (.tup [x,y])) { s with heap:=h'',gens:=s.gens,drawn:=s.drawn,toks:=s.toks }:=by
    have out:∀ b,b∉[z,TO,i1,i2]→¬ (b=z∨b=TO∨b=i1∨b=i2):=fun b hb q=>hb (by rcases q with rfl | rfl | rfl | rfl <;> simp)
    refine Inv.step (s:=s) I (g':=s.gens) (d':=s.drawn) (ch:=[z,TO,i1,i2]) (fun b hb=>?_) (fun b o _ _ hc q _=>kp b o (out b hc) q)
     (fun b o _ _ hc q _=>⟨o.slots,kp b o (out b hc) q⟩)
     (fun b o _ q n=>by rw [Zk (Nat.ne_of_lt (az q))];exact n)
     (fun b o hc q=>⟨o,kp b o (out b hc) q⟩)
     (fun b zs q=>by rw [Zk (Zx q hp0)];exact q) (fun b ob zs q=>by rw [Zk (Zx q hp0)];exact q)
     (fun b ps q=>⟨#[],by rw [Zk (Zx q hp0),q];simp⟩) (fun m hm=>?_) ok' I.bare
    ·obtain ⟨f0,f1,f2,f3,f4,f5⟩:=fr b (by simpa using hb)
     exact ⟨f3,f1,f4,f5⟩
    ·obtain ⟨o,es,ep,ho,r⟩:=hm
     exact ⟨o,es,ep,kp _ o (fun hb=>(fr _ hb).2.1 rfl) ho,r⟩
   exact I3
  ·obtain ⟨w1,w2,⟨a,b,w3⟩,w4,w5,_,_⟩:=Z
   exact ⟨z2,(sb.2 _ D.TIz).trans w2,⟨a,b,(sb.2 _ D.TOz).trans w3⟩,w4.mv fun o q=>(sb.2 _ D.i1z).trans q,w5.mv fun o q=>(sb.2 _ D.i2z).trans q⟩
  ·have hb0:=(hf b hb).1
   obtain ⟨h1',h2',⟨_,_,h3'⟩,h4',h5'⟩:tnz b1 b2 z TI TO i1 i2 l1 l2 i s.heap:=⟨h1,h2,h3,h4,h5⟩
   obtain ⟨o4,g4,_⟩:=h4'.at
   obtain ⟨o5,g5,_⟩:=h5'.at
   rw [Zk (fun e=>?_)]
   ·exact hb0
   simp only [mem_cons,not_mem_nil,or_false] at hb
   rcases hb with rfl | rfl | rfl | rfl | rfl
   ·exact lt h1' e.symm
   ·exact lt h2' e.symm
   ·exact lt h3' e.symm
   ·exact lt g4 e.symm
   ·exact lt g5 e.symm
 done:=by
  intro X hP hw hK hc i pins s σ H E I hf st hg
  subst hP hw hK
  obtain ⟨h1,h2,h3,h4,h5⟩:=st
  obtain ⟨xs,ys,hq,hq',hx⟩:=hg
  obtain ⟨its,rv,p,hz⟩:=I.sq hq
  obtain ⟨its',rv',p',hz'⟩:=I.sq hq'
  have l1:=rv.length
  have l2:=rv'.length
  have fr:∀ b,(b=z∨b=TO∨b=i1∨b=i2)→PU X pins H b:=fun b hb=>hf b (by rcases hb with rfl | rfl | rfl | rfl <;> simp)
  refine vK (I.ok.hd hc) D ⟨h1,h2,h3,h4,h5,p,p'⟩ (by rcases hx with e | e;exact .inl (by simp;omega);exact .inr (by simp;omega)) fun h' kp0=>⟨rfl,?_⟩
  have kp:∀ b o,¬ (b=z∨b=TO∨b=i1∨b=i2)→s.heap.get? b=some o→h'.get? b=some o:=fun b o n q=>kp0 b o (fun e=>n (.inl e)) (fun e=>n (.inr (.inl e))) (fun e=>n (.inr (.inr (.inl e)))) (fun e=>n (.inr (.inr (.inr e)))) q
  have nt:∀ b o,H b=some o→¬ (b=z∨b=TO∨b=i1∨b=i2):=fun b o q hb=>by
   have:=(fr b hb).1
   rw [q] at this
   cases this
  have ok':HOk X.prog X.w H h':=fun b o q=>by
   refine (I.hok b o q).stay (fun c v hc q'=>kp c v ?_ q') (fun c q'=>q') fun c zs q'=>q'
   rcases hc with rfl | hc
   ·exact nt _ _ q
   ·exact nt _ _ hc
  have out:∀ b,b∉[z,TO,i1,i2]→¬ (b=z∨b=TO∨b=i1∨b=i2):=fun b hb q=>hb (by rcases q with rfl | rfl | rfl | rfl <;> simp)
  refine Inv.step (s:=s) I (g':=s.gens) (d':=s.drawn) (ch:=[z,TO,i1,i2]) (fun b hb=>?_) (fun b o _ _ hc q _=>kp b o (out b hc) q)
   (fun b o _ _ hc q _=>⟨o.slots,kp b o (out b hc) q⟩) (fun b o _ q n=>n) (fun b o hc q=>⟨o,kp b o (out b hc) q⟩) (fun b zs q=>q) (fun b ob zs q=>q) (fun b ps q=>⟨#[],by rw [q];simp⟩) (fun m hm=>?_) ok' I.bare
  ·obtain ⟨f0,f1,f2,f3,f4,f5⟩:=fr b (by simpa using hb)
   exact ⟨f3,f1,f4,f5⟩
  ·obtain ⟨o,es,ep,ho,r⟩:=hm
   exact ⟨o,es,ep,kp _ o (fun hb=>(fr _ hb).2.1 rfl) ho,r⟩
 self:=fun _ _ _ _ _ st h=>wpAny_pyIter_zip st.1 h
noncomputable def itO (tp:Bool) (l:Addr):Obj:={ cls := .type (if tp=true then "tuple_iterator" else "list_iterator"),data := .fields #[.ref l,.int 0 0] }
section
variable {P:Program}{w:World}{A:Around}{E:Value→Shared→Prop}{s:Shared}
theorem NQ {tp:Bool}{l:Addr}{xs:Array Value}{Q:Value→Shared→Prop}(ob:sOb tp s.heap l xs) (hQ:Q (.ref s.heap.objs.size) { s with heap:=s.heap.push (itO tp l) }):wpAny (model P w) A (pyIter (.ref l)) Q E s:=by
 cases tp with
 | false=>exact wpAny_pyIter_list ob hQ
 | true=>exact wpAny_pyIter_tuple ob hQ
noncomputable def zA (h:Heap) (b1:Bool) (l1:Addr):Heap:=h.push (itO b1 l1)
noncomputable def zB (h:Heap) (b1 b2:Bool) (l1 l2:Addr):Heap:=(zA h b1 l1).push (itO b2 l2)
noncomputable def zC (h:Heap) (b1 b2:Bool) (l1 l2:Addr):Heap:=(zB h b1 b2 l1 l2).push { cls := .type "tuple",data := .seq #[.ref h.objs.size,.ref (zA h b1 l1).objs.size] }
noncomputable def zD (h:Heap) (b1 b2:Bool) (l1 l2:Addr):Heap:=(zC h b1 b2 l1 l2).push { cls := .type "tuple",data := .seq #[.none,.none] }
noncomputable def zE (h:Heap) (b1 b2:Bool) (l1 l2:Addr):Heap:=(zD h b1 b2 l1 l2).push { cls := .type "zip",data := .fields #[.none,.bool false,.bool false,.ref (zB h b1 b2 l1 l2).objs.size,.ref (zC h b1 b2 l1 l2).objs.size] }
theorem rF (b1 b2:Bool) (l1 l2:Addr) (xs ys:Array Value) :
  Meets (Builtin.«zip.__new__» ⟨[.type "zip",.ref l1,.ref l2],[]⟩) (fun _ R s=>sOb b1 s.heap l1 xs∧sOb b2 s.heap l2 ys∧R (.ok (.ret (.ref (zD s.heap b1 b2 l1 l2).objs.size))) { s with heap:=zE s.heap b1 b2 l1 l2 }) :=
 .of_wp fun P w A R s h=>by
  obtain ⟨hp,g,d,tk,os⟩:=s
  obtain ⟨o1,o2,h⟩:=h
  have sub:=sub_zip
  have k1:sOb b1 (Shared.heap ⟨hp,g,d,tk,os⟩) l1 xs:=o1
  have k2:sOb b2 (Shared.heap ⟨hp.push (itO b1 l1),g,d,tk,os⟩) l2 ys:=o2.mv fun o e=>aq _ e
  wp_walk using NQ k1,NQ k2
  exact ⟨_,rfl,h⟩
theorem vM {b1 b2:Bool}{l1 l2:Addr}{xs ys:Array Value}{Q:Value→Shared→Prop}(o1:sOb b1 s.heap l1 xs) (o2:sOb b2 s.heap l2 ys)
  (h:∀ h',tnz b1 b2 (s.heap.objs.size + 4) (s.heap.objs.size + 2) (s.heap.objs.size + 3) s.heap.objs.size (s.heap.objs.size + 1) l1 l2 0 h'→(∀ c o,s.heap.get? c=some o→h'.get? c=some o)→Q (.ref (s.heap.objs.size + 4)) { s with heap:=h' }) :
  wpAny (model P w) A (call (.type "zip") [.ref l1,.ref l2]) Q E s:=by
 refine callType_new PySem.F.called_zip (by decide) (PySem.F.typeCall_zip_2 _ _) (PySem.F.newCall_zip_2 _ _) (fun obj=>PySem.F.args_object_init_3 obj _ _) PySem.F.entry_zip_new (rF b1 b2 l1 l2 xs ys) ⟨o1,o2,?_⟩
 have n1:(zA s.heap b1 l1).objs.size=s.heap.objs.size + 1:=Heap.size_push ..
 have n2:(zB s.heap b1 b2 l1 l2).objs.size=s.heap.objs.size + 2:=by unfold zB;rw [Heap.size_push,n1]
 have n3:(zC s.heap b1 b2 l1 l2).objs.size=s.heap.objs.size + 3:=by unfold zC;rw [Heap.size_push,n2]
 have n4:(zD s.heap b1 b2 l1 l2).objs.size=s.heap.objs.size + 4:=by unfold zD;rw [Heap.size_push,n3]
 have kE:∀ {c o},(zD s.heap b1 b2 l1 l2).get? c=some o→(zE s.heap b1 b2 l1 l2).get? c=some o:=fun e=>aq _ e
 have kD:∀ {c o},(zC s.heap b1 b2 l1 l2).get? c=some o→(zE s.heap b1 b2 l1 l2).get? c=some o:=fun e=>kE (aq _ e)
 have kC:∀ {c o},(zB s.heap b1 b2 l1 l2).get? c=some o→(zE s.heap b1 b2 l1 l2).get? c=some o:=fun e=>kD (aq _ e)
 have kB:∀ {c o},(zA s.heap b1 l1).get? c=some o→(zE s.heap b1 b2 l1 l2).get? c=some o:=fun e=>kC (aq _ e)
 have e5:(zE s.heap b1 b2 l1 l2).get? (zD s.heap b1 b2 l1 l2).objs.size=some _:=au _ rfl
 have e4:(zE s.heap b1 b2 l1 l2).get? (zC s.heap b1 b2 l1 l2).objs.size=some _:=kE (au _ rfl)
 have e3:(zE s.heap b1 b2 l1 l2).get? (zB s.heap b1 b2 l1 l2).objs.size=some _:=kD (au _ rfl)
 have e2:(zE s.heap b1 b2 l1 l2).get? (zA s.heap b1 l1).objs.size=some (itO b2 l2):=kC (au _ (by cases b2 <;> rfl))
 have e1:(zE s.heap b1 b2 l1 l2).get? s.heap.objs.size=some (itO b1 l1):=kB (au _ (by cases b1 <;> rfl))
 rw [n2,n3,n4] at e5
 rw [n1,n2] at e3
 rw [n3] at e4
 rw [n1] at e2
 rw [n4]
 have f1:sIt b1 (zE s.heap b1 b2 l1 l2) s.heap.objs.size l1 0:=by cases b1 <;> exact ⟨_,e1,rfl,rfl⟩
 have f2:sIt b2 (zE s.heap b1 b2 l1 l2) (s.heap.objs.size + 1) l2 0:=by cases b2 <;> exact ⟨_,e2,rfl,rfl⟩
 exact ⟨⟨_,e5,rfl⟩,h _ ⟨e5,e3,⟨_,_,e4⟩,f1,f2⟩ fun c o x=>kB (aq _ x)⟩
end
noncomputable def iZip (K:aj) (ta:TA):TI:=fun σ H R=>ta σ H fun vs H1=>∃ a b b1 b2,vs=[.ref a,.ref b]∧(∃ xs,SqB b1 K H1 a xs)∧(∃ ys,SqB b2 K H1 b ys)∧R (Itz b1 b2 K a b) H1
section
variable {X:Cx}{XE:St→XK}
theorem mm {a b:Expr}{ta:TA}{p pos:Pos}{elts:List Expr}{x1}{tpos:Pos}(hg:Gl X "zip") (hm:X.mg "zip" = none) (ha:PA X [a,b] ta) (hv:bootBuiltins "zip" = some (.type "zip"):=by decide +kernel)
  (hs:autoParam (starEach [a,b] X.env=(false,eval a X.env)::starEach [b] X.env) auR) (hpl:autoParam ((backTo pos (starEach [b] X.env)).any (·.1)=false) auR):PI X (.Tuple elts x1 tpos) (.Call (.Name "zip" p) [a,b] [] pos) (iZip X.K ta):=by
 intro pins s σ H R I h
 refine Call_ (PR I hg hm hv (PyProof.Rows.callWith_type1 (thn (ha pos pins s σ H _ I h) fun us s1 ⟨vs,H1,I1,r1,q1⟩=>?_) hs hpl))
 obtain ⟨a1,a2,b1,b2,e,⟨xs,hq⟩,⟨ys,hq'⟩,q⟩:=q1
 subst e
 obtain ⟨u,us',e1,ru,r2⟩:∃ u us',us=u::us'∧RelV (.ref a1) u∧Vals [.ref a2] us':=by cases r1 with | cons a b=>exact ⟨_,_,rfl,a,b⟩
 obtain ⟨u',e2,ru'⟩:=vals1 r2
 subst e1 e2
 cases ru
 cases ru'
 obtain ⟨its,rv,p,hz⟩:=I1.sq hq
 obtain ⟨its',rv',p',hz'⟩:=I1.sq hq'
 refine vM p p' fun h' t kp=>wpAny_pyIter_zip t.1 ?_
 have I2:Inv X pins σ H1 { s1 with heap:=h' }:=I1.kept (t':=s1.toks) kp
 have lt:∀ {tp:Bool}{l:Addr}{zs:Array Value},sOb tp s1.heap l zs→l < s1.heap.objs.size:=fun {tp l zs} o=>by
  cases tp <;> exact let ⟨_,ho,_⟩:=o;az ho
 have L1:(a1:Nat) < s1.heap.objs.size:=lt p
 have L2:(a2:Nat) < s1.heap.objs.size:=lt p'
 have D:ZipApart (s1.heap.objs.size + 4) (s1.heap.objs.size + 2) (s1.heap.objs.size + 3) s1.heap.objs.size (s1.heap.objs.size + 1) a1 a2:=by
  exact zipApart_new L1 L2
 refine ⟨_,[s1.heap.objs.size + 4,s1.heap.objs.size + 2,s1.heap.objs.size + 3,s1.heap.objs.size,s1.heap.objs.size + 1],_,_,H1,rfl,I2,vL D,t,fun b hb=>?_,q⟩
 have hb:s1.heap.objs.size≤b:=by
  simp only [mem_cons,not_mem_nil,or_false] at hb
  rcases hb with rfl | rfl | rfl | rfl | rfl
  ·exact Nat.le_add_right _ _
  ·exact Nat.le_add_right _ _
  ·exact Nat.le_add_right _ _
  ·exact Nat.le_refl _
  ·exact Nat.le_add_right _ _
 exact I1.Gv hb (I1.hok.fresh hb)
noncomputable def D.sq:D→Option (List D)
 | .lst xs=>some xs
 | .scr xs=>some xs
 | .tup xs=>some xs
 | _=>none
noncomputable def Io (xs ys:List D):List D:=(xs.zip ys).map fun p => .tup [p.1,p.2]
noncomputable def dZip (da:DA):DI:=fun ds q x=>da ds (fun ts=>∃ a b xs ys,ts=[a,b]∧a.sq=some xs∧b.sq=some ys∧q (Io xs ys)) x
theorem EL {K:aj}{H:Hp}{d:D}{v:V}{xs:List D}(r:Rp K H d v) (e:d.sq=some xs):∃ tp a vs,v = .ref a∧SqB tp K H a vs∧Rps K H xs vs:=by
 cases d with
 | lst ys=>cases e;obtain ⟨a,vs,rfl,h1,h2⟩:=r;exact ⟨false,a,vs,rfl,SqL.of h1,h2⟩
 | scr ys=>cases e;obtain ⟨a,vs,rfl,h1,h2⟩:=r;exact ⟨false,a,vs,rfl,h1,h2⟩
 | tup ys=>cases e;obtain ⟨a,vs,rfl,h1,h2⟩:=r;exact ⟨true,a,vs,rfl,SqT.of h1,h2⟩
 | _=>cases e
theorem SqB.same {K:aj}{H H':Hp}{tp:Bool}{a:Addr}{xs:List V}(s:Zv H H') (h:SqB tp K H a xs):SqB tp K H' a xs:=by
 cases tp with
 | false=>exact s.seq h
 | true=>exact SqT.same s h
theorem vN {K:aj}{W0:Hp}{b1 b2:Bool}{a b:Addr}{vs us:List V}{xs ys:List D}(h:SqB b1 K W0 a vs) (h':SqB b2 K W0 b us) (r:Rps K W0 xs vs) (r':Rps K W0 ys us):Walks K (Itz b1 b2 K a b) (Io xs ys) W0:=by
 intro i H0 H s0 s
 have hs:=h.same (s0.trans s)
 have hs':=h'.same (s0.trans s)
 have hl:(Io xs ys).length=min xs.length ys.length:=by unfold Io;simp
 refine ⟨fun hi=>?_,fun hi=>⟨vs,us,hs,hs',by rw [r.length,r'.length];rw [hl] at hi;omega⟩⟩
 rw [hl] at hi
 obtain ⟨v,e,rv⟩:=r.get (aB (show i < xs.length by omega))
 obtain ⟨u,e',ru⟩:=r'.get (aB (show i < ys.length by omega))
 refine ⟨⟨vs,us,v,u,hs,hs',e,e'⟩,fun x H' y=>?_⟩
 obtain ⟨p,w1,w2,rfl,hp,rfl,y1,y2⟩:=y
 have z1:=y1 vs hs
 have z2:=y2 us hs'
 rw [e] at z1
 rw [e'] at z2
 cases z1
 cases z2
 refine ⟨upd H0 p (.tup [v,u]),.put s hp,.tup [xs[i]'(by omega),ys[i]'(by omega)],?_,RQ (xs:=[xs[i]'(by omega),ys[i]'(by omega)]) ⟨_,_,rfl,rv.same s0,_,_,rfl,ru.same s0,rfl⟩ (s.free hp)⟩
 unfold Io
 rw [getElem?_map,aB (by rw [length_zip];omega),List.getElem_zip]
 rfl
theorem Jq {a b:Expr}{da:DA}{p pos:Pos}{elts:List Expr}{x1}{tpos:Pos}(hg:Gl X "zip") (hm:X.mg "zip" = none) (ha:JAs X XE [a,b] da)
  (hs:autoParam (starEach [a,b] X.env=(false,eval a X.env)::starEach [b] X.env) auR) (hpl:autoParam ((backTo pos (starEach [b] X.env)).any (·.1)=false) auR):JI X XE (.Tuple elts x1 tpos) (.Call (.Name "zip" p) [a,b] [] pos) (dZip da):=by
 obtain ⟨ta,p,d⟩:=ha.ex
 refine ⟨_,mm hg hm p (by decide +kernel) hs hpl,fun c h k kx=>d c h (fun vs ts H1 H2 e r h=>?_) kx⟩
 obtain ⟨d1,d2,xs,ys,rfl,e1,e2,hq⟩:=h
 obtain ⟨v,u,rfl,r1,r2⟩:=xY r
 obtain ⟨b1,a1,vs,rfl,s1,t1⟩:=EL r1 e1
 obtain ⟨b2,a2,us,rfl,s2,t2⟩:=EL r2 e2
 exact ⟨a1,a2,b1,b2,rfl,⟨vs,s1.same e.sub⟩,⟨us,s2.same e.sub⟩,k _ _ _ _ e (vN s1 s2 t1 t2) hq⟩
end
section
variable {X:Cx}{XE:St→XK}
end
section
variable {X:Cx}{XE:St→XK}
noncomputable def pw {α:Type}(xs:List α) (k:Nat) (y:α):List α:=xs.take k++y::xs.drop k
theorem Rps.ins {K:aj}{H:Hp}{d:D}{v:V}(r:Rp K H d v):∀ {xs:List D}{vs:List V}(j:Nat),Rps K H xs vs→Rps K H (pw xs j d) (pw vs j v)
 | _,_,0,h=>⟨v,_,rfl,r,h⟩
 | [],_,_ + 1,h=>by rw [show _=[] from h];exact ⟨v,[],rfl,r,rfl⟩
 | x::xs,_,j + 1,⟨u,us,e,h1,h⟩=>by subst e;exact ⟨u,_,rfl,h1,Rps.ins r j h⟩
noncomputable def dRevL (de:DE):DE:=fun ds q x=>de ds (fun d=>∃ xs,d = .lst xs∧q (.lst xs.reverse)) x
section
variable {prog:Program}{w:World}{A:Around}{E:Value→Shared→Prop}{s:Shared}{l:Addr}{a b:Int}{t u:Tok}{Q:Value→Shared→Prop}
end
end
section
variable {X:Cx}{XE:St→XK}
end
section
variable {P:Program}{w:World}{K:aj}{mg:Str→Option Value}{base:Heap}
end
section
variable {X:Cx}{ev:Value}{k:Nat}{f:Addr}{fd:FuncData}{ps:List Str}{g:DSp}{x:Str}{p pos:Pos}{e:Expr}{es:List Expr}{da:DA}
end
section
variable {K:aj}{B0 B H0 H H0' H':Hp}{σ:St}{ds:DSt}
end
section
variable {X:Cx}{XE:St→XK}
noncomputable def pz (i:Nat):DS:=fun ds e=>e.nx (ds.set i (.od []))
theorem rG {i:Nat}{x:Str}{dpos pos pos':Pos}(hN:X.N.Nodup) (hi:X.N[i]?=some x) (hx:Loc X.env.scope x) (hs:autoParam (swapsWith (.Dict [] [] dpos) (some (.Name x pos')) pos.line X.env=pure false) auR)
  (hf:X.fn x=true∨X.env.scope.names.lookup x=some .local:=by first | exact .inl rfl | exact .inr rfl | assumption):JS X XE (.Assign [.Name x pos'] (.Dict [] [] dpos) pos) (pz i):=by
 refine ⟨_,Mq hN hi hx xA hs hf,fun {B0 B H0 H σ ds e T} c h o=>?_⟩
 intro p hp
 have h0:H0 p=none:=c.sub.free hp
 exact o.nx _ _ _ _ (c.newOd i (Ext.grow c.sub (Zv.upd hp)) hp h0 Zu (show Rks X.K H0 [] [] from rfl)) h
noncomputable def pA (pk:List Nat) (i:Nat) (dk de:DE):DS:=fun ds e=>∃ kvs,ds[i]?=some (.od kvs)∧de (peekAt pk ds) (fun d=>(pk=[]∨d.imm=true)∧dk ds (fun k=>∃ key,k=kD key∧kvs.length < aA∧e.nx (ds.set i (.od (Tz kvs key d)))) (e.xc ds)) (e.xc ds)
theorem Aq {K:aj}{H:Hp}:∀ {gs:List (Key × D)}{kvs:List (Key × V)},Rks K H gs kvs→kvs.length=gs.length
 | [],_,h=>by rw [show _=[] from h];rfl
 | (k,d)::gs,_,⟨v,us,e,_,h⟩=>by subst e;rw [length_cons,length_cons,Aq h]
theorem vO {K:aj}{H:Hp}{k:Key}{v:V}(r:Rp K H (kD k) v):v=kV k:=by
 cases k with
 | inl i=>exact r
 | inr x=>exact r
theorem rH (pk:List Nat) (i:Nat) {x:Str}{p ipos pos:Pos}{k e:Expr}{dk de:DE}(hu:X.A.units + 1 < cLine) (hk:JE X XE k dk) (he:JE X XE e de) (hN:autoParam (X.N[i]?=some x) auR) (hv:Vis X.env.scope x:=by first | exact Or.inl rfl | exact Or.inr (Or.inl rfl) | exact Or.inr (Or.inr rfl))
  (hs:autoParam (swapsWith e (some (.Subscript (.Name x p) k ipos)) pos.line X.env=pure false) auR) (hd:autoParam ((x == ("__debug__" : Str))=false) auD) (hcd:autoParam ((x == ("__classdict__" : Str))=false) auD) :
  JS X XE (.Assign [.Subscript (.Name x p) k ipos] e pos) (pA pk i dk de):=by
 obtain ⟨tk,p2,d2⟩:=hk.ex
 obtain ⟨te,p1,d1⟩:=he.ex
 refine ⟨_,tI hu (pv i hN hv hd hcd) p2 p1 hs,fun {B0 B H0 H σ ds e T} c h o=>?_⟩
 obtain ⟨kvs,hi,h⟩:=h
 obtain ⟨l,us,e1,f1,f2,f3⟩:=c.slot i _ hi
 have fin:∀ {H1 H2:Hp}{a:D}{v:V},Ext H0 H H1 H2→Rp X.K H1 a v→dk ds (fun k=>∃ key,k=kD key∧kvs.length < aA∧e.nx (ds.set i (.od (Tz kvs key a)))) (e.xc ds) →
   ∃ x,σ[i]?=some (some x)∧tk σ H2 fun y H3=>∃ b H4,x = .ref b∧Eb H3 b y v H4∧T.nx σ H4:=by
  intro H1 H2 a v e' r h
  refine ⟨.ref l,Wb e1,d2 (c.go e') h (fun kv kd H3 H4 e2 rk ⟨key,z,hz,hq⟩=>?_) ((o.kx c).go e'.s)⟩
  subst z
  have e3:=e'.trans e2
  rw [vO rk]
  have hl:=Aq f3
  refine ⟨l,_,rfl,Eb.k (e3.s _ _ f2) (by omega),?_⟩
  obtain ⟨a',us',g1,g2,g3,g4⟩:=c.pushD (ys:=Tz kvs key a) hi
  rw [e1] at g1
  cases g1
  exact o.nx _ _ _ _ (g4 H3 H4 _ e3 (Ap (f3.same e3.s0) (r.same e2.s0))) hq
 by_cases hpk:pk=[]
 ·subst hpk
  exact d1 c h (fun v a H1 H2 e' r h=>fin e' r h.2) (o.kx c)
 ·obtain ⟨H1,c1,s1,l1,n1⟩:=c.peekAt pk
  refine d1 c1 h (fun v a H2 H3 e' r h=>?_) (o.kx c)
  obtain ⟨H4,e4,l4,_⟩:=e'.GQ s1 c.sub l1 n1
  exact fin e4 (Rp.less l4 a (h.1.resolve_left hpk) r) h.2
noncomputable def Uz (kvs:List (Key × D)) (k:Key):Option D:=(kvs.find? fun kv=>decide (kv.1=k)).map (·.2)
theorem Fq {K:aj}{H:Hp}(k:Key) {d:D}:∀ {gs:List (Key × D)}{kvs:List (Key × V)},Rks K H gs kvs→Uz gs k=some d→∃ v,PZ kvs k=some v∧Rp K H d v
 | [],_,_,e=>by cases e
 | (j,g)::gs,_,⟨v,us,ee,h1,h2⟩,e=>by
  subst ee
  by_cases hj:j=k
  ·have:Uz ((j,g)::gs) k=some g:=by unfold Uz;rw [List.find?_cons_of_pos (by simpa using hj)];rfl
   rw [this] at e
   cases e
   exact ⟨v,Nz hj,h1⟩
  ·have:Uz ((j,g)::gs) k=Uz gs k:=by unfold Uz;rw [find?_cons_of_neg (by simpa using hj)]
   rw [this] at e
   obtain ⟨u,q1,q2⟩:=Fq k h2 e
   exact ⟨u,by rw [RN hj];exact q1,q2⟩
noncomputable def pB (dO dk:DE):DE:=fun ds q x=>dO ds (fun d=>dk ds (fun k=>∃ kvs key v,d = .dic kvs∧k=kD key∧Uz kvs key=some v∧q v) x) x
theorem rJ {o k:Expr}{pos:Pos}{dO dk:DE}(hu:X.A.units + 1 < cLine) (ho:JE X XE o dO) (hk:JE X XE k dk) (hs:NoSl k:=by intro _ _;rfl):JE X XE (.Subscript o k pos) (pB dO dk):=by
 obtain ⟨t1,p1,d1⟩:=ho.ex
 obtain ⟨t2,p2,d2⟩:=hk.ex
 refine ⟨_,tH hu p1 p2 hs,fun c h kk kx=>d1 c h (fun v d H1 H2 e r h=>d2 (c.go e) h (fun u kd H3 H4 e' r' h'=>?_) (kx.go e.s)) kx⟩
 obtain ⟨kvs,key,w,rfl,rfl,hw,hq⟩:=h'
 obtain ⟨a,vs,rfl,g1,g2⟩:=r
 rw [vO r']
 obtain ⟨y,q1,q2⟩:=Fq key g2 hw
 have e3:=e.trans e'
 exact ⟨a,y,rfl,by rw [←q1];exact JB.k (e'.s _ _ (e.sub _ _ g1)),kk _ w _ _ e3 (q2.same e'.s0) hq⟩
end
section
variable {X:Cx}{XE:St→XK}
end
noncomputable def vP (K:aj) (H0 H:Hp) (μ:Mu):Prop:=∀ b m,μ.lookup b=some m→H0 b=none∧∃ u,H b=some u∧zx K H0 m u
structure Lv (K:aj) (μ μ':Mu) (H0 H H0' H':Hp):Prop where
 s:∀ b o,μ.lookup b=none→H b=some o→H' b=some o
 s0:Zv H0 H0'
 sub:Zv H0' H'
 new:∀ b,μ.lookup b=none→H0 b=none→H b≠none→H0' b=none
 ok:vP K H0' H' μ'
 old:∀ b m,μ'.lookup b=some m→μ.lookup b≠none∨H b=none
abbrev Ip:=List D→Mu→(D→Mu→Prop)→Prop
noncomputable def spS (K:aj) (p:Nat) (g:Ip):Sp:=fun vs H Q _=>∃ H0 xs a μ q,Zv H0 H∧Rps K H0 xs vs∧xs[p]?=some (.rf a)∧vP K H0 H μ∧g xs μ q ∧
 ∀ v d μ' H0' H',Lv K μ μ' H0 H H0' H'→Rp K H0' d v→q d μ'→Q v H'
abbrev zU:=List D→(List D→Prop)→(Addr→Prop)→Prop
noncomputable def spF (K:aj) (g:zU):Sp:=fun vs H Q E=>∃ H0 xs q x,Zv H0 H∧Rps K H0 xs vs∧g xs q x ∧
 (∀ a us ys H0' H',Ext H0 H H0' H'→H a=none→H0' a=none→H' a=some (.lst us)→Rps K H0' ys us→q ys→Q (.ref a) H')∧∀ C H',Zv H H'→x C→E (.ref C) none H'
section
variable {K:aj}{B0 B H0 H H0' H':Hp}{σ:St}{ds:DSt}
theorem Cfg.goS (c:Cfg K B0 B H0 H σ ds) {j:Nat}{a a':Addr}{μ μ':Mu}(q:ds[j]?=some (.st a μ)) (l:Lv K μ μ' H0 H H0' H'):Cfg K B0 B H0' H' σ (ds.set j (.st a μ')):=by
 have hj:j < ds.length:=(List.getElem?_eq_some_iff.mp q).1
 have sj:=c.slot j _ q
 have out:∀ (i:Nat) t b,i≠j→ds[i]?=some t→t.foot ((σ[i]?).getD none) b→μ.lookup b=none:=fun i t b ne r f=>by
  cases z:μ.lookup b with
  | none=>rfl
  | some m=>exact (c.sep i j t _ b ne r q f ⟨m,z⟩).elim
 refine ⟨⟨fun b o z=>?_,c.ext.s0.trans l.s0,l.sub,fun b z n=>?_⟩,fun i t r=>?_,fun i t b r f=>?_,fun i k t u b ne r y f g=>?_,by rw [length_set];exact c.len⟩
 ·refine l.s b o ?_ (c.ext.s _ _ z)
  cases w:μ.lookup b with
  | none=>rfl
  | some m=>have:=c.young j _ b q ⟨m,w⟩;rw [z] at this;cases this
 ·refine l.new b ?_ (c.ext.new b z n) (fun w=>n (c.ext.s.free w))
  cases w:μ.lookup b with
  | none=>rfl
  | some m=>exact absurd (c.young j _ b q ⟨m,w⟩) n
 ·rw [Xu hj] at r
  split at r
  ·rename_i e
   cases r
   rw [e]
   exact ⟨sj.1,l.ok⟩
  ·rename_i ne
   have old:=c.slot i t r
   cases t with
   | un=>trivial
   | v d=>obtain ⟨v,z1,z2⟩:=old;exact ⟨v,z1,z2.same l.s0⟩
   | own ys =>
    obtain ⟨b,us,f1,f2,f3,f4⟩:=old
    exact ⟨b,us,f1,l.new b (out i _ b ne r f1) f2 (by rw [f3];simp),l.s _ _ (out i _ b ne r f1) f3,f4.same l.s0⟩
   | ob b dx C gs =>
    obtain ⟨us,f1,f2,f3,f4⟩:=old
    exact ⟨us,f1,l.new b (out i _ b ne r f1) f2 (by rw [f3];simp),l.s _ _ (out i _ b ne r f1) f3,f4.same l.s0⟩
   | od gs =>
    obtain ⟨b,us,f1,f2,f3,f4⟩:=old
    exact ⟨b,us,f1,l.new b (out i _ b ne r f1) f2 (by rw [f3];simp),l.s _ _ (out i _ b ne r f1) f3,f4.same l.s0⟩
   | st b ν =>
    refine ⟨old.1,fun b' m w=>?_⟩
    obtain ⟨g1,u,g2,g3⟩:=old.2 b' m w
    exact ⟨l.new b' (out i _ b' ne r ⟨m,w⟩) g1 (by rw [g2];simp),u,l.s _ _ (out i _ b' ne r ⟨m,w⟩) g2,g3.same l.s0⟩
 ·rw [Xu hj] at r
  split at r
  ·cases r
   obtain ⟨m,w⟩:=f
   rcases l.old b m w with z | z
   ·cases y:μ.lookup b with
    | none=>exact absurd y z
    | some n=>exact c.young j _ b q ⟨n,y⟩
   ·exact c.ext.s.free z
  ·exact c.young i t b r f
 ·have key:∀ (i:Nat) t,i≠j→ds[i]?=some t→t.foot ((σ[i]?).getD none) b→∀ m,μ'.lookup b=some m→False:=fun i t ne r f m w=>by
   rcases l.old b m w with z | z
   ·exact z (out i t b ne r f)
   ·exact (c.Ob r f).2 z
  rw [Xu hj] at r y
  split at r
  ·rename_i ej
   cases r
   rw [if_neg (fun z=>ne (ej.trans z.symm))] at y
   obtain ⟨m,w⟩:=f
   exact key k u (fun z=>ne (ej.trans z.symm)) y g m w
  ·rename_i ni
   split at y
   ·cases y
    obtain ⟨m,w⟩:=g
    exact key i t ni r f m w
   ·exact c.sep i k t u b ne r y f g
end
section
variable {X:Cx}{XE:St→XK}
noncomputable def dRef (i:Nat):DE:=fun ds q _=>∃ a μ,ds[i]?=some (.st a μ)∧q (.rf a)
theorem jvS (i:Nat) {x:Str}{pos:Pos}(hN:autoParam (X.N[i]?=some x) auR) (hv:Vis X.env.scope x:=by first | exact Or.inl rfl | exact Or.inr (Or.inl rfl) | exact Or.inr (Or.inr rfl)) (hd:autoParam ((x == ("__debug__" : Str))=false) auD)
  (hcd:autoParam ((x == ("__classdict__" : Str))=false) auD):JE X XE (.Name x pos) (dRef i) :=
 ⟨_,pv i hN hv hd hcd,fun c h k _=>by
  obtain ⟨a,μ,e,h⟩:=h
  have s:=c.slot i _ e
  exact ⟨.ref a,Wb s.1,k (.ref a) (.rf a) _ _ (.refl c.sub) rfl h⟩⟩
noncomputable def dIxS (i:Nat) (de dk:DE):DE:=fun ds q x=>∃ a μ,ds[i]?=some (.st a μ)∧de ds (fun o=>dk ds (fun k=>∃ b xs n d,o = .rf b∧k = .int n∧μ.lookup b=some (.lst xs)∧atI xs n=some d∧q d) x) x
theorem VP (i:Nat) {a b:Expr}{da db:DE}{pos:Pos}(ha:JE X XE a da) (hb:JE X XE b db) (hs:Gz b:=by exact fun _ _=>rfl):JE X XE (.Subscript a b pos) (dIxS i da db):=by
 obtain ⟨ta,p1,d1⟩:=ha.ex
 obtain ⟨tb,p2,d2⟩:=hb.ex
 refine ⟨_,qG xj p1 p2 hs,fun c h k kx=>?_⟩
 obtain ⟨r,μ,hi,h⟩:=h
 refine d1 c h (fun v o H1 H2 e r1 h=>d2 (c.go e) h (fun u n H3 H4 e' r2 h'=>?_) (kx.go e.s)) kx
 obtain ⟨b,xs,n,d,rfl,rfl,hl,hx,hq⟩:=h'
 have e2:=e.trans e'
 obtain ⟨h0,u',h1,vs,rfl,h2⟩:=((c.go e2).slot i _ hi).2 b _ hl
 obtain ⟨v',e3,r3⟩:=GY h2 hx
 exact .inl ⟨b,vs,n,v',r1,r2,SqL.of h1,e3,k _ d _ _ e2 r3 hq⟩
noncomputable def dLenS (i:Nat) (da:DA):DE:=fun ds q x=>∃ a μ,ds[i]?=some (.st a μ)∧da ds (fun os=>∃ b xs,os=[.rf b]∧μ.lookup b=some (.lst xs)∧q (.int xs.length)) x
noncomputable def Mu.put (μ:Mu) (b:Addr) (m:MO):Mu:=μ.map fun x=>if x.1=b then (x.1,m) else x
theorem Mu.Iq {μ:Mu}{b:Addr}{m n:MO}(h:μ.lookup b=some n) (c:Addr):(μ.put b m).lookup c=if c=b then some m else μ.lookup c:=by
 induction μ with
 | nil=>cases h
 | cons x μ ih =>
  obtain ⟨a,o⟩:=x
  unfold Mu.put at ih ⊢
  rw [map_cons]
  by_cases ab:a=b
  ·subst ab
   rw [if_pos rfl,lookup_cons,lookup_cons]
   by_cases ca:c=a
   ·subst ca;simp
   ·have:(c == a)=false:=by simpa using ca
    rw [this,if_neg ca]
    dsimp only
    have:∀ ν:Mu,(ν.map fun x=>if x.1=a then (x.1,m) else x).lookup c=ν.lookup c:=by
     intro ν
     induction ν with
     | nil=>rfl
     | cons y ν ih2 =>
      rw [map_cons]
      by_cases ya:y.1=a
      ·rw [if_pos ya,lookup_cons,lookup_cons,ih2]
       have:(c == y.1)=false:=by rw [ya];simpa using ca
       rw [this]
      ·rw [if_neg ya,lookup_cons,lookup_cons,ih2]
    exact this μ
  ·rw [if_neg ab,lookup_cons,lookup_cons]
   have hb:(b == a)=false:=by simpa using Ne.symm ab
   rw [lookup_cons,hb] at h
   by_cases ca:c=a
   ·subst ca
    simp [ab]
   ·have:(c == a)=false:=by simpa using ca
    rw [this]
    exact ih h
theorem Cfg.putS {K:aj}{B0 B H0 H:Hp}{σ:St}{ds:DSt}(c:Cfg K B0 B H0 H σ ds) {i:Nat}{a b:Addr}{μ:Mu}{m n:MO}{o:HO}(q:ds[i]?=some (.st a μ)) (l:μ.lookup b=some n) (h:zx K H0 m o):Cfg K B0 B H0 (upd H b o) σ (ds.set i (.st a (μ.put b m))):=by
 have old:=c.slot i _ q
 refine c.write q ⟨n,l⟩ (fun b' ⟨m',f⟩=>?_) ⟨old.1,fun b' m' f=>?_⟩
 ·rw [Mu.Iq l] at f
  split at f
  ·rename_i e;exact ⟨n,e ▸ l⟩
  ·exact ⟨m',f⟩
 ·rw [Mu.Iq l] at f
  split at f
  ·rename_i e
   cases f
   rw [e]
   exact ⟨(old.2 b n l).1,o,Zu,h⟩
  ·rename_i ne
   obtain ⟨h1,u,h2,h3⟩:=old.2 b' m' f
   exact ⟨h1,u,by rw [Zk ne];exact h2,h3⟩
noncomputable def pC (pk:List Nat) (i:Nat) (dO dk de:DE):DS:=fun ds e=>∃ a μ,ds[i]?=some (.st a μ)∧de (peekAt pk ds) (fun d=>(pk=[]∨d.imm=true)∧dO ds (fun o=>dk ds (fun k=>∃ b xs n j,o = .rf b∧k = .int n∧μ.lookup b=some (.lst xs)∧ixN xs.length n=some j∧e.nx (ds.set i (.st a (μ.put b (.lst (xs.set j d)))))) (e.xc ds)) (e.xc ds)) (e.xc ds)
theorem Jr (pk:List Nat) (i:Nat) {t k e:Expr}{dO dk de:DE}{ipos pos:Pos}(ht:JE X XE t dO) (hk:JE X XE k dk) (he:JE X XE e de)
  (ha:∀ v,assign (.Subscript t k ipos) X.env v=(do
   let ov ← holding [v] (eval t X.env)
   let iv ← holding [v,ov] (eval k X.env)
   standAt ipos
   holding [v,ov,iv] (setItem ov iv v)
   release [v,ov,iv] []):=by intro _;rfl)
  (hs:autoParam (swapsWithSole [.Subscript t k ipos] e pos.line X.env=pure false) auR) (hw:autoParam (swappedStores [.Subscript t k ipos] e X.env=pure none) auR)
  (h1:autoParam ((assignEach [.Subscript t k ipos] X.env).map (·.2)=[assign (.Subscript t k ipos) X.env]) auR) :
  JS X XE (.Assign [.Subscript t k ipos] e pos) (pC pk i dO dk de):=by
 obtain ⟨tk,p2,d2⟩:=hk.ex
 obtain ⟨te,p1,d1⟩:=he.ex
 obtain ⟨to,p3,d3⟩:=ht.ex
 refine ⟨_,Gu p1 (yM p3 p2 set_list ha) hs hw h1,fun {B0 B H0 H σ ds e T} c h o=>?_⟩
 obtain ⟨r,μ,hi,h⟩:=h
 have fin:∀ {H1 H2:Hp}{a:D}{v:V},Ext H0 H H1 H2→Rp X.K H1 a v→dO ds (fun o=>dk ds (fun k=>∃ b xs n j,o = .rf b∧k = .int n∧μ.lookup b=some (.lst xs)∧ixN xs.length n=some j∧e.nx (ds.set i (.st r (μ.put b (.lst (xs.set j a)))))) (e.xc ds)) (e.xc ds)→gSub to tk xl v σ H2 T.nx:=by
  intro H1 H2 a v e' ra h
  refine d3 (c.go e') h (fun ov od H3 H4 e2 ro h=>d2 (c.go (e'.trans e2)) h (fun kv kd H5 H6 e3 rk h=>?_) ((o.kx c).go (e'.trans e2).s)) ((o.kx c).go e'.s)
  obtain ⟨b,xs,n,j,rfl,rfl,hl,ij,hq⟩:=h
  have e4:=(e'.trans e2).trans e3
  have c4:=c.go e4
  obtain ⟨h0,u',h1,vs,rfl,h2⟩:=(c4.slot i _ hi).2 b _ hl
  refine ⟨b,vs,n,j,ro,rk,h1,by rw [h2.length];exact ij,?_⟩
  exact o.nx _ _ _ _ (c4.putS hi hl (m := .lst (xs.set j a)) ⟨_,rfl,Rps.set (ra.same (e2.trans e3).s0) j h2⟩) hq
 by_cases hpk:pk=[]
 ·subst hpk
  exact d1 c h (fun v a H1 H2 e' r h=>fin e' r h.2) (o.kx c)
 ·obtain ⟨H1,c1,s1,l1,n1⟩:=c.peekAt pk
  refine d1 c1 h (fun v a H2 H3 e' r h=>?_) (o.kx c)
  obtain ⟨H4,e4,l4,_⟩:=e'.GQ s1 c.sub l1 n1
  exact fin e4 (Rp.less l4 a (h.1.resolve_left hpk) r) h.2
noncomputable def pD (pk:List Nat) (i:Nat) (df:DA):DS:=fun ds e=>df (peekAt pk ds) (fun xs=>D.GO xs=true∧∀ a,e.nx (ds.set i (.st a [(a,.lst xs)]))) (e.xc ds)
theorem Cfg.newS {K:aj}{B0 B H0 H H0' H':Hp}{σ:St}{ds:DSt}(c:Cfg K B0 B H0 H σ ds) (i:Nat) {a:Addr}{vs:List V}{xs:List D}(e:Ext H0 H H0' H') (n:H a=none) (n0:H0' a=none) (h:H' a=some (.lst vs)) (r:Rps K H0' xs vs):Cfg K B0 B H0' H' (σ.set i (some (.ref a))) (ds.set i (.st a [(a,.lst xs)])):=by
 have one:∀ b m,([(a,MO.lst xs)]:Mu).lookup b=some m→b=a∧m = .lst xs:=fun b m l=>by
  rw [lookup_cons] at l
  by_cases e:b=a
  ·subst e;simp at l;exact ⟨rfl,l.symm⟩
  ·have:(b == a)=false:=by simpa using e
   rw [this] at l;cases l
 refine (c.go e).lay i (s := .st a [(a,.lst xs)]) ⟨rfl,fun b m l=>?_⟩ (fun b ⟨m,l⟩=>?_) fun b j t _ q ⟨m,l⟩ g=>?_
 ·obtain ⟨rfl,rfl⟩:=one b m l
  exact ⟨n0,_,h,vs,rfl,r⟩
 ·obtain ⟨rfl,rfl⟩:=one b m l
  exact c.ext.s.free n
 ·obtain ⟨rfl,rfl⟩:=one b m l
  exact (c.Ob q g).2 n
theorem Au (pk:List Nat) {i:Nat}{x:Str}{e:Expr}{df:DA}{pos pos':Pos}(hN:X.N.Nodup) (hi:X.N[i]?=some x) (hx:Loc X.env.scope x) (he:JF X XE e df) (hs:autoParam (swapsWith e (some (.Name x pos')) pos.line X.env=pure false) auR)
  (hf:X.fn x=true∨X.env.scope.names.lookup x=some .local:=by first | exact .inl rfl | exact .inr rfl | assumption):JS X XE (.Assign [.Name x pos'] e pos) (pD pk i df):=by
 obtain ⟨te,p,d⟩:=he.ex
 refine ⟨_,Mq hN hi hx p hs hf,fun {B0 B H0 H σ ds e T} c h o=>?_⟩
 obtain ⟨H1,c1,s1,l1,n1⟩:=c.peekAt pk
 refine d c1 h (fun a vs xs H2 H3 e' n n0 ha r hq=>?_) (o.kx c)
 obtain ⟨H4,e4,l4,s4⟩:=e'.GQ s1 c.sub l1 n1
 exact o.nx _ _ _ _ (c.newS i e4 n (s4.free n0) ha (Rps.less l4 xs hq.1 r)) (hq.2 a)
noncomputable def pE (pk:List Nat) (de:DE):DS:=fun ds e=>de (peekAt pk ds) (fun d=>e.rb d (peekAt pk ds)) (e.xc ds)
theorem Av (pk:List Nat) {e:Expr}{de:DE}{pos:Pos}(he:JE X XE e de):JS X XE (.Return (some e) pos) (pE pk de):=by
 obtain ⟨te,p,d⟩:=he.ex
 refine ⟨_,Jx p,fun {B0 B H0 H σ ds e T} c h o=>?_⟩
 obtain ⟨H1,c1,s1,l1,n1⟩:=c.peekAt pk
 exact d c1 h (fun v a H2 H3 e' r h=>o.rb v a H2 H3 _ _ (c1.go e') r h) (o.kx c)
noncomputable def pF (i:Nat):DS:=fun ds e=>∃ ys,ds[i]?=some (.own ys)∧e.ro ys (ds.set i .un)
theorem Cfg.drop {K:aj}{B0 B H0 H:Hp}{σ:St}{ds:DSt}(c:Cfg K B0 B H0 H σ ds) (i:Nat):Cfg K B0 B H0 H σ (ds.set i .un):=by
 by_cases hi:i < ds.length
 case neg=>rw [Jo hi];exact c
 have e:σ.set i ((σ[i]?).getD none)=σ:=by
  have hi':i < σ.length:=by rw [c.len];exact hi
  rw [aB hi']
  exact List.set_getElem_self hi'
 have:=c.setN i (s := .un) (o:=(σ[i]?).getD none) rfl trivial
 rw [e] at this
 exact this
theorem rK (i:Nat) {x:Str}{p pos:Pos}(hN:autoParam (X.N[i]?=some x) auR) (hv:Vis X.env.scope x:=by first | exact Or.inl rfl | exact Or.inr (Or.inl rfl) | exact Or.inr (Or.inr rfl)) (hd:autoParam ((x == ("__debug__" : Str))=false) auD)
  (hcd:autoParam ((x == ("__classdict__" : Str))=false) auD):JS X XE (.Return (some (.Name x p)) pos) (pF i):=by
 refine ⟨_,Jx (pv i hN hv hd hcd),fun {B0 B H0 H σ ds e T} c h o=>?_⟩
 obtain ⟨ys,hi,h⟩:=h
 obtain ⟨a,vs,e1,h0,h1,h2⟩:=c.slot i _ hi
 refine ⟨.ref a,Wb e1,?_⟩
 refine o.ro a vs ys H0 H σ _ (c.drop i) (c.young i _ a hi e1) h0 h1 h2 (fun j s q f=>?_) h
 have hl:i < ds.length:=(List.getElem?_eq_some_iff.mp hi).1
 rw [Xu hl] at q
 split at q
 ·cases q;exact f.elim
 ·rename_i ne
  exact c.sep j i s _ a ne q hi f e1
noncomputable def pG (pk:List Nat) (df:DA):DS:=fun ds e=>df (peekAt pk ds) (fun ys=>e.ro ys (peekAt pk ds)) (e.xc ds)
theorem rL (pk:List Nat) {e:Expr}{df:DA}{pos:Pos}(he:JF X XE e df):JS X XE (.Return (some e) pos) (pG pk df):=by
 obtain ⟨te,p,d⟩:=he.ex
 refine ⟨_,Jx p,fun {B0 B H0 H σ ds e T} c h o=>?_⟩
 obtain ⟨H1,c1,s1,l1,n1⟩:=c.peekAt pk
 refine d c1 h (fun a vs ys H2 H3 e' n n0 ha r hq=>o.ro a vs ys H2 H3 _ _ (c1.go e') (c.ext.s.free n) n0 ha r (fun j s q f=>(c1.Ob q f).2 n) hq) (o.kx c)
end
end L2
namespace HT
open PySem PySem.Spec PyProof.Rows L2
section
variable {prog:Program}{w:World}{A:Around}{E:Value→Shared→Prop}{s:Shared}
theorem CD (n:Nat):Builtin.Slice.sliceAdjust none none (-1) (n:Int)=((n:Int) - 1,-1):=by
 unfold Builtin.Slice.sliceAdjust
 simp
theorem CF (n:Nat):Builtin.Slice.slicePlaces ((n:Int) - 1) (-1) (-1)=n:=by
 unfold Builtin.Slice.slicePlaces
 have h1:¬ ((-1:Int) > 0):=by decide
 simp only [h1,if_false]
 have e:((n:Int) - 1 - -1 - 1) / (- -1)=(n:Int) - 1:=by
  rw [show (- -1:Int)=1 by decide,Int.ediv_one]
  omega
 rw [e]
 split <;> omega
theorem MF {sl:Addr}{vk:Value}{n:Nat}{Q:Int × Int × Nat→Shared→Prop}(hs:s.heap.IsSliceOf sl .none .none vk) (pk:IsPart vk (some (-1)))
  (h:Q ((n:Int) - 1,-1,n) s):wpAny (model prog w) A (Builtin.Slice.sliceApplied (.ref sl) (pure (n:Int))) Q E s:=by
 obtain ⟨os,hos,hcs,hds⟩:=id hs
 unfold Builtin.Slice.sliceApplied Builtin.Slice.sliceFields
 refine ak (ak (wpAny_field hos hds (x := .none) rfl (ak (wpAny_field hos hds (x := .none) rfl (ak (wpAny_field hos hds (x:=vk) rfl (ao ?_)))))))
 refine ak (PY pk ?_)
 show wpAny _ _ (if ((-1:Int) == 0)=true then _ else _) _ _ s
 rw [if_neg (by decide)]
 refine ak (slicePart_none (ak (slicePart_none (ak (ao ?_)))))
 show wpAny _ _ (match Builtin.Slice.sliceAdjust none none (-1) (n:Int) with | (lo,hi)=>pure (lo,(-1:Int),Builtin.Slice.slicePlaces lo hi (-1))) _ _ s
 rw [CD n]
 show wpAny _ _ (pure ((n:Int) - 1,(-1:Int),Builtin.Slice.slicePlaces ((n:Int) - 1) (-1) (-1))) _ _ s
 rw [CF]
 exact ao h
theorem vQ (xs:Array Value):((List.range xs.size).filterMap fun (m:Nat)=>xs[((xs.size:Int) - 1 + (m:Int) * -1).toNat]?).toArray=xs.toList.reverse.toArray:=by
 have e:(List.range xs.size).filterMap (fun (m:Nat)=>xs[((xs.size:Int) - 1 + (m:Int) * -1).toNat]?)=((List.range xs.size).map (fun k=>xs.size - 1 - k)).filterMap (xs[·]?):=by
  rw [List.filterMap_map]
  have key:∀ l:List Nat,(∀ m∈l,m < xs.size)→l.filterMap (fun (m:Nat)=>xs[((xs.size:Int) - 1 + (m:Int) * -1).toNat]?)=l.filterMap ((xs[·]?) ∘ fun k=>xs.size - 1 - k):=by
   intro l
   induction l with
   | nil=>intro _;rfl
   | cons m l ih =>
    intro h
    have hm:=h m (mem_cons_self ..)
    have e:((xs.size:Int) - 1 + (m:Int) * -1).toNat=xs.size - 1 - m:=by omega
    rw [filterMap_cons,filterMap_cons,ih fun k hk=>h k (mem_cons_of_mem _ hk),e]
    rfl
  exact key _ fun m hm=>mem_range.mp hm
 rw [e,PySem.W.krv_range,List.filterMap_reverse,PySem.W.krv_all]
theorem NR {t sl:Addr}{items:Array Value}{vk:Value}{Q:Value→Shared→Prop}(ht:IsTup s.heap t items) (hs:s.heap.IsSliceOf sl .none .none vk) (pk:IsPart vk (some (-1)))
  (h:Q (.ref s.heap.objs.size) { s with heap:=s.heap.push { cls := .type "tuple",data := .seq items.toList.reverse.toArray } })
  (hsz:items.size≤aA):wpAny (model prog w) A (getItem (.ref t) (.ref sl)) Q E s:=by
 have htake:sizeOk (.seq items.toList.reverse.toArray):=by
  show items.toList.reverse.toArray.size≤aA
  rw [size_toArray,List.length_reverse,Array.length_toList]
  omega
 obtain ⟨os,hos,hcs,hds⟩:=id hs
 have hTs:s.TypeIs (.ref sl) "slice" := ⟨os,hos,hcs⟩
 unfold getItem
 try with_reducible refine wpAny_holding ?_
 first | refine ak (ao ?_) | skip
 refine ak (wpAny_sequenceKey ht.typeIs (by decide) ?_)
 refine ak (wpAny_callSpecial?_slot (name:=Str.ofString "__getitem__") ht.typeIs PyProof.Rows.slot_tuple_getitem
  (wpAny_call_entry PyProof.Rows.slot_tuple_getitem ht.typeIs entry_tuple_getitem ?_ (args_tuple_getitem _ _)))
 show wpAny _ _ (Builtin.Tuple.tupleItemsOf (.ref t) >>= _) _ _ s
 refine ak (tupleItemsOf_ ht ?_)
 refine ak (wpAny_typeOf hTs ?_)
 rw [if_pos (by decide)]
 refine ak (MF hs pk ?_)
 have hno:¬ (((items.size:Int) - 1 == 0 && (-1:Int) == 1 && items.size == items.size)=true):=by
  intro q
  rw [aD,aD] at q
  exact absurd q.1.2 (by decide)
 show wpAny _ _ (if ((items.size:Int) - 1 == 0 && (-1:Int) == 1 && items.size == items.size)=true then _ else _) _ _ s
 rw [if_neg hno,vQ]
 first
  | exact ak (m:=Builtin.Tuple.tupleExact _) (wpAny_newObj_type (ao ⟨_,rfl,ao h⟩) htake)
  | exact ak (m:=Builtin.Tuple.tupleExact _) (wpAny_newObj_type (ak (ao (ao ⟨_,rfl,ao h⟩))) htake)
  | exact ak (ak (m:=Builtin.Tuple.tupleExact _) (wpAny_newObj_type (ao (ao ⟨_,rfl,ao h⟩)) htake))
  | exact ak (ak (m:=Builtin.Tuple.tupleExact _) (wpAny_newObj_type (ao ⟨_,rfl,ao h⟩) htake))
theorem Pu {t sl:Addr}{items:Array Value}{vl vu:Value}{lo hi:Option Int}{Q:Value→Shared→Prop}(ht:IsTup s.heap t items) (hs:s.heap.IsSliceOf sl vl vu .none) (pl:IsPart vl lo) (pu:IsPart vu hi)
  (hw:sIx items.size 0 lo=0∧sIx items.size items.size hi=items.size)
  (h:Q (.ref t) s):wpAny (model prog w) A (getItem (.ref t) (.ref sl)) Q E s:=by
 obtain ⟨os,hos,hcs,hds⟩:=id hs
 have hTs:s.TypeIs (.ref sl) "slice" := ⟨os,hos,hcs⟩
 unfold getItem
 try with_reducible refine wpAny_holding ?_
 first | refine ak (ao ?_) | skip
 refine ak (wpAny_sequenceKey ht.typeIs (by decide) ?_)
 refine ak (wpAny_callSpecial?_slot (name:=Str.ofString "__getitem__") ht.typeIs PyProof.Rows.slot_tuple_getitem
  (wpAny_call_entry PyProof.Rows.slot_tuple_getitem ht.typeIs entry_tuple_getitem ?_ (args_tuple_getitem _ _)))
 show wpAny _ _ (Builtin.Tuple.tupleItemsOf (.ref t) >>= _) _ _ s
 refine ak (tupleItemsOf_ ht ?_)
 refine ak (wpAny_typeOf hTs ?_)
 rw [if_pos (by decide)]
 refine ak (Tp hs pl pu ?_)
 have hyes:(((sIx items.size 0 lo:Nat):Int) == 0 && (1:Int) == 1 && (sIx items.size items.size hi - sIx items.size 0 lo) == items.size)=true:=by
  rw [hw.1,hw.2]
  simp
 show wpAny _ _ (if (((sIx items.size 0 lo:Nat):Int) == 0 && (1:Int) == 1 && (sIx items.size items.size hi - sIx items.size 0 lo) == items.size)=true then _ else _) _ _ s
 rw [if_pos hyes]
 unfold Builtin.Tuple.tupleIsExact
 refine ak (ak (wpAny_typeOf ht.typeIs (ao ?_)))
 show wpAny _ _ (if ((Value.type "tuple" == Value.type "tuple")=true) then _ else _) _ _ s
 rw [if_pos (by decide)]
 exact ak (wpAny_rule (ao ⟨_,rfl,ao h⟩))
end
end HT
namespace L2
open PySem PySem.Spec PyProof.Rows
section
variable {X:Cx}{XE:St→XK}
noncomputable def rSlW (K:aj):V→Option Int→Option Int→Hp→VK→Prop:=fun x lo hi H Q=>∃ a xs,x = .ref a∧SqT K H a xs ∧
 (HT.sIx xs.length 0 lo=0∧HT.sIx xs.length xs.length hi=xs.length)∧Q (.ref a) H
theorem rM:SlR X (rSlW X.K):=by
 intro pins s σ H x v vl vu lo hi sl Q I rx hs pl pu h
 obtain ⟨a,xs,rfl,hx,hw,q⟩:=h
 cases rx
 obtain ⟨its,r,ht,hz⟩:=I.tuple hx
 have hlen:its.toArray.size=xs.length:=by rw [size_toArray];exact r.length.symm
 refine ⟨"tuple",_,PyProof.Rows.slot_tuple_getitem.lookup,ht.typeIs,?_⟩
 refine HT.Pu ht hs pl pu (by rw [hlen];exact hw) ?_
 exact ⟨.ref a,H,I,rfl,q⟩
noncomputable def Aw (de:DE) (dl dh:DO):DE:=fun ds q x=>de ds (fun a=>dl ds (fun lo=>dh ds (fun hi=>∃ xs,a = .tup xs∧q (.tup (cutD xs lo hi))) x) x) x
theorem zV {e:Expr}{de:DE}{lo hi:Option Expr}{dl dh:DO}{pos p2:Pos}(he:JE X XE e de) (hl:JO X XE lo dl) (hh:JO X XE hi dh):JE X XE (.Subscript e (.Slice lo hi none p2) pos) (Aw de dl dh):=by
 obtain ⟨ta,p1,d1⟩:=he.ex
 obtain ⟨tl,p3,d3⟩:=hl.ex
 obtain ⟨th,p4,d4⟩:=hh.ex
 refine ⟨_,FV (rM.or oE) p1 p3 p4,fun c h k kx=>d1 c h (fun v a H1 H2 e r h=>d3 (c.go e) h (fun lo H3 H4 e' h'=>d4 (c.go (e.trans e')) h' (fun hi H5 H6 e2 h2=>?_) (kx.go (e.trans e').s)) (kx.go e.s)) kx⟩
 have e3:=(e.trans e').trans e2
 have s3:=(c.go e3).sub
 have r3:=r.same (e'.trans e2).s0
 obtain ⟨xs,rfl,hq⟩:=h2
 obtain ⟨p,vs,rfl,h5,h6⟩:=r3
 by_cases hw:HT.sIx vs.length 0 lo=0∧HT.sIx vs.length vs.length hi=vs.length
 ·refine .inl ⟨p,vs,rfl,SqT.of (s3 _ _ h5),hw,?_⟩
  have:cutD xs lo hi=xs:=by
   unfold cutD
   rw [h6.length] at hw
   rw [hw.1,hw.2,List.drop_zero,Nat.sub_zero,take_length]
  rw [this] at hq
  exact k _ (.tup xs) _ _ e3 ⟨p,vs,rfl,h5,h6⟩ hq
 ·refine .inr ⟨p,vs,rfl,SqT.of (s3 _ _ h5),hw,fun l hl=>?_⟩
  exact k _ (.tup _) _ _ (e3.trans (.put s3 hl)) (RQ (GZ h6) (s3.free hl)) hq
noncomputable def pH (de:DE) (dk:DE):DE:=fun ds q x=>de ds (fun a=>dk ds (fun k=>k = .int (-1)∧∃ xs,a = .tup xs∧q (.tup xs.reverse)) x) x
theorem mn {e k:Expr}{de dk:DE}{pos p2:Pos}(he:JE X XE e de) (hk:JE X XE k dk) (hsub:∀ a b:Addr,∃ ops,subscripted (.Slice none none (some k) p2) false (.ref a) (.ref b)=operate ops (getItem (.ref a) (.ref b)):=by intro a b;exact ⟨_,by with_unfolding_all rfl⟩):JE X XE (.Subscript e (.Slice none none (some k) p2) pos) (pH de dk):=by
 obtain ⟨ta,p1,d1⟩:=he.ex
 obtain ⟨tk,p3,d3⟩:=hk.ex
 refine ⟨fun σ H Q=>ta σ H fun x H1=>qB tk σ H1 fun y H2=>y=some (-1)∧∃ a xs,x = .ref a∧SqT X.K H2 a xs∧∀ p,H2 p=none→Q (.ref p) (upd H2 p (.tup xs.reverse)),?_,fun c h kq kx=>d1 c h (fun v a H1 H2 e r h=>d3 (c.go e) h (fun u b H3 H4 e' r' h'=>?_) (kx.go e.s)) kx⟩
 ·intro pins s σ H Q I h
  refine Subscript_ (thn (p1 pins s σ H _ I h) fun v s1 ⟨x,H1,I1,r1,q1⟩=>?_)
  refine wpAny_Slice ?_
  rw [evalPart_none]
  refine ao (ao ?_)
  refine thn (BF p3 pins s1 σ H1 _ I1 q1) fun vk s3 ⟨o,H3,I3,pk,q3⟩=>?_
  obtain ⟨rfl,a,xs,rfl,hx,hq⟩:=q3
  cases r1
  have I4:Inv X pins σ H3 { s3 with heap:=s3.heap.push { cls := .type "slice",data := .fields #[.none,.none,vk] } }:=I3.kept (t':=s3.toks) fun b ob q=>aq _ q
  show wpAny (model X.prog X.w) X.A (subscriptTail e (.Slice none none (some k) p2) (.ref a) (.ref s3.heap.objs.size)) (EP X pins σ Q) X.xe { s3 with heap:=s3.heap.push { cls := .type "slice",data := .fields #[.none,.none,vk] } }
  obtain ⟨its,r,ht,hz⟩:=I4.tuple hx
  have hlen:its.toArray.size=xs.length:=by rw [size_toArray];exact r.length.symm
  obtain ⟨ops,hops⟩:=hsub a s3.heap.objs.size
  refine tail_any (ops:=ops) ht.typeIs PyProof.Rows.slot_tuple_getitem.lookup ?_ hops
  refine HT.NR ht (Heap.IsSliceOf.new ..) pk ?_ (by rw [hlen];exact hz)
  refine ⟨.ref _,_,I4.laid (t':=s3.toks) (o := .tup xs.reverse) (fun b ob q=>aq _ q) (Nat.le_refl _) ?_,rfl,hq _ (I4.hok.fresh (Nat.le_refl _))⟩
  exact ⟨by rw [List.length_reverse];exact hz,_,Vals.reverse r,IsTup.new _ _⟩
 ·obtain ⟨rfl,xs,rfl,hq⟩:=h'
  have e3:=e.trans e'
  have s3:=(c.go e3).sub
  obtain ⟨p,vs,rfl,h5,h6⟩:=r.same e'.s0
  exact ⟨_,r',rfl,p,vs,rfl,SqT.of (s3 _ _ h5),fun l hl=>kq _ (.tup _) _ _ (e3.trans (.put s3 hl)) (RQ (Rps.rev h6) (s3.free hl)) hq⟩
end
section
variable {P:Program}{w:World}{K:aj}{mg:Str→Option Value}{base:Heap}
theorem Zy.never {CX:CXT}{k:Nat}{f:Addr}{fd:FuncData}{ps:List Str}{sp:Sp}(h:∀ vs H Q E,¬ sp vs H Q E):Zy P w K mg base CX k f fd ps sp :=
 ⟨fun vs H Q E q=>(h _ _ _ _ q).elim,fun A outer s H args us vs Q E _ _ _ _ q=>(h _ _ _ _ q).elim⟩
theorem CG {H0 H:Hp}{N:List Str}{xs:List D}{vs:List V}{p:Nat}{a:Addr}{μ:Mu}(s:Zv H0 H) (r:Rps K H0 xs vs) (hl:xs.length≤N.length) (hp:xs[p]?=some (.rf a)) (hm:vP K H0 H μ) :
  ∃ B:Hp,(∀ b,μ.lookup b=none→B b=H b)∧(∀ b m,μ.lookup b=some m→B b=none)∧Cfg K H0 B H0 H (start N vs) ((Wq N xs).set p (.st a μ)):=by
 classical
 have c:=ME s r hl
 let B:Hp:=fun b=>if μ.lookup b=none then H b else none
 have hB1:∀ b,μ.lookup b=none→B b=H b:=fun b e=>if_pos e
 have hB2:∀ b m,μ.lookup b=some m→B b=none:=fun b m e=>if_neg (by rw [e];simp)
 have c':Cfg K H0 B H0 H (start N vs) (Wq N xs):=by
  refine ⟨⟨fun b o z=>?_,.refl _,s,fun b z n=>z⟩,c.slot,fun i t b e f=>?_,c.sep,c.len⟩
  ·by_cases e:μ.lookup b=none
   ·rw [hB1 b e] at z;exact z
   ·have:B b=none:=if_neg e
    rw [this] at z;cases z
  ·by_cases e':μ.lookup b=none
   ·rw [hB1 b e'];exact c.young i t b e f
   ·exact if_neg e'
 have hp':p < xs.length:=(List.getElem?_eq_some_iff.mp hp).1
 obtain ⟨v,e1,rv⟩:=r.get hp
 have rv:v = .ref a:=rv
 subst rv
 have hv:p < vs.length:=(List.getElem?_eq_some_iff.mp e1).1
 have es:((start N vs)[p]?).getD none=some (.ref a):=by
  unfold start
  rw [getElem?_append_left (by rw [length_map];exact hv),getElem?_map,e1]
  rfl
 have hs:p < (start N vs).length:=by
  unfold start
  rw [length_append,length_map]
  omega
 have no:∀ (i:Nat) t b,(Wq N xs)[i]?=some t→t.foot (((start N vs)[i]?).getD none) b→False:=fun i t b e f=>by
  have:=Slot.Xx f
  unfold Wq at e
  by_cases h:i < xs.length
  ·rw [getElem?_append_left (by rw [length_map];exact h),getElem?_map,aB h] at e
   cases e;cases this
  ·rw [getElem?_append_right (by rw [length_map];omega),length_map,getElem?_replicate] at e
   split at e
   ·cases e;cases this
   ·cases e
 refine ⟨B,hB1,hB2,?_⟩
 have:=c'.lay p (s := .st a μ) (o:=((start N vs)[p]?).getD none) ⟨es,hm⟩ (fun b ⟨m,l⟩=>hB2 b m l) fun b j t _ q _ f=>no j t b q f
 have e:(start N vs).set p (((start N vs)[p]?).getD none)=start N vs:=by
  rw [aB hs]
  exact List.set_getElem_self hs
 rw [e] at this
 exact this
theorem Lv.of {H0 H B H0' H':Hp}{σ:St}{ds:DSt}{p:Nat}{a:Addr}{μ μ':Mu}(h1:∀ b,μ.lookup b=none→B b=H b) (h2:∀ b m,μ.lookup b=some m→B b=none) (hm:vP K H0 H μ) (c:Cfg K H0 B H0' H' σ ds) (q:ds[p]?=some (.st a μ')):Lv K μ μ' H0 H H0' H':=by
 have sl:=c.slot p _ q
 refine ⟨fun b o e z=>c.ext.s _ _ (by rw [h1 b e];exact z),c.ext.s0,c.sub,fun b e z n=>c.ext.new b z (by rw [h1 b e];exact n),sl.2,fun b m e=>?_⟩
 ·have y:=c.young p _ b q ⟨m,e⟩
  cases z:μ.lookup b with
  | none=>right;rw [←h1 b z];exact y
  | some m'=>left;simp
theorem Fun.okS {x qual:Str}{st:Stmt}{f:Addr}{fd:FuncData}{N ps:List Str}{k p:Nat}{g:Ip}(F:Fun K x qual st f fd) (S:Zj N ps (Zf st)) (len:∀ xs μ q,g xs μ q→xs.length=ps.length)
  (hbody:∀ (cdv:Value) (A:Around) (outer:List Env) (s:Shared) (H:Hp) (E:XK),YF k (A.deeper (envOfC qual (Zf st) s.heap.objs.size f cdv)) →
   ∃ b,JSs (Xe (CXE P w) P w K mg base N qual (Zf st) f cdv A outer s H E) (fun _=>E) (ZR st) b∧∀ xs μ a q,xs[p]?=some (.rf a)→g xs μ q →
    b ((Wq N xs).set p (.st a μ)) { nx:=fun ds=>∃ a' μ',ds[p]?=some (.st a' μ')∧q .non μ',rt:=fun _=>False,xc:=fun _ _=>False,rb:=fun d ds=>∃ a' μ',ds[p]?=some (.st a' μ')∧q d μ' }):Zy P w K mg base (CXE P w) (k + 1) f fd ps (spS K p g):=by
 have hpl:ps.length≤N.length:=by have:=congrArg length S.pre;rw [length_take] at this;omega
 refine F.okX S (fun vs H Q E ⟨H0,xs,a,μ,q,s,r,hp,hm,h,_⟩=>by rw [r.length];exact len xs μ q h) fun cdv A outer s H vs Q E hr hsp=>?_
 obtain ⟨H0,xs,a,μ,q,s0,r,hp,hm,h,kq⟩:=hsp
 obtain ⟨b,j,hb⟩:=hbody cdv A outer s H E hr
 obtain ⟨t,pt,d⟩:=j.ex
 obtain ⟨B,b1,b2,c⟩:=CG s0 r (by rw [len xs μ q h];exact hpl) hp hm
 refine ⟨t,⟨pt⟩,d c (hb xs μ a q hp h) ⟨fun H0' H' σ ds c' ⟨a',μ',e,hq⟩=>kq .non .non μ' H0' H' (.of b1 b2 hm c' e) rfl hq,fun _ _ _ _ _ _ h=>h.elim,fun _ _ _ _ _ _ h=>h.elim,fun _ _ _ _ _ h=>h.elim,fun _ _ _ _ _ h=>h.elim,fun v d H0' H' σ ds c' r' ⟨a',μ',e,hq⟩=>kq v d μ' H0' H' (.of b1 b2 hm c' e) r' hq,fun _ _ _ _ _ _ _ _ _ _ _ _ _ h=>h.elim⟩⟩
theorem Fun.okF {x qual:Str}{st:Stmt}{f:Addr}{fd:FuncData}{N ps:List Str}{k:Nat}{g:zU}(F:Fun K x qual st f fd) (S:Zj N ps (Zf st)) (len:∀ xs q x,g xs q x→xs.length=ps.length)
  (hbody:∀ (cdv:Value) (A:Around) (outer:List Env) (s:Shared) (H:Hp) (E:XK),YF k (A.deeper (envOfC qual (Zf st) s.heap.objs.size f cdv)) →
   ∃ b,JSs (Xe (CXE P w) P w K mg base N qual (Zf st) f cdv A outer s H E) (fun _=>E) (ZR st) b∧∀ xs q x,g xs q x→b (Wq N xs) { nx:=fun _=>False,rt:=fun _=>False,xc:=fun _=>x,ro:=fun ys _=>q ys }):Zy P w K mg base (CXE P w) (k + 1) f fd ps (spF K g):=by
 have hpl:ps.length≤N.length:=by have:=congrArg length S.pre;rw [length_take] at this;omega
 refine F.okX S (fun vs H Q E ⟨H0,xs,q,x,s,r,h,_⟩=>by rw [r.length];exact len xs q x h) fun cdv A outer s H vs Q E hr hsp=>?_
 obtain ⟨H0,xs,q,x,s0,r,h,kq,kx⟩:=hsp
 obtain ⟨b,j,hb⟩:=hbody cdv A outer s H E hr
 obtain ⟨t,p,d⟩:=j.ex
 refine ⟨t,⟨p⟩,d (ME s0 r (by rw [len xs q x h];exact hpl)) (hb xs q x h) ⟨fun _ _ _ _ _ h=>h.elim,fun _ _ _ _ _ _ h=>h.elim,fun H0' H' σ ds C c hx=>kx C H' c.ext.s hx,fun _ _ _ _ _ h=>h.elim,fun _ _ _ _ _ h=>h.elim,fun _ _ _ _ _ _ _ _ h=>h.elim,fun a us ys H0' H' σ ds c n n0 e r' _ hq=>kq a us ys H0' H' c.ext n n0 e r' hq⟩⟩
theorem Zy.fz {k:Nat}{f:Addr}{fd:FuncData}{ps:List Str}{g:zU}(F:Zy P w K mg base (CXE P w) k f fd ps (spF K g)):Zy P w K mg base (CXE P w) k f fd ps (spD K fun xs q x=>g xs (fun ys=>q (.lst ys)) x) :=
 F.imp fun vs H Q E ⟨H0,xs,q,x,s,r,h,kq,kx⟩=>⟨H0,xs,_,x,s,r,h,fun a us ys H0' H' e n n0 ha r' hq=>kq _ (.lst ys) _ _ (wx e n n0 ha) (Vh r' n0) hq,kx⟩
end
section
variable {X:Cx}{XE:St→XK}
noncomputable def Ir (p j:Nat) (g:Ip) (da:DA) (k:D→DSt→RU→Prop):DS:=fun ds e=>∃ a0 μ,ds[j]?=some (.st a0 μ)∧da ds (fun xs=>(∃ a,xs[p]?=some (.rf a))∧g xs μ fun d μ'=>k d (ds.set j (.st a0 μ')) e) (e.xc ds)
theorem MG {K:aj}{ta:TA}{da:DA}{p j:Nat}{g:Ip}{k:D→DSt→RU→Prop}(d1:DenA K XE ta da) {B0 B H0 H:Hp}{σ:St}{ds:DSt}{e:RU}{T:Ends}(c:Cfg K B0 B H0 H σ ds) (h:Ir p j g da k ds e) (o:Fd K XE B0 B e T) {Q:VK}
  (kq:∀ v d ds' H0' H',Cfg K B0 B H0' H' σ ds'→Rp K H0' d v→(∀ i,i≠j→ds'[i]?=ds[i]?)→(∀ i s a u,i≠j→ds[i]?=some s→s.foot ((σ[i]?).getD none) a→H a=some u→H' a=some u)→k d ds' e→Q v H'):Ci (spS K p g) XE ta σ H Q:=by
 obtain ⟨a0,μ,hj,h⟩:=h
 refine d1 c h (fun vs xs H1 H2 e1 r h=>?_) (o.kx c)
 obtain ⟨⟨a,hp⟩,h⟩:=h
 have c1:=c.go e1
 refine ⟨H1,xs,a,μ,_,e1.sub,r,hp,(c1.slot j _ hj).2,h,fun v d μ' H0' H' l r' hq=>?_⟩
 refine kq v d _ H0' H' (c1.goS (a':=a) hj l) r' (fun i ne=>by rw [getElem?_set_ne (Ne.symm ne)]) (fun i s b u ne q f z=>l.s b u ?_ (e1.s _ _ z)) hq
 cases w:μ.lookup b with
 | none=>rfl
 | some m=>exact (c1.sep i j s _ b ne q hj f ⟨m,w⟩).elim
theorem ER (p j:Nat) {k:Nat}{f:Addr}{fd:FuncData}{ps:List Str}{g:Ip}{x y:Str}{i:Nat}{np pos pos' cpos:Pos}{e:Expr}{es:List Expr}{da:DA}(F:Zy X.prog X.w X.K X.mg X.base (CXE X.prog X.w) k f fd ps (spS X.K p g)) (hr:YF k X.A) (hg:Gl X x) (hm:X.mg x=some (.ref f)) (hk:keepIn X.K (.ref f)=true) (hb:Binds X.K fd ps []) (hx:Yy X XE)
  (ha:JAs X XE (e::es) da) (hN:X.N.Nodup) (hi:X.N[i]?=some y) (hy:Loc X.env.scope y) (hst:autoParam (ZS (e::es)=true) auR) (hdb:autoParam ((x == ("__debug__" : Str))=false) auD) (hs:autoParam (swapsWith (.Call (.Name x np) (e::es) [] cpos) (some (.Name y pos')) pos.line X.env=pure false) auR)
  (hf:X.fn y=true∨X.env.scope.names.lookup y=some .local:=by first | exact .inl rfl | exact .inr rfl | assumption):JS X XE (.Assign [.Name y pos'] (.Call (.Name x np) (e::es) [] cpos) pos) (Ir p j g da fun d ds e=>e.nx (ds.set i (.v d))):=by
 obtain ⟨ta,p1,d1⟩:=ha.ex
 refine ⟨_,Mq hN hi hy (NA F hr hg hm hk hb hx ⟨p1⟩ hst hdb).get hs hf,fun {B0 B H0 H σ ds e T} c h o=>?_⟩
 exact MG d1 c h o fun v d ds' H0' H' c' r _ _ hq=>o.nx _ _ _ _ (c'.setV i r) hq
theorem EV (p j:Nat) {k:Nat}{f:Addr}{fd:FuncData}{ps:List Str}{g:Ip}{x:Str}{np pos cpos:Pos}{e:Expr}{es:List Expr}{da:DA}(F:Zy X.prog X.w X.K X.mg X.base (CXE X.prog X.w) k f fd ps (spS X.K p g)) (hr:YF k X.A) (hg:Gl X x) (hm:X.mg x=some (.ref f)) (hk:keepIn X.K (.ref f)=true) (hb:Binds X.K fd ps []) (hx:Yy X XE)
  (ha:JAs X XE (e::es) da) (hst:autoParam (ZS (e::es)=true) auR) (hdb:autoParam ((x == ("__debug__" : Str))=false) auD) (hs:autoParam (swapsWith (.Call (.Name x np) (e::es) [] cpos) none pos.line X.env=pure false) auR):JS X XE (.Expr (.Call (.Name x np) (e::es) [] cpos) pos) (Ir p j g da fun _ ds e=>e.nx ds):=by
 obtain ⟨ta,p1,d1⟩:=ha.ex
 refine ⟨_,Nt (NA F hr hg hm hk hb hx ⟨p1⟩ hst hdb).get hs,fun {B0 B H0 H σ ds e T} c h o=>?_⟩
 exact MG d1 c h o fun v d ds' H0' H' c' r _ _ hq=>o.nx _ _ _ _ c' hq
theorem rN (i p j:Nat) (hij:i≠j) {k:Nat}{f:Addr}{fd:FuncData}{ps:List Str}{g:Ip}{x y:Str}{np apos bpos cpos dpos pos:Pos}{e:Expr}{es:List Expr}{da:DA}(F:Zy X.prog X.w X.K X.mg X.base (CXE X.prog X.w) k f fd ps (spS X.K p g)) (hr:YF k X.A) (hg:Gl X x) (hm:X.mg x=some (.ref f)) (hk:keepIn X.K (.ref f)=true) (hb:Binds X.K fd ps []) (hx:Yy X XE)
  (ha:JAs X XE (e::es) da) (hst:autoParam (ZS (e::es)=true) auR) (hdb:autoParam ((x == ("__debug__" : Str))=false) auD)
  (hN:autoParam (X.N[i]?=some y) auR) (hv:Vis X.env.scope y:=by first | exact Or.inl rfl | exact Or.inr (Or.inl rfl) | exact Or.inr (Or.inr rfl))
  (hst':autoParam (noStar (.Call (.Name x np) (e::es) [] cpos)=true) auR) (hbase:autoParam (attributeBase (.Name y bpos) "append" X.env (eval (.Name y bpos) X.env)=eval (.Name y bpos) X.env) auR)
  (hfew:autoParam (((backTo dpos (starEach [.Call (.Name x np) (e::es) [] cpos] X.env)).all (fun x => !x.1) && (backToKw dpos (keywordEach [] X.env)).all (fun x=>x.1.isSome)
   && decide ([Expr.Call (.Name x np) (e::es) [] cpos].length + ([]:List Keyword).length + (if ([]:List Keyword).isEmpty then 0 else 1) < 30))=true) auR)
  (hline:autoParam ((apos.endLine == dpos.line)=true) auR) (hs:autoParam (starEach [.Call (.Name x np) (e::es) [] cpos] X.env=(false,eval (.Call (.Name x np) (e::es) [] cpos) X.env)::starEach [] X.env) auR) (hplain:autoParam ((backTo dpos (starEach [] X.env)).any (·.1)=false) auR)
  (hsw:autoParam (swapsWith (.Call (.Attribute (.Name y bpos) "append" apos) [.Call (.Name x np) (e::es) [] cpos] [] dpos) none pos.line X.env=pure false) auR) (hd:autoParam ((y == ("__debug__" : Str))=false) auD) (hcd:autoParam ((y == ("__classdict__" : Str))=false) auD) :
  JS X XE (.Expr (.Call (.Attribute (.Name y bpos) "append" apos) [.Call (.Name x np) (e::es) [] cpos] [] dpos) pos) (fun ds e=>∃ xs,ds[i]?=some (.own xs)∧xs.length < aA∧Ir p j g da (fun d ds e=>e.nx (ds.set i (.own (xs++[d])))) ds e):=by
 obtain ⟨ta,p1,d1⟩:=ha.ex
 refine ⟨_,Nt (BH PySem.F.plainAttrs_list PySem.F.slot_list_append PySem.F.type_list_append JQ (pv i hN hv hd hcd) (Ei (NA F hr hg hm hk hb hx ⟨p1⟩ hst hdb).get PX hst') hbase hfew hline hs hplain) hsw,fun {B0 B H0 H σ ds e T} c h o=>?_⟩
 obtain ⟨xs,hi,hl,h⟩:=h
 obtain ⟨l,us,e1,f1,f2,f3⟩:=c.slot i _ hi
 refine ⟨.ref l,Wb e1,.inl ⟨rfl,us,SqL.of f2⟩,?_⟩
 refine MG d1 c h o fun v d ds' H0' H' c' r same keep hq=>?_
 have hi':ds'[i]?=some (.own xs):=by rw [same i hij];exact hi
 obtain ⟨l',us',e1',f1',f2',f3'⟩:=c'.slot i _ hi'
 rw [e1] at e1'
 cases e1'
 refine ⟨l,us',v,rfl,rfl,f2',by rw [f3'.length];exact hl,?_⟩
 obtain ⟨a',us2,g1,g2,g3,g4⟩:=c'.push (ys:=xs++[d]) hi'
 rw [e1] at g1
 cases g1
 exact o.nx _ _ _ _ (g4 H0' H' _ (.refl c'.sub) (f3'.snoc r)) hq
noncomputable def DenN (K:aj) (XE:St→XK) (ta:TA) (da:DSt→(List D→List D→Prop)→(Addr→Prop)→Prop):Prop:=∀ {B0 B H0 H:Hp}{σ:St}{ds:DSt}{q:List D→List D→Prop}{x:Addr→Prop}{Q:List V→Hp→Prop},Cfg K B0 B H0 H σ ds→da ds q x →
 (∀ vs a us xs ys H0' H',Ext H0 H H0' H'→H a=none→H0' a=none→H' a=some (.lst us)→Rps K H0' ys us→Rps K H0' xs vs→q xs ys→Q (vs++[.ref a]) H')→KX XE σ H x→ta σ H Q
structure JN (X:Cx) (XE:St→XK) (es:List Expr) (da:DSt→(List D→List D→Prop)→(Addr→Prop)→Prop):Prop where
 ex:∃ ta,PA X es ta∧DenN X.K XE ta da
theorem rO {e:Expr}{df:DA}(h:JF X XE e df) (hs:autoParam (noStar e=true) auR):JN X XE [e] (fun ds q x=>df ds (fun ys=>q [] ys) x):=by
 obtain ⟨te,p,d⟩:=h.ex
 exact ⟨_,Ei p PX hs,fun c h k kx=>d c h (fun a us ys H0' H' e n n0 ha r hq=>k [] a us [] ys H0' H' e n n0 ha r rfl hq) kx⟩
theorem jn_c {e:Expr}{es:List Expr}{de:DE}{da:DSt→(List D→List D→Prop)→(Addr→Prop)→Prop}(h1:JE X XE e de) (h2:JN X XE es da) (hs:autoParam (noStar e=true) auR):JN X XE (e::es) (fun ds q x=>de ds (fun d=>da ds (fun xs ys=>q (d::xs) ys) x) x):=by
 obtain ⟨te,p,d1⟩:=h1.ex
 obtain ⟨ta,p2,d2⟩:=h2.ex
 refine ⟨_,Ei p p2 hs,fun c h k kx=>d1 c h (fun v d H1 H2 e r h=>d2 (c.go e) h (fun vs a us xs ys H0' H' e' n n0 ha r1 r2 hq=>?_) (kx.go e.s)) kx⟩
 exact k (v::vs) a us (d::xs) ys H0' H' (e.trans e') (e.s.free n) n0 ha r1 ⟨v,vs,rfl,r.same e'.s0,r2⟩ hq
theorem Oh {a b:Addr}{m n:MO}(h:([(a,m)]:Mu).lookup b=some n):b=a∧n=m:=by
 rw [lookup_cons] at h
 by_cases e:b=a
 ·subst e;simp at h;exact ⟨rfl,h.symm⟩
 ·have:(b == a)=false:=by simpa using e
  rw [this] at h;cases h
theorem vR (p:Nat) {k:Nat}{f:Addr}{fd:FuncData}{ps:List Str}{g:Ip}{x:Str}{np pos:Pos}{e:Expr}{es:List Expr}{da:DSt→(List D→List D→Prop)→(Addr→Prop)→Prop}(F:Zy X.prog X.w X.K X.mg X.base (CXE X.prog X.w) k f fd ps (spS X.K p g)) (hr:YF k X.A) (hg:Gl X x) (hm:X.mg x=some (.ref f)) (hk:keepIn X.K (.ref f)=true) (hb:Binds X.K fd ps []) (hx:Yy X XE)
  (ha:JN X XE (e::es) da) (hst:autoParam (ZS (e::es)=true) auR) (hdb:autoParam ((x == ("__debug__" : Str))=false) auD):JE X XE (.Call (.Name x np) (e::es) [] pos) (fun ds q x=>da ds (fun xs ys=>xs.length=p∧∀ a,g (xs++[.rf a]) [(a,.lst ys)] fun d _=>q d) x):=by
 obtain ⟨ta,p1,d1⟩:=ha.ex
 refine ⟨_,(NA F hr hg hm hk hb hx ⟨p1⟩ hst hdb).get,fun c h k kx=>d1 c h (fun vs a us xs ys H1 H2 e n n0 ha r1 r2 hq=>?_) kx⟩
 have hmu:vP X.K H1 H2 [(a,.lst ys)]:=fun b m l=>by
  obtain ⟨rfl,rfl⟩:=Oh l
  exact ⟨n0,_,ha,us,rfl,r1⟩
 refine ⟨H1,xs++[.rf a],a,[(a,.lst ys)],_,e.sub,r2.snoc (d := .rf a) rfl,by rw [←hq.1];simp,hmu,hq.2 a,fun v d μ' H0' H' l r' hq'=>k v d H0' H' ⟨fun b o z=>?_,e.s0.trans l.s0,l.sub,fun b z y=>?_⟩ r' hq'⟩
 ·refine l.s b o ?_ (e.s _ _ z)
  cases w:([(a,MO.lst ys)]:Mu).lookup b with
  | none=>rfl
  | some m=>obtain ⟨rfl,_⟩:=Oh w;rw [n] at z;cases z
 ·refine l.new b ?_ (e.new b z y) (fun w=>y (e.s.free w))
  cases w:([(a,MO.lst ys)]:Mu).lookup b with
  | none=>rfl
  | some m=>obtain ⟨rfl,_⟩:=Oh w;exact absurd n y
end
section
variable {X:Cx}{XE:St→XK}
theorem vS:PGet X (rIxL X.K):=by
 intro pins s σ H x y v u Q I rx ry h
 obtain ⟨p,xs,i,z,rfl,rfl,hq,he,q⟩:=h
 cases rx
 obtain ⟨t,rfl⟩:=ry
 obtain ⟨its,r,pl,hz⟩:=I.list hq
 obtain ⟨j,h1,h2,h3,h4,h5⟩:=Jn he
 obtain ⟨w,ew,rw'⟩:=r.get h2
 have hl:=r.length
 have hn:=RL
 have fin:EP X pins σ Q w s:=⟨z,H,I,rw',q⟩
 by_cases h0:0≤i
 ·have hj:i.toNat=j:=by
   rw [seqIndex_of h0 h5] at h1
   exact Option.some.inj h1
  exact wpAny_getItem_list pl.isList h0 (by omega) (by rw [hj];simpa using ew) fin
 ·have hj:(i + (its.toArray.size:Int)).toNat=j:=by
   rw [seqIndex_neg (by omega) h4] at h1
   rw [size_toArray,←hl]
   exact Option.some.inj h1
  exact wpAny_getItem_list_neg pl.isList (by omega) (by rw [size_toArray] <;> omega) (by omega) (by rw [hj];simpa using ew) fin
noncomputable def pI (i:Nat) (dk de:DE) (f:Int→Int→Int):DS:=fun ds e=>∃ xs,ds[i]?=some (.own xs)∧dk ds (fun k=>∃ n j u,k = .int n∧ixN xs.length n=some j∧xs[j]?=some (.int u)∧de ds (fun d=>∃ v,d = .int v∧e.nx (ds.set i (.own (xs.set j (.int (f u v)))))) (e.xc ds)) (e.xc ds)
theorem rP (i:Nat) {x:Str}{p ipos pos:Pos}{k e:Expr}{dk de:DE}(hk:JE X XE k dk) (he:JE X XE e de) (hN:autoParam (X.N[i]?=some x) auR) (hv:Vis X.env.scope x:=by first | exact Or.inl rfl | exact Or.inr (Or.inl rfl) | exact Or.inr (Or.inr rfl))
  (ha:∀ ov iv new,augStore k ov iv new=(do holding [new,ov,iv] (setItem ov iv new);release [new,ov,iv] [];pure .next):=by intros;rfl) (hd:autoParam ((x == ("__debug__" : Str))=false) auD) (hcd:autoParam ((x == ("__classdict__" : Str))=false) auD) :
  JS X XE (.AugAssign (.Subscript (.Name x p) k ipos) .Add e pos) (pI i dk de fun i j=>i + j):=by
 obtain ⟨tk,p2,d2⟩:=hk.ex
 obtain ⟨te,p1,d1⟩:=he.ex
 refine ⟨_,uR (pv i hN hv hd hcd) p2 vS p1 oi set_list ha,fun {B0 B H0 H σ ds e T} c h o=>?_⟩
 obtain ⟨xs,hi,h⟩:=h
 obtain ⟨l,us,e1,f1,f2,f3⟩:=c.slot i _ hi
 refine ⟨.ref l,Wb e1,d2 c h (fun kv kd H1 H2 e' rk ⟨n,j,u,z,ij,hj,h⟩=>?_) (o.kx c)⟩
 subst z
 have g3:=f3.same e'.s0
 obtain ⟨v,ev,rv⟩:=g3.get hj
 have rv:v = .int u:=rv
 subst rv
 refine ⟨l,us,n,.int u,rfl,rk,SqL.of (e'.s _ _ f2),?_,?_⟩
 ·unfold atI
  rw [f3.length,ij]
  exact ev
 refine d1 (c.go e') h (fun w d H3 H4 e2 rd ⟨v',z,hq⟩=>?_) ((o.kx c).go e'.s)
 subst z
 have rd:w = .int v':=rd
 subst rd
 have e3:=e'.trans e2
 refine ⟨u,v',rfl,rfl,l,us,n,j,rfl,rk,e3.s _ _ f2,by rw [f3.length];exact ij,?_⟩
 obtain ⟨a',us',g1,g2,g3,g4⟩:=c.push (ys:=xs.set j (.int (u + v'))) hi
 rw [e1] at g1
 cases g1
 exact o.nx _ _ _ _ (g4 H3 H4 _ e3 (Rps.set (d := .int (u + v')) (v := .int (u + v')) (show Rp _ _ _ _ from rfl) j (f3.same e3.s0))) hq
end
section
variable {X:Cx}{XE:St→XK}
noncomputable def pJ (i:Nat):DS:=fun ds e=>∃ a μ ys,ds[i]?=some (.st a μ)∧μ.lookup a=some (.lst ys)∧e.ro ys (ds.set i .un)
theorem rQ (i:Nat) {x:Str}{p pos:Pos}(hN:autoParam (X.N[i]?=some x) auR) (hv:Vis X.env.scope x:=by first | exact Or.inl rfl | exact Or.inr (Or.inl rfl) | exact Or.inr (Or.inr rfl)) (hd:autoParam ((x == ("__debug__" : Str))=false) auD)
  (hcd:autoParam ((x == ("__classdict__" : Str))=false) auD):JS X XE (.Return (some (.Name x p)) pos) (pJ i):=by
 refine ⟨_,Jx (pv i hN hv hd hcd),fun {B0 B H0 H σ ds e T} c h o=>?_⟩
 obtain ⟨a,μ,ys,hi,hl,h⟩:=h
 have s:=c.slot i _ hi
 obtain ⟨h0,u,h1,vs,rfl,h2⟩:=s.2 a _ hl
 refine ⟨.ref a,Wb s.1,?_⟩
 refine o.ro a vs ys H0 H σ _ (c.drop i) (c.young i _ a hi ⟨_,hl⟩) h0 h1 h2 (fun j s' q f=>?_) h
 have hlt:i < ds.length:=(List.getElem?_eq_some_iff.mp hi).1
 rw [Xu hlt] at q
 split at q
 ·cases q;exact f.elim
 ·rename_i ne
  exact c.sep j i s' _ a ne q hi f ⟨_,hl⟩
end
section
variable {X:Cx}{XE:St→XK}
theorem vT (hc:X.calm=true):YW X (.builtin "sum") (fun xs H Q=>∃ (p:Addr) (ns:List Int),xs=[.ref p]∧SqL X.K H p (ns.map V.int)∧Q (.int ns.sum) H):=by
 intro pins s σ H xs us Q I r h
 obtain ⟨p,ns,rfl,hq,q⟩:=h
 obtain ⟨u,rfl,ru⟩:=vals1 r
 cases ru
 obtain ⟨its,rv,pl,hz⟩:=I.list hq
 have hi:IntsAre its ns:=intsAre_of rv
 obtain ⟨xs,hx⟩:=hi.allInts.items
 have hl':s.heap.IsList p (intItems xs):=hx ▸ pl.isList
 refine sum_intListG (I.ok.hd hc) hl' fun h' tk t' hk=>?_
 have e1:ns=xs.toList.map (·.1):=by
  rw [←nums_intItems,←hx]
  exact (show numsOf its.toArray.toList=ns from hi.numsOf).symm
 have e2:preSum (numAt xs) xs.size=ns.sum:=by
  rw [preSum_eq,List.take_of_length_le (by simp),e1]
 rw [e2]
 exact ⟨.int ns.sum,H,I.kept (h':=h') (t':=tk) hk,⟨_,rfl⟩,q⟩
noncomputable def KG:List D→Option (List Int)
 | []=>some []
 | .int i::r=>(KG r).map (i :: ·)
 | _::_=>none
theorem Gf {K:aj}{H:Hp}:∀ {xs:List D}{bs:List Int}{vs:List V},KG xs=some bs→Rps K H xs vs→vs=bs.map V.int
 | [],_,_,e,r=>by cases e;exact r
 | d::ds,bs,_,e,⟨v,us,z,h,h'⟩=>by
  cases d with
  | int b =>
   unfold KG at e
   cases q:KG ds with
   | none=>rw [q] at e;cases e
   | some cs =>
    rw [q] at e
    cases e
    rw [z,Gf q h',show v = .int b from h]
    rfl
  | _=>cases e
noncomputable def dSum:List D→(D→Prop)→Prop
 | [.lst xs]=>fun q=>∃ bs,KG xs=some bs∧q (.int bs.sum)
 | _=>fun _=>False
theorem mq (hc:autoParam (X.calm=true) auR):Tu X (.builtin "sum") dSum:=by
 refine ⟨_,vT hc,fun {H0 H vs xs q Q} s r h k=>?_⟩
 unfold dSum at h
 split at h
 ·obtain ⟨v,rfl,p,ws,rfl,h1,h2⟩:=Uy r
  obtain ⟨bs,e,hq⟩:=h
  rw [Gf e h2] at h1
  exact ⟨p,bs,rfl,SqL.of (s _ _ h1),k _ (.int _) _ _ (.refl s) rfl hq⟩
 ·exact h.elim
theorem ints_map (bs:List Int):KG (bs.map .int)=some bs:=by
 induction bs with
 | nil=>rfl
 | cons b bs ih=>rw [map_cons,KG,ih];rfl
theorem EW {bs:List Int}{q:D→Prop}:dSum [.lst (bs.map .int)] q=q (.int bs.sum):=by
 show (∃ cs,KG (bs.map .int)=some cs∧q (.int cs.sum))=_
 rw [ints_map]
 simp
noncomputable def vU (dO dk dx:DE):DE:=fun ds q x=>dO ds (fun d=>∃ kvs,d = .dic kvs∧dk ds (fun k=>dx ds (fun z=>∃ key,k=kD key∧q ((Uz kvs key).getD z)) x) x) x
theorem EX {K:aj}{H:Hp}(k:Key):∀ {gs:List (Key × D)}{kvs:List (Key × V)},Rks K H gs kvs→Uz gs k=none→PZ kvs k=none
 | [],_,h,e=>by rw [show _=[] from h];rfl
 | (j,g)::gs,_,⟨v,us,ee,h1,h2⟩,e=>by
  subst ee
  by_cases hj:j=k
  ·have:Uz ((j,g)::gs) k=some g:=by unfold Uz;rw [List.find?_cons_of_pos (by simpa using hj)];rfl
   rw [this] at e
   cases e
  ·have:Uz ((j,g)::gs) k=Uz gs k:=by unfold Uz;rw [find?_cons_of_neg (by simpa using hj)]
   rw [this] at e
   rw [RN hj]
   exact EX k h2 e
theorem vV {o e f:Expr}{apos cpos:Pos}{dO dk dx:DE}(hu:X.A.units + 1 < cLine) (ho:JE X XE o dO) (hk:JE X XE e dk) (hx:JE X XE f dx) (m:M2 X o "get" apos e f cpos:=by exact ⟨rfl,rfl,rfl,rfl⟩):JE X XE (.Call (.Attribute o "get" apos) [e,f] [] cpos) (vU dO dk dx):=by
 obtain ⟨t1,p1,d1⟩:=ho.ex
 obtain ⟨t2,p2,d2⟩:=hk.ex
 obtain ⟨t3,p3,d3⟩:=hx.ex
 refine ⟨_,xB hu p1 p2 p3 m,fun c h kk kx=>d1 c h (fun v d H1 H2 e r h=>?_) kx⟩
 obtain ⟨kvs,rfl,h⟩:=h
 obtain ⟨a,vs,rfl,g1,g2⟩:=r
 refine ⟨a,rfl,.inl ⟨vs,.inl (e.sub _ _ g1)⟩,d2 (c.go e) h (fun u kd H3 H4 e' r' h'=>d3 (c.go (e.trans e')) h' (fun w zd H5 H6 e2 r2 h2=>?_) (kx.go (e.trans e').s)) (kx.go e.s)⟩
 obtain ⟨key,rfl,hq⟩:=h2
 have ee:=(e.trans e').trans e2
 rw [vO r']
 refine ⟨PZ vs key,JB.k (e2.s _ _ (e'.s _ _ (e.sub _ _ g1))),?_⟩
 cases hv:Uz kvs key with
 | none =>
  rw [hv] at hq
  rw [EX key g2 hv]
  exact kk _ zd _ _ ee r2 hq
 | some d =>
  rw [hv] at hq
  obtain ⟨y,q1,q2⟩:=Fq key g2 hv
  rw [q1]
  exact kk _ d _ _ ee (q2.same (e'.trans e2).s0) hq
end
structure FnB (K:aj) (mg:Str→Option Value) (x:Str) (st:Stmt) (ps:List Str) (f:Addr) (d:FuncData):Prop where
 F:Fun K x x st f d
 m:mg x=some (.ref f)
 a:Binds K d ps []
noncomputable def LkB (K:aj) (x:Str) (st:Stmt) (ps:List Str) (f:Addr):Prop:=PySem.W.nsIn K mainGlobals x=some (some (.ref f))∧∃ fd,Fun K x x st f fd∧Binds K fd ps []
theorem mw {K:aj}{x:Str}{st:Stmt}{ps:List Str}{f:Addr}{oc:Value}{od an:Option Addr}{osl:Array (Option Value)}{kV doc pm cdv ct:Value}(a:PySem.W.nsIn K mainGlobals x=some (some (.ref f)))
  (l:K.lookup f=some ⟨oc,od,.func (PySem.W.fnOf x x (Xb st) (ZR st) (Zf st) .none kV doc pm an cdv ct),osl⟩) (c:PySem.W.codeIn K cdv x=true) (k:keepIn K (.ref f)=true)
  (b:∀ (kV doc pm:Value) (an:Option Addr) (cdv ct:Value) (us:List Value),us.length=ps.length→bindArgs (PySem.W.fnOf x x (Xb st) (ZR st) (Zf st) .none kV doc pm an cdv ct) ⟨us,[]⟩=pure (ps.zip us)):LkB K x st ps f:=⟨a,_,Ms l c k,(Ms l c k).binds b⟩
theorem LkB.get {K:aj}{x:Str}{st:Stmt}{ps:List Str}{f:Addr}{h:Heap}{mg:Str→Option Value}(z:LkB K x st ps f) (X:K.In h) (G:h.Ns mainGlobals mg):∃ d,FnB K mg x st ps f d :=
 let ⟨a,d,F,b⟩:=z
 ⟨d,F,mg_of X G a,b⟩
structure ExB (K:aj) (mg:Str→Option Value) (x:Str) (C:Addr):Prop where
 M:mg x=some (.ref C)
 x:Cj K C
 t:XTy K C
noncomputable def ExK (K:aj) (x:Str) (C:Addr):Prop:=PySem.W.nsIn K mainGlobals x=some (some (.ref C))∧Cj K C∧XTy K C
theorem ExK.get {K:aj}{x:Str}{C:Addr}{h:Heap}{mg:Str→Option Value}(z:ExK K x C) (X:K.In h) (G:h.Ns mainGlobals mg):ExB K mg x C:=⟨mg_of X G z.1,z.2.1,z.2.2⟩
theorem mx {K:aj}{x:Str}{C:Addr}(a:PySem.W.nsIn K mainGlobals x=some (some (.ref C))) (b:excIn K C [.type "ValueError",.type "Exception",.type "BaseException",.type "object"] "ValueError.__new__" = true)
  (c:findIn K (.ref C) "__getattribute__" = some (some (.builtin "BaseException.__getattribute__"))) (d:findIn K (.ref C) "__getattr__" = some none) (e:findIn K (.ref C) "__class__" = some (some (.builtin "object.__class__")))
  (f:mroIn K C (.type "object")=some true) (g:mroIn K C (.type "BaseException")=some true) (h:isClsIn K C=true):ExK K x C:=⟨a,⟨b⟩,⟨c,d,e,f,g,h⟩⟩
section
variable {X:Cx}{XE:St→XK}{k:Nat}{f:Addr}{fd:FuncData}{ps:List Str}{x:Str}{st:Stmt}{e:Expr}{es:List Expr}
theorem Zh {g:DSp}{p pos:Pos}{da:DA}(F:Zy X.prog X.w X.K X.mg X.base (CXE X.prog X.w) k f fd ps (spD X.K g)) (B:FnB X.K X.mg x st ps f fd) (hr:YF k X.A) (hx:Yy X XE) (ha:JAs X XE (e::es) da) (hg:autoParam (Gl X x) auR)
  (hst:autoParam (ZS (e::es)=true) auR) (hdb:autoParam ((x == ("__debug__" : Str))=false) auD):JE X XE (.Call (.Name x p) (e::es) [] pos) (dCall g da):=sd F hr hg B.m B.F.kp B.a hx ha hst hdb
end
theorem us1 {α:Type}{P:List α→Prop}(h:∀ a,P [a]):∀ us,us.length=1→P us | [a],_=>h a
theorem us2 {α:Type}{P:List α→Prop}(h:∀ a b,P [a,b]):∀ us,us.length=2→P us | [a,b],_=>h a b
theorem us3 {α:Type}{P:List α→Prop}(h:∀ a b c,P [a,b,c]):∀ us,us.length=3→P us | [a,b,c],_=>h a b c
theorem us4 {α:Type}{P:List α→Prop}(h:∀ a b c d,P [a,b,c,d]):∀ us,us.length=4→P us | [a,b,c,d],_=>h a b c d
theorem us5 {α:Type}{P:List α→Prop}(h:∀ a b c d e,P [a,b,c,d,e]):∀ us,us.length=5→P us | [a,b,c,d,e],_=>h a b c d e
theorem us6 {α:Type}{P:List α→Prop}(h:∀ a b c d e f,P [a,b,c,d,e,f]):∀ us,us.length=6→P us | [a,b,c,d,e,f],_=>h a b c d e f
abbrev WZ (h:Heap) (T:Addr) (a b c:Value):Prop:=h.get? T=some { cls := .type "tuple",data := .seq #[a,b,c] }
structure Ap3 (z TI TO i1 i2 i3 l1 l2 l3:Addr):Prop where
 TIz:TI≠z
 TOz:TO≠z
 i1z:i1≠z
 i2z:i2≠z
 i3z:i3≠z
 TITO:TI≠TO
 TIi1:TI≠i1
 TIi2:TI≠i2
 TIi3:TI≠i3
 TOi1:TO≠i1
 TOi2:TO≠i2
 TOi3:TO≠i3
 i12:i1≠i2
 i13:i1≠i3
 i23:i2≠i3
 l1:l1≠z∧l1≠TO∧l1≠i1∧l1≠i2∧l1≠i3
 l2:l2≠z∧l2≠TO∧l2≠i1∧l2≠i2∧l2≠i3
 l3:l3≠z∧l3≠TO∧l3≠i1∧l3≠i2∧l3≠i3
theorem rR {n l1 l2 l3:Nat}(h1:l1 < n) (h2:l2 < n) (h3:l3 < n):Ap3 (n + 5) (n + 3) (n + 4) n (n + 1) (n + 2) l1 l2 l3:=by
 constructor <;> (first | refine ⟨?_,?_,?_,?_,?_⟩ | skip) <;> (intro e;have e:(_:Nat)=_:=e;omega)
noncomputable def Kp (z TO i1 i2 i3:Addr) (h h':Heap):Prop:=∀ c o,c≠z→c≠TO→c≠i1→c≠i2→c≠i3→h.get? c=some o→h'.get? c=some o
structure Zq (b1 b2 b3:Bool) (h:Heap) (z TI TO i1 i2 i3 l1 l2 l3:Addr) (k:Nat) (f0:Value) (xs ys zs:Array Value):Prop where
 zip:IsZip h z TI TO f0
 ti:WZ h TI (.ref i1) (.ref i2) (.ref i3)
 to:∃ a b c,WZ h TO a b c
 it1:sIt b1 h i1 l1 k
 it2:sIt b2 h i2 l2 k
 it3:sIt b3 h i3 l3 k
 ob1:sOb b1 h l1 xs
 ob2:sOb b2 h l2 ys
 ob3:sOb b3 h l3 zs
section
variable {P:Program}{w:World}{A:Around}{E:Value→Shared→Prop}{s:Shared}
theorem NS {T:Addr}{a b c x:Value}{k:Nat}{Q:Unit→Shared→Prop}(hT:WZ s.heap T a b c)
  (h:∀ h',h'.get? T=some { cls := .type "tuple",data := .seq ((#[a,b,c]:Array Value).setIfInBounds k x) }→aF T s.heap h'→Q () { s with heap:=h' }) :
  wpAny (model P w) A (updateSeq T (·.setIfInBounds k x)) Q E s:=by
 refine wpAny_updateSeq hT rfl (h _ ?_ (Heap.SameBut.update ..))
 rw [Heap.get?_update_self _ hT rfl]
 simp [Obj.mapSeq]
theorem rS {b1 b2 b3:Bool}{z TI TO i1 i2 i3 l1 l2 l3:Addr}{k:Nat}{xs ys zs:Array Value}{x y v:Value}{Q:Value→Shared→Prop}(D:Ap3 z TI TO i1 i2 i3 l1 l2 l3) (Z:Zq b1 b2 b3 s.heap z TI TO i1 i2 i3 l1 l2 l3 k .none xs ys zs) (hx:xs[k]?=some x) (hy:ys[k]?=some y) (hv:zs[k]?=some v)
  (hQ:∀ h',Zq b1 b2 b3 h' z TI TO i1 i2 i3 l1 l2 l3 (k + 1) (rawInt s.heap.objs.size) xs ys zs→WZ h' s.heap.objs.size x y v→Kp z TO i1 i2 i3 s.heap h'→Q (.ref s.heap.objs.size) { s with heap:=h' }) :
  wpAny (model P w) A (Builtin.«zip.__next__» ⟨[.ref z],[]⟩) (fun fin s'=>∃ v,fin = .done (.ret v)∧Q v s') E s:=by
 obtain ⟨hz,hTI,⟨a,b,c,hTO⟩,h1,h2,h3,o1,o2,o3⟩:=Z
 obtain ⟨l1z,l1TO,l1i1,l1i2,l1i3⟩:=D.l1
 obtain ⟨l2z,l2TO,l2i1,l2i2,l2i3⟩:=D.l2
 obtain ⟨l3z,l3TO,l3i1,l3i2,l3i3⟩:=D.l3
 refine ak (m:=field (.ref z) 2) (wpAny_field hz rfl (x := .bool false) rfl ?_)
 refine ak (m:=field (.ref z) 3) (wpAny_field hz rfl (x := .ref TI) rfl (ak (wpAny_seqItems hTI rfl ?_)))
 refine ak (m:=Builtin.SmallTypes.ownedTupleIsFree (.ref z)) ?_
 unfold Builtin.SmallTypes.ownedTupleIsFree
 refine ak (wpAny_field hz rfl (x := .none) rfl (ao ?_))
 simp only [if_true]
 refine ak (wpAny_rule (ak (wpAny_field hz rfl (x := .ref TO) rfl (ak (wpAny_setField_rec hz (by simp) fun g1 gz gs=>ak ?_)))))
 replace gz:IsZip g1 z TI TO .ellipsis:=gz
 have m1:∀ c o,c≠z→s.heap.get? c=some o→g1.get? c=some o:=fun c o n e=>gs.extBut _ _ n e
 simp only [zipIdx_cons,zipIdx_nil,forIn_cons,forIn_nil]
 refine ak (ak (wpAny_onRaise (ak (m:=Builtin.SmallTypes.nextOf (.ref i1)) (UD (h1.mv fun o e=>m1 _ o D.i1z e) (o1.mv fun o e=>m1 _ o l1z e) hx fun g2 it2 gs2=>ao ?_))))
 have m2:∀ c o,c≠z→c≠i1→s.heap.get? c=some o→g2.get? c=some o:=fun c o n n' e=>gs2.extBut _ _ n' (m1 c o n e)
 have p2:WZ g2 TO a b c:=m2 _ _ D.TOz D.TOi1 hTO
 refine ak (wpAny_seqItems p2 rfl (ak (NS p2 fun g3 p3 gs3=>ak (wpAny_letGo (ao ?_)))))
 replace p3:WZ g3 TO x b c:=p3
 have m3:∀ c o,c≠z→c≠i1→c≠TO→s.heap.get? c=some o→g3.get? c=some o:=fun c o n n' n'' e=>gs3.extBut _ _ n'' (m2 c o n n' e)
 refine ak (ak (wpAny_onRaise (ak (m:=Builtin.SmallTypes.nextOf (.ref i2)) (UD (h2.mv fun o e=>m3 _ o D.i2z D.i12.symm D.TOi2.symm e) (o2.mv fun o e=>m3 _ o l2z l2i1 l2TO e) hy fun g4 it4 gs4=>ao ?_))))
 have p4:WZ g4 TO x b c:=gs4.extBut _ _ D.TOi2 p3
 refine ak (wpAny_seqItems p4 rfl (ak (NS p4 fun g5 p5 gs5=>ak (wpAny_letGo (ao ?_)))))
 replace p5:WZ g5 TO x y c:=p5
 have m5:∀ c o,c≠z→c≠TO→c≠i1→c≠i2→s.heap.get? c=some o→g5.get? c=some o:=fun c o a1 a2 a3 a4 e=>gs5.extBut _ _ a2 (gs4.extBut _ _ a4 (m3 c o a1 a3 a2 e))
 refine ak (ak (wpAny_onRaise (ak (m:=Builtin.SmallTypes.nextOf (.ref i3)) (UD (h3.mv fun o e=>m5 _ o D.i3z D.TOi3.symm D.i13.symm D.i23.symm e) (o3.mv fun o e=>m5 _ o l3z l3TO l3i1 l3i2 e) hv fun g6 it6 gs6=>ao ?_))))
 have p6:WZ g6 TO x y c:=gs6.extBut _ _ D.TOi3 p5
 refine ak (wpAny_seqItems p6 rfl (ak (NS p6 fun g7 p7 gs7=>ak (wpAny_letGo (ao (ao ?_))))))
 replace p7:WZ g7 TO x y v:=p7
 have m7:Kp z TO i1 i2 i3 s.heap g7:=fun c o a1 a2 a3 a4 a5 e=>gs7.extBut _ _ a2 (gs6.extBut _ _ a5 (m5 c o a1 a2 a3 a4 e))
 refine ak (wpAny_seqItems p7 rfl (ak (wpAny_newTuple ?_)))
 have sz:g7.objs.size=s.heap.objs.size:=by rw [gs7.1,gs6.1,gs5.1,gs4.1,gs3.1,gs2.1,gs.1]
 have z7:IsZip g7 z TI TO .ellipsis:=gs7.extBut _ _ D.TOz.symm (gs6.extBut _ _ D.i3z.symm (gs5.extBut _ _ D.TOz.symm (gs4.extBut _ _ D.i2z.symm (gs3.extBut _ _ D.TOz.symm (gs2.extBut _ _ D.i1z.symm gz)))))
 have j1:sIt b1 g7 i1 l1 (k + 1):=it2.mv fun o e=>gs7.extBut _ _ D.TOi1.symm (gs6.extBut _ _ D.i13 (gs5.extBut _ _ D.TOi1.symm (gs4.extBut _ _ D.i12 (gs3.extBut _ _ D.TOi1.symm e))))
 have j2:sIt b2 g7 i2 l2 (k + 1):=it4.mv fun o e=>gs7.extBut _ _ D.TOi2.symm (gs6.extBut _ _ D.i23 (gs5.extBut _ _ D.TOi2.symm e))
 have j3:sIt b3 g7 i3 l3 (k + 1):=it6.mv fun o e=>gs7.extBut _ _ D.TOi3.symm e
 have zlt:z < g7.objs.size:=az z7
 refine ak (m:=Builtin.SmallTypes.ownedTupleHandOut (.ref z) (.ref g7.objs.size)) ?_
 unfold Builtin.SmallTypes.ownedTupleHandOut
 have z8:IsZip (g7.push { cls := .type "tuple",data := .seq #[x,y,v] }) z TI TO .ellipsis:=aq _ z7
 refine ak (wpAny_setField_rec z8 (by simp) fun g9 z9 gs9=>?_)
 replace z9:IsZip g9 z TI TO (rawInt g7.objs.size):=z9
 refine wpAny_setField_rec z9 (by simp) fun g10 z10 gs10=>?_
 replace z10:IsZip g10 z TI TO (rawInt g7.objs.size):=z10
 have up:∀ c o,c≠z→g7.get? c=some o→g10.get? c=some o:=fun c o n e=>gs10.extBut _ _ n (gs9.extBut _ _ n (aq _ e))
 have t8:WZ g10 g7.objs.size x y v:=gs10.extBut _ _ (Nat.ne_of_gt zlt) (gs9.extBut _ _ (Nat.ne_of_gt zlt) (au _ rfl))
 refine ao ⟨_,rfl,?_⟩
 show Q (.ref g7.objs.size) _
 rw [sz] at z10 t8 ⊢
 have all:Kp z TO i1 i2 i3 s.heap g10:=fun c o a1 a2 a3 a4 a5 e=>up c o a1 (m7 c o a1 a2 a3 a4 a5 e)
 exact hQ g10 ⟨z10,all _ _ D.TIz D.TITO D.TIi1 D.TIi2 D.TIi3 hTI,⟨_,_,_,up _ _ D.TOz p7⟩,j1.mv fun o e=>up _ o D.i1z e,j2.mv fun o e=>up _ o D.i2z e,j3.mv fun o e=>up _ o D.i3z e,o1.mv fun o e=>all _ o l1z l1TO l1i1 l1i2 l1i3 e,o2.mv fun o e=>all _ o l2z l2TO l2i1 l2i2 l2i3 e,o3.mv fun o e=>all _ o l3z l3TO l3i1 l3i2 l3i3 e⟩ t8 all
theorem my {b1 b2 b3:Bool}{z TI TO i1 i2 i3 l1 l2 l3:Addr}{k:Nat}{xs ys zs:Array Value}{Q:Fin→Shared→Prop}(hh:A.handled=none) (D:Ap3 z TI TO i1 i2 i3 l1 l2 l3) (Z:Zq b1 b2 b3 s.heap z TI TO i1 i2 i3 l1 l2 l3 k .none xs ys zs) (hend:xs[k]?=none∨ys[k]?=none∨zs[k]?=none)
  (hE:∀ h' e,Kp z TO i1 i2 i3 s.heap h'→(∃ o,h'.get? e=some o∧o.cls = .type "StopIteration")→E (.ref e) { s with heap:=h' }) :
  wpAny (model P w) A (Builtin.«zip.__next__» ⟨[.ref z],[]⟩) Q E s:=by
 obtain ⟨hz,hTI,⟨a,b,c,hTO⟩,h1,h2,h3,o1,o2,o3⟩:=Z
 obtain ⟨l1z,l1TO,l1i1,l1i2,l1i3⟩:=D.l1
 obtain ⟨l2z,l2TO,l2i1,l2i2,l2i3⟩:=D.l2
 obtain ⟨l3z,l3TO,l3i1,l3i2,l3i3⟩:=D.l3
 refine ak (m:=field (.ref z) 2) (wpAny_field hz rfl (x := .bool false) rfl ?_)
 refine ak (m:=field (.ref z) 3) (wpAny_field hz rfl (x := .ref TI) rfl (ak (wpAny_seqItems hTI rfl ?_)))
 refine ak (m:=Builtin.SmallTypes.ownedTupleIsFree (.ref z)) ?_
 unfold Builtin.SmallTypes.ownedTupleIsFree
 refine ak (wpAny_field hz rfl (x := .none) rfl (ao ?_))
 simp only [if_true]
 refine ak (wpAny_rule (ak (wpAny_field hz rfl (x := .ref TO) rfl (ak (wpAny_setField_rec hz (by simp) fun g1 gz gs=>ak ?_)))))
 replace gz:IsZip g1 z TI TO .ellipsis:=gz
 have m1:∀ c o,c≠z→s.heap.get? c=some o→g1.get? c=some o:=fun c o n e=>gs.extBut _ _ n e
 simp only [zipIdx_cons,zipIdx_nil,forIn_cons,forIn_nil]
 cases hx:xs[k]? with
 | none =>
  refine ak (ak (wpAny_onRaise (ak (m:=Builtin.SmallTypes.nextOf (.ref i1)) (Il hh (h1.mv fun o e=>m1 _ o D.i1z e) (o1.mv fun o e=>m1 _ o l1z e) hx fun g2 e gs2 he=>?_))))
  obtain ⟨oe,hoe,hce⟩:=he
  have z2:IsZip g2 z TI TO .ellipsis:=gs2 _ _ D.i1z.symm gz
  have ez:e≠z:=fun q=>by subst q;rw [z2] at hoe;cases hoe;simp at hce
  exact wpAny_setField_rec z2 (by simp) fun g3 _ gs3=>hE g3 e (fun c o c1 _ c3 _ _ q=>gs3.extBut _ _ c1 (gs2 _ _ c3 (m1 _ _ c1 q))) ⟨oe,gs3.extBut _ _ ez hoe,hce⟩
 | some x =>
  replace hend:ys[k]?=none∨zs[k]?=none:=hend.resolve_left fun q=>by rw [hx] at q;cases q
  refine ak (ak (wpAny_onRaise (ak (m:=Builtin.SmallTypes.nextOf (.ref i1)) (UD (h1.mv fun o e=>m1 _ o D.i1z e) (o1.mv fun o e=>m1 _ o l1z e) hx fun g2 it2 gs2=>ao ?_))))
  have m2:∀ c o,c≠z→c≠i1→s.heap.get? c=some o→g2.get? c=some o:=fun c o n n' e=>gs2.extBut _ _ n' (m1 c o n e)
  have p2:WZ g2 TO a b c:=m2 _ _ D.TOz D.TOi1 hTO
  refine ak (wpAny_seqItems p2 rfl (ak (NS p2 fun g3 p3 gs3=>ak (wpAny_letGo (ao ?_)))))
  replace p3:WZ g3 TO x b c:=p3
  have m3:∀ c o,c≠z→c≠i1→c≠TO→s.heap.get? c=some o→g3.get? c=some o:=fun c o n n' n'' e=>gs3.extBut _ _ n'' (m2 c o n n' e)
  cases hy:ys[k]? with
  | none =>
   refine ak (ak (wpAny_onRaise (ak (m:=Builtin.SmallTypes.nextOf (.ref i2)) (Il hh (h2.mv fun o e=>m3 _ o D.i2z D.i12.symm D.TOi2.symm e) (o2.mv fun o e=>m3 _ o l2z l2i1 l2TO e) hy fun g4 e gs4 he=>?_))))
   obtain ⟨oe,hoe,hce⟩:=he
   have z4:IsZip g4 z TI TO .ellipsis:=gs4 _ _ D.i2z.symm (gs3.extBut _ _ D.TOz.symm (gs2.extBut _ _ D.i1z.symm gz))
   have ez:e≠z:=fun q=>by subst q;rw [z4] at hoe;cases hoe;simp at hce
   exact wpAny_setField_rec z4 (by simp) fun g5 _ gs5=>hE g5 e (fun c o c1 c2 c3 c4 _ q=>gs5.extBut _ _ c1 (gs4 _ _ c4 (m3 _ _ c1 c3 c2 q))) ⟨oe,gs5.extBut _ _ ez hoe,hce⟩
  | some y =>
   have hv:zs[k]?=none:=hend.resolve_left fun q=>by rw [hy] at q;cases q
   refine ak (ak (wpAny_onRaise (ak (m:=Builtin.SmallTypes.nextOf (.ref i2)) (UD (h2.mv fun o e=>m3 _ o D.i2z D.i12.symm D.TOi2.symm e) (o2.mv fun o e=>m3 _ o l2z l2i1 l2TO e) hy fun g4 it4 gs4=>ao ?_))))
   have p4:WZ g4 TO x b c:=gs4.extBut _ _ D.TOi2 p3
   refine ak (wpAny_seqItems p4 rfl (ak (NS p4 fun g5 p5 gs5=>ak (wpAny_letGo (ao ?_)))))
   have m5:∀ c o,c≠z→c≠TO→c≠i1→c≠i2→s.heap.get? c=some o→g5.get? c=some o:=fun c o a1 a2 a3 a4 e=>gs5.extBut _ _ a2 (gs4.extBut _ _ a4 (m3 c o a1 a3 a2 e))
   refine ak (ak (wpAny_onRaise (ak (m:=Builtin.SmallTypes.nextOf (.ref i3)) (Il hh (h3.mv fun o e=>m5 _ o D.i3z D.TOi3.symm D.i13.symm D.i23.symm e) (o3.mv fun o e=>m5 _ o l3z l3TO l3i1 l3i2 e) hv fun g6 e gs6 he=>?_))))
   obtain ⟨oe,hoe,hce⟩:=he
   have z6:IsZip g6 z TI TO .ellipsis:=gs6 _ _ D.i3z.symm (gs5.extBut _ _ D.TOz.symm (gs4.extBut _ _ D.i2z.symm (gs3.extBut _ _ D.TOz.symm (gs2.extBut _ _ D.i1z.symm gz))))
   have ez:e≠z:=fun q=>by subst q;rw [z6] at hoe;cases hoe;simp at hce
   exact wpAny_setField_rec z6 (by simp) fun g7 _ gs7=>hE g7 e (fun c o c1 c2 c3 c4 c5 q=>gs7.extBut _ _ c1 (gs6 _ _ c5 (m5 _ _ c1 c2 c3 c4 q))) ⟨oe,gs7.extBut _ _ ez hoe,hce⟩
theorem rT {b1 b2 b3:Bool}{z TI TO i1 i2 i3 l1 l2 l3:Addr}{k:Nat}{xs ys zs:Array Value}{x y v:Value}{Q:Option Value→Shared→Prop}(D:Ap3 z TI TO i1 i2 i3 l1 l2 l3) (Z:Zq b1 b2 b3 s.heap z TI TO i1 i2 i3 l1 l2 l3 k .none xs ys zs) (hx:xs[k]?=some x) (hy:ys[k]?=some y) (hv:zs[k]?=some v)
  (hQ:∀ h',Zq b1 b2 b3 h' z TI TO i1 i2 i3 l1 l2 l3 (k + 1) (rawInt s.heap.objs.size) xs ys zs→WZ h' s.heap.objs.size x y v→Kp z TO i1 i2 i3 s.heap h'→Q (some (.ref s.heap.objs.size)) { s with heap:=h' }) :
  wpAny (model P w) A (pyNext (.ref z)) Q E s:=by
 have ty:s.TypeIs (.ref z) "zip" := ⟨_,Z.zip,rfl⟩
 unfold pyNext
 exact ak (wpAny_attempt (wpAny_callSpecial?_slot (name:=Str.ofString "__next__") ty PySem.F.slot_zip_next (wpAny_call_entry PySem.F.slot_zip_next ty PySem.F.entry_zip_next (rS D Z hx hy hv fun h' a1 a2 a3=>ao (hQ h' a1 a2 a3)) (PySem.F.args_zip_next_1 _))))
theorem rV {b1 b2 b3:Bool}{z TI TO i1 i2 i3 l1 l2 l3:Addr}{k:Nat}{xs ys zs:Array Value}{Q:Option Value→Shared→Prop}(hh:A.handled=none) (D:Ap3 z TI TO i1 i2 i3 l1 l2 l3) (Z:Zq b1 b2 b3 s.heap z TI TO i1 i2 i3 l1 l2 l3 k .none xs ys zs) (hend:xs[k]?=none∨ys[k]?=none∨zs[k]?=none)
  (hQ:∀ h',Kp z TO i1 i2 i3 s.heap h'→Q none { s with heap:=h' }):wpAny (model P w) A (pyNext (.ref z)) Q E s:=by
 have ty:s.TypeIs (.ref z) "zip" := ⟨_,Z.zip,rfl⟩
 unfold pyNext
 refine ak (wpAny_attempt (wpAny_callSpecial?_slot (name:=Str.ofString "__next__") ty PySem.F.slot_zip_next (wpAny_call_entry PySem.F.slot_zip_next ty PySem.F.entry_zip_next (my (A:=A.in1) (by simp [hh]) D Z hend fun h' e hk he=>?_) (PySem.F.args_zip_next_1 _))))
 obtain ⟨o,ho,hc⟩:=he
 exact ak (wpAny_isInstance (T := "StopIteration") (b:=true) ⟨o,ho,hc⟩ isSubtype_stop (ao (hQ _ hk)))
end
noncomputable def Itq (b1 b2 b3:Bool) (K:aj) (a b c:Addr):It :=
  ⟨fun i H=>∃ xs ys zs x y v,SqB b1 K H a xs∧SqB b2 K H b ys∧SqB b3 K H c zs∧xs[i]?=some x∧ys[i]?=some y∧zs[i]?=some v,
   fun i H u H'=>∃ p x y v,u = .ref p∧H p=none∧H'=upd H p (.tup [x,y,v])∧(∀ xs,SqB b1 K H a xs→xs[i]?=some x)∧(∀ ys,SqB b2 K H b ys→ys[i]?=some y)∧∀ zs,SqB b3 K H c zs→zs[i]?=some v,
   fun i H=>∃ xs ys zs,SqB b1 K H a xs∧SqB b2 K H b ys∧SqB b3 K H c zs∧(xs.length≤i∨ys.length≤i∨zs.length≤i)⟩
noncomputable def tnq (b1 b2 b3:Bool) (z TI TO i1 i2 i3 l1 l2 l3:Addr) (k:Nat) (h:Heap):Prop:=IsZip h z TI TO .none∧WZ h TI (.ref i1) (.ref i2) (.ref i3)∧(∃ a b c,WZ h TO a b c)∧sIt b1 h i1 l1 k∧sIt b2 h i2 l2 k∧sIt b3 h i3 l3 k
theorem rX {P:Program}{w:World}{K:aj}{elts:List Expr}{x1}{tpos:Pos}{b1 b2 b3:Bool}{z TI TO i1 i2 i3 l1 l2 l3:Addr}(D:Ap3 z TI TO i1 i2 i3 l1 l2 l3) :
  Turn P w K (.Tuple elts x1 tpos) (Itq b1 b2 b3 K l1 l2 l3) [z,TI,TO,i1,i2,i3] z (tnq b1 b2 b3 z TI TO i1 i2 i3 l1 l2 l3) where
 mem:=by simp
 obj:=fun i h st b hb=>by
  obtain ⟨h1,h2,⟨_,_,_,h3⟩,h4,h5,h6⟩:=st
  obtain ⟨o4,g4,d4⟩:=h4.at
  obtain ⟨o5,g5,d5⟩:=h5.at
  obtain ⟨o6,g6,d6⟩:=h6.at
  simp only [mem_cons,not_mem_nil,or_false] at hb
  rcases hb with rfl | rfl | rfl | rfl | rfl | rfl
  ·exact ⟨_,h1,fun v z=>by cases z⟩
  ·exact ⟨_,h2,fun v z=>by cases z⟩
  ·exact ⟨_,h3,fun v z=>by cases z⟩
  ·exact ⟨_,g4,fun v z=>by rw [d4] at z;cases z⟩
  ·exact ⟨_,g5,fun v z=>by rw [d5] at z;cases z⟩
  ·exact ⟨_,g6,fun v z=>by rw [d6] at z;cases z⟩
 keep:=fun i h h' st k=>by
  obtain ⟨h1,h2,⟨a,b,c,h3⟩,h4,h5,h6⟩:=st
  exact ⟨k z (by simp) _ h1,k TI (by simp) _ h2,⟨a,b,c,k TO (by simp) _ h3⟩,h4.mv fun o q=>k i1 (by simp) o q,h5.mv fun o q=>k i2 (by simp) o q,h6.mv fun o q=>k i3 (by simp) o q⟩
 item:=by
  intro X hP hw hK hc i pins s σ H E I hf st hg
  subst hP hw hK
  obtain ⟨h1,h2,h3,h4,h5,h6⟩:=st
  obtain ⟨xs,ys,zs,x,y,v,hq,hq',hq'',hx,hy,hv⟩:=hg
  obtain ⟨its,rv,p,hz⟩:=I.sq hq
  obtain ⟨its',rv',p',hz'⟩:=I.sq hq'
  obtain ⟨its'',rv'',p'',hz''⟩:=I.sq hq''
  obtain ⟨u,hu,ru⟩:=rv.get hx
  obtain ⟨u',hu',ru'⟩:=rv'.get hy
  obtain ⟨u'',hu'',ru''⟩:=rv''.get hv
  have fr:∀ b,(b=z∨b=TO∨b=i1∨b=i2∨b=i3)→PU X pins H b:=fun b hb=>hf b (by rcases hb with rfl | rfl | rfl | rfl | rfl <;> simp)
  refine rT D ⟨h1,h2,h3,h4,h5,h6,p,p',p''⟩ (x:=u) (y:=u') (v:=u'') (by simpa using hu) (by simpa using hu') (by simpa using hu'') fun h' Z t8 kp0=>?_
  refine ⟨_,rfl,wpAny_letOwnedTupleGo_zip Z.zip fun h'' z2 sb=>?_⟩
  have lt:∀ {c:Addr}{o:Obj},s.heap.get? c=some o→s.heap.objs.size≠c:=fun e=>Nat.ne_of_gt (az e)
  have lz:s.heap.objs.size≠z:=lt h1
  have hp0:H s.heap.objs.size=none:=I.fresh
  have kp:∀ b o,¬ (b=z∨b=TO∨b=i1∨b=i2∨b=i3)→s.heap.get? b=some o→h''.get? b=some o:=fun b o n q=>(sb.2 b (fun e=>n (.inl e))).trans (kp0 b o (fun e=>n (.inl e)) (fun e=>n (.inr (.inl e))) (fun e=>n (.inr (.inr (.inl e)))) (fun e=>n (.inr (.inr (.inr (.inl e))))) (fun e=>n (.inr (.inr (.inr (.inr e))))) q)
  have tp:h''.get? s.heap.objs.size=some { cls := .type "tuple",data := .seq #[u,u',u''] }:=(sb.2 _ lz).trans t8
  refine ⟨.ref s.heap.objs.size,upd H s.heap.objs.size (.tup [x,y,v]),?_,rfl,⟨_,x,y,v,rfl,hp0,rfl,fun ys hy=>by rw [I.Im hy hq];exact hx,fun ys hy'=>by rw [I.Im hy' hq'];exact hy,fun ys hy'=>by rw [I.Im hy' hq''];exact hv⟩,?_,fun b hb=>?_⟩
  ·have nt:∀ b o,H b=some o→¬ (b=z∨b=TO∨b=i1∨b=i2∨b=i3):=fun b o q hb=>by
    have:=(fr b hb).1
    rw [q] at this
    cases this
   have ok':HOk X.prog X.w (upd H s.heap.objs.size (.tup [x,y,v])) h'':=fun b o q=>by
    by_cases hb:b=s.heap.objs.size
    ·subst hb
     rw [Zu] at q
     cases q
     exact ⟨by show 3≤aA;decide,[u,u',u''],.cons ru (.cons ru' (.cons ru'' .nil)),_,tp,rfl,0,rfl⟩
    ·rw [Zk hb] at q
     refine (I.hok b o q).stay (fun c v hc q'=>kp c v ?_ q') (fun c q'=>by rw [Zk (Zx q' hp0)];exact q') fun c zs q'=>by rw [Zk (Zx q' hp0)];exact q'
     rcases hc with rfl | hc
     ·exact nt _ _ q
     ·exact nt _ _ hc
   have I3:Inv X pins σ (upd H s.heap.objs.size (.tup [x,y,v])) { s with heap:=h'',gens:=s.gens,drawn:=s.drawn,toks:=s.toks }:=by
    have out:∀ b,b∉[z,TO,i1,i2,i3]→¬ (b=z∨b=TO∨b=i1∨b=i2∨b=i3):=fun b hb q=>hb (by rcases q with rfl | rfl | rfl | rfl | rfl <;> simp)
    refine Inv.step (s:=s) I (g':=s.gens) (d':=s.drawn) (ch:=[z,TO,i1,i2,i3]) (fun b hb=>?_) (fun b o _ _ hc q _=>kp b o (out b hc) q)
     (fun b o _ _ hc q _=>⟨o.slots,kp b o (out b hc) q⟩)
     (fun b o _ q n=>by rw [Zk (Nat.ne_of_lt (az q))];exact n)
     (fun b o hc q=>⟨o,kp b o (out b hc) q⟩)
     (fun b zs q=>by rw [Zk (Zx q hp0)];exact q) (fun b ob zs q=>by rw [Zk (Zx q hp0)];exact q)
     (fun b ps q=>⟨#[],by rw [Zk (Zx q hp0),q];simp⟩) (fun m hm=>?_) ok' I.bare
    ·obtain ⟨f0,f1,f2,f3,f4,f5⟩:=fr b (by simpa using hb)
     exact ⟨f3,f1,f4,f5⟩
    ·obtain ⟨o,es,ep,ho,r⟩:=hm
     exact ⟨o,es,ep,kp _ o (fun hb=>(fr _ hb).2.1 rfl) ho,r⟩
   exact I3
  ·obtain ⟨w1,w2,⟨a,b,c,w3⟩,w4,w5,w6,_,_,_⟩:=Z
   exact ⟨z2,(sb.2 _ D.TIz).trans w2,⟨a,b,c,(sb.2 _ D.TOz).trans w3⟩,w4.mv fun o q=>(sb.2 _ D.i1z).trans q,w5.mv fun o q=>(sb.2 _ D.i2z).trans q,w6.mv fun o q=>(sb.2 _ D.i3z).trans q⟩
  ·have hb0:=(hf b hb).1
   obtain ⟨h1',h2',⟨_,_,_,h3'⟩,h4',h5',h6'⟩:tnq b1 b2 b3 z TI TO i1 i2 i3 l1 l2 l3 i s.heap:=⟨h1,h2,h3,h4,h5,h6⟩
   obtain ⟨o4,g4,_⟩:=h4'.at
   obtain ⟨o5,g5,_⟩:=h5'.at
   obtain ⟨o6,g6,_⟩:=h6'.at
   rw [Zk (fun e=>?_)]
   ·exact hb0
   simp only [mem_cons,not_mem_nil,or_false] at hb
   rcases hb with rfl | rfl | rfl | rfl | rfl | rfl
   ·exact lt h1' e.symm
   ·exact lt h2' e.symm
   ·exact lt h3' e.symm
   ·exact lt g4 e.symm
   ·exact lt g5 e.symm
   ·exact lt g6 e.symm
 done:=by
  intro X hP hw hK hc i pins s σ H E I hf st hg
  subst hP hw hK
  obtain ⟨h1,h2,h3,h4,h5,h6⟩:=st
  obtain ⟨xs,ys,zs,hq,hq',hq'',hx⟩:=hg
  obtain ⟨its,rv,p,hz⟩:=I.sq hq
  obtain ⟨its',rv',p',hz'⟩:=I.sq hq'
  obtain ⟨its'',rv'',p'',hz''⟩:=I.sq hq''
  have l1:=rv.length
  have l2:=rv'.length
  have l3:=rv''.length
  have fr:∀ b,(b=z∨b=TO∨b=i1∨b=i2∨b=i3)→PU X pins H b:=fun b hb=>hf b (by rcases hb with rfl | rfl | rfl | rfl | rfl <;> simp)
  refine rV (I.ok.hd hc) D ⟨h1,h2,h3,h4,h5,h6,p,p',p''⟩ (by rcases hx with e | e | e;exact .inl (by simp;omega);exact .inr (.inl (by simp;omega));exact .inr (.inr (by simp;omega))) fun h' kp0=>⟨rfl,?_⟩
  have kp:∀ b o,¬ (b=z∨b=TO∨b=i1∨b=i2∨b=i3)→s.heap.get? b=some o→h'.get? b=some o:=fun b o n q=>kp0 b o (fun e=>n (.inl e)) (fun e=>n (.inr (.inl e))) (fun e=>n (.inr (.inr (.inl e)))) (fun e=>n (.inr (.inr (.inr (.inl e))))) (fun e=>n (.inr (.inr (.inr (.inr e))))) q
  have nt:∀ b o,H b=some o→¬ (b=z∨b=TO∨b=i1∨b=i2∨b=i3):=fun b o q hb=>by
   have:=(fr b hb).1
   rw [q] at this
   cases this
  have ok':HOk X.prog X.w H h':=fun b o q=>by
   refine (I.hok b o q).stay (fun c v hc q'=>kp c v ?_ q') (fun c q'=>q') fun c zs q'=>q'
   rcases hc with rfl | hc
   ·exact nt _ _ q
   ·exact nt _ _ hc
  have out:∀ b,b∉[z,TO,i1,i2,i3]→¬ (b=z∨b=TO∨b=i1∨b=i2∨b=i3):=fun b hb q=>hb (by rcases q with rfl | rfl | rfl | rfl | rfl <;> simp)
  refine Inv.step (s:=s) I (g':=s.gens) (d':=s.drawn) (ch:=[z,TO,i1,i2,i3]) (fun b hb=>?_) (fun b o _ _ hc q _=>kp b o (out b hc) q)
   (fun b o _ _ hc q _=>⟨o.slots,kp b o (out b hc) q⟩) (fun b o _ q n=>n) (fun b o hc q=>⟨o,kp b o (out b hc) q⟩) (fun b zs q=>q) (fun b ob zs q=>q) (fun b ps q=>⟨#[],by rw [q];simp⟩) (fun m hm=>?_) ok' I.bare
  ·obtain ⟨f0,f1,f2,f3,f4,f5⟩:=fr b (by simpa using hb)
   exact ⟨f3,f1,f4,f5⟩
  ·obtain ⟨o,es,ep,ho,r⟩:=hm
   exact ⟨o,es,ep,kp _ o (fun hb=>(fr _ hb).2.1 rfl) ho,r⟩
 self:=fun _ _ _ _ _ st h=>wpAny_pyIter_zip st.1 h
section
variable {P:Program}{w:World}{A:Around}{E:Value→Shared→Prop}{s:Shared}
noncomputable def qC (h:Heap) (b1 b2 b3:Bool) (l1 l2 l3:Addr):Heap:=(zB h b1 b2 l1 l2).push (itO b3 l3)
noncomputable def qD (h:Heap) (b1 b2 b3:Bool) (l1 l2 l3:Addr):Heap:=(qC h b1 b2 b3 l1 l2 l3).push { cls := .type "tuple",data := .seq #[.ref h.objs.size,.ref (zA h b1 l1).objs.size,.ref (zB h b1 b2 l1 l2).objs.size] }
noncomputable def qE (h:Heap) (b1 b2 b3:Bool) (l1 l2 l3:Addr):Heap:=(qD h b1 b2 b3 l1 l2 l3).push { cls := .type "tuple",data := .seq #[.none,.none,.none] }
noncomputable def qF (h:Heap) (b1 b2 b3:Bool) (l1 l2 l3:Addr):Heap:=(qE h b1 b2 b3 l1 l2 l3).push { cls := .type "zip",data := .fields #[.none,.bool false,.bool false,.ref (qC h b1 b2 b3 l1 l2 l3).objs.size,.ref (qD h b1 b2 b3 l1 l2 l3).objs.size] }
theorem vW (b1 b2 b3:Bool) (l1 l2 l3:Addr) (xs ys zs:Array Value) :
  Meets (Builtin.«zip.__new__» ⟨[.type "zip",.ref l1,.ref l2,.ref l3],[]⟩) (fun _ R s=>sOb b1 s.heap l1 xs∧sOb b2 s.heap l2 ys∧sOb b3 s.heap l3 zs∧R (.ok (.ret (.ref (qE s.heap b1 b2 b3 l1 l2 l3).objs.size))) { s with heap:=qF s.heap b1 b2 b3 l1 l2 l3 }) :=
 .of_wp fun P w A R s h=>by
  obtain ⟨hp,g,d,tk,os⟩:=s
  obtain ⟨o1,o2,o3,h⟩:=h
  have sub:=sub_zip
  have k1:sOb b1 (Shared.heap ⟨hp,g,d,tk,os⟩) l1 xs:=o1
  have k2:sOb b2 (Shared.heap ⟨hp.push (itO b1 l1),g,d,tk,os⟩) l2 ys:=o2.mv fun o e=>aq _ e
  have k3:sOb b3 (Shared.heap ⟨(hp.push (itO b1 l1)).push (itO b2 l2),g,d,tk,os⟩) l3 zs:=o3.mv fun o e=>aq _ (aq _ e)
  wp_walk using NQ k1,NQ k2,NQ k3
  exact ⟨_,rfl,h⟩
theorem rY (a b c:Value):checkTypeCall "zip" ⟨[a,b,c],[]⟩=pure ():=by kernel_rfl
theorem rZ (a b c:Value):checkBuiltinCall "zip.__new__" ⟨[.type "zip",a,b,c],[]⟩=pure ():=by kernel_rfl
theorem oi_4 (a b c d:Value):argsOk "object.__init__" ⟨[a,b,c,d],[]⟩:=by
 unfold argsOk;rw [signature?_of (id := "object.__init__") (n:=['_','_','t','i','n','i','_','_']) (o:=['t','c','e','j','b','o']) (by kernel_rfl) PySem.F.owner_object];kernel_rfl
theorem qa {b1 b2 b3:Bool}{l1 l2 l3:Addr}{xs ys zs:Array Value}{Q:Value→Shared→Prop}(o1:sOb b1 s.heap l1 xs) (o2:sOb b2 s.heap l2 ys) (o3:sOb b3 s.heap l3 zs)
  (h:∀ h',tnq b1 b2 b3 (s.heap.objs.size + 5) (s.heap.objs.size + 3) (s.heap.objs.size + 4) s.heap.objs.size (s.heap.objs.size + 1) (s.heap.objs.size + 2) l1 l2 l3 0 h'→(∀ c o,s.heap.get? c=some o→h'.get? c=some o)→Q (.ref (s.heap.objs.size + 5)) { s with heap:=h' }) :
  wpAny (model P w) A (call (.type "zip") [.ref l1,.ref l2,.ref l3]) Q E s:=by
 refine callType_new PySem.F.called_zip (by decide) (rY _ _ _) (rZ _ _ _) (fun obj=>oi_4 obj _ _ _) PySem.F.entry_zip_new (vW b1 b2 b3 l1 l2 l3 xs ys zs) ⟨o1,o2,o3,?_⟩
 have n1:(zA s.heap b1 l1).objs.size=s.heap.objs.size + 1:=Heap.size_push ..
 have n2:(zB s.heap b1 b2 l1 l2).objs.size=s.heap.objs.size + 2:=by unfold zB;rw [Heap.size_push,n1]
 have n3:(qC s.heap b1 b2 b3 l1 l2 l3).objs.size=s.heap.objs.size + 3:=by unfold qC;rw [Heap.size_push,n2]
 have n4:(qD s.heap b1 b2 b3 l1 l2 l3).objs.size=s.heap.objs.size + 4:=by unfold qD;rw [Heap.size_push,n3]
 have n5:(qE s.heap b1 b2 b3 l1 l2 l3).objs.size=s.heap.objs.size + 5:=by unfold qE;rw [Heap.size_push,n4]
 have kE:∀ {c o},(qE s.heap b1 b2 b3 l1 l2 l3).get? c=some o→(qF s.heap b1 b2 b3 l1 l2 l3).get? c=some o:=fun e=>aq _ e
 have kD:∀ {c o},(qD s.heap b1 b2 b3 l1 l2 l3).get? c=some o→(qF s.heap b1 b2 b3 l1 l2 l3).get? c=some o:=fun e=>kE (aq _ e)
 have kC:∀ {c o},(qC s.heap b1 b2 b3 l1 l2 l3).get? c=some o→(qF s.heap b1 b2 b3 l1 l2 l3).get? c=some o:=fun e=>kD (aq _ e)
 have kB:∀ {c o},(zB s.heap b1 b2 l1 l2).get? c=some o→(qF s.heap b1 b2 b3 l1 l2 l3).get? c=some o:=fun e=>kC (aq _ e)
 have kA:∀ {c o},(zA s.heap b1 l1).get? c=some o→(qF s.heap b1 b2 b3 l1 l2 l3).get? c=some o:=fun e=>kB (aq _ e)
 have e6:(qF s.heap b1 b2 b3 l1 l2 l3).get? (qE s.heap b1 b2 b3 l1 l2 l3).objs.size=some _:=au _ rfl
 have e5:(qF s.heap b1 b2 b3 l1 l2 l3).get? (qD s.heap b1 b2 b3 l1 l2 l3).objs.size=some _:=kE (au _ rfl)
 have e4:(qF s.heap b1 b2 b3 l1 l2 l3).get? (qC s.heap b1 b2 b3 l1 l2 l3).objs.size=some _:=kD (au _ rfl)
 have e3:(qF s.heap b1 b2 b3 l1 l2 l3).get? (zB s.heap b1 b2 l1 l2).objs.size=some (itO b3 l3):=kC (au _ (by cases b3 <;> rfl))
 have e2:(qF s.heap b1 b2 b3 l1 l2 l3).get? (zA s.heap b1 l1).objs.size=some (itO b2 l2):=kB (au _ (by cases b2 <;> rfl))
 have e1:(qF s.heap b1 b2 b3 l1 l2 l3).get? s.heap.objs.size=some (itO b1 l1):=kA (au _ (by cases b1 <;> rfl))
 rw [n3,n4,n5] at e6
 rw [n1,n2,n3] at e4
 rw [n4] at e5
 rw [n2] at e3
 rw [n1] at e2
 rw [n5]
 have f1:sIt b1 (qF s.heap b1 b2 b3 l1 l2 l3) s.heap.objs.size l1 0:=by cases b1 <;> exact ⟨_,e1,rfl,rfl⟩
 have f2:sIt b2 (qF s.heap b1 b2 b3 l1 l2 l3) (s.heap.objs.size + 1) l2 0:=by cases b2 <;> exact ⟨_,e2,rfl,rfl⟩
 have f3:sIt b3 (qF s.heap b1 b2 b3 l1 l2 l3) (s.heap.objs.size + 2) l3 0:=by cases b3 <;> exact ⟨_,e3,rfl,rfl⟩
 exact ⟨⟨_,e6,rfl⟩,h _ ⟨e6,e4,⟨_,_,_,e5⟩,f1,f2,f3⟩ fun c o x=>kA (aq _ x)⟩
end
noncomputable def iZip3 (K:aj) (ta:TA):TI:=fun σ H R=>ta σ H fun vs H1=>∃ a b c b1 b2 b3,vs=[.ref a,.ref b,.ref c]∧(∃ xs,SqB b1 K H1 a xs)∧(∃ ys,SqB b2 K H1 b ys)∧(∃ zs,SqB b3 K H1 c zs)∧R (Itq b1 b2 b3 K a b c) H1
section
variable {X:Cx}{XE:St→XK}
theorem qb {a b c:Expr}{ta:TA}{p pos:Pos}{elts:List Expr}{x1}{tpos:Pos}(hg:Gl X "zip") (hm:X.mg "zip" = none) (ha:PA X [a,b,c] ta) (hv:bootBuiltins "zip" = some (.type "zip"):=by decide +kernel)
  (hs:autoParam (starEach [a,b,c] X.env=(false,eval a X.env)::starEach [b,c] X.env) auR) (hpl:autoParam ((backTo pos (starEach [b,c] X.env)).any (·.1)=false) auR):PI X (.Tuple elts x1 tpos) (.Call (.Name "zip" p) [a,b,c] [] pos) (iZip3 X.K ta):=by
 intro pins s σ H R I h
 refine Call_ (PR I hg hm hv (PyProof.Rows.callWith_type1 (thn (ha pos pins s σ H _ I h) fun us s1 ⟨vs,H1,I1,r1,q1⟩=>?_) hs hpl))
 obtain ⟨a1,a2,a3,b1,b2,b3,e,⟨xs,hq⟩,⟨ys,hq'⟩,⟨zs,hq''⟩,q⟩:=q1
 subst e
 obtain ⟨u,us',e1,ru,r2⟩:∃ u us',us=u::us'∧RelV (.ref a1) u∧Vals [.ref a2,.ref a3] us':=by cases r1 with | cons a b=>exact ⟨_,_,rfl,a,b⟩
 obtain ⟨u',us'',e2,ru',r3⟩:∃ u us'',us'=u::us''∧RelV (.ref a2) u∧Vals [.ref a3] us'':=by cases r2 with | cons a b=>exact ⟨_,_,rfl,a,b⟩
 obtain ⟨u'',e3,ru''⟩:=vals1 r3
 subst e1 e2 e3
 cases ru
 cases ru'
 cases ru''
 obtain ⟨its,rv,p,hz⟩:=I1.sq hq
 obtain ⟨its',rv',p',hz'⟩:=I1.sq hq'
 obtain ⟨its'',rv'',p'',hz''⟩:=I1.sq hq''
 refine qa p p' p'' fun h' t kp=>wpAny_pyIter_zip t.1 ?_
 have I2:Inv X pins σ H1 { s1 with heap:=h' }:=I1.kept (t':=s1.toks) kp
 have lt:∀ {tp:Bool}{l:Addr}{zs:Array Value},sOb tp s1.heap l zs→l < s1.heap.objs.size:=fun {tp l zs} o=>by
  cases tp <;> exact let ⟨_,ho,_⟩:=o;az ho
 have D:=rR (lt p) (lt p') (lt p'')
 refine ⟨_,[s1.heap.objs.size + 5,s1.heap.objs.size + 3,s1.heap.objs.size + 4,s1.heap.objs.size,s1.heap.objs.size + 1,s1.heap.objs.size + 2],_,_,H1,rfl,I2,rX D,t,fun b hb=>?_,q⟩
 have hb:s1.heap.objs.size≤b:=by
  simp only [mem_cons,not_mem_nil,or_false] at hb
  rcases hb with rfl | rfl | rfl | rfl | rfl | rfl
  ·exact Nat.le_add_right _ _
  ·exact Nat.le_add_right _ _
  ·exact Nat.le_add_right _ _
  ·exact Nat.le_refl _
  ·exact Nat.le_add_right _ _
  ·exact Nat.le_add_right _ _
 exact I1.Gv hb (I1.hok.fresh hb)
noncomputable def Fs (xs ys zs:List D):List D:=(xs.zip (ys.zip zs)).map fun p => .tup [p.1,p.2.1,p.2.2]
noncomputable def pK (da:DA):DI:=fun ds q x=>da ds (fun ts=>∃ a b c xs ys zs,ts=[a,b,c]∧a.sq=some xs∧b.sq=some ys∧c.sq=some zs∧q (Fs xs ys zs)) x
theorem qc {K:aj}{W0:Hp}{b1 b2 b3:Bool}{a b c:Addr}{vs us ws:List V}{xs ys zs:List D}(h:SqB b1 K W0 a vs) (h':SqB b2 K W0 b us) (h'':SqB b3 K W0 c ws) (r:Rps K W0 xs vs) (r':Rps K W0 ys us) (r'':Rps K W0 zs ws):Walks K (Itq b1 b2 b3 K a b c) (Fs xs ys zs) W0:=by
 intro i H0 H s0 s
 have hs:=h.same (s0.trans s)
 have hs':=h'.same (s0.trans s)
 have hs'':=h''.same (s0.trans s)
 have hl:(Fs xs ys zs).length=min xs.length (min ys.length zs.length):=by unfold Fs;simp
 refine ⟨fun hi=>?_,fun hi=>⟨vs,us,ws,hs,hs',hs'',by rw [r.length,r'.length,r''.length];rw [hl] at hi;omega⟩⟩
 rw [hl] at hi
 obtain ⟨v,e,rv⟩:=r.get (aB (show i < xs.length by omega))
 obtain ⟨u,e',ru⟩:=r'.get (aB (show i < ys.length by omega))
 obtain ⟨t,e'',rt⟩:=r''.get (aB (show i < zs.length by omega))
 refine ⟨⟨vs,us,ws,v,u,t,hs,hs',hs'',e,e',e''⟩,fun x H' y=>?_⟩
 obtain ⟨p,w1,w2,w3,rfl,hp,rfl,y1,y2,y3⟩:=y
 have z1:=y1 vs hs
 have z2:=y2 us hs'
 have z3:=y3 ws hs''
 rw [e] at z1
 rw [e'] at z2
 rw [e''] at z3
 cases z1
 cases z2
 cases z3
 refine ⟨upd H0 p (.tup [v,u,t]),.put s hp,.tup [xs[i]'(by omega),ys[i]'(by omega),zs[i]'(by omega)],?_,RQ (xs:=[xs[i]'(by omega),ys[i]'(by omega),zs[i]'(by omega)]) ⟨_,_,rfl,rv.same s0,_,_,rfl,ru.same s0,_,_,rfl,rt.same s0,rfl⟩ (s.free hp)⟩
 unfold Fs
 rw [getElem?_map,aB (by rw [length_zip,length_zip];omega),List.getElem_zip,List.getElem_zip]
 rfl
theorem rpsT {K:aj}{H:Hp}{d1 d2 d3:D}{vs:List V}(r:Rps K H [d1,d2,d3] vs):∃ v u t,vs=[v,u,t]∧Rp K H d1 v∧Rp K H d2 u∧Rp K H d3 t:=by
 obtain ⟨v,va,rfl,r1,u,vb,rfl,r2,t,vc,rfl,r3,rfl⟩:=r
 exact ⟨_,_,_,rfl,r1,r2,r3⟩
theorem Ax {a b c:Expr}{da:DA}{p pos:Pos}{elts:List Expr}{x1}{tpos:Pos}(hg:Gl X "zip") (hm:X.mg "zip" = none) (ha:JAs X XE [a,b,c] da)
  (hs:autoParam (starEach [a,b,c] X.env=(false,eval a X.env)::starEach [b,c] X.env) auR) (hpl:autoParam ((backTo pos (starEach [b,c] X.env)).any (·.1)=false) auR):JI X XE (.Tuple elts x1 tpos) (.Call (.Name "zip" p) [a,b,c] [] pos) (pK da):=by
 obtain ⟨ta,p,d⟩:=ha.ex
 refine ⟨_,qb hg hm p (by decide +kernel) hs hpl,fun c h k kx=>d c h (fun vs ts H1 H2 e r h=>?_) kx⟩
 obtain ⟨d1,d2,d3,xs,ys,zs,rfl,e1,e2,e3,hq⟩:=h
 obtain ⟨v,u,t,rfl,r1,r2,r3⟩:=rpsT r
 obtain ⟨b1,a1,vs,rfl,s1,t1⟩:=EL r1 e1
 obtain ⟨b2,a2,us,rfl,s2,t2⟩:=EL r2 e2
 obtain ⟨b3,a3,ws,rfl,s3,t3⟩:=EL r3 e3
 exact ⟨a1,a2,a3,b1,b2,b3,rfl,⟨vs,s1.same e.sub⟩,⟨us,s2.same e.sub⟩,⟨ws,s3.same e.sub⟩,k _ _ _ _ e (qc s1 s2 s3 t1 t2 t3) hq⟩
end
end L2
namespace My
open PySem L2 MA
local macro_rules | `(tactic| walk_at "sc") => `(tactic| exact ⟨rfl, rfl, rfl, by decide +kernel, rfl, by decide +kernel, by decide +kernel⟩)
noncomputable def top (i:Nat):Stmt:=PySem.Challenge.pw_kbestwood_k44_shares_learnt.main.body.getD i (.Pass ⟨0,0,0,0⟩)
abbrev Yv:Stmt:=inClass (top 34) 0
theorem MH:Zj ["self", "title", "head", "parts", "weight", "tag", "under"] ["self", "title", "head", "parts", "weight", "tag", "under"] (Zf Yv):=by walk_at "sc"
abbrev Ya:Stmt:=inClass (top 35) 0
theorem Pw:Zj ["self", "scale", "start", "rules"] ["self", "scale", "start", "rules"] (Zf Ya):=by walk_at "sc"
abbrev Xm:Stmt:=inClass (top 20) 2
theorem Hg:Zj ["self", "weight"] ["self", "weight"] (Zf Xm):=by walk_at "sc"
abbrev YH:Stmt:=inClass (top 21) 2
theorem KO:Zj ["self", "weight"] ["self", "weight"] (Zf YH):=by walk_at "sc"
abbrev Wr:Stmt:=top 13
abbrev Xn:List Str:=["one", "other"]
theorem Wf:Zj ["one", "other"] Xn (Zf Wr):=by walk_at "sc"
abbrev Oi:Stmt:=top 14
abbrev SJ:List Str:=["top", "bottom"]
theorem RZ:Zj ["top", "bottom", "divisor"] SJ (Zf Oi):=by walk_at "sc"
abbrev Oj:Stmt:=top 22
abbrev SK:List Str:=["word"]
theorem EY:Zj ["word"] SK (Zf Oj):=by walk_at "sc"
abbrev VQ:Stmt:=top 28
abbrev Wg:List Str:=["sign"]
theorem KP:Zj ["sign"] Wg (Zf VQ):=by walk_at "sc"
abbrev MI:Stmt:=top 29
abbrev QM:List Str:=["text"]
theorem CH:Zj ["text"] QM (Zf MI):=by walk_at "sc"
abbrev MJ:Stmt:=top 30
abbrev QN:List Str:=["text"]
theorem CI:Zj ["text"] QN (Zf MJ):=by walk_at "sc"
abbrev MK:Stmt:=top 31
abbrev QO:List Str:=["text"]
theorem CJ:Zj ["text"] QO (Zf MK):=by walk_at "sc"
abbrev Qa:Stmt:=top 32
abbrev UE:List Str:=["parts"]
theorem Ft:Zj ["parts"] UE (Zf Qa):=by walk_at "sc"
abbrev SL:Stmt:=top 33
abbrev Vw:List Str:=["titles"]
theorem Hh:Zj ["titles"] Vw (Zf SL):=by walk_at "sc"
abbrev Yr:Stmt:=top 36
abbrev ZV:List Str:=["scale", "rules"]
theorem Ym:Zj ["scale", "rules", "titles", "rule"] ZV (Zf Yr):=by walk_at "sc"
abbrev Xg:Stmt:=top 37
abbrev Yz:List Str:=["rules"]
theorem Xa:Zj ["rules", "titles", "rule"] Yz (Zf Xg):=by walk_at "sc"
abbrev UR:Stmt:=top 38
abbrev WL:List Str:=["start", "rules"]
theorem VR:Zj ["start", "rules", "heads", "rule"] WL (Zf UR):=by walk_at "sc"
abbrev UT:Stmt:=top 39
abbrev WM:List Str:=["rules"]
theorem Qb:Zj ["rules", "heads"] WM (Zf UT):=by walk_at "sc"
abbrev Ws:Stmt:=top 40
abbrev Xo:List Str:=["rules"]
theorem ZP:Zj ["rules", "steps", "waiting", "order", "ready", "held"] Xo (Zf Ws):=by walk_at "sc"
abbrev Qc:Stmt:=top 41
abbrev UF:List Str:=["grammar", "number", "above"]
theorem NT:Zj ["grammar", "number", "above", "under"] UF (Zf Qc):=by walk_at "sc"
abbrev Ol:Stmt:=top 43
abbrev SM:List Str:=["tree"]
theorem Va:Zj ["tree", "numbers", "waiting", "number", "kids"] SM (Zf Ol):=by walk_at "sc"
abbrev SN:Stmt:=top 44
abbrev Vx:List Str:=["grammar", "kind", "above", "thing"]
theorem UU:Zj ["grammar", "kind", "above", "thing", "number", "kids"] Vx (Zf SN):=by walk_at "sc"
abbrev UW:Stmt:=top 45
abbrev WN:List Str:=["grammar", "tree"]
theorem VS:Zj ["grammar", "tree", "number", "kids"] WN (Zf UW):=by walk_at "sc"
abbrev Qd:Stmt:=top 47
abbrev UG:List Str:=["grammar", "trees"]
theorem Vy:Zj ["grammar", "trees", "counts", "tree", "number"] UG (Zf Qd):=by walk_at "sc"
abbrev UX:Stmt:=top 48
abbrev WO:List Str:=["grammar", "trees"]
theorem Iu:Zj ["grammar", "trees"] WO (Zf UX):=by walk_at "sc"
abbrev ML:Stmt:=top 49
abbrev QP:List Str:=["grammar", "tree"]
theorem VU:Zj ["grammar", "tree", "waiting", "part", "above", "thing"] QP (Zf ML):=by walk_at "sc"
abbrev Iv:Stmt:=top 50
abbrev NU:List Str:=["grammar", "trees"]
theorem TB:Zj ["grammar", "trees", "counts", "heads", "rule", "count"] NU (Zf Iv):=by walk_at "sc"
abbrev CK:Stmt:=top 52
abbrev Fu:List Str:=["_law_script", "_law_k"]
theorem qe:Zj ["_law_script", "_law_k"] Fu (Zf CK):=by walk_at "sc"
abbrev Fv:Stmt:=top 53
abbrev Js:List Str:=["_law_cell", "_law_k"]
theorem Iw:Zj ["_law_cell", "_law_k", "_law_factor", "_law_number"] Js (Zf Fv):=by walk_at "sc"
abbrev MM:Stmt:=top 54
abbrev QQ:List Str:=["_law_cell", "_law_many", "_law_firsts"]
theorem YR:Zj ["_law_cell", "_law_many", "_law_firsts", "_law_rest", "_law_number", "_law_start_here", "_law_tail", "_law_size", "_law_at_here"] QQ (Zf MM):=by walk_at "sc"
abbrev MN:Stmt:=top 55
abbrev QR:List Str:=["_law_script"]
theorem Iy:Zj ["_law_script", "_law_many"] QR (Zf MN):=by walk_at "sc"
abbrev MP:Stmt:=top 56
abbrev QT:List Str:=["_law_script"]
theorem CL:Zj ["_law_script"] QT (Zf MP):=by walk_at "sc"
abbrev Om:Stmt:=top 57
abbrev SQ:List Str:=["_law_script"]
theorem EZ:Zj ["_law_script"] SQ (Zf Om):=by walk_at "sc"
abbrev Oo:Stmt:=top 58
abbrev SR:List Str:=["_law_top", "_law_bottom"]
theorem XX:Zj ["_law_top", "_law_bottom", "_law_one", "_law_other", "_law_kept"] SR (Zf Oo):=by walk_at "sc"
abbrev Oq:Stmt:=top 59
abbrev SU:List Str:=["_law_cell", "_law_k", "_law_scale"]
theorem XY:Zj ["_law_cell", "_law_k", "_law_scale", "_law_m", "_law_top", "_law_bottom"] SU (Zf Oq):=by walk_at "sc"
abbrev MQ:Stmt:=top 60
abbrev QU:List Str:=["_law_kinds_here", "_law_words_here", "_law_head", "_law_m"]
theorem XQ:Zj ["_law_kinds_here", "_law_words_here", "_law_head", "_law_m", "_law_size", "_law_some", "_law_k"] QU (Zf MQ):=by walk_at "sc"
abbrev MR:Stmt:=top 61
abbrev QV:List Str:=["_law_script", "_law_scale"]
theorem ZH:Zj ["_law_script", "_law_scale", "_law_kinds_here", "_law_words_here", "_law_titles_here", "_law_rows", "_law_k", "_law_cell", "_law_m", "_law_tag", "_law_many", "_law_head", "_law_some", "_law_n", "_law_under"] QV (Zf MR):=by walk_at "sc"
abbrev MS:Stmt:=top 62
abbrev QW:List Str:=["_law_rows", "_law_script", "_law_at_here", "_law_kind", "_law_above"]
theorem YD:Zj ["_law_rows", "_law_script", "_law_at_here", "_law_kind", "_law_above", "_law_m", "_law_some", "_law_number", "_law_row", "_law_kids", "_law_part"] QW (Zf MS):=by walk_at "sc"
abbrev Qe:Stmt:=top 63
abbrev UH:List Str:=["_law_rows", "_law_scale"]
theorem SV:Zj ["_law_rows", "_law_scale", "_law_rules_here", "_law_row"] UH (Zf Qe):=by walk_at "sc"
abbrev MT:Stmt:=top 64
abbrev QX:List Str:=["_law_tree", "_law_cell", "_law_at_here"]
theorem Ot:Zj ["_law_tree", "_law_cell", "_law_at_here", "_law_kids", "_law_kid"] QX (Zf MT):=by walk_at "sc"
abbrev Vl:Stmt:=top 65
abbrev XG:List Str:=["_law_script", "_law_rows"]
theorem Yb:Zj ["_law_script", "_law_rows", "_law_trees", "_law_count", "_law_k", "_law_spare", "_law_state", "_law_tree"] XG (Zf Vl):=by walk_at "sc"
abbrev MU:Stmt:=top 66
abbrev QY:List Str:=["_law_script"]
theorem Ou:Zj ["_law_script", "_law_scale", "_law_rows"] QY (Zf MU):=by walk_at "sc"
abbrev Qf:Stmt:=top 67
abbrev UI:List Str:=["_law_tree", "_law_counts_here"]
theorem NV:Zj ["_law_tree", "_law_counts_here", "_law_kid"] UI (Zf Qf):=by walk_at "sc"
abbrev Ov:Stmt:=top 68
abbrev SW:List Str:=["_law_rows", "_law_trees"]
theorem Qg:Zj ["_law_rows", "_law_trees", "_law_counts_here", "_law_tree"] SW (Zf Ov):=by walk_at "sc"
abbrev MV:Stmt:=top 69
abbrev QZ:List Str:=["_law_found"]
theorem CM:Zj ["_law_found"] QZ (Zf MV):=by walk_at "sc"
abbrev SX:Stmt:=top 70
abbrev Vz:List Str:=["_law_found", "_law_top", "_law_bottom"]
theorem Hi:Zj ["_law_found", "_law_top", "_law_bottom"] Vz (Zf SX):=by walk_at "sc"
abbrev Iz:Stmt:=top 71
abbrev NW:List Str:=["_law_rows", "_law_found", "_law_counts_here"]
theorem YJ:Zj ["_law_rows", "_law_found", "_law_counts_here", "_law_head", "_law_top", "_law_bottom", "_law_many", "_law_row", "_law_share", "_law_count"] NW (Zf Iz):=by walk_at "sc"
abbrev NX:Stmt:=top 72
abbrev vX:List Str:=["_law_script"]
theorem UY:Zj ["_law_script", "_law_rows", "_law_grammar_here", "_law_trees", "_law_found", "_law_counts_here", "_law_row", "_law_share", "_law_count", "_law_of_head"] vX (Zf NX):=by walk_at "sc"
abbrev Yk:Str := "abcdefghijklmnopqrstuvwxyz"
abbrev ZG:Str := "ABCDEFGHIJKLMNOPQRSTUVWXYZ"
abbrev Wt:Str := "0123456789"
set_option genSizeOf false in
set_option genInjectivity false in
structure Adr where
 VG:Addr
 TC:Addr
 Wu:Addr
 C_Twice:Addr
 Wv:Addr
 TF:Addr
 C_Ring:Addr
 VV:Addr
 C_Cost:Addr
 Yg:Addr
 C_Rule:Addr
 ZI:Addr
 ZJ:Addr
 YY:FuncData
 ZD:Addr
 XR:FuncData
 Yn:Addr
 SY:FuncData
 ZW:Addr
 VW:FuncData
 YK:Addr
 Ww:FuncData
 VX:Addr
 Ow:FuncData
 VY:Addr
 Ox:FuncData
 Xh:Addr
 VZ:FuncData
 TH:Addr
 MX:FuncData
 TJ:Addr
 MY:FuncData
 TK:Addr
 MZ:FuncData
 Vb:Addr
 Qh:FuncData
 Wh:Addr
 SZ:FuncData
 ZM:Addr
 Ys:FuncData
 Yh:Addr
 Xi:FuncData
 Xz:Addr
 UZ:FuncData
 XA:Addr
 Ta:FuncData
 YL:Addr
 Wx:FuncData
 Vc:Addr
 Qi:FuncData
 Ua:Addr
 Oy:FuncData
 Wi:Addr
 Ra:FuncData
 XB:Addr
 Tb:FuncData
 Vd:Addr
 Qj:FuncData
 XC:Addr
 Tc:FuncData
 TL:Addr
 La:FuncData
 Qk:Addr
 IA:FuncData
 f_l_at:Addr
 d_l_at:FuncData
 f_l_mix:Addr
 d_l_mix:FuncData
 TN:Addr
 Lb:FuncData
 TQ:Addr
 Lc:FuncData
 TR:Addr
 Ld:FuncData
 Ub:Addr
 Oz:FuncData
 Uc:Addr
 OA:FuncData
 Ud:Addr
 OB:FuncData
 TU:Addr
 Le:FuncData
 TV:Addr
 Lf:FuncData
 TX:Addr
 Lg:FuncData
 Ve:Addr
 Ql:FuncData
 TY:Addr
 Lh:FuncData
 YZ:Addr
 Vm:FuncData
 TZ:Addr
 Li:FuncData
 Vf:Addr
 Qm:FuncData
 Ue:Addr
 OC:FuncData
 Sa:Addr
 Lj:FuncData
 Wj:Addr
 Rb:FuncData
 Qn:Addr
 IB:FuncData
 f_law:Addr
 d_law:FuncData
 Yc:Tok
structure Txt (K:aj) (mg:Str→Option Value) (A:Adr):Prop where
 cl_Cost:Cls K A.C_Cost
 M_Cost:mg "Cost" = some (.ref A.C_Cost)
 mk_Cost:MkP K A.C_Cost
 zW:Cls K A.Yg
 vY:mg "Chance" = some (.ref A.Yg)
 Sb:MkP K A.Yg
 cl_Rule:Cls K A.C_Rule
 M_Rule:mg "Rule" = some (.ref A.C_Rule)
 mk_Rule:Mk K A.C_Rule A.ZJ
 NY:YN K A.C_Rule "title"
 KH:YN K A.C_Rule "head"
 NZ:YN K A.C_Rule "parts"
 PL:YN K A.C_Rule "weight"
 IC:YN K A.C_Rule "tag"
 Ma:YN K A.C_Rule "under"
 Wy:Cls K A.ZI
 zX:mg "Grammar" = some (.ref A.ZI)
 Ug:Mk K A.ZI A.ZD
 RA:YN K A.ZI "scale"
 RB:YN K A.ZI "start"
 RC:YN K A.ZI "rules"
 Gg:ExB K mg "NoScale" A.VG
 Sd:ExB K mg "NoRule" A.TC
 IE:ExB K mg "NoWeight" A.Wu
 E_Twice:ExB K mg "Twice" A.C_Twice
 Gh:ExB K mg "NoTitle" A.Wv
 Mb:ExB K mg "NoKind" A.TF
 E_Ring:ExB K mg "Ring" A.C_Ring
 Md:ExB K mg "NoTree" A.VV
 Yw:El K "__init__" "Rule.__init__" Yv A.ZJ A.YY [.str "" A.Yc,.none]
 zY:Binds K A.YY ["self", "title", "head", "parts", "weight", "tag", "under"] [.none]
 Lk:Binds K A.YY ["self", "title", "head", "parts", "weight", "tag", "under"] [.str "" A.Yc,.none]
 zZ:Meth K A.C_Rule "__init__" A.ZJ
 Yx:Binds K A.YY ["self", "title", "head", "parts", "weight", "tag", "under"] []
 YS:Fun K "__init__" "Grammar.__init__" Ya A.ZD A.XR
 DK:Meth K A.ZI "__init__" A.ZD
 Yd:Binds K A.XR ["self", "scale", "start", "rules"] []
 VA:Fun K "takes" "Cost.takes" Xm A.Yn A.SY
 Hj:Meth K A.C_Cost "takes" A.Yn
 Wk:Binds K A.SY ["self", "weight"] []
 Wl:Fun K "takes" "Chance.takes" YH A.ZW A.VW
 KQ:Meth K A.Yg "takes" A.ZW
 Xj:Binds K A.VW ["self", "weight"] []
 Xp:FnB K mg "common_divisor" Wr Xn A.YK A.Ww
 Rc:FnB K mg "fraction" Oi SJ A.VX A.Ow
 Re:FnB K mg "scale_of" Oj SK A.VY A.Ox
 Wm:FnB K mg "is_name_sign" VQ Wg A.Xh A.VZ
 VH:FnB K mg "is_name" MI QM A.TH A.MX
 VI:FnB K mg "is_kind" MJ QN A.TJ A.MY
 VJ:FnB K mg "is_word" MK QO A.TK A.MZ
 UJ:FnB K mg "are_parts" Qa UE A.Vb A.Qh
 VB:FnB K mg "are_titles" SL Vw A.Wh A.SZ
 ZX:FnB K mg "check_weights_and_titles" Yr ZV A.ZM A.Ys
 YB:FnB K mg "check_titles_under" Xg Yz A.Yh A.Xi
 WQ:FnB K mg "check_kinds" UR WL A.Xz A.UZ
 WR:FnB K mg "check_rings" UT WM A.XA A.Ta
 Xq:FnB K mg "heads_in_order" Ws Xo A.YL A.Wx
 UK:FnB K mg "may_stand" Qc UF A.Vc A.Qi
 Rf:FnB K mg "rules_in" Ol SM A.Ua A.Oy
 VC:FnB K mg "rule_fault" SN Vx A.Wi A.Ra
 WT:FnB K mg "seated_kids" UW WN A.XB A.Tb
 UL:FnB K mg "counts_of" Qd UG A.Vd A.Qj
 WU:FnB K mg "check_trees" UX WO A.XC A.Tc
 Pa:FnB K mg "is_tree" ML QP A.TL A.La
 Mf:FnB K mg "learnt" Iv NU A.Qk A.IA
 L_l_at:FnB K mg "_law_at" CK Fu A.f_l_at A.d_l_at
 L_l_mix:FnB K mg "_law_mix" Fv Js A.f_l_mix A.d_l_mix
 VL:FnB K mg "_law_names" MM QQ A.TN A.Lb
 Pb:FnB K mg "_law_kinds" MN QR A.TQ A.Lc
 Pg:FnB K mg "_law_words" MP QT A.TR A.Ld
 Rg:FnB K mg "_law_titles" Om SQ A.Ub A.Oz
 Uh:FnB K mg "_law_lowest" Oo SR A.Uc A.OA
 Ui:FnB K mg "_law_weight" Oq SU A.Ud A.OB
 Ph:FnB K mg "_law_parts" MQ QU A.TU A.Le
 Pj:FnB K mg "_law_rules" MR QV A.TV A.Lf
 Xr:FnB K mg "_law_grown" MS QW A.TX A.Lg
 UM:FnB K mg "_law_grammar" Qe UH A.Ve A.Ql
 Xs:FnB K mg "_law_edged" MT QX A.TY A.Lh
 XH:FnB K mg "_law_drawn_trees" Vl XG A.YZ A.Vm
 Pk:FnB K mg "_law_start" MU QY A.TZ A.Li
 YC:FnB K mg "_law_counted" Qf UI A.Vf A.Qm
 Rh:FnB K mg "_law_counts" Ov SW A.Ue A.OC
 Se:FnB K mg "_law_whole" MV QZ A.Sa A.Lj
 VD:FnB K mg "_law_fraction" SX Vz A.Wj A.Rb
 Mg:FnB K mg "_law_sums" Iz NW A.Qn A.IB
 L_law:FnB K mg "law" NX vX A.f_law A.d_law
 KR:∃ t,mg "SMALL_LETTERS" = some (.str Yk t)
 Vn:∃ t,mg "GREAT_LETTERS" = some (.str ZG t)
 yc:∃ t,mg "FIGURES" = some (.str Wt t)
 IG:∃ t,mg "LONGEST_NAME" = some (.int 12 t)
 Fw:∃ t,mg "MOST_PARTS" = some (.int 4 t)
 b_tuple:mg "tuple" = none
 b_abs:mg "abs" = none
 b_all:mg "all" = none
 ZQ:mg "isinstance" = none
 b_str:mg "str" = none
 b_len:mg "len" = none
 b_list:mg "list" = none
 b_set:mg "set" = none
 b_dict:mg "dict" = none
 b_zip:mg "zip" = none
 b_max:mg "max" = none
 b_range:mg "range" = none
 b_int:mg "int" = none
 Da:mg "enumerate" = none
 b_bool:mg "bool" = none
 b_sum:mg "sum" = none
class TxC (K:aj) (A:Adr):Prop where
 ex:∃ mg,Txt K mg A
section
variable {P:Program}{w:World}{K:aj}{mg:Str→Option Value}{base:Heap}
def rdM (s:String):Lean.MacroM (Lean.TSyntax `tactic):=do
 let ls ← (s.splitOn " ").toArray.mapM fun n=>`(Lean.Parser.Tactic.simpLemma| $(Lean.mkIdent n.toName):ident)
 `(tactic| simp only [$ls,*])
def rd1:String := "dSeq dIf pq pj vz ph rn rp Ao dB dOp dVar dCB BU dNil dRet dC qO wo XO Ag MD Af dTup dLst dTru sL sM sN sO sP sQ sR sS sU sV sW sX sY sZ dAnd dOr dNot qK dOrV qL dIfE xX BZ qN dNeg dCall dBM tyD Ct qP dPar wz wC Cy dPut wApp mj dFz qY wN qZ dAug dPop sg si sk sr su z_ii z_i0 z_mul z_rep z_lt z_le z_gt z_ge z_isN nG nH nI nJ nK nL nM nN sv sx sy sA EE EF EG sC EH wO wR wU rD sD sE nP nQ nR nS nT nU sF An sG Gb pd wW Fj nV sH sI sJ wX wY wZ vd ve vf vg vh vi vj vm vn vo vp vq vt vw vx vy qQ qR dRng2 qS Ib dpre wI peekAt Slot.peek Wq List.foldl List.modify List.modifyTailIdx List.modifyTailIdx.go List.modifyHead_cons List.modifyHead_nil List.map_cons List.map_nil List.length_cons List.length_nil List.replicate List.cons_append List.nil_append Nat.reduceAdd Nat.reduceSub Nat.zero_add List.getElem?_cons_succ List.getElem?_cons_zero List.set_cons_zero List.set_cons_succ Option.some.injEq Slot.v.injEq Slot.own.injEq Slot.ob.injEq D.int.injEq D.bl.injEq D.str.injEq D.tup.injEq D.lst.injEq D.obj.injEq List.cons.injEq exists_eq_left' exists_eq_left and_true true_and and_assoc exists_eq_right exists_and_left reduceCtorEq false_and and_false exists_false if_true if_false Bool.false_eq_true List.length_map ite_self Option.getD_some Option.getD_none Bool.not_true Bool.not_false decide_true decide_false D.imm D.GO Bool.and_self Bool.and_true Bool.true_and List.lookup ne_eq not_false_eq_true false_or true_or or_true or_false"
local macro_rules | `(tactic| walk_at "rd") => rdM rd1
theorem Uj {c A B:Prop} [Decidable c] (h1:c→A) (h2:¬ c→B):if decide c=true then A else B:=by
 by_cases hc:c
 ·rw [if_pos (decide_eq_true hc)];exact h1 hc
 ·rw [if_neg (by simp [hc])];exact h2 hc
theorem Hk {c A B:Prop} [Decidable c] (h1:¬ c→A) (h2:c→B):if (!decide c)=true then A else B:=by
 by_cases hc:c
 ·rw [if_neg (by simp [hc])];exact h2 hc
 ·rw [if_pos (by simp [hc])];exact h1 hc
theorem OD {α:Type}{xs:List α}{i:Int}{j:Nat}(e:i=(j:Int)) (h:j < xs.length):atI xs i=some xs[j]:=by
 subst e
 exact XZ (aB h)
theorem Jt {α β:Type}(f:α→β) (ns:List α) (d:α) {i:Int}(h0:0≤i) (h:i < ns.length):atI (ns.map f) i=some (f (ns.getD i.toNat d)):=by
 have hj:i.toNat < ns.length:=by omega
 rw [OD (j:=i.toNat) (by omega) (by rw [length_map];exact hj),List.getElem_map,getD_eq_getElem?_getD,aB hj]
 rfl
theorem vZ {α:Type}{ns:List α}{d:α}{P:α→Prop}(j:Nat) (h:∀ n∈ns,P n) (hd:P d):P (ns.getD j d):=by
 rw [getD_eq_getElem?_getD]
 cases q:ns[j]? with
 | none=>exact hd
 | some n=>exact h n (mem_of_getElem? q)
theorem Mh {e:DE}{q:List D→Prop}{n:Nat}{s:L2.Slot}{caps:DSt}(h:Nat→D) (hl:n≤aA)
  (hs:∀ i,i < n→∀ N:D→Prop,N (h i)→e (.v (.int (i:Int))::caps) N (fun _=>False)) (hq:q ((List.range n).map h)):WY (XO 0) zJ e q (L2.intsFrom 0 n) (s::caps) []:=by
 refine YG (c:=fun i:Nat => .int (0 + (i:Int))) (xs:=List.range n) h (by rw [List.length_range];exact hl) (fun i hi N hN=>?_) hq
 rw [Int.zero_add]
 exact hs i (mem_range.mp hi) N hN
noncomputable def atZ (ns:List Int) (k:Int):Int:=ns.getD k.toNat 0
noncomputable def CN:DSp:=fun xs q _=>∃ (ns:List Int) (k:Int),xs=[.scr (ns.map .int),.int k]∧0≤k∧q (.int (atZ ns k))
theorem Ri {A:Adr}(T:Txt K mg A):Zy P w K mg base (CXE P w) 1 A.f_l_at A.d_l_at Fu (spD K CN):=by
 haveI:TxC K A:=⟨⟨_,T⟩⟩
 refine T.L_l_at.F.okJ qe (fun xs q x h=>?_) (fun cdv Ar outer s H E hr=>⟨_,(Za (ZO [] (ZC Eu (jv 1) (Yo Yj (by rfl) T.b_len PySem.boot_len (Zc (jv 0) Zb)) (ZF _)) (Ze (Zr [] (Zm (jv 0) (jv 1)))) Zt)
   (Ze (Zr [] Zd))),fun xs q x h=>?_⟩)
 ·obtain ⟨ns,k,rfl,_⟩:=h
  rfl
 ·obtain ⟨ns,k,rfl,h0,hq⟩:=h
  walk_at "rd"
  refine Uj (fun h=>?_) (fun h=>?_)
  ·have hk:k.toNat < ns.length:=by omega
   refine ⟨_,OD (j:=k.toNat) (by omega) (by rw [length_map];exact hk),?_⟩
   rw [List.getElem_map]
   unfold atZ at hq
   rw [getD_eq_getElem?_getD,aB hk] at hq
   exact hq
  ·unfold atZ at hq
   rw [getD_eq_getElem?_getD,List.getElem?_eq_none (by omega)] at hq
   exact hq
noncomputable def CO (k:Int):Int:=([48271,69621,16807,40692,30269,62089,45991]:List Int).getD (k % 7).toNat 0
noncomputable def mix (c k:Int):Int:=((c % 2147483647 + 97 * k * k + 11) * CO k % 2147483629) * ((c % 2147483647 + 97 * k * k + 11) * CO k % 2147483629) % 1999999973
theorem Qo (c k:Int):0≤mix c k:=Int.emod_nonneg _ (by decide)
theorem Ln (c k:Int):mix c k < 1999999973:=Int.emod_lt_of_pos _ (by decide)
noncomputable def Fx:DSp:=fun xs q _=>∃ (c k:Int),xs=[.int c,.int k] ∧ -(2 ^ 20) < k∧k < 2 ^ 20∧q (.int (mix c k))
theorem Sf {A:Adr}(T:Txt K mg A):Zy P w K mg base (CXE P w) 1 A.f_l_mix A.d_l_mix Js (spD K Fx):=by
 haveI:TxC K A:=⟨⟨_,T⟩⟩
 refine T.L_l_mix.F.okJ Iw (fun xs q x h=>?_) (fun cdv Ar outer s H E hr=>⟨_,(Za (Zo (i:=2) Iw.nd rfl (Or.inl rfl) (Zm (Sz (Zc Zd (Zc Zd (Zc Zd (Zc Zd (Zc Zd (Zc Zd (Zc Zd Zb)))))))) (Zn ZA (jv 1) Zd)))
   (Za (Zo (i:=3) Iw.nd rfl (Or.inl rfl) (Zn ZA (Zn Wd (Zn ZK (Zn ZK (Zn ZA (jv 0) Zd) (Zn Wd (Zn Wd Zd (jv 1)) (jv 1))) Zd) (jv 2)) Zd))
   (Ze (Zr [] (Zn ZA (Zn Wd (jv 3) (jv 3)) Zd))))),fun xs q x h=>?_⟩)
 ·obtain ⟨c,k,rfl,_⟩:=h
  rfl
 ·obtain ⟨c,k,rfl,k1,k2,hq⟩:=h
  walk_at "rd"
  have h1:(k % 7).toNat < 7:=by omega
  have e1:k % 7=((k % 7).toNat:Int):=by omega
  refine ⟨by decide,by decide,.int (CO k),?_,?_⟩
  ·exact Jt D.int [48271,69621,16807,40692,30269,62089,45991] 0 (by omega) (by show k % 7 < 7;omega)
  walk_at "rd"
  have f1:0≤CO k∧CO k < 100000:=vZ (P:=fun n:Int=>0≤n∧n < 100000) _ (by decide) (by decide)
  refine ⟨by decide,.l (by decide) (by decide),.r (by omega) (by omega),.r (by omega) (by omega),by decide,.l ?_ ?_,by decide,hq⟩
  ·have:=Int.emod_nonneg ((c % 2147483647 + 97 * k * k + 11) * CO k) (show (2147483629:Int)≠0 by decide)
   omega
  ·have:=Int.emod_lt_of_pos ((c % 2147483647 + 97 * k * k + 11) * CO k) (show (0:Int) < 2147483629 by decide)
   omega
noncomputable def nmS (c:Nat):Bool:=decide (c∈Yk.cps.toList) || decide (c∈ZG.cps.toList) || decide (c∈Wt.cps.toList)
noncomputable def grS (c:Nat):Bool:=decide (c∈ZG.cps.toList)
noncomputable def isNm (x:Str):Bool:=decide (1≤x.length) && decide (x.length≤12) && x.cps.toList.all nmS
noncomputable def fst (x:Str):Nat:=x.cps.toList.getD 0 0
noncomputable def Uk (x:Str):Bool:=isNm x && grS (fst x)
noncomputable def Sg (x:Str):Bool:=isNm x && !grS (fst x)
theorem Pl (c:Nat) (j:Str):inS ⟨#[c]⟩ j=decide (c∈j.cps.toList):=by
 unfold inS
 exact StrLaws.found_one _ _
theorem Sh {x:Str}(h:isNm x=true):1≤x.length∧x.length≤12:=by
 unfold isNm at h
 simp only [aD,decide_eq_true_eq] at h
 exact h.1
theorem at0 {x:Str}(h:1≤x.length):atI x.cps.toList 0=some (fst x):=by
 have hl:0 < x.cps.toList.length:=by rw [Array.length_toList];exact h
 refine (OD (i:=0) (j:=0) rfl hl).trans ?_
 unfold fst
 rw [getD_eq_getElem?_getD,aB hl]
 rfl
noncomputable def Ul:DSp:=fun xs q _=>∃ c:Nat,xs=[.str ⟨#[c]⟩]∧q (.bl (nmS c))
theorem KS {c:Nat}{q:D→Prop}{x:Addr→Prop}:Ul [.str ⟨#[c]⟩] q x=q (.bl (nmS c)):=by unfold Ul;simp
theorem KU {A:Adr}(T:Txt K mg A):Zy P w K mg base (CXE P w) 1 A.Xh A.VZ Wg (spD K Ul):=by
 haveI:TxC K A:=⟨⟨_,T⟩⟩
 refine T.Wm.F.okJ KP (fun xs q x h=>?_) (fun cdv Ar outer s H E hr=>⟨_,(Ze (Zr [] (qM (VN Ts (jv 0) (Oc (.str Yk) (by rfl) T.KR.choose_spec (show RelV (.str Yk) _ from ⟨_,rfl⟩) (fun _ _=>rfl)) (by with_unfolding_all rfl)) (qM (VN Ts (jv 0) (Oc (.str ZG) (by rfl) T.Vn.choose_spec (show RelV (.str ZG) _ from ⟨_,rfl⟩) (fun _ _=>rfl)) (by with_unfolding_all rfl)) (Mv (VN Ts (jv 0) (Oc (.str Wt) (by rfl) T.yc.choose_spec (show RelV (.str Wt) _ from ⟨_,rfl⟩) (fun _ _=>rfl)) (by with_unfolding_all rfl))))))),fun xs q x h=>?_⟩)
 ·obtain ⟨c,rfl,_⟩:=h
  rfl
 ·obtain ⟨c,rfl,hq⟩:=h
  walk_at "rd"
  unfold nmS at hq
  rw [Pl,Pl,Pl]
  generalize decide (c∈Yk.cps.toList)=b1 at hq ⊢
  generalize decide (c∈ZG.cps.toList)=b2 at hq ⊢
  cases b1 <;> cases b2 <;> exact hq
noncomputable def Pm:DSp:=fun xs q _=>∃ z:Str,xs=[.str z]∧z.length≤aA∧q (.bl (isNm z))
theorem CP {z:Str}{q:D→Prop}{x:Addr→Prop}:Pm [.str z] q x=(z.length≤aA∧q (.bl (isNm z))):=by unfold Pm;simp
theorem OG {A:Adr}(T:Txt K mg A):Zy P w K mg base (CXE P w) 2 A.TH A.MX QM (spD K Pm):=by
 have IH:=KU (P:=P) (w:=w) (base:=base) T
 haveI:TxC K A:=⟨⟨_,T⟩⟩
 refine T.VH.F.okJ CH (fun xs q x h=>?_) (fun cdv Ar outer s H E hr=>⟨_,(Za (ZO [] (Oe (RP (Yl (ZU (Yo (Vi (K:=K) rfl) (by rfl) T.ZQ PyProof.Rows.boot_isinstance (Zc (jv 0) (Zc (Wc (n := "str") (by rfl) T.b_str PyProof.Rows.boot_str) Zb))))) (RO (Yl (JU Es Es Zd (Yo Yj (by rfl) T.b_len PySem.boot_len (Zc (jv 0) Zb)) (Oc (.int 12) (by rfl) T.IG.choose_spec (show RelV (.int 12) _ from ⟨_,rfl⟩) (fun _ _=>rfl))))))) (Ze (Zr [] NB)) Zt)
   (Ze (Zr [] (Yo MB (by rfl) T.b_all PyProof.Rows.boot_all (Zc (Yi ["sign"] [] [] (nB (jv 0)) (fun _=>(Zi (i:=0) (show @Nodup Str ((["sign"]:List Str)++([]:List Str)) by decide +kernel) rfl (Or.inl rfl) (Or.inr rfl))) (fun _=>Yu) (fun _=>(Zh IH T.Wm (hr.mono (by decide)) QK (Zc (jv 0) Zb)))) Zb))))),fun xs q x h=>?_⟩)
 ·obtain ⟨z,rfl,_⟩:=h
  rfl
 ·obtain ⟨z,rfl,hz,hq⟩:=h
  walk_at "rd"
  have kf:isNm z=false→q (.bl false):=fun e=>by rw [←e];exact hq
  refine ⟨hz,Uj (fun h1=>Hk (fun h2=>kf ?_) (fun h2=>?_)) (fun h1=>kf ?_)⟩
  ·unfold isNm;rw [decide_eq_false (show ¬ z.length≤12 by omega)];simp
  ·refine YG (c:=fun c => .str ⟨#[c]⟩) (xs:=z.cps.toList) (fun c => .bl (nmS c)) (by rw [Array.length_toList];exact hz) (fun c _ N hN=>?_) ?_
   ·exact ⟨_,rfl,c,rfl,hN⟩
   ·rw [Fj]
    unfold isNm at hq
    rw [decide_eq_true (show 1≤z.length by omega),decide_eq_true (show z.length≤12 by omega)] at hq
    exact hq
  ·unfold isNm;rw [decide_eq_false (show ¬ 1≤z.length by omega)];simp
noncomputable def Lp:DSp:=fun xs q _=>∃ z:Str,xs=[.str z]∧z.length≤aA∧q (.bl (Uk z))
theorem CQ {z:Str}{q:D→Prop}{x:Addr→Prop}:Lp [.str z] q x=(z.length≤aA∧q (.bl (Uk z))):=by unfold Lp;simp
theorem OH {A:Adr}(T:Txt K mg A):Zy P w K mg base (CXE P w) 3 A.TJ A.MY QN (spD K Lp):=by
 have Si:=OG (P:=P) (w:=w) (base:=base) T
 haveI:TxC K A:=⟨⟨_,T⟩⟩
 refine T.VI.F.okJ CI (fun xs q x h=>?_) (fun cdv Ar outer s H E hr=>⟨_,(Ze (Zr [] (Mw (Zh Si T.VH (hr.mono (by decide)) Zg (Zc (jv 0) Zb)) (Mv (VN Ts (Zm (jv 0) Zd) (Oc (.str ZG) (by rfl) T.Vn.choose_spec (show RelV (.str ZG) _ from ⟨_,rfl⟩) (fun _ _=>rfl)) (by with_unfolding_all rfl)))))),fun xs q x h=>?_⟩)
 ·obtain ⟨z,rfl,_⟩:=h
  rfl
 ·obtain ⟨z,rfl,hz,hq⟩:=h
  walk_at "rd"
  refine ⟨z,rfl,hz,_,rfl,?_⟩
  unfold Uk at hq
  cases hn:isNm z with
  | false=>rw [hn] at hq;exact hq
  | true =>
   rw [if_pos rfl]
   refine ⟨hz,fst z,at0 (Sh hn).1,?_⟩
   rw [Pl]
   rw [hn] at hq
   exact hq
noncomputable def Pn:DSp:=fun xs q _=>∃ z:Str,xs=[.str z]∧z.length≤aA∧q (.bl (Sg z))
theorem CT {z:Str}{q:D→Prop}{x:Addr→Prop}:Pn [.str z] q x=(z.length≤aA∧q (.bl (Sg z))):=by unfold Pn;simp
theorem II {A:Adr}(T:Txt K mg A):Zy P w K mg base (CXE P w) 3 A.TK A.MZ QO (spD K Pn):=by
 have Si:=OG (P:=P) (w:=w) (base:=base) T
 haveI:TxC K A:=⟨⟨_,T⟩⟩
 refine T.VJ.F.okJ CJ (fun xs q x h=>?_) (fun cdv Ar outer s H E hr=>⟨_,(Ze (Zr [] (Mw (Zh Si T.VH (hr.mono (by decide)) Zg (Zc (jv 0) Zb)) (Mv (VN JX (Zm (jv 0) Zd) (Oc (.str ZG) (by rfl) T.Vn.choose_spec (show RelV (.str ZG) _ from ⟨_,rfl⟩) (fun _ _=>rfl)) (by with_unfolding_all rfl)))))),fun xs q x h=>?_⟩)
 ·obtain ⟨z,rfl,_⟩:=h
  rfl
 ·obtain ⟨z,rfl,hz,hq⟩:=h
  walk_at "rd"
  refine ⟨z,rfl,hz,_,rfl,?_⟩
  unfold Sg at hq
  cases hn:isNm z with
  | false=>rw [hn] at hq;exact hq
  | true =>
   rw [if_pos rfl]
   refine ⟨hz,fst z,at0 (Sh hn).1,?_⟩
   rw [Pl]
   rw [hn] at hq
   exact hq
noncomputable def WV (zs:List Str):Bool:=decide (1≤zs.length) && decide (zs.length≤4) && zs.all isNm
noncomputable def Vg (zs:List Str):Bool:=decide (1≤zs.length) && zs.all Sg
noncomputable def Fits (zs:List Str):Prop:=zs.length≤1000∧∀ z∈zs,z.length≤1000
noncomputable def isSeq (d:D) (zs:List Str):Prop:=d = .lst (zs.map .str)∨d = .tup (zs.map .str)
noncomputable def KJ:DSp:=fun xs q _=>∃ d zs,xs=[d]∧isSeq d zs∧Fits zs∧q (.bl (WV zs))
theorem Fy {A:Adr}(T:Txt K mg A):Zy P w K mg base (CXE P w) 3 A.Vb A.Qh UE (spD K KJ):=by
 have Si:=OG (P:=P) (w:=w) (base:=base) T
 haveI:TxC K A:=⟨⟨_,T⟩⟩
 refine T.UJ.F.okJ Ft (fun xs q x h=>?_) (fun cdv Ar outer s H E hr=>⟨_,(Za (ZO [] (Oe (RP (Yl (ZU (Yo (Vi (K:=K) rfl) (by rfl) T.ZQ PyProof.Rows.boot_isinstance (Zc (jv 0) (Zc (Xv (Zc (Wc (n := "list") (by rfl) T.b_list PyProof.Rows.boot_list) (Zc (Wc (n := "tuple") (by rfl) T.b_tuple PyProof.Rows.boot_tuple) Zb))) Zb))))) (RO (Yl (JU Es Es Zd (Yo Yj (by rfl) T.b_len PySem.boot_len (Zc (jv 0) Zb)) (Oc (.int 4) (by rfl) T.Fw.choose_spec (show RelV (.int 4) _ from ⟨_,rfl⟩) (fun _ _=>rfl))))))) (Ze (Zr [] NB)) Zt)
   (Ze (Zr [] (Yo MB (by rfl) T.b_all PyProof.Rows.boot_all (Zc (Yi ["part"] [] [] (ZY (jv 0)) (fun _=>(Zi (i:=0) (show @Nodup Str ((["part"]:List Str)++([]:List Str)) by decide +kernel) rfl (Or.inl rfl) (Or.inr rfl))) (fun _=>Yu) (fun _=>(Zh Si T.VH (hr.mono (by decide)) QK (Zc (jv 0) Zb)))) Zb))))),fun xs q x h=>?_⟩)
 ·obtain ⟨d,zs,rfl,_⟩:=h
  rfl
 ·obtain ⟨d,zs,rfl,hd,⟨hf1,hf2⟩,hq⟩:=h
  have hsz:aA=16777216:=rfl
  have kf:WV zs=false→q (.bl false):=fun e=>by rw [←e];exact hq
  have fin:(decide ((1:Int)≤zs.length)=true→decide ((zs.length:Int)≤4)=true→WY (XO 0) zJ (dCall Pm (BU (dVar 0) dNil)) (fun xs=>zF [D.lst xs] q) (zs.map .str) [.un] []):=by
   intro h1 h2
   simp only [decide_eq_true_eq] at h1 h2
   refine YG (fun z => .bl (isNm z)) (by omega) (fun z hz N hN=>⟨_,rfl,z,rfl,by have:=hf2 z hz;omega,hN⟩) ?_
   rw [Fj]
   unfold WV at hq
   rw [decide_eq_true (show 1≤zs.length by omega),decide_eq_true (show zs.length≤4 by omega)] at hq
   exact hq
  rcases hd with rfl | rfl
  all_goals
   walk_at "rd"
   refine ⟨by decide,Uj (fun h1=>Hk (fun h2=>kf ?_) (fun h2=>?_)) (fun h1=>kf ?_)⟩
   ·unfold WV;rw [decide_eq_false (show ¬ zs.length≤4 by omega)];simp
   ·exact fin (decide_eq_true h1) (decide_eq_true h2)
   ·unfold WV;rw [decide_eq_false (show ¬ 1≤zs.length by omega)];simp
noncomputable def Fz:DSp:=fun xs q _=>∃ d zs,xs=[d]∧isSeq d zs∧Fits zs∧q (.bl (Vg zs))
theorem Hl {A:Adr}(T:Txt K mg A):Zy P w K mg base (CXE P w) 4 A.Wh A.SZ Vw (spD K Fz):=by
 have Pp:=II (P:=P) (w:=w) (base:=base) T
 haveI:TxC K A:=⟨⟨_,T⟩⟩
 refine T.VB.F.okJ Hh (fun xs q x h=>?_) (fun cdv Ar outer s H E hr=>⟨_,(Za (ZO [] (Oe (RP (Yl (ZU (Yo (Vi (K:=K) rfl) (by rfl) T.ZQ PyProof.Rows.boot_isinstance (Zc (jv 0) (Zc (Xv (Zc (Wc (n := "list") (by rfl) T.b_list PyProof.Rows.boot_list) (Zc (Wc (n := "tuple") (by rfl) T.b_tuple PyProof.Rows.boot_tuple) Zb))) Zb))))) (RO (ZC (WX hr.WW) (Yo Yj (by rfl) T.b_len PySem.boot_len (Zc (jv 0) Zb)) Zd (ZF _))))) (Ze (Zr [] NB)) Zt)
   (Ze (Zr [] (Yo MB (by rfl) T.b_all PyProof.Rows.boot_all (Zc (Yi ["title"] [] [] (ZY (jv 0)) (fun _=>(Zi (i:=0) (show @Nodup Str ((["title"]:List Str)++([]:List Str)) by decide +kernel) rfl (Or.inl rfl) (Or.inr rfl))) (fun _=>Yu) (fun _=>(Zh Pp T.VJ (hr.mono (by decide)) QK (Zc (jv 0) Zb)))) Zb))))),fun xs q x h=>?_⟩)
 ·obtain ⟨d,zs,rfl,_⟩:=h
  rfl
 ·obtain ⟨d,zs,rfl,hd,⟨hf1,hf2⟩,hq⟩:=h
  have hsz:aA=16777216:=rfl
  have kf:Vg zs=false→q (.bl false):=fun e=>by rw [←e];exact hq
  have fin:(1≤zs.length→WY (XO 0) zJ (dCall Pn (BU (dVar 0) dNil)) (fun xs=>zF [D.lst xs] q) (zs.map .str) [.un] []):=by
   intro h1
   refine YG (fun z => .bl (Sg z)) (by omega) (fun z hz N hN=>⟨_,rfl,z,rfl,by have:=hf2 z hz;omega,hN⟩) ?_
   rw [Fj]
   unfold Vg at hq
   rw [decide_eq_true h1] at hq
   exact hq
  rcases hd with rfl | rfl
  all_goals
   walk_at "rd"
   refine ⟨by decide,Uj (fun h1=>kf ?_) (fun h1=>fin ?_)⟩
   ·unfold Vg;rw [decide_eq_false (show ¬ 1≤zs.length by omega)];simp
   ·omega
def rd2:String:=rd1 ++ " KS CP CQ CT"
local macro_rules | `(tactic| walk_at "rd") => rdM rd2
noncomputable def tieIs (d:D):Option (List Str)→Prop
 | none=>d = .non
 | some us=>isSeq d us∧Fits us
noncomputable def IJ:Option (List Str)→D
 | none => .non
 | some us => .tup (us.map .str)
noncomputable def Ay:Option (List Str)→Bool
 | none=>true
 | some us=>Vg us
noncomputable def XS (ti hd:Str) (ps:List Str) (tg:Str) (t:Option (List Str)):Bool:=Sg ti && Uk hd && WV ps && (decide (tg = "") || Sg tg) && Ay t
noncomputable def ua (ti hd:Str) (ps:List Str) (wv:D) (tg:Str) (t:Option (List Str)):List (Str × D):=[("title",.str ti),("head",.str hd),("parts",.tup (ps.map .str)),("weight",wv),("tag",.str tg),("under",IJ t)]
noncomputable def RD (A:Adr):EC:=fun xs q x=>∃ ti hd dp ps wv tg un t,xs=[.str ti,.str hd,dp,wv,.str tg,un]∧isSeq dp ps∧Fits ps∧tieIs un t∧ti.length≤1000∧hd.length≤1000∧tg.length≤1000 ∧
 (XS ti hd ps tg t=true→q (ua ti hd ps wv tg t))∧(XS ti hd ps tg t=false→x A.TC)
theorem ifB {b:Bool}{A B:Prop}(h1:b=true→A) (h2:b=false→B):if b=true then A else B:=by
 cases b
 ·exact h2 rfl
 ·exact h1 rfl
theorem KW {b:Bool}{A B:Prop}(h1:b=false→A) (h2:b=true→B):if (!b)=true then A else B:=by
 cases b
 ·exact h1 rfl
 ·exact h2 rfl
theorem Lq {A:Adr}(T:Txt K mg A):Zy P w K mg base (CXE P w) 5 A.ZJ A.YY ["self", "title", "head", "parts", "weight", "tag", "under"] (spI K A.C_Rule (RD A)):=by
 have Pp:=II (P:=P) (w:=w) (base:=base) T
 have Sl:=OH (P:=P) (w:=w) (base:=base) T
 have Dc:=Fy (P:=P) (w:=w) (base:=base) T
 have FA:=Hl (P:=P) (w:=w) (base:=base) T
 haveI:TxC K A:=⟨⟨_,T⟩⟩
 refine T.Yw.okI MH (fun xs q x h=>?_) (fun cdv Ar outer s H E hr=>⟨_,(Za (UQ (ZO [] (Oe (RP (Yl (ZU (Zh Pp T.VJ (hr.mono (by decide)) Zg (Zc (jv 1) Zb)))) (RP (Yl (ZU (Zh Sl T.VI (hr.mono (by decide)) Zg (Zc (jv 2) Zb)))) (RO (Yl (ZU (Zh Dc T.UJ (hr.mono (by decide)) Zg (Zc (jv 3) Zb)))))))) (Ze (YX [] T.Sd.x T.Sd.M (Zc Yp Zb))) Zt))
   (Za (UQ (ZO [] (Oe (Od (ZC (NI hr.WW) (jv 5) Yp (ZF _)) (Sy (Yl (ZU (Zh Pp T.VJ (hr.mono (by decide)) Zg (Zc (jv 5) Zb))))))) (Ze (YX [] T.Sd.x T.Sd.M (Zc Yp Zb))) Zt))
   (Za (UQ (ZO [] (Oe (Od (ZC BV (jv 6) NC (ZF _)) (Sy (Yl (ZU (Zh FA T.VB (hr.mono (by decide)) Zg (Zc (jv 6) Zb))))))) (Ze (YX [] T.Sd.x T.Sd.M (Zc Yp Zb))) Zt))
   (Za (SE (K:=K) [] 0 rfl (jv 1))
   (Za (SE (K:=K) [] 0 rfl (jv 2))
   (Za (SE (K:=K) [] 0 rfl (Tv Mz (by rfl) T.b_tuple PyProof.Rows.boot_tuple (Zc (jv 3) Zb)))
   (Za (SE (K:=K) [] 0 rfl (jv 4))
   (Za (SE (K:=K) [] 0 rfl (jv 5))
   (Ze (SE (K:=K) [] 0 rfl (je_if (ZC GX (jv 6) NC (ZF _)) NC (Tv Mz (by rfl) T.b_tuple PyProof.Rows.boot_tuple (Zc (jv 6) Zb))))))))))))),fun oa dx xs q x h=>?_⟩)
 ·obtain ⟨ti,hd,dp,ps,wv,tg,un,t,rfl,_⟩:=h
  rfl
 ·obtain ⟨ti,hd,dp,ps,wv,tg,un,t,rfl,hdp,hfp,htie,l1,l2,l3,kg,kb⟩:=h
  have hsz:aA=16777216:=rfl
  have no:XS ti hd ps tg t=false→1≤aA∧x A.TC:=fun z=>⟨by decide,kb z⟩
  have seqp:∀ {N:D→Prop},N (.bl (WV ps))→KJ [dp] N x:=fun h=>⟨dp,ps,rfl,hdp,hfp,h⟩
  refine ⟨fun ds'=>ds'=[.ob oa dx A.C_Rule [],.v (.str ti),.v (.str hd),.v dp,.v wv,.v (.str tg),.v un]∧Sg ti=true∧Uk hd=true∧WV ps=true,?_,?_⟩
  ·walk_at "rd"
   refine ⟨by omega,KW (fun e=>no (by unfold XS;rw [e];rfl)) fun e1=>⟨by omega,KW (fun e=>no (by unfold XS;rw [e1,e];rfl)) fun e2=>seqp ?_⟩⟩
   walk_at "rd"
   exact KW (fun e=>no (by unfold XS;rw [e1,e2,e];rfl)) fun e3=>⟨e1,e2,e3⟩
  rintro _ ⟨rfl,e1,e2,e3⟩
  refine ⟨fun ds'=>ds'=[.ob oa dx A.C_Rule [],.v (.str ti),.v (.str hd),.v dp,.v wv,.v (.str tg),.v un]∧(decide (tg = "") || Sg tg)=true,?_,?_⟩
  ·walk_at "rd"
   refine Hk (fun z=>⟨by omega,KW (fun e=>no (by unfold XS;rw [e,decide_eq_false z];simp)) fun e=>by rw [e];simp⟩) (fun z=>by rw [decide_eq_true z];rfl)
  rintro _ ⟨rfl,e4⟩
  refine ⟨fun ds'=>ds'=[.ob oa dx A.C_Rule [],.v (.str ti),.v (.str hd),.v dp,.v wv,.v (.str tg),.v un]∧Ay t=true,?_,?_⟩
  ·walk_at "rd"
   cases t with
   | none =>
    rw [show un = .non from htie]
    walk_at "rd"
    rfl
   | some us =>
    have nn:un.Vu=false:=by rcases htie.1 with z | z <;> rw [z] <;> rfl
    rw [nn]
    refine ⟨un,us,rfl,htie.1,htie.2,?_⟩
    walk_at "rd"
    exact KW (fun e=>no (by unfold XS;rw [show Ay (some us)=Vg us from rfl,e];simp)) fun e=>e
  rintro _ ⟨rfl,e5⟩
  have good:XS ti hd ps tg t=true:=by unfold XS;rw [e1,e2,e3,e4,e5];rfl
  walk_at "rd"
  have tp:∀ {N:D→Prop},N (.tup (ps.map .str))→HV [dp] N:=fun h=>by
   rcases hdp with rfl | rfl <;> exact h
  refine ⟨T.cl_Rule,T.NY,by decide,T.cl_Rule,T.KH,by show 1 < 1000;decide,T.cl_Rule,T.NZ,by show 2 < 1000;decide,tp ⟨T.cl_Rule,T.PL,by show 3 < 1000;decide,T.cl_Rule,T.IC,by show 4 < 1000;decide,T.cl_Rule,T.Ma,by show 5 < 1000;decide,?_⟩⟩
  cases t with
  | none =>
   rw [show un = .non from htie]
   exact kg good
  | some us =>
   have nn:un.Vu=false:=by rcases htie.1 with z | z <;> rw [z] <;> rfl
   rw [nn]
   have tu:∀ {N:D→Prop},N (.tup (us.map .str))→HV [un] N:=fun h=>by
    rcases htie.1 with z | z <;> rw [z] <;> exact h
   exact tu (kg good)
structure Ru where
 ti:Str
 hd:Str
 ps:List Str
 wa:Int
 wb:Int
 tg:Str
 t:Option (List Str)
noncomputable def wD (a b:Int):D := .tup [.int a,.int b]
noncomputable def Ru.d (A:Adr) (r:Ru):D := .obj A.C_Rule (ua r.ti r.hd r.ps (wD r.wa r.wb) r.tg r.t)
noncomputable def Ru.Fit (r:Ru):Prop:=r.ti.length≤1000∧r.hd.length≤1000∧Fits r.ps∧∀ us,r.t=some us→Fits us
noncomputable def Rus (rs:List Ru):Prop:=rs.length≤1000∧∀ r∈rs,r.Fit
noncomputable def scD (A:Adr) (z:Str):D := .obj (if z = "cost" then A.C_Cost else A.Yg) []
noncomputable def okW (z:Str) (a:Int):Bool:=decide (z = "cost") || decide (0 < a)
section
variable {A:Adr} [TxC K A] {q:D→Prop}{r:Ru}
theorem zf_ti:D.fld K "title" (r.d A) q=q (.str r.ti):=by obtain ⟨mg,T⟩:=(inferInstance:TxC K A).ex;exact D.SH T.cl_Rule T.NY rfl
theorem zf_hd:D.fld K "head" (r.d A) q=q (.str r.hd):=by obtain ⟨mg,T⟩:=(inferInstance:TxC K A).ex;exact D.SH T.cl_Rule T.KH rfl
theorem zf_ps:D.fld K "parts" (r.d A) q=q (.tup (r.ps.map .str)):=by obtain ⟨mg,T⟩:=(inferInstance:TxC K A).ex;exact D.SH T.cl_Rule T.NZ rfl
theorem zf_we:D.fld K "weight" (r.d A) q=q (wD r.wa r.wb):=by obtain ⟨mg,T⟩:=(inferInstance:TxC K A).ex;exact D.SH T.cl_Rule T.PL rfl
theorem zf_tg:D.fld K "tag" (r.d A) q=q (.str r.tg):=by obtain ⟨mg,T⟩:=(inferInstance:TxC K A).ex;exact D.SH T.cl_Rule T.IC rfl
theorem zf_un:D.fld K "under" (r.d A) q=q (IJ r.t):=by obtain ⟨mg,T⟩:=(inferInstance:TxC K A).ex;exact D.SH T.cl_Rule T.Ma rfl
end
def rd3:String:=rd2 ++ " zf_ti zf_hd zf_ps zf_we zf_tg zf_un"
local macro_rules | `(tactic| walk_at "rd") => rdM rd3
noncomputable def CU (A:Adr):DSp:=fun xs q x=>∃ z:Str,xs=[.str z]∧((z = "cost" ∨ z = "chance")→q (scD A z))∧(z ≠ "cost" → z ≠ "chance" → x A.VG)
theorem De {A:Adr}(T:Txt K mg A):Zy P w K mg base (CXE P w) 1 A.VY A.Ox SK (spD K (CU A)):=by
 haveI:TxC K A:=⟨⟨_,T⟩⟩
 refine T.Re.F.okJ EY (fun xs q x h=>?_) (fun cdv Ar outer s H E hr=>⟨_,(Za (ZO [] (ZC (WX hr.WW) (jv 0) Yp (ZF _)) (Ze (Zr [] (EB T.mk_Cost (by rfl) T.M_Cost))) Zt)
   (Za (ZO [] (ZC (WX hr.WW) (jv 0) Yp (ZF _)) (Ze (Zr [] (EB T.Sb (by rfl) T.vY))) Zt)
   (Ze (YX [] T.Gg.x T.Gg.M (Zc Yp Zb))))),fun xs q x h=>?_⟩)
 ·obtain ⟨z,rfl,_⟩:=h
  rfl
 ·obtain ⟨z,rfl,hq,hx⟩:=h
  walk_at "rd"
  refine Uj (fun e=>?_) (fun e1=>Uj (fun e=>?_) (fun e2=>⟨by decide,hx e1 e2⟩))
  ·have:=hq (.inl e)
   unfold scD at this
   rw [if_pos e] at this
   exact this
  ·have:=hq (.inr e)
   unfold scD at this
   rw [if_neg e1] at this
   exact this
noncomputable def Mi:DSp:=fun xs q _=>∃ o w,xs=[o,w]∧q (.bl true)
theorem Hm {A:Adr}(T:Txt K mg A):Zy P w K mg base (CXE P w) 1 A.Yn A.SY ["self", "weight"] (spD K Mi):=by
 haveI:TxC K A:=⟨⟨_,T⟩⟩
 refine T.VA.okJ Hg (fun xs q x h=>?_) (fun cdv Ar outer s H E hr=>⟨_,(Ze (Zr [] NB)),fun xs q x h=>?_⟩)
 ·obtain ⟨o,w,rfl,_⟩:=h
  rfl
 ·obtain ⟨o,w,rfl,hq⟩:=h
  walk_at "rd"
  exact hq
noncomputable def Qp:DSp:=fun xs q _=>∃ o a b,xs=[o,wD a b]∧q (.bl (decide (0 < a)))
theorem KY {A:Adr}(T:Txt K mg A):Zy P w K mg base (CXE P w) 1 A.ZW A.VW ["self", "weight"] (spD K Qp):=by
 haveI:TxC K A:=⟨⟨_,T⟩⟩
 refine T.Wl.okJ KO (fun xs q x h=>?_) (fun cdv Ar outer s H E hr=>⟨_,(Ze (Zr [] (VN Et (Zm (jv 1) Zd) Zd (ZF _)))),fun xs q x h=>?_⟩)
 ·obtain ⟨o,a,b,rfl,_⟩:=h
  rfl
 ·obtain ⟨o,a,b,rfl,hq⟩:=h
  unfold wD
  walk_at "rd"
  exact ⟨_,rfl,hq⟩
theorem ub {A:Adr}(T:Txt K mg A) (z:Str):∃ C g,scD A z = .obj C []∧MOkD P w K mg base 1 C "takes" g∧∀ {a b:Int}{q:D→Prop}{x:Addr→Prop},q (.bl (okW z a))→g [scD A z,wD a b] q x:=by
 by_cases e:z = "cost"
 ·refine ⟨A.C_Cost,Mi,by unfold scD;rw [if_pos e],⟨T.cl_Cost,_,_,_,T.Hj,Hm T,T.Wk⟩,fun {a b q x} h=>⟨_,_,rfl,?_⟩⟩
  unfold okW at h
  rw [decide_eq_true e] at h
  exact h
 ·refine ⟨A.Yg,Qp,by unfold scD;rw [if_neg e],⟨T.zW,_,_,_,T.KQ,KY T,T.Xj⟩,fun {a b q x} h=>⟨_,_,_,rfl,?_⟩⟩
  unfold okW at h
  rw [decide_eq_false e] at h
  exact h
noncomputable def cwt (z:Str):List Str→List Ru→Nat
 | _,[]=>0
 | seen,r::rs=>if okW z r.wa=false then 1 else if r.ti∈seen then 2 else cwt z (seen++[r.ti]) rs
noncomputable def Um (A:Adr):DSp:=fun xs q x=>∃ (z:Str) (rs:List Ru),xs=[scD A z,.lst (rs.map (Ru.d A))]∧Rus rs∧(cwt z [] rs=0→q .non)∧(cwt z [] rs=1→x A.Wu)∧(cwt z [] rs=2→x A.C_Twice)
theorem VE {A:Adr}(T:Txt K mg A):Zy P w K mg base (CXE P w) 2 A.ZM A.Ys ZV (spD K (Um A)):=by
 haveI:TxC K A:=⟨⟨_,T⟩⟩
 refine T.ZX.F.okJ Ym (fun xs q x h=>?_) (fun cdv Ar outer s H E hr=>⟨_,(Za (Xd (i:=2) Ym.nd rfl (Or.inl rfl) (Xw Zb))
   (Ze (YQ PassesOwn.leaving (ZY (jv 1)) (Zi (i:=3) Ym.nd rfl (Or.inl rfl)) (Za (ZO [] (Yl (ZU (se (k:=1) (hr.mono (by decide)) Zg (jv 0) (Zc (ZL (K:=K) rfl (jv 3)) Zb)))) (Ze (YX [] T.IE.x T.IE.M (Zc (Jp (SG (Fl (ZL (K:=K) rfl (jv 3)) (SG Fk)))) Zb))) Zt)
   (Za (ZO [2] (ZC Ts (ZL (K:=K) rfl (jv 3)) (jv 2) (by with_unfolding_all rfl)) (Ze (YX [] T.E_Twice.x T.E_Twice.M (Zc (Jp (SG (Fl (ZL (K:=K) rfl (jv 3)) Fk))) Zb))) Zt)
   (Ze (Vj [] 2 (ZL (K:=K) rfl (jv 3))))))))),fun xs q x h=>?_⟩)
 ·obtain ⟨z,rs,rfl,_⟩:=h
  rfl
 ·obtain ⟨z,rs,rfl,⟨l1,l2⟩,h0,h1,h2⟩:=h
  walk_at "rd"
  have hsz:aA=16777216:=rfl
  refine ⟨by decide,[],?_⟩
  walk_at "rd"
  refine Yq (fun i ds=>∃ s,ds=[.v (scD A z),.v (.lst (rs.map (Ru.d A))),.own (((rs.take i).map (·.ti)).map .str),s]∧cwt z ((rs.take i).map (·.ti)) (rs.drop i)=cwt z [] rs) ⟨.un,rfl,rfl⟩ (fun i r ds N hr hi hn=>?_) (fun ds hi=>?_)
  ·obtain ⟨s,rfl,hc⟩:=hi
   obtain ⟨C,g,e,mo,tk⟩:=ub (P:=P) (w:=w) (base:=base) T z
   obtain ⟨hi1,hi2⟩:=List.getElem?_eq_some_iff.mp hr
   rw [List.drop_eq_getElem_cons hi1,hi2,cwt] at hc
   obtain ⟨m1,m2,m3,m4⟩:=l2 r (mem_of_getElem? hr)
   have lt:(rs.take i).length≤1000:=by rw [length_take];omega
   walk_at "rd"
   refine ⟨C,[],e,g,mo,rfl,tk ?_⟩
   walk_at "rd"
   refine KW (fun e1=>⟨by omega,by decide,h1 ?_⟩) (fun e1=>Uj (fun e2=>⟨by omega,by decide,h2 ?_⟩) (fun e2=>⟨by omega,hn _ ⟨.v (r.d A),?_,?_⟩⟩))
   ·rw [←hc,if_pos e1]
   ·rw [←hc,if_neg (by rw [e1];decide),if_pos e2]
   ·rw [take_add_one,hr]
    simp
   ·rw [if_neg (by rw [e1];decide),if_neg e2] at hc
    rw [take_add_one,hr,←hc]
    simp
  ·obtain ⟨s,rfl,hc⟩:=hi
   rw [List.drop_length] at hc
   exact h0 hc.symm
theorem qf (rs:List Ru):rs.map (fun r=>D.str r.ti)=(rs.map (·.ti)).map .str:=by rw [map_map];rfl
theorem qg (rs:List Ru):rs.map (fun r=>D.str r.hd)=(rs.map (·.hd)).map .str:=by rw [map_map];rfl
theorem mz:IJ none = .non:=rfl
theorem mB {us:List Str}:IJ (some us) = .tup (us.map .str):=rfl
def rd4:String:=rd3 ++ " mz mB"
local macro_rules | `(tactic| walk_at "rd") => rdM rd4
noncomputable def Qq (tis:List Str) (r:Ru):Bool:=match r.t with
 | none=>true
 | some us=>us.all fun u=>decide (u∈tis)
noncomputable def ctu (rs:List Ru):Bool:=rs.all (Qq (rs.map (·.ti)))
noncomputable def Qr (A:Adr):DSp:=fun xs q x=>∃ rs:List Ru,xs=[.lst (rs.map (Ru.d A))]∧Rus rs∧(ctu rs=true→q .non)∧(ctu rs=false→x A.Wv)
theorem RH {A:Adr}(T:Txt K mg A):Zy P w K mg base (CXE P w) 1 A.Yh A.Xi Yz (spD K (Qr A)):=by
 haveI:TxC K A:=⟨⟨_,T⟩⟩
 refine T.YB.F.okJ Xa (fun xs q x h=>?_) (fun cdv Ar outer s H E hr=>⟨_,(Za (Zo (i:=1) Xa.nd rfl (Or.inr rfl) (Yi ["rule"] [] [] (ZY (jv 0)) (fun _=>(Zi (i:=0) (show @Nodup Str ((["rule"]:List Str)++([]:List Str)) by decide +kernel) rfl (Or.inl rfl) (Or.inr rfl))) (fun _=>Yu) (fun _=>(ZL (K:=K) rfl (jv 0)))))
   (Ze (YQ PassesOwn.leaving (ZY (jv 0)) (Zi (i:=2) Xa.nd rfl (Or.inl rfl)) (Ze (ZO [] (Oe (Od (ZC BV (ZL (K:=K) rfl (jv 2)) NC (ZF _)) (Sy (Yl (ZU (Yo MB (by rfl) T.b_all PyProof.Rows.boot_all (Zc (Yi ["title"] ["titles"] [1] (ZY (ZL (K:=K) rfl (jv 2))) (fun _=>(Zi (i:=0) (show @Nodup Str ((["title"]:List Str)++(["titles"]:List Str)) by decide +kernel) rfl (Or.inl rfl) (Or.inr rfl))) (fun _=>Yu) (fun _=>(VN Ts (jv 0) (jv 1) (by with_unfolding_all rfl)))) Zb))))))) (Ze (YX [] T.Gh.x T.Gh.M (Zc (Jp (SG (Fl (ZL (K:=K) rfl (jv 2)) (SG Fk)))) Zb))) Zt))))),fun xs q x h=>?_⟩)
 ·obtain ⟨rs,rfl,_⟩:=h
  rfl
 ·obtain ⟨rs,rfl,⟨l1,l2⟩,h0,h1⟩:=h
  have hsz:aA=16777216:=rfl
  walk_at "rd"
  refine YG (fun r => .str r.ti) (by omega) (fun r hr N hN=>?_) ?_
  ·walk_at "rd"
   exact hN
  rw [qf]
  refine ⟨[],?_⟩
  walk_at "rd"
  refine Yq (fun i ds=>∃ s,ds=[.v (.lst (rs.map (Ru.d A))),.v (.lst ((rs.map (·.ti)).map .str)),s]∧(rs.take i).all (Qq (rs.map (·.ti)))=true) ⟨.un,rfl,rfl⟩ (fun i r ds N hr hi hn=>?_) (fun ds hi=>?_)
  ·obtain ⟨s,rfl,hc⟩:=hi
   obtain ⟨m1,m2,m3,m4⟩:=l2 r (mem_of_getElem? hr)
   have mem:=mem_of_getElem? hr
   have nxt:Qq (rs.map (·.ti)) r=true→N [.v (.lst (rs.map (Ru.d A))),.v (.lst ((rs.map (·.ti)).map .str)),.v (r.d A)]:=fun e=>by
    refine hn _ ⟨_,rfl,?_⟩
    rw [take_add_one,hr,all_append,hc]
    simp [e]
   have bad:Qq (rs.map (·.ti)) r=false→x A.Wv:=fun e=>h1 (by
    unfold ctu
    rw [List.all_eq_false]
    exact ⟨r,mem,by rw [e];decide⟩)
   walk_at "rd"
   cases ht:r.t with
   | none =>
    walk_at "rd"
    exact nxt (by unfold Qq;rw [ht])
   | some us =>
    obtain ⟨f1,f2⟩:=m4 us ht
    walk_at "rd"
    refine YG (fun u => .bl (decide (u∈rs.map (·.ti)))) (by omega) (fun u hu N hN=>?_) ?_
    ·walk_at "rd"
     exact hN
    walk_at "rd"
    exact KW (fun e=>⟨by omega,by decide,bad (by unfold Qq;rw [ht];exact e)⟩) (fun e=>nxt (by unfold Qq;rw [ht];exact e))
  ·obtain ⟨s,rfl,hc⟩:=hi
   rw [take_length] at hc
   exact h0 hc
noncomputable def IK (hds:List Str) (r:Ru):Bool:=(r.ps.filter Uk).all fun p=>decide (p∈hds)
noncomputable def ck (st:Str) (rs:List Ru):Bool:=decide (st∈rs.map (·.hd)) && rs.all (IK (rs.map (·.hd)))
noncomputable def Hn (A:Adr):DSp:=fun xs q x=>∃ (st:Str) (rs:List Ru),xs=[.str st,.lst (rs.map (Ru.d A))]∧Rus rs∧(ck st rs=true→q .non)∧(ck st rs=false→x A.TF)
theorem IL {A:Adr}(T:Txt K mg A):Zy P w K mg base (CXE P w) 4 A.Xz A.UZ WL (spD K (Hn A)):=by
 have Sl:=OH (P:=P) (w:=w) (base:=base) T
 haveI:TxC K A:=⟨⟨_,T⟩⟩
 refine T.WQ.F.okJ VR (fun xs q x h=>?_) (fun cdv Ar outer s H E hr=>⟨_,(Za (Zo (i:=2) VR.nd rfl (Or.inr rfl) (Yi ["rule"] [] [] (ZY (jv 1)) (fun _=>(Zi (i:=0) (show @Nodup Str ((["rule"]:List Str)++([]:List Str)) by decide +kernel) rfl (Or.inl rfl) (Or.inr rfl))) (fun _=>Yu) (fun _=>(ZL (K:=K) rfl (jv 0)))))
   (Za (ZO [] (ZC JX (jv 0) (jv 2) (by with_unfolding_all rfl)) (Ze (YX [] T.Mb.x T.Mb.M (Zc Yp Zb))) Zt)
   (Ze (YQ PassesOwn.leaving (ZY (jv 1)) (Zi (i:=3) VR.nd rfl (Or.inl rfl)) (Ze (ZO [] (Yl (ZU (Yo MB (by rfl) T.b_all PyProof.Rows.boot_all (Zc (Yi ["part"] ["heads"] [2] (ZY (ZL (K:=K) rfl (jv 3))) (fun _=>(Zi (i:=0) (show @Nodup Str ((["part"]:List Str)++(["heads"]:List Str)) by decide +kernel) rfl (Or.inl rfl) (Or.inr rfl))) (fun _=>(Og (ZU (Zh Sl T.VI (hr.mono (by decide)) QK (Zc (jv 0) Zb))))) (fun _=>(VN Ts (jv 0) (jv 1) (by with_unfolding_all rfl)))) Zb)))) (Ze (YX [] T.Mb.x T.Mb.M (Zc (Jp (SG (Fl (ZL (K:=K) rfl (jv 3)) (SG Fk)))) Zb))) Zt)))))),fun xs q x h=>?_⟩)
 ·obtain ⟨st,rs,rfl,_⟩:=h
  rfl
 ·obtain ⟨st,rs,rfl,⟨l1,l2⟩,h0,h1⟩:=h
  have hsz:aA=16777216:=rfl
  walk_at "rd"
  refine YG (fun r => .str r.hd) (by omega) (fun r hr N hN=>?_) ?_
  ·walk_at "rd"
   exact hN
  rw [qg]
  walk_at "rd"
  refine Hk (fun e=>⟨by decide,h1 (by unfold ck;rw [decide_eq_false e];rfl)⟩) (fun e=>⟨[],?_⟩)
  walk_at "rd"
  refine Yq (fun i ds=>∃ s,ds=[.v (.str st),.v (.lst (rs.map (Ru.d A))),.v (.lst ((rs.map (·.hd)).map .str)),s]∧(rs.take i).all (IK (rs.map (·.hd)))=true) ⟨.un,rfl,rfl⟩ (fun i r ds N hr hi hn=>?_) (fun ds hi=>?_)
  ·obtain ⟨s,rfl,hc⟩:=hi
   obtain ⟨m1,m2,⟨m3,m5⟩,m4⟩:=l2 r (mem_of_getElem? hr)
   have mem:=mem_of_getElem? hr
   walk_at "rd"
   refine NP Uk (fun p => .bl (decide (p∈rs.map (·.hd)))) (by omega) (fun p hp N hN=>?_) (fun p hp _ N hN=>?_) ?_
   ·walk_at "rd"
    exact ⟨by have:=m5 p hp;omega,hN⟩
   ·walk_at "rd"
    exact hN
   walk_at "rd"
   refine KW (fun z=>⟨by omega,by decide,h1 ?_⟩) (fun z=>hn _ ⟨_,rfl,?_⟩)
   ·unfold ck
    rw [show rs.all (IK (rs.map (·.hd)))=false from by rw [List.all_eq_false];exact ⟨r,mem,by unfold IK;rw [z];decide⟩]
    simp
   ·rw [take_add_one,hr,all_append,hc]
    simp only [Option.toList_some,all_cons,List.all_nil,Bool.and_true,Bool.true_and]
    exact z
  ·obtain ⟨s,rfl,hc⟩:=hi
   rw [take_length] at hc
   exact h0 (by unfold ck;rw [decide_eq_true e,hc];rfl)
noncomputable def heldBy (steps:List (Str × Str)) (w:List Str):List Str:=(steps.filter fun s=>decide (s.2∈w)).map (·.1)
inductive Hio (steps:List (Str × Str)):List Str→List Str→List Str→List Str→Prop
 | stop {w o:List Str}:Hio steps w [] o o
 | step {w r o res:List Str}:r≠[]→Hio steps (w.filter fun h=>decide (h∈heldBy steps w)) (w.filter fun h => !decide (h∈heldBy steps w)) (o++w.filter fun h => !decide (h∈heldBy steps w)) res→Hio steps w r o res
noncomputable def Df (a:List Str) (k:Str):List Str:=if k∈a then a else a++[k]
noncomputable def uc (zs:List Str):List Str:=zs.foldl Df []
theorem OI (zs:List Str):dedup (zs.map Sum.inr)=(uc zs).map Sum.inr:=by
 have go:∀ (zs a:List Str),(zs.map Sum.inr).foldl Vk (a.map Sum.inr)=(zs.foldl Df a).map (Sum.inr:Str→Key):=by
  intro zs
  induction zs with
  | nil=>intro a;rfl
  | cons z zs ih =>
   intro a
   rw [map_cons,foldl_cons,foldl_cons,←ih]
   congr 1
   unfold Vk Df
   have:(Sum.inr z:Key)∈a.map Sum.inr↔z∈a:=by
    rw [mem_map]
    exact ⟨fun ⟨y,h,e⟩=>Sum.inr.inj e ▸ h,fun h=>⟨z,h,rfl⟩⟩
   by_cases e:z∈a
   ·rw [if_pos e,if_pos (this.mpr e)]
   ·rw [if_neg e,if_neg (fun h=>e (this.mp h)),map_append]
    rfl
 exact go zs []
theorem merge_keys (more:List (Key × D)):∀ kvs:List (Key × D),(RY kvs more).map (·.1)=(more.map (·.1)).foldl Vk (kvs.map (·.1)):=by
 induction more with
 | nil=>intro kvs;rfl
 | cons m more ih =>
  intro kvs
  rw [show RY kvs (m::more)=RY (Tz kvs m.1 m.2) more from rfl,ih,map_cons,foldl_cons]
  congr 1
  unfold Tz Vk
  have ea:(kvs.any fun kv=>decide (kv.1=m.1))=decide (m.1∈kvs.map (·.1)):=by
   rw [Bool.eq_iff_iff]
   simp only [List.any_eq_true,decide_eq_true_eq,mem_map]
  rw [ea]
  by_cases e:m.1∈kvs.map (·.1)
  ·rw [if_pos (decide_eq_true e),if_pos e,map_map]
   refine List.map_congr_left fun kv _=>?_
   show (if kv.1=m.1 then (kv.1,m.2) else kv).1=kv.1
   split <;> rfl
  ·rw [if_neg (by simpa using e),if_neg e,map_append]
   rfl
noncomputable def XI (rs:List Ru):List (Str × Str):=(rs.filter fun r=>decide (r.ps.length=1)).map fun r=>(r.hd,r.ps.getD 0 "")
noncomputable def waitOf (rs:List Ru):List Str:=uc (rs.map (·.hd))
theorem qi (zs:List Str):(uc zs).length≤zs.length:=by
 have:=Ij (zs.map Sum.inr)
 rw [OI] at this
 simpa using this
theorem Dg {α:Type}(w:List α) (p:α→Bool):(w.filter p).length + (w.filter fun h => !p h).length=w.length:=by
 induction w with
 | nil=>rfl
 | cons a w ih =>
  rw [filter_cons,filter_cons]
  cases p a <;> simp <;> omega
noncomputable def Lr (A:Adr):DSp:=fun xs q _=>∃ (rs:List Ru) (res:List Str),xs=[.lst (rs.map (Ru.d A))]∧Rus rs∧Hio (XI rs) (waitOf rs) (waitOf rs) [] res∧q (.lst (res.map .str))
theorem Mj {A:Adr}(T:Txt K mg A):Zy P w K mg base (CXE P w) 1 A.YL A.Wx Xo (spD K (Lr A)):=by
 haveI:TxC K A:=⟨⟨_,T⟩⟩
 refine T.Xq.F.okJ ZP (fun xs q x h=>?_) (fun cdv Ar outer s H E hr=>⟨_,(Za (Fh (i:=1) ["rule"] [] [] ZP.nd rfl (Or.inl rfl) (ZY (jv 0)) (fun _=>(Zi (i:=0) (show @Nodup Str ((["rule"]:List Str)++([]:List Str)) by decide +kernel) rfl (Or.inl rfl) (Or.inr rfl))) (fun _=>(Og (ZC (WX hr.WW) (Yo Yj (by rfl) T.b_len PySem.boot_len (Zc (ZL (K:=K) rfl (jv 0)) Zb)) Zd (ZF _)))) (fun _=>(Xv (Zc (ZL (K:=K) rfl (jv 0)) (Zc (Zm (ZL (K:=K) rfl (jv 0)) Zd) Zb)))))
   (Za (Zo (i:=2) ZP.nd rfl (Or.inr rfl) (Tv vH (by rfl) T.b_list PyProof.Rows.boot_list (Zc (Tv rC (by rfl) T.b_dict PyProof.Rows.boot_dict (Zc (Yi ["rule"] [] [] (ZY (jv 0)) (fun _=>(Zi (i:=0) (show @Nodup Str ((["rule"]:List Str)++([]:List Str)) by decide +kernel) rfl (Or.inl rfl) (Or.inr rfl))) (fun _=>Yu) (fun _=>(Xv (Zc (ZL (K:=K) rfl (jv 0)) (Zc NB Zb))))) Zb)) Zb)))
   (Za (Xd (i:=3) ZP.nd rfl (Or.inl rfl) (Xw Zb))
   (Za (Zo (i:=4) ZP.nd rfl (Or.inl rfl) (jv 2))
   (Za (RV [] PassesOwn.leaving (ZU (jv 4)) (Za (Zo (i:=5) ZP.nd rfl (Or.inr rfl) (Yi ["head", "part"] ["waiting"] [2] (ZY (jv 1)) (fun _=>(We (n:=2) (Zw (Zi (i:=0) (show @Nodup Str ((["head", "part"]:List Str)++(["waiting"]:List Str)) by decide +kernel) rfl (Or.inl rfl) (Or.inr rfl)) (Zw (Zi (i:=1) (show @Nodup Str ((["head", "part"]:List Str)++(["waiting"]:List Str)) by decide +kernel) rfl (Or.inl rfl) (Or.inr rfl)) Xc)))) (fun _=>(Og (ZC Ts (jv 1) (jv 2) (by with_unfolding_all rfl)))) (fun _=>(jv 0))))
   (Za (Fh (i:=4) ["head"] ["held"] [5] ZP.nd rfl (Or.inl rfl) (ZY (jv 2)) (fun _=>(Zi (i:=0) (show @Nodup Str ((["head"]:List Str)++(["held"]:List Str)) by decide +kernel) rfl (Or.inl rfl) (Or.inr rfl))) (fun _=>(Og (ZC JX (jv 0) (jv 1) (by with_unfolding_all rfl)))) (fun _=>(jv 0)))
   (Za (Zo (i:=2) ZP.nd rfl (Or.inr rfl) (Yi ["head"] ["held"] [5] (ZY (jv 2)) (fun _=>(Zi (i:=0) (show @Nodup Str ((["head"]:List Str)++(["held"]:List Str)) by decide +kernel) rfl (Or.inl rfl) (Or.inr rfl))) (fun _=>(Og (ZC Ts (jv 0) (jv 1) (by with_unfolding_all rfl)))) (fun _=>(jv 0))))
   (Ze (Cz [] 3 (jv 4)))))))
   (Ze (Zr [3] (jv 3)))))))),fun xs q x h=>?_⟩)
 ·obtain ⟨rs,res,rfl,_⟩:=h
  rfl
 ·obtain ⟨rs,res,rfl,⟨l1,l2⟩,hh,hq⟩:=h
  have hsz:aA=16777216:=rfl
  walk_at "rd"
  refine NP (fun r=>decide (r.ps.length=1)) (fun r => .tup [.str r.hd,.str (r.ps.getD 0 "")]) (by omega) (fun r hr N hN=>?_) (fun r hr hp N hN=>?_) ?_
  ·walk_at "rd"
   have:(decide ((r.ps.length:Int)=1))=decide (r.ps.length=1):=by rw [Bool.eq_iff_iff];simp only [decide_eq_true_eq];omega
   rw [this]
   exact hN
  ·have hp:r.ps.length=1:=of_decide_eq_true hp
   walk_at "rd"
   exact ⟨_,Jt D.str r.ps "" (i:=0) (by decide) (by omega),by decide,hN⟩
  refine YG (fun r => .tup [.str r.hd,.bl true]) (by omega) (fun r hr N hN=>?_) ?_
  ·walk_at "rd"
   exact ⟨by decide,hN⟩
  refine ⟨rs.map fun r=>(Sum.inr r.hd,.bl true),by rw [map_map];rfl,_,rfl,?_⟩
  have ew:(RY [] (rs.map fun r=>((Sum.inr r.hd:Key),D.bl true))).map (fun kv=>kD kv.1)=(waitOf rs).map .str:=by
   have e:=merge_keys (rs.map fun r=>((Sum.inr r.hd:Key),D.bl true)) []
   have e2:(rs.map fun r=>((Sum.inr r.hd:Key),D.bl true)).map (·.1)=(rs.map (·.hd)).map Sum.inr:=by rw [map_map,map_map];rfl
   rw [e2] at e
   have e3:(RY [] (rs.map fun r=>((Sum.inr r.hd:Key),D.bl true))).map (·.1)=(waitOf rs).map Sum.inr:=e.trans (OI _)
   rw [show (fun kv:Key × D=>kD kv.1)=kD ∘ (·.1) from rfl,←map_map,e3,map_map]
   rfl
  have es:(rs.filter fun r=>decide (r.ps.length=1)).map (fun r=>D.tup [.str r.hd,.str (r.ps.getD 0 "")])=(XI rs).map fun s => .tup [.str s.1,.str s.2]:=by unfold XI;rw [map_map];rfl
  rw [ew,es]
  have ls:(XI rs).length≤1000:=by
   unfold XI
   rw [length_map]
   have:=List.length_filter_le (fun r:Ru=>decide (r.ps.length=1)) rs
   omega
  have lw:(waitOf rs).length≤1000:=by
   unfold waitOf
   have:=qi (rs.map (·.hd))
   rw [length_map] at this
   omega
  generalize XI rs=steps at *
  generalize waitOf rs=w0 at *
  refine ⟨by decide,fun m ds=>∃ (w r o:List Str) (s:L2.Slot),ds=[.v (.lst (rs.map (Ru.d A))),.v (.lst (steps.map fun s => .tup [.str s.1,.str s.2])),.v (.lst (w.map .str)),.own (o.map .str),.v (.lst (r.map .str)),s]∧Hio steps w r o res∧w.length + o.length≤1000∧m=2 * w.length + (if r=[] then 0 else 1),⟨_,w0,w0,[],.un,rfl,hh,by simpa using lw,rfl⟩,?_⟩
  rintro m _ ⟨w,r,o,s,rfl,hio,hl,rfl⟩
  walk_at "rd"
  have em:(r.map D.str).isEmpty=r.isEmpty:=by cases r <;> rfl
  rw [em]
  refine KW (fun e1=>?_) (fun e1=>?_)
  ·have hr:r≠[]:=fun z=>by rw [z] at e1;cases e1
   cases hio with
   | stop=>exact absurd rfl hr
   | step _ hio =>
   have ll:=Dg w (fun h=>decide (h∈heldBy steps w))
   have eh:(steps.filter fun s=>decide (s.2∈w)).map (fun s=>D.str s.1)=(heldBy steps w).map .str:=by unfold heldBy;rw [map_map];rfl
   refine Ig (fun s=>decide (s.2∈w)) (fun s => .str s.1) (by omega) (fun s hs N hN=>?_) (fun s hs _ N hN=>?_) ?_
   ·walk_at "rd"
    exact hN
   ·walk_at "rd"
    exact hN
   rw [eh]
   refine NP (fun h => !decide (h∈heldBy steps w)) .str (by omega) (fun s hs N hN=>?_) (fun s hs _ N hN=>?_) ?_
   ·walk_at "rd"
    exact hN
   ·walk_at "rd"
    exact hN
   refine NP (fun h=>decide (h∈heldBy steps w)) .str (by omega) (fun s hs N hN=>?_) (fun s hs _ N hN=>?_) ?_
   ·walk_at "rd"
    exact hN
   ·walk_at "rd"
    exact hN
   refine ⟨by simp only [length_map];omega,_,?_,_,rfl,_,o++w.filter (fun h => !decide (h∈heldBy steps w)),by rw [map_append],rfl,hio,by rw [length_append];omega,rfl⟩
   rw [if_neg hr]
   split
   ·omega
   ·rename_i z
    have:=List.length_pos_iff.mpr z
    omega
  ·have hr:r=[]:=List.isEmpty_iff.mp e1
   subst hr
   cases hio with
   | stop=>exact hq
   | step z _=>exact absurd rfl z
noncomputable def Ho (A:Adr):DSp:=fun xs q x=>∃ (rs:List Ru) (res:List Str),xs=[.lst (rs.map (Ru.d A))]∧Rus rs∧Hio (XI rs) (waitOf rs) (waitOf rs) [] res∧((waitOf rs).length≤res.length→q .non)∧(res.length < (waitOf rs).length→x A.C_Ring)
theorem IM {A:Adr}(T:Txt K mg A):Zy P w K mg base (CXE P w) 2 A.XA A.Ta WM (spD K (Ho A)):=by
 have Ls:=Mj (P:=P) (w:=w) (base:=base) T
 haveI:TxC K A:=⟨⟨_,T⟩⟩
 refine T.WR.F.okJ Qb (fun xs q x h=>?_) (fun cdv Ar outer s H E hr=>⟨_,(Za (Fh (i:=1) ["rule"] [] [] Qb.nd rfl (Or.inl rfl) (ZY (jv 0)) (fun _=>(Zi (i:=0) (show @Nodup Str ((["rule"]:List Str)++([]:List Str)) by decide +kernel) rfl (Or.inl rfl) (Or.inr rfl))) (fun _=>Yu) (fun _=>(ZL (K:=K) rfl (jv 0))))
   (Ze (ZO [] (ZC Eu (Yo Yj (by rfl) T.b_len PySem.boot_len (Zc (Zh Ls T.Xq (hr.mono (by decide)) Zg (Zc (jv 0) Zb)) Zb)) (zS (by rfl) T.b_len (by rfl) T.b_set (jv 1)) (ZF _)) (Ze (YX [] T.E_Ring.x T.E_Ring.M (Zc Yp Zb))) Zt))),fun xs q x h=>?_⟩)
 ·obtain ⟨rs,res,rfl,_⟩:=h
  rfl
 ·obtain ⟨rs,res,rfl,⟨l1,l2⟩,hh,h0,h1⟩:=h
  have hsz:aA=16777216:=rfl
  walk_at "rd"
  refine YG (fun r => .str r.hd) (by omega) (fun r hr N hN=>?_) ?_
  ·walk_at "rd"
   exact hN
  refine ⟨rs,res,rfl,⟨l1,l2⟩,hh,?_⟩
  walk_at "rd"
  refine ⟨(rs.map (·.hd)).map Sum.inr,by rw [map_map,map_map];rfl,by rw [length_map,length_map];omega,?_⟩
  rw [OI,length_map]
  exact Uj (fun e=>⟨by decide,h1 (by unfold waitOf;omega)⟩) (fun e=>h0 (by unfold waitOf;omega))
noncomputable def ud (A:Adr) (z st:Str) (rs:List Ru):List (Str × D):=[("scale",.str z),("start",.str st),("rules",.tup (rs.map (Ru.d A)))]
noncomputable def madeG (A:Adr) (z st:Str) (rs:List Ru) (q:List (Str × D)→Prop) (x:Addr→Prop):Prop :=
 (z ≠ "cost" ∧ z ≠ "chance" ∧ x A.VG)∨((z = "cost" ∨ z = "chance")∧((cwt z [] rs=1∧x A.Wu)∨(cwt z [] rs=2∧x A.C_Twice)∨(cwt z [] rs=0∧((ctu rs=false∧x A.Wv)∨(ctu rs=true∧((ck st rs=false∧x A.TF)∨(ck st rs=true ∧
  ∃ res,Hio (XI rs) (waitOf rs) (waitOf rs) [] res∧((res.length < (waitOf rs).length∧x A.C_Ring)∨((waitOf rs).length≤res.length∧q (ud A z st rs))))))))))
noncomputable def Uo (A:Adr):EC:=fun xs q x=>∃ (z st:Str) (rs:List Ru),xs=[.str z,.str st,.lst (rs.map (Ru.d A))]∧Rus rs∧madeG A z st rs q x
theorem Px {A:Adr}(T:Txt K mg A):Zy P w K mg base (CXE P w) 5 A.ZD A.XR ["self", "scale", "start", "rules"] (spI K A.ZI (Uo A)):=by
 have Uq:=VE (P:=P) (w:=w) (base:=base) T
 have Qs:=RH (P:=P) (w:=w) (base:=base) T
 have Hq:=IL (P:=P) (w:=w) (base:=base) T
 have Hr:=IM (P:=P) (w:=w) (base:=base) T
 have CV:=De (P:=P) (w:=w) (base:=base) T
 haveI:TxC K A:=⟨⟨_,T⟩⟩
 refine T.YS.okI Pw (fun xs q x h=>?_) (fun cdv Ar outer s H E hr=>⟨_,(Za (NM (Zh Uq T.ZX (hr.mono (by decide)) Zg (Zc (Zh CV T.Re (hr.mono (by decide)) Zg (Zc (jv 1) Zb)) (Zc (jv 3) Zb))))
   (Za (NM (Zh Qs T.YB (hr.mono (by decide)) Zg (Zc (jv 3) Zb)))
   (Za (NM (Zh Hq T.WQ (hr.mono (by decide)) Zg (Zc (jv 2) (Zc (jv 3) Zb))))
   (Za (NM (Zh Hr T.WR (hr.mono (by decide)) Zg (Zc (jv 3) Zb)))
   (Za (SE (K:=K) [] 0 rfl (jv 1))
   (Za (SE (K:=K) [] 0 rfl (jv 2))
   (Ze (SE (K:=K) [] 0 rfl (Tv Mz (by rfl) T.b_tuple PyProof.Rows.boot_tuple (Zc (jv 3) Zb)))))))))),fun oa dx xs q x h=>?_⟩)
 ·obtain ⟨z,st,rs,rfl,_⟩:=h
  rfl
 ·obtain ⟨z,st,rs,rfl,hr,hm⟩:=h
  walk_at "rd"
  rcases hm with ⟨n1,n2,hx⟩ | ⟨hz,hm⟩
  ·exact ⟨z,rfl,fun h=>(h.elim n1 n2).elim,fun _ _=>hx⟩
  refine ⟨z,rfl,fun _=>?_,fun a b=>(hz.elim a b).elim⟩
  rcases hm with ⟨e,hx⟩ | ⟨e,hx⟩ | ⟨e,hm⟩
  ·exact ⟨z,rs,rfl,hr,fun h=>by omega,fun _=>hx,fun h=>by omega⟩
  ·exact ⟨z,rs,rfl,hr,fun h=>by omega,fun h=>by omega,fun _=>hx⟩
  refine ⟨z,rs,rfl,hr,fun _=>?_,fun h=>by omega,fun h=>by omega⟩
  rcases hm with ⟨e,hx⟩ | ⟨e,hm⟩
  ·exact ⟨rs,rfl,hr,fun h=>(by rw [e] at h;cases h),fun _=>hx⟩
  refine ⟨rs,rfl,hr,fun _=>?_,fun h=>by rw [e] at h;cases h⟩
  rcases hm with ⟨e,hx⟩ | ⟨e,res,hh,hm⟩
  ·exact ⟨st,rs,rfl,hr,fun h=>(by rw [e] at h;cases h),fun _=>hx⟩
  refine ⟨st,rs,rfl,hr,fun _=>?_,fun h=>by rw [e] at h;cases h⟩
  rcases hm with ⟨e,hx⟩ | ⟨e,hq⟩
  ·exact ⟨rs,res,rfl,hr,hh,fun h=>by omega,fun _=>hx⟩
  exact ⟨rs,res,rfl,hr,hh,fun _=>⟨T.Wy,T.RA,by decide,T.Wy,T.RB,by show 1 < 1000;decide,T.Wy,T.RC,by show 2 < 1000;decide,hq⟩,fun h=>by omega⟩
noncomputable def Gr (A:Adr) (z st:Str) (rs:List Ru):D := .obj A.ZI (ud A z st rs)
section
variable {A:Adr} [TxC K A] {q:D→Prop}{z st:Str}{rs:List Ru}
theorem ue:D.fld K "scale" (Gr A z st rs) q=q (.str z):=by obtain ⟨mg,T⟩:=(inferInstance:TxC K A).ex;exact D.SH T.Wy T.RA rfl
theorem uf:D.fld K "start" (Gr A z st rs) q=q (.str st):=by obtain ⟨mg,T⟩:=(inferInstance:TxC K A).ex;exact D.SH T.Wy T.RB rfl
theorem ug:D.fld K "rules" (Gr A z st rs) q=q (.tup (rs.map (Ru.d A))):=by obtain ⟨mg,T⟩:=(inferInstance:TxC K A).ex;exact D.SH T.Wy T.RC rfl
end
def rd5:String:=rd4 ++ " ue uf ug"
local macro_rules | `(tactic| walk_at "rd") => rdM rd5
noncomputable def mayS (rs:List Ru) (r:Ru) (ab:Int) (q:Bool→Prop):Prop:=match r.t with
 | none=>q true
 | some us=>if ab = -1 then q false else ∃ r',rs[ab.toNat]?=some r'∧0≤ab∧q (decide (r'.ti∈us))
noncomputable def Dh (A:Adr):DSp:=fun xs q _=>∃ (z st:Str) (rs:List Ru) (i:Nat) (ab:Int) (r:Ru),xs=[Gr A z st rs,.int i,.int ab]∧rs[i]?=some r∧mayS rs r ab fun b=>q (.bl b)
theorem FC {A:Adr}(T:Txt K mg A):Zy P w K mg base (CXE P w) 1 A.Vc A.Qi UF (spD K (Dh A)):=by
 haveI:TxC K A:=⟨⟨_,T⟩⟩
 refine T.UK.F.okJ NT (fun xs q x h=>?_) (fun cdv Ar outer s H E hr=>⟨_,(Za (Zo (i:=3) NT.nd rfl (Or.inl rfl) (ZL (K:=K) rfl (Zm (ZL (K:=K) rfl (jv 0)) (jv 1))))
   (Za (ZO [] (ZC GX (jv 3) NC (ZF _)) (Ze (Zr [] NB)) Zt)
   (Ze (Zr [] (Mw (VN (NI hr.WW) (jv 2) (Mx Zd) (ZF _)) (Mv (VN Ts (ZL (K:=K) rfl (Zm (ZL (K:=K) rfl (jv 0)) (jv 2))) (jv 3) (by with_unfolding_all rfl)))))))),fun xs q x h=>?_⟩)
 ·obtain ⟨z,st,rs,i,ab,r,rfl,_⟩:=h
  rfl
 ·obtain ⟨z,st,rs,i,ab,r,rfl,hr,hm⟩:=h
  walk_at "rd"
  have hr':atI (rs.map (Ru.d A)) (i:Int)=some (r.d A):=XZ (by rw [getElem?_map,hr];rfl)
  refine ⟨_,hr',?_⟩
  walk_at "rd"
  unfold mayS at hm
  cases ht:r.t with
  | none =>
   rw [ht] at hm
   walk_at "rd"
   exact hm
  | some us =>
   rw [ht] at hm
   simp only at hm
   walk_at "rd"
   refine Hk (fun e=>?_) (fun e=>?_)
   ·rw [if_neg e] at hm
    obtain ⟨r',h1,h2,h3⟩:=hm
    refine ⟨r'.d A,?_,?_⟩
    ·have:=XZ (xs:=rs.map (Ru.d A)) (j:=ab.toNat) (v:=r'.d A) (by rw [getElem?_map,h1];rfl)
     rw [Int.toNat_of_nonneg h2] at this
     exact this
    ·walk_at "rd"
     exact h3
   ·rw [if_pos e] at hm
    exact hm
abbrev s62:Str := "abcdefghijklmnopqrstuvwxyz0123456789ABCDEFGHIJKLMNOPQRSTUVWXYZ"
theorem Az (x:Str) (lo hi:Option Int) {n:Nat}(h:x.length≤n):(Txt.slice x lo hi).length≤n:=Nat.le_trans (Txt.slice_le x lo hi) h
theorem FD (x y:Str):(x++y).length=x.length + y.length:=by
 show (x.cps++y.cps).size=_
 rw [Array.size_append]
 rfl
noncomputable def CW (F z:Str):Prop:=∃ c r,z.cps.toList=c::r∧c∈F.cps.toList∧(∀ d∈r,d∈s62.cps.toList)∧r.length≤11
theorem CW.len {F z:Str}(h:CW F z):1≤z.length∧z.length≤12:=by
 obtain ⟨c,r,e,_,_,hl⟩:=h
 rw [JM,e,length_cons]
 omega
theorem IP {f:Nat→Str}{n:Nat}(h:∀ i j,i < j→j < n→f i≠f j):((List.range n).map f).Nodup:=by
 refine List.pairwise_map.mpr (List.Pairwise.imp_of_mem (fun {a b} _ hb lt=>h a b lt (mem_range.mp hb)) List.pairwise_lt_range)
theorem yd {α:Type}{xs:List α}(h:xs.Nodup) {i j:Nat}(lt:i < j) (hj:j < xs.length):xs[i]?≠xs[j]?:=by
 rw [aB (by omega),aB hj]
 intro e
 have:=(List.getElem_inj h).mp (Option.some.inj e)
 omega
noncomputable def sgR (F:Str) (i:Int):Nat:=F.cps.toList.getD (i % (F.length:Int)).toNat 0
theorem Rj {F:Str}(h:0 < F.length) (i:Int):atI F.cps.toList (i % (F.length:Int))=some (sgR F i)∧sgR F i∈F.cps.toList:=by
 have h1:=Int.emod_nonneg i (show (F.length:Int)≠0 by omega)
 have h2:=Int.emod_lt_of_pos i (show (0:Int) < F.length by omega)
 have hl:(i % (F.length:Int)).toNat < F.cps.toList.length:=by rw [←JM];omega
 have e:sgR F i=F.cps.toList[(i % (F.length:Int)).toNat]:=by
  unfold sgR
  rw [getD_eq_getElem?_getD,aB hl]
  rfl
 rw [e]
 exact ⟨OD (by omega) hl,getElem_mem hl⟩
theorem uh {F:Str}(hn:F.cps.toList.Nodup) {n:Nat}(hF:n≤F.length) (a:Int) {i j:Nat}(lt:i < j) (hj:j < n):sgR F (a + i)≠sgR F (a + j):=by
 intro e
 have h1:=(Rj (F:=F) (by omega) (a + i)).1
 have h2:=(Rj (F:=F) (by omega) (a + j)).1
 rw [e] at h1
 have b1:=Int.emod_nonneg (a + i) (show (F.length:Int)≠0 by omega)
 have b2:=Int.emod_lt_of_pos (a + i) (show (0:Int) < F.length by omega)
 have c1:=Int.emod_nonneg (a + j) (show (F.length:Int)≠0 by omega)
 have c2:=Int.emod_lt_of_pos (a + j) (show (0:Int) < F.length by omega)
 have l1:((a + i) % (F.length:Int)).toNat < F.cps.toList.length:=by rw [←JM];omega
 have l2:((a + j) % (F.length:Int)).toNat < F.cps.toList.length:=by rw [←JM];omega
 rw [OD (j:=((a + i) % (F.length:Int)).toNat) (by omega) l1] at h1
 rw [OD (j:=((a + j) % (F.length:Int)).toNat) (by omega) l2] at h2
 have:=(List.getElem_inj hn).mp (Option.some.inj (h1.trans h2.symm))
 have eq:(a + i) % (F.length:Int)=(a + j) % (F.length:Int):=by omega
 have:=Int.emod_emod_of_dvd (a + j - (a + i)) (Int.dvd_refl (F.length:Int))
 have d:((a + j) - (a + i)) % (F.length:Int)=0:=Int.emod_eq_emod_iff_emod_sub_eq_zero.mp eq.symm
 have d2:(a + j) - (a + i)=((j:Int) - i):=by omega
 rw [d2,Int.emod_eq_of_lt (by omega) (by omega)] at d
 omega
noncomputable def PN (m:Int):List Nat:=(List.range 11).map fun (j:Nat)=>sgR s62 (Er m ((j:Int) + 1) + (j:Int) * (j:Int))
theorem uk (m:Int):∀ d∈PN m,d∈s62.cps.toList:=by
 intro d hd
 unfold PN at hd
 obtain ⟨j,_,rfl⟩:=mem_map.mp hd
 exact (Rj (by decide +kernel) _).2
theorem ye (m:Int):(PN m).length=11:=by unfold PN;simp
theorem join_one (cs:List Nat):(Txt.join "" (cs.map fun c=>(⟨#[c]⟩:Str))).cps.toList=cs:=by
 rw [tR]
 induction cs with
 | nil=>rfl
 | cons a r ih=>rw [map_cons,map_cons,flatten_cons,ih];rfl
theorem XD {i:Int}(a : -(2 ^ 64) < i) (b:i < 2 ^ 64):Small i := .inr ((Bd.of a b).mono (by decide))
theorem mC:s62.cps.toList.Nodup:=by decide +kernel
theorem qj:s62.length=62:=by decide +kernel
noncomputable def Hs (F:Str) (n:Nat) (zs:List Str):Prop:=zs.length=n∧(∀ z∈zs,CW F z)∧zs.Nodup
noncomputable def yf:DSp:=fun xs q _=>∃ (cell:Int) (n:Nat) (F:Str),xs=[.int cell,.int n,.str F]∧n≤12∧12≤F.length∧F.length≤100∧F.cps.toList.Nodup∧∀ zs,Hs F n zs→q (.lst (zs.map .str))
theorem OJ {A:Adr}(T:Txt K mg A):Zy P w K mg base (CXE P w) 2 A.TN A.Lb QQ (spD K yf):=by
 have G_l_mix:=Sf (P:=P) (w:=w) (base:=base) T
 haveI:TxC K A:=⟨⟨_,T⟩⟩
 refine T.VL.F.okJ YR (fun xs q x h=>?_) (fun cdv Ar outer s H E hr=>⟨_,(Za (Zo (i:=3) YR.nd rfl (Or.inr rfl) Yp)
   (Za (Zo (i:=4) YR.nd rfl (Or.inr rfl) (Zh G_l_mix T.L_l_mix (hr.mono (by decide)) Zg (Zc (jv 0) (Zc Zd Zb))))
   (Za (Zo (i:=5) YR.nd rfl (Or.inr rfl) (Zn ZA (Zn ZT (jv 4) Zd) (Yo Yj (by rfl) T.b_len PySem.boot_len (Zc (jv 2) Zb))))
   (Za (Zo (i:=6) YR.nd rfl (Or.inr rfl) (je_bm PySem.F.plainAttrs_str PySem.F.slot_str_join PySem.F.type_str_join tV Yp (Zc (Yi ["_law_j"] ["_law_rest", "_law_number"] [3,4] (XW (by rfl) T.b_range (Zc Zd Zb)) (fun _=>(Zi (i:=0) (show @Nodup Str ((["_law_j"]:List Str)++(["_law_rest", "_law_number"]:List Str)) by decide +kernel) rfl (Or.inl rfl) (Or.inr rfl))) (fun _=>Yu) (fun _=>(Zm (jv 1) (Zn ZA (Zn ZK (Zn ZT (jv 2) (Zn ZK (jv 0) Zd)) (Zn Wd (jv 0) (jv 0))) Zd)))) Zb)))
   (Za (ZO [] (ZC (WX hr.WW) (Zn ZA (jv 4) Zd) Zd (ZF _)) (Ze (Zr [] (Yi ["_law_k"] ["_law_firsts", "_law_start_here", "_law_tail"] [2,5,6] (XW (by rfl) T.b_range (Zc (jv 1) Zb)) (fun _=>(Zi (i:=0) (show @Nodup Str ((["_law_k"]:List Str)++(["_law_firsts", "_law_start_here", "_law_tail"]:List Str)) by decide +kernel) rfl (Or.inl rfl) (Or.inr rfl))) (fun _=>Yu) (fun _=>(Zn ZK (Zm (jv 1) (jv 2)) (Tt (jv 3) QI (UC (jv 0)))))))) Zt)
   (Za (ZO [] (ZC (WX hr.WW) (Zn ZA (jv 4) Zd) Zd (ZF _)) (Za (Zo (i:=7) YR.nd rfl (Or.inr rfl) (Zn ZA (Zn ZT (jv 4) Zd) Zd))
   (Ze (Zr [] (Yi ["_law_k"] ["_law_firsts", "_law_tail", "_law_size", "_law_start_here"] [2,6,7,5] (XW (by rfl) T.b_range (Zc (jv 1) Zb)) (fun _=>(Zi (i:=0) (show @Nodup Str ((["_law_k"]:List Str)++(["_law_firsts", "_law_tail", "_law_size", "_law_start_here"]:List Str)) by decide +kernel) rfl (Or.inl rfl) (Or.inr rfl))) (fun _=>Yu) (fun _=>(Zn ZK (Zm (jv 1) (Zn ZA (Zn ZK (jv 4) (jv 0)) (Yo Yj (by rfl) T.b_len PySem.boot_len (Zc (jv 1) Zb)))) (Tt (jv 2) QI (UC (jv 3))))))))) Zt)
   (Za (Zo (i:=7) YR.nd rfl (Or.inr rfl) (Zn ZA (Zn ZT (jv 4) Zd) Zd))
   (Za (Zo (i:=8) YR.nd rfl (Or.inr rfl) (Zn ZA (Zn ZT (jv 4) Zd) (Zn ZK (jv 7) Zd)))
   (Za (Zo (i:=3) YR.nd rfl (Or.inr rfl) (Yi ["_law_k"] ["_law_rest", "_law_number"] [3,4] (XW (by rfl) T.b_range (Zc (jv 1) Zb)) (fun _=>(Zi (i:=0) (show @Nodup Str ((["_law_k"]:List Str)++(["_law_rest", "_law_number"]:List Str)) by decide +kernel) rfl (Or.inl rfl) (Or.inr rfl))) (fun _=>Yu) (fun _=>(Zm (jv 1) (Zn ZA (Zn ZK (Zn ZT (jv 2) Zd) (jv 0)) Zd)))))
   (Ze (Zr [] (Yi ["_law_sign"] ["_law_tail", "_law_at_here", "_law_size", "_law_firsts", "_law_start_here"] [6,8,7,2,5] (ZY (jv 3)) (fun _=>(Zi (i:=0) (show @Nodup Str ((["_law_sign"]:List Str)++(["_law_tail", "_law_at_here", "_law_size", "_law_firsts", "_law_start_here"]:List Str)) by decide +kernel) rfl (Or.inl rfl) (Or.inr rfl))) (fun _=>Yu) (fun _=>(Zn ZK (Zn ZK (Zn ZK (Zm (jv 4) (jv 5)) (Tt (jv 1) QI (UC (jv 2)))) (jv 0)) (Tt (jv 1) (UC (jv 2)) (UC (jv 3))))))))))))))))),fun xs q x h=>?_⟩)
 ·obtain ⟨cell,n,F,rfl,_⟩:=h
  rfl
 ·obtain ⟨cell,n,F,rfl,n12,F0,F1,Fn,hq⟩:=h
  have hsz:aA=16777216:=rfl
  walk_at "rd"
  refine ⟨_,_,rfl,by decide,by decide,?_⟩
  have m1:=Qo cell 0
  have m2:=Ln cell 0
  generalize mix cell 0=m at m1 m2 ⊢
  walk_at "rd"
  have one:∀ c:Nat,(⟨#[c]⟩:Str).length=1:=fun _=>rfl
  refine ⟨by decide,XD (by decide) (by decide),by omega,by omega,by decide,by decide,Mh (fun j => .str ⟨#[sgR s62 (Er m ((j:Int) + 1) + (j:Int) * (j:Int))]⟩) (by decide) (fun j hj N hN=>?_) ?_⟩
  ·have hj:j < 11:=hj
   walk_at "rd"
   exact ⟨by omega,XD (by omega) (by omega),.l (by omega) (by omega),by decide,by decide +kernel,_,(Rj (F:=s62) (by decide +kernel) _).1,hN⟩
  have et:(List.range (Int.toNat 11)).map (fun j:Nat=>D.str ⟨#[sgR s62 (Er m ((j:Int) + 1) + (j:Int) * (j:Int))]⟩)=((PN m).map fun c=>(⟨#[c]⟩:Str)).map .str:=by unfold PN;rw [map_map,map_map];rfl
  rw [et]
  have tl0:=join_one (PN m)
  have tl1:=ye m
  have tl2:=uk m
  walk_at "rd"
  refine ⟨?_,by decide,?_⟩
  ·have:=xO (zs:=(PN m).map fun c=>(⟨#[c]⟩:Str)) (m:=1) (fun z hz=>by obtain ⟨c,_,rfl⟩:=mem_map.mp hz;exact Nat.le_refl 1)
   rw [length_map] at this
   rw [show (Str.ofString "").length=0 from rfl]
   omega
  generalize Txt.join "" ((PN m).map fun c=>(⟨#[c]⟩:Str))=tl at tl0 ⊢
  generalize PN m=cs at tl0 tl1 tl2 ⊢
  have tlen:tl.length=11:=by rw [JM,tl0,tl1]
  obtain ⟨k0,k1⟩:=Rj (F:=F) (by omega) (m / 5)
  rw [Xy (show (0:Int) < F.length by omega)]
  have nd0:∀ {A B:Prop},(A→B)→A→B:=fun f a=>f a
  refine Uj (fun e0=>⟨by omega,by omega,Mh (fun k => .str (⟨#[sgR F (m / 5)]⟩++Txt.slice tl none (some (k:Int)))) (by omega) (fun k hk N hN=>?_) ?_⟩) (fun e0=>⟨by decide,Uj (fun e1=>?_) (fun e1=>?_)⟩)
  ·have hk:k < n:=by simpa using hk
   have g2:=Az tl none (some (k:Int)) (Nat.le_of_eq tlen)
   walk_at "rd"
   exact ⟨by omega,_,k0,by omega,by rw [one];omega,hN⟩
  ·rw [show ((n:Int).toNat)=n from by omega]
   have:=hq ((List.range n).map fun (k:Nat)=>⟨#[sgR F (m / 5)]⟩++Txt.slice tl none (some (k:Int))) ⟨by simp,fun z hz=>?_,IP fun i j lt hj e=>?_⟩
   ·rw [map_map] at this
    exact this
   ·obtain ⟨k,hk,rfl⟩:=mem_map.mp hz
    have hk:=mem_range.mp hk
    have g1:=Ej (x:=tl) (j:=(k:Int)) (by omega) (by rw [tl0,tl1];omega)
    exact ⟨_,(Txt.slice tl none (some (k:Int))).cps.toList,by rw [Sx];rfl,k1,fun d hd=>tl2 d (mem_of_mem_take (by rw [g1,tl0] at hd;exact hd)),by rw [g1,tl0,length_take,tl1];omega⟩
   ·have g1:=Ej (x:=tl) (j:=(i:Int)) (by omega) (by rw [tl0,tl1];omega)
    have g2:=Ej (x:=tl) (j:=(j:Int)) (by omega) (by rw [tl0,tl1];omega)
    have e:=congrArg (fun z:Str=>z.cps.toList.length) e
    simp only [Sx,g1,g2,tl0,length_append,length_take,tl1,GN,length_cons,length_nil,Int.toNat_natCast] at e
    omega
  ·refine ⟨by decide,XD (by decide) (by decide),by decide,by omega,by omega,?_⟩
   have b1:=Int.emod_nonneg (m / 3) (show (12:Int)≠0 by decide)
   have b2:=Int.emod_lt_of_pos (m / 3) (show (0:Int) < 12 by decide)
   generalize m / 3 % 12=sz at b1 b2 ⊢
   have g1:=Ej (x:=tl) (j:=sz) (by omega) (by rw [tl0,tl1];omega)
   have g2:=Az tl none (some sz) (Nat.le_of_eq tlen)
   generalize m / 5 % (F.length:Int)=st at k0 ⊢
   refine Mh (fun k => .str (⟨#[sgR F (st + k)]⟩++Txt.slice tl none (some sz))) (by omega) (fun k hk N hN=>?_) ?_
   ·walk_at "rd"
    rw [Xy (show (0:Int) < F.length by omega)]
    exact ⟨by omega,by omega,by omega,_,(Rj (F:=F) (by omega) (st + k)).1,by omega,by rw [one];omega,hN⟩
   ·rw [show ((n:Int).toNat)=n from by omega]
    have:=hq ((List.range n).map fun (k:Nat)=>⟨#[sgR F (st + k)]⟩++Txt.slice tl none (some sz)) ⟨by simp,fun z hz=>?_,IP fun i j lt hj e=>?_⟩
    ·rw [map_map] at this
     exact this
    ·obtain ⟨k,hk,rfl⟩:=mem_map.mp hz
     exact ⟨_,(Txt.slice tl none (some sz)).cps.toList,by rw [Sx];rfl,(Rj (F:=F) (by omega) (st + k)).2,fun d hd=>tl2 d (mem_of_mem_take (by rw [g1,tl0] at hd;exact hd)),by rw [g1,tl0,length_take,tl1];omega⟩
    ·have e:=congrArg (fun z:Str=>z.cps.toList.head?) e
     simp only [Sx,GN,cons_append,List.head?_cons,Option.some.injEq] at e
     exact uh Fn (by omega) st lt hj e
  ·refine ⟨by decide,XD (by decide) (by decide),by decide,by decide,XD (by decide) (by decide),?_⟩
   have b1:=Int.emod_nonneg (m / 3) (show (11:Int)≠0 by decide)
   have b2:=Int.emod_lt_of_pos (m / 3) (show (0:Int) < 11 by decide)
   generalize m / 3 % 11=sz at b1 b2 ⊢
   rw [Xy (show (0:Int) < sz + 1 by omega)]
   have d1:=Int.emod_nonneg (m / 33) (show sz + 1≠0 by omega)
   have d2:=Int.emod_lt_of_pos (m / 33) (show (0:Int) < sz + 1 by omega)
   generalize m / 33 % (sz + 1)=ah at d1 d2 ⊢
   refine ⟨by omega,by omega,by omega,Mh (fun k => .str ⟨#[sgR s62 (m / 7 + k)]⟩) (by omega) (fun k hk N hN=>?_) ?_⟩
   ·walk_at "rd"
    exact ⟨by decide,XD (by decide) (by decide),by decide,by decide +kernel,_,(Rj (F:=s62) (by decide +kernel) _).1,hN⟩
   rw [show ((n:Int).toNat)=n from by omega]
   have g1:=Ej (x:=tl) (j:=ah) (by omega) (by rw [tl0,tl1];omega)
   have g2:=Az tl none (some ah) (Nat.le_of_eq tlen)
   have g3:=sl_ft (x:=tl) (i:=ah) (j:=sz) (by omega) (by omega) (by rw [tl0,tl1];omega)
   have g4:=Az tl (some ah) (some sz) (Nat.le_of_eq tlen)
   let nm:Nat→Str:=fun k=>⟨#[sgR F (m / 5)]⟩++Txt.slice tl none (some ah)++⟨#[sgR s62 (m / 7 + k)]⟩++Txt.slice tl (some ah) (some sz)
   refine YG (c:=fun k:Nat => .str ⟨#[sgR s62 (m / 7 + k)]⟩) (xs:=List.range n) (fun k => .str (nm k)) (by simp;omega) (fun k hk N hN=>?_) ?_
   ·walk_at "rd"
    exact ⟨by omega,_,k0,by omega,by rw [one];omega,by rw [FD,one,one];omega,by omega,by rw [FD,FD,one,one];omega,hN⟩
   have es:∀ k,(nm k).cps.toList=sgR F (m / 5)::(cs.take ah.toNat++[sgR s62 (m / 7 + k)]++(cs.drop ah.toNat).take (sz - ah).toNat):=fun k=>by
    show (((⟨#[sgR F (m / 5)]⟩:Str)++Txt.slice tl none (some ah)++(⟨#[sgR s62 (m / 7 + k)]⟩:Str))++Txt.slice tl (some ah) (some sz)).cps.toList=_
    rw [Sx,Sx,Sx,g1,g3,tl0,GN,GN]
    simp
   have:=hq ((List.range n).map nm) ⟨by simp,fun z hz=>?_,IP fun i j lt hj e=>?_⟩
   ·rw [map_map] at this
    exact this
   ·obtain ⟨k,hk,rfl⟩:=mem_map.mp hz
    refine ⟨_,_,es k,k1,fun d hd=>?_,?_⟩
    ·rcases mem_append.mp hd with hd | hd
     ·rcases mem_append.mp hd with hd | hd
      ·exact tl2 d (mem_of_mem_take hd)
      ·rw [mem_singleton.mp hd];exact (Rj (F:=s62) (by decide +kernel) _).2
     ·exact tl2 d (List.mem_of_mem_drop (mem_of_mem_take hd))
    ·rw [length_append,length_append,length_take,length_take,List.length_drop,tl1]
     simp only [length_cons,length_nil]
     omega
   ·have e:=congrArg (fun z:Str=>z.cps.toList) e
    simp only [es,List.cons.injEq,true_and,append_assoc,List.append_cancel_left_eq,cons_append,nil_append] at e
    exact uh (F:=s62) mC (n:=12) (by rw [qj];decide) (m / 7) lt (by omega) e.1
noncomputable def lowP (a b:Int):Int:=a.fdiv (Int.gcd a b:Int)
noncomputable def UA (a b:Int):Int:=b.fdiv (Int.gcd a b:Int)
noncomputable def CY:DSp:=fun xs q _=>∃ a b:Int,xs=[.int a,.int b]∧0 < b∧Bd 9000 b∧q (wD (lowP a b) (UA a b))
theorem KL {A:Adr}(T:Txt K mg A):Zy P w K mg base (CXE P w) 1 A.Uc A.OA SR (spD K CY):=by
 haveI:TxC K A:=⟨⟨_,T⟩⟩
 refine T.Uh.F.okJ XX (fun xs q x h=>?_) (fun cdv Ar outer s H E hr=>⟨_,(Za (Zo (i:=2) XX.nd rfl (Or.inl rfl) (Yo xZ (by rfl) T.b_abs PyProof.Rows.boot_abs (Zc (jv 0) Zb)))
   (Za (Zo (i:=3) XX.nd rfl (Or.inl rfl) (jv 1))
   (Za (RV [] PassesOwn.leaving (ZC Et (jv 3) Zd (ZF _)) (Za (Zo (i:=4) XX.nd rfl (Or.inl rfl) (Zn ZA (jv 2) (jv 3)))
   (Za (Zo (i:=2) XX.nd rfl (Or.inl rfl) (jv 3))
   (Ze (Zo (i:=3) XX.nd rfl (Or.inl rfl) (jv 4))))))
   (Ze (Zr [] (Xv (Zc (Zn ZT (jv 0) (jv 2)) (Zc (Zn ZT (jv 1) (jv 2)) Zb)))))))),fun xs q x h=>?_⟩)
 ·obtain ⟨a,b,rfl,_⟩:=h
  rfl
 ·obtain ⟨a,b,rfl,hb,hB,hq⟩:=h
  have gp:=QH (a:=a) (b:=b) (by omega)
  have gB:Bd 9000 (Int.gcd a b:Int):=hB.le (by
   have:=Int.le_of_dvd hb (Int.gcd_dvd_right a b)
   omega)
  walk_at "rd"
  refine ⟨fun m ds=>∃ (x y:Int) (s:L2.Slot),ds=[.v (.int a),.v (.int b),.v (.int x),.v (.int y),s]∧0≤x∧0≤y∧Int.gcd x y=Int.gcd a b∧m=y.natAbs,⟨_,_,b,.un,rfl,by split <;> omega,by omega,by split <;> simp [Int.neg_gcd],rfl⟩,?_⟩
  rintro m _ ⟨x,y,s,rfl,hx,hy,e,rfl⟩
  walk_at "rd"
  refine Uj (fun hp=>?_) (fun hp=>?_)
  ·rw [GV]
   exact ⟨by omega,_,BP x y (by omega),by omega,Int.fmod_nonneg hx hy,(Em x y).trans e,rfl⟩
  ·have ey:y=0:=by omega
   subst ey
   have ex:x=(Int.gcd a b:Int):=by
    rw [←e,Int.gcd_zero_right]
    omega
   subst ex
   rw [NF,NF]
   exact ⟨by omega,.inr gB,by omega,.inr gB,by decide,hq⟩
theorem Di {α:Type}(xs:List α) (d:α) (i:Int) {n:Nat}(h:n=xs.length) (h0:0 < n):xs.getD (i % (n:Int)).toNat d∈xs:=by
 have h1:=Int.emod_nonneg i (show (n:Int)≠0 by omega)
 have h2:=Int.emod_lt_of_pos i (show (0:Int) < n by omega)
 have hl:(i % (n:Int)).toNat < xs.length:=by omega
 rw [getD_eq_getElem?_getD,aB hl]
 exact getElem_mem hl
noncomputable def wT (c m:Int):Int:=([1,2,1,3,c % 10 ^ 12,m]:List Int).getD (m % 6).toNat 0
noncomputable def wB (m:Int):Int:=([1,1,2,4,1 + m / 7 % 10 ^ 9,3]:List Int).getD (m / 6 % 6).toNat 0
noncomputable def Dj (c m:Int) (z:Str):Int:=if z = "chance" then wT c m + (if wT c m=0 then 1 else 0) else if m / 36 % 4=0 then -wT c m else wT c m
noncomputable def wP (c k:Int) (z:Str):Int:=lowP (Dj c (mix c k) z) (wB (mix c k))
noncomputable def wQ (c k:Int) (z:Str):Int:=UA (Dj c (mix c k) z) (wB (mix c k))
theorem pL (c m:Int) (h0:0≤m) (h1:m < 2 ^ 40):0≤wT c m∧wT c m < 2 ^ 50:=by
 have hm:=Di ([1,2,1,3,c % 10 ^ 12,m]:List Int) 0 m (n:=6) rfl (by decide)
 unfold wT
 have c1:=Int.emod_nonneg c (show (10:Int) ^ 12≠0 by decide)
 have c2:=Int.emod_lt_of_pos c (show (0:Int) < 10 ^ 12 by decide)
 generalize ([1,2,1,3,c % 10 ^ 12,m]:List Int).getD (m % ((6:Nat):Int)).toNat 0=v at hm ⊢
 simp only [mem_cons,not_mem_nil,or_false] at hm
 rcases hm with rfl | rfl | rfl | rfl | rfl | rfl <;> constructor <;> omega
theorem pM (m:Int) (h0:0≤m):0 < wB m∧wB m < 2 ^ 50:=by
 have hm:=Di ([1,1,2,4,1 + m / 7 % 10 ^ 9,3]:List Int) 0 (m / 6) (n:=6) rfl (by decide)
 unfold wB
 have c1:=Int.emod_nonneg (m / 7) (show (10:Int) ^ 9≠0 by decide)
 have c2:=Int.emod_lt_of_pos (m / 7) (show (0:Int) < 10 ^ 9 by decide)
 generalize ([1,1,2,4,1 + m / 7 % 10 ^ 9,3]:List Int).getD (m / 6 % ((6:Nat):Int)).toNat 0=v at hm ⊢
 simp only [mem_cons,not_mem_nil,or_false] at hm
 rcases hm with rfl | rfl | rfl | rfl | rfl | rfl <;> constructor <;> omega
noncomputable def OL:DSp:=fun xs q _=>∃ (c k:Int) (z:Str),xs=[.int c,.int k,.str z] ∧ -(2 ^ 20) < k∧k < 2 ^ 20∧q (wD (wP c k z) (wQ c k z))
theorem Dk {A:Adr}(T:Txt K mg A):Zy P w K mg base (CXE P w) 2 A.Ud A.OB SU (spD K OL):=by
 have G_l_mix:=Sf (P:=P) (w:=w) (base:=base) T
 have OM:=KL (P:=P) (w:=w) (base:=base) T
 haveI:TxC K A:=⟨⟨_,T⟩⟩
 refine T.Ui.F.okJ XY (fun xs q x h=>?_) (fun cdv Ar outer s H E hr=>⟨_,(Za (Zo (i:=3) XY.nd rfl (Or.inl rfl) (Zh G_l_mix T.L_l_mix (hr.mono (by decide)) Zg (Zc (jv 0) (Zc (jv 1) Zb))))
   (Za (Zo (i:=4) XY.nd rfl (Or.inl rfl) (Zm (Sz (Zc Zd (Zc Zd (Zc Zd (Zc Zd (Zc (Zn ZA (jv 0) (Zn GW Zd Zd)) (Zc (jv 3) Zb))))))) (Zn ZA (jv 3) Zd)))
   (Za (Zo (i:=5) XY.nd rfl (Or.inl rfl) (Zm (Sz (Zc Zd (Zc Zd (Zc Zd (Zc Zd (Zc (Zn ZK Zd (Zn ZA (Zn ZT (jv 3) Zd) (Zn GW Zd Zd))) (Zc Zd Zb))))))) (Zn ZA (Zn ZT (jv 3) Zd) Zd)))
   (Za (ZO [] (ZC (WX hr.WW) (jv 2) Yp (ZF _)) (Ze (Zo (i:=4) XY.nd rfl (Or.inl rfl) (Zn ZK (jv 4) (Tv we (by rfl) T.b_int PyProof.Rows.boot_int (Zc (VN (WX hr.WW) (jv 4) Zd (ZF _)) Zb))))) (Ze (ZO [] (ZC (WX hr.WW) (Zn ZA (Zn ZT (jv 3) Zd) Zd) Zd (ZF _)) (Ze (Zo (i:=4) XY.nd rfl (Or.inl rfl) (Mx (jv 4)))) Zt)))
   (Ze (Zr [] (Zh OM T.Uh (hr.mono (by decide)) Zg (Zc (jv 4) (Zc (jv 5) Zb))))))))),fun xs q x h=>?_⟩)
 ·obtain ⟨c,k,z,rfl,_⟩:=h
  rfl
 ·obtain ⟨c,k,z,rfl,k1,k2,hq⟩:=h
  walk_at "rd"
  refine ⟨_,_,rfl,k1,k2,?_⟩
  unfold wP wQ at hq
  have m1:=Qo c k
  have m2:=Ln c k
  generalize mix c k=m at m1 m2 hq ⊢
  have w1:=pL c m m1 (by omega)
  have w2:=pM m m1
  walk_at "rd"
  rw [show GU c (10 ^ Int.toNat 12)=c % 10 ^ 12 from Xy (by decide),show GU (m / 7) (10 ^ Int.toNat 9)=m / 7 % 10 ^ 9 from Xy (by decide)]
  refine ⟨⟨by decide,by decide,by decide⟩,by decide,by decide,by decide,.int (wT c m),Jt D.int [1,2,1,3,c % 10 ^ 12,m] 0 (by omega) (by show m % 6 < 6;omega),by decide,XD (by decide) (by decide),⟨by decide,by decide,by decide⟩,by decide,by decide,by decide,XD (by decide) (by decide),by decide,
   .int (wB m),Jt D.int [1,1,2,4,1 + m / 7 % 10 ^ 9,3] 0 (by omega) (by show m / 6 % 6 < 6;omega),?_⟩
  unfold Dj at hq
  generalize wT c m=t at w1 hq ⊢
  generalize wB m=b at w2 hq ⊢
  have bB:Bd 9000 b:=(Bd.of (n:=64) (by omega) (by omega)).mono (by decide)
  refine Uj (fun e=>?_) (fun e=>⟨by decide,XD (by decide) (by decide),by decide,Uj (fun e1=>?_) (fun e1=>?_)⟩)
  ·walk_at "rd"
   rw [if_pos e] at hq
   exact ⟨_,_,rfl,w2.1,bB,by simpa using hq⟩
  ·rw [if_neg e,if_pos e1] at hq
   exact ⟨_,rfl,_,_,rfl,w2.1,bB,hq⟩
  ·rw [if_neg e,if_neg e1] at hq
   exact ⟨_,_,rfl,w2.1,bB,hq⟩
inductive Tr where
 | lf (d:D)
 | nd (k:Int) (ts:List Tr)
mutual
noncomputable def Tr.d:Tr→D
 | .lf d=>d
 | .nd k ts => .tup [.int k,.tup (Tr.ds ts)]
noncomputable def Tr.ds:List Tr→List D
 | []=>[]
 | t::ts=>t.d::Tr.ds ts
end
theorem Tr.mD (ts:List Tr):Tr.ds ts=ts.map Tr.d:=by
 induction ts with
 | nil=>rfl
 | cons t ts ih=>unfold Tr.ds;rw [ih];rfl
theorem Ba {k:Int}{ts:List Tr}:(Tr.nd k ts).d = .tup [.int k,.tup (ts.map Tr.d)]:=by unfold Tr.d;rw [Tr.mD]
theorem z_lf {d:D}:(Tr.lf d).d=d:=by unfold Tr.d;rfl
mutual
noncomputable def Tr.sz:Tr→Nat
 | .lf _=>1
 | .nd _ ts=>1 + Tr.szs ts
noncomputable def Tr.szs:List Tr→Nat
 | []=>0
 | t::ts=>t.sz + Tr.szs ts
end
theorem Tr.Xt (a b:List Tr):Tr.szs (a++b)=Tr.szs a + Tr.szs b:=by
 induction a with
 | nil=>simp [Tr.szs]
 | cons t a ih=>rw [cons_append,Tr.szs,Tr.szs,ih];omega
theorem Tr.qk (a:List Tr):Tr.szs a.reverse=Tr.szs a:=by
 induction a with
 | nil=>rfl
 | cons t a ih=>rw [reverse_cons,Tr.Xt,ih,Tr.szs,Tr.szs,Tr.szs];omega
theorem Tr.um (t:Tr):1≤t.sz:=by cases t <;> unfold Tr.sz <;> omega
theorem Tr.Pq (ts:List Tr):ts.length≤Tr.szs ts:=by
 induction ts with
 | nil=>simp
 | cons t ts ih=>have:=t.um;rw [Tr.szs,length_cons];omega
theorem Tr.Bb (p:Tr→Bool) (ts:List Tr):Tr.szs (ts.filter p)≤Tr.szs ts:=by
 induction ts with
 | nil=>simp
 | cons t ts ih =>
  rw [filter_cons]
  split
  ·rw [Tr.szs,Tr.szs];omega
  ·rw [Tr.szs];omega
-- each leaf is a number
mutual
noncomputable def Tr.pl:Tr→Bool
 | .lf (.int _)=>true
 | .lf _=>false
 | .nd _ ts=>Tr.pls ts
noncomputable def Tr.pls:List Tr→Bool
 | []=>true
 | t::ts=>t.pl && Tr.pls ts
end
theorem Tr.Ju (ts:List Tr):Tr.pls ts=ts.all Tr.pl:=by
 induction ts with
 | nil=>rfl
 | cons t ts ih=>rw [Tr.pls,all_cons,ih]
theorem Tr.AA {d:D}(h:(Tr.lf d).pl=true):∃ i,d = .int i:=by
 cases d with
 | int i=>exact ⟨i,rfl⟩
 | _=>unfold Tr.pl at h;cases h
theorem Tr.uo {k:Int}{ts:List Tr}(h:(Tr.nd k ts).pl=true):∀ t∈ts,t.pl=true:=by
 unfold Tr.pl at h
 rw [Tr.Ju,all_eq_true] at h
 exact h
noncomputable def Tr.RJ:Tr→Bool
 | .nd _ _=>true
 | .lf _=>false
-- the numbers of the rules,in the order of the row
mutual
noncomputable def Tr.rl:Tr→List Int
 | .lf _=>[]
 | .nd k ts=>k::Tr.rls ts
noncomputable def Tr.rls:List Tr→List Int
 | []=>[]
 | t::ts=>t.rl++Tr.rls ts
end
theorem Tr.Rk (a b:List Tr):Tr.rls (a++b)=Tr.rls a++Tr.rls b:=by
 induction a with
 | nil=>simp [Tr.rls]
 | cons t a ih=>rw [cons_append,Tr.rls,Tr.rls,ih,append_assoc]
theorem Tr.mE (ts:List Tr):Tr.rls (ts.filter Tr.RJ)=Tr.rls ts:=by
 induction ts with
 | nil=>rfl
 | cons t ts ih =>
  cases t with
  | lf d=>rw [List.filter_cons_of_neg (by simp [Tr.RJ]),ih,Tr.rls];simp [Tr.rl]
  | nd k us=>rw [List.filter_cons_of_pos (by rfl),Tr.rls,Tr.rls,ih]
mutual
theorem Tr.mF:∀ t:Tr,t.rl.length≤t.sz
 | .lf _=>by unfold Tr.rl Tr.sz;simp
 | .nd k ts=>by unfold Tr.rl Tr.sz;have:=Tr.Jv ts;rw [length_cons];omega
theorem Tr.Jv:∀ ts:List Tr,(Tr.rls ts).length≤Tr.szs ts
 | []=>by unfold Tr.rls Tr.szs;simp
 | t::ts=>by unfold Tr.rls Tr.szs;have:=Tr.mF t;have:=Tr.Jv ts;rw [length_append];omega
end
def rd6:String:=rd5 ++ " dZip pH Aw Ba z_lf pI pF pG pE pC dIxS dRef pD"
local macro_rules | `(tactic| walk_at "rd") => rdM rd6
noncomputable def Bc:DSp:=fun xs q _=>∃ t:Tr,xs=[t.d]∧t.RJ=true∧t.pl=true∧t.sz≤1000000∧q (.lst (t.rl.map .int))
theorem uq {t:Tr}(h:t.RJ=true):∃ k ts,t = .nd k ts:=by
 cases t with
 | lf _=>cases h
 | nd k ts=>exact ⟨k,ts,rfl⟩
theorem Dl {A:Adr}(T:Txt K mg A):Zy P w K mg base (CXE P w) 1 A.Ua A.Oy SM (spD K Bc):=by
 haveI:TxC K A:=⟨⟨_,T⟩⟩
 refine T.Rf.F.okJ Va (fun xs q x h=>?_) (fun cdv Ar outer s H E hr=>⟨_,(Za (Xd (i:=1) Va.nd rfl (Or.inl rfl) (Xw Zb))
   (Za (Xd (i:=2) Va.nd rfl (Or.inl rfl) (Xw (Zc (jv 0) Zb)))
   (Za (RV [2] PassesOwn.leaving (ZU (jv 2)) (Za (wH 2 (We (n:=2) (Zw (Zi (i:=3) Va.nd rfl (Or.inl rfl)) (Zw (Zi (i:=4) Va.nd rfl (Or.inl rfl)) Xc))))
   (Za (Vj [] 1 (jv 3))
   (Ze (Cz [] 2 (Yi ["kid"] [] [] (ZY (mn (jv 4) (Mx Zd))) (fun _=>(Zi (i:=0) (show @Nodup Str ((["kid"]:List Str)++([]:List Str)) by decide +kernel) rfl (Or.inl rfl) (Or.inr rfl))) (fun _=>(Og (ZU (Yo (Vi (K:=K) rfl) (by rfl) T.ZQ PyProof.Rows.boot_isinstance (Zc (jv 0) (Zc (Wc (n := "tuple") (by rfl) T.b_tuple PyProof.Rows.boot_tuple) Zb)))))) (fun _=>(jv 0))))))))
   (Ze (Zr [1] (jv 1)))))),fun xs q x h=>?_⟩)
 ·obtain ⟨t,rfl,_⟩:=h
  rfl
 ·obtain ⟨t,rfl,hn,hp,hs,hq⟩:=h
  have hsz:aA=16777216:=rfl
  walk_at "rd"
  refine ⟨by decide,by decide,fun m ds'=>∃ (ns:List Int) (ws:List Tr) (s3 s4:L2.Slot),ds'=[.v t.d,.own (ns.map .int),.own (ws.map Tr.d),s3,s4]∧m=Tr.szs ws∧(∀ u∈ws,u.RJ=true∧u.pl=true)∧t.rl=ns++Tr.rls ws.reverse∧ns.length + Tr.szs ws≤1000000,⟨_,[],[t],_,_,rfl,rfl,fun u hu=>?_,?_,?_⟩,?_⟩
  ·rw [mem_singleton.mp hu];exact ⟨hn,hp⟩
  ·simp [Tr.rls]
  ·simp [Tr.szs];exact hs
  rintro m _ ⟨ns,ws,s3,s4,rfl,rfl,hw,hr,hb⟩
  walk_at "rd"
  cases hl:ws.reverse with
  | nil =>
   have:ws=[]:=by rw [←reverse_reverse ws,hl];rfl
   subst this
   walk_at "rd"
   rw [List.reverse_nil,Tr.rls,append_nil] at hr
   rw [hr] at hq
   exact hq
  | cons u rest =>
   have ew:ws=rest.reverse++[u]:=by rw [←reverse_reverse ws,hl,reverse_cons]
   have hu:u∈ws:=by rw [ew];simp
   obtain ⟨k,ts,rfl⟩:=uq (hw u hu).1
   have hpk:=Tr.uo (hw _ hu).2
   have ne:(ws.map Tr.d).isEmpty=false:=by rw [ew];simp
   rw [ne]
   walk_at "rd"
   refine ⟨rest.reverse.map Tr.d,(Tr.nd k ts).d,by rw [ew];simp,?_⟩
   walk_at "rd"
   rw [ew,Tr.Xt] at hb
   have szn:Tr.szs [Tr.nd k ts]=1 + Tr.szs ts:=by simp [Tr.szs,Tr.sz]
   have tl:=Tr.Pq ts
   rw [←List.map_reverse]
   refine ⟨by omega,NP Tr.RJ Tr.d (by rw [List.length_reverse];omega) (fun u hu N hN=>?_) (fun u hu _ N hN=>?_) ?_⟩
   ·have pu:=hpk u (List.mem_reverse.mp hu)
    cases u with
    | lf d =>
     obtain ⟨i,rfl⟩:=Tr.AA pu
     walk_at "rd"
     exact hN
    | nd k' ts' =>
     walk_at "rd"
     exact hN
   ·walk_at "rd"
    exact hN
   ·have fs:=Tr.Bb Tr.RJ ts.reverse
    rw [Tr.qk] at fs
    have fl:=Tr.Pq (ts.reverse.filter Tr.RJ)
    have rl:=Tr.Pq rest.reverse
    unfold wExt
    simp only [length_map]
    refine ⟨by omega,_,?_,ns++[k],by simp,rest.reverse++ts.reverse.filter Tr.RJ,by simp,rfl,fun u hu=>?_,?_,?_⟩
    ·rw [ew,Tr.Xt,Tr.Xt];omega
    ·rcases mem_append.mp hu with h | h
     ·exact hw u (by rw [ew];exact mem_append_left _ h)
     ·obtain ⟨h1,h2⟩:=mem_filter.mp h
      exact ⟨h2,hpk u (List.mem_reverse.mp h1)⟩
    ·rw [hr,ew,List.reverse_append,List.reverse_append,←List.filter_reverse,reverse_reverse,reverse_reverse,Tr.Rk,Tr.Rk,Tr.mE,append_assoc]
     congr 1
     rw [reverse_cons,List.reverse_nil,nil_append,Tr.rls,Tr.rls,append_nil,Tr.rl]
     rfl
    ·rw [Tr.Xt,length_append,List.length_singleton];omega
noncomputable def stands (rs:List Ru) (r:Ru) (ab:Int):Bool:=match r.t with
 | none=>true
 | some us=>if ab = -1 then false else match rs[ab.toNat]? with
  | some r'=>decide (r'.ti∈us)
  | none=>false
noncomputable def Be (rs:List Ru) (ab:Int):Prop:=ab = -1∨(0≤ab∧ab < rs.length)
theorem ql {rs:List Ru}{r:Ru}{ab:Int}{q:Bool→Prop}(h:Be rs ab) (hq:q (stands rs r ab)):mayS rs r ab q:=by
 unfold mayS
 unfold stands at hq
 cases ht:r.t with
 | none=>rw [ht] at hq;exact hq
 | some us =>
  rw [ht] at hq
  simp only at hq ⊢
  by_cases e:ab = -1
  ·rw [if_pos e] at hq ⊢;exact hq
  ·rw [if_neg e] at hq ⊢
   rcases h with h | h
   ·exact absurd h e
   ·obtain ⟨r',hr'⟩:∃ r',rs[ab.toNat]?=some r':=⟨_,aB (by omega)⟩
    rw [hr'] at hq
    exact ⟨r',hr',h.1,hq⟩
noncomputable def Vo (rs:List Ru) (kd:Str) (ab:Int):Tr→Str
 | .lf _ => "rule"
 | .nd k ts=>if 0≤k∧k < rs.length then (match rs[k.toNat]? with
  | some r=>if r.hd≠kd then "head" else if stands rs r ab=false then "tied" else if ts.length≠r.ps.length then "kids" else ""
  | none => "rule") else "rule"
noncomputable def FE (A:Adr):DSp:=fun xs q _=>∃ (z st:Str) (rs:List Ru) (kd:Str) (ab:Int) (t:Tr),xs=[Gr A z st rs,.str kd,.int ab,t.d]∧Be rs ab∧t.pl=true∧q (.str (Vo rs kd ab t))
theorem Ht {A:Adr}(T:Txt K mg A):Zy P w K mg base (CXE P w) 2 A.Wi A.Ra Vx (spD K (FE A)):=by
 have Dm:=FC (P:=P) (w:=w) (base:=base) T
 haveI:TxC K A:=⟨⟨_,T⟩⟩
 refine T.VC.F.okJ UU (fun xs q x h=>?_) (fun cdv Ar outer s H E hr=>⟨_,(Za (ZO [] (Oe (RP (Yl (ZU (Yo (Vi (K:=K) rfl) (by rfl) T.ZQ PyProof.Rows.boot_isinstance (Zc (jv 3) (Zc (Wc (n := "tuple") (by rfl) T.b_tuple PyProof.Rows.boot_tuple) Zb))))) (RO (Yl (JU Es Eu Zd (Zm (jv 3) Zd) (Yo Yj (by rfl) T.b_len PySem.boot_len (Zc (ZL (K:=K) rfl (jv 0)) Zb))))))) (Ze (Zr [] Yp)) Zt)
   (Za (Fg (jv 3) (We (n:=2) (Zw (Zi (i:=4) UU.nd rfl (Or.inl rfl)) (Zw (Zi (i:=5) UU.nd rfl (Or.inl rfl)) Xc))))
   (Za (ZO [] (ZC (NI hr.WW) (ZL (K:=K) rfl (Zm (ZL (K:=K) rfl (jv 0)) (jv 4))) (jv 1) (ZF _)) (Ze (Zr [] Yp)) Zt)
   (Za (ZO [] (Yl (ZU (Zh Dm T.UK (hr.mono (by decide)) Zg (Zc (jv 0) (Zc (jv 4) (Zc (jv 2) Zb)))))) (Ze (Zr [] Yp)) Zt)
   (Za (ZO [] (ZC (NI hr.WW) (Yo Yj (by rfl) T.b_len PySem.boot_len (Zc (jv 5) Zb)) (Yo Yj (by rfl) T.b_len PySem.boot_len (Zc (ZL (K:=K) rfl (Zm (ZL (K:=K) rfl (jv 0)) (jv 4))) Zb)) (ZF _)) (Ze (Zr [] Yp)) Zt)
   (Ze (Zr [] Yp))))))),fun xs q x h=>?_⟩)
 ·obtain ⟨z,st,rs,kd,ab,t,rfl,_⟩:=h
  rfl
 ·obtain ⟨z,st,rs,kd,ab,t,rfl,ha,hp,hq⟩:=h
  have hsz:aA=16777216:=rfl
  cases t with
  | lf d =>
   obtain ⟨i,rfl⟩:=Tr.AA hp
   walk_at "rd"
   exact hq
  | nd k ts =>
   walk_at "rd"
   unfold Vo at hq
   dsimp only at hq
   refine ⟨_,rfl,?_⟩
   walk_at "rd"
   by_cases hk:0≤k∧k < rs.length
   ·rw [if_pos hk] at hq
    obtain ⟨r,hr⟩:∃ r,rs[k.toNat]?=some r:=⟨_,aB (by omega)⟩
    rw [hr] at hq
    simp only at hq
    have er:atI (rs.map (Ru.d A)) k=some (r.d A):=by
     have:=XZ (xs:=rs.map (Ru.d A)) (j:=k.toNat) (v:=r.d A) (by rw [getElem?_map,hr];rfl)
     rw [Int.toNat_of_nonneg hk.1] at this
     exact this
    rw [decide_eq_true hk.1]
    walk_at "rd"
    rw [decide_eq_true hk.2]
    walk_at "rd"
    refine ⟨_,er,?_⟩
    walk_at "rd"
    refine Hk (fun e=>?_) (fun e=>?_)
    ·rw [if_pos e] at hq;exact hq
    rw [if_neg (fun z=>z e)] at hq
    have ek:(k.toNat:Int)=k:=Int.toNat_of_nonneg hk.1
    refine ⟨z,st,rs,k.toNat,ab,r,by rw [ek],hr,ql ha ?_⟩
    walk_at "rd"
    refine KW (fun e1=>?_) (fun e1=>⟨_,er,?_⟩)
    ·rw [if_pos e1] at hq;exact hq
    rw [if_neg (by rw [e1];decide)] at hq
    walk_at "rd"
    refine Hk (fun e2=>?_) (fun e2=>?_)
    ·rw [if_pos (fun z=>e2 (by omega))] at hq;exact hq
    ·rw [if_neg (fun z=>z (by omega))] at hq;exact hq
   ·rw [if_neg hk] at hq
    refine Uj (fun e1=>?_) (fun e1=>hq)
    refine KW (fun e2=>hq) (fun e2=>absurd ⟨e1,of_decide_eq_true e2⟩ hk)
noncomputable def Gi (s:Str × Int × Tr):D := .tup [.str s.1,.int s.2.1,s.2.2.d]
theorem mG {p:Str}{ab:Int}{t:Tr}:Gi (p,ab,t) = .tup [.str p,.int ab,t.d]:=rfl
noncomputable def Qt (ps:List Str) (k:Int) (ts:List Tr):List (Str × Int × Tr):=(ps.zip ts).map fun p=>(p.1,k,p.2)
noncomputable def Hu (A:Adr):DSp:=fun xs q _=>∃ (z st:Str) (rs:List Ru) (k:Int) (ts:List Tr) (r:Ru),xs=[Gr A z st rs,(Tr.nd k ts).d]∧0≤k∧rs[k.toNat]?=some r∧ts.length≤1000000∧q (.lst ((Qt r.ps k ts).map Gi))
theorem IQ {A:Adr}(T:Txt K mg A):Zy P w K mg base (CXE P w) 1 A.XB A.Tb WN (spD K (Hu A)):=by
 haveI:TxC K A:=⟨⟨_,T⟩⟩
 refine T.WT.F.okJ VS (fun xs q x h=>?_) (fun cdv Ar outer s H E hr=>⟨_,(Za (Fg (jv 1) (We (n:=2) (Zw (Zi (i:=2) VS.nd rfl (Or.inr rfl)) (Zw (Zi (i:=3) VS.nd rfl (Or.inl rfl)) Xc))))
   (Ze (Zr [] (Yi ["part", "kid"] ["number"] [2] (Jq (by rfl) T.b_zip (Zc (ZL (K:=K) rfl (Zm (ZL (K:=K) rfl (jv 0)) (jv 2))) (Zc (jv 3) Zb))) (fun _=>(We (n:=2) (Zw (Zi (i:=0) (show @Nodup Str ((["part", "kid"]:List Str)++(["number"]:List Str)) by decide +kernel) rfl (Or.inl rfl) (Or.inr rfl)) (Zw (Zi (i:=1) (show @Nodup Str ((["part", "kid"]:List Str)++(["number"]:List Str)) by decide +kernel) rfl (Or.inl rfl) (Or.inr rfl)) Xc)))) (fun _=>Yu) (fun _=>(Xv (Zc (jv 0) (Zc (jv 2) (Zc (jv 1) Zb))))))))),fun xs q x h=>?_⟩)
 ·obtain ⟨z,st,rs,k,ts,r,rfl,_⟩:=h
  rfl
 ·obtain ⟨z,st,rs,k,ts,r,rfl,hk,hr,hl,hq⟩:=h
  have hsz:aA=16777216:=rfl
  have er:atI (rs.map (Ru.d A)) k=some (r.d A):=by
   have:=XZ (xs:=rs.map (Ru.d A)) (j:=k.toNat) (v:=r.d A) (by rw [getElem?_map,hr];rfl)
   rw [Int.toNat_of_nonneg hk] at this
   exact this
  walk_at "rd"
  refine ⟨_,er,?_⟩
  walk_at "rd"
  refine ⟨_,rfl,_,rfl,?_⟩
  have ez:Io (r.ps.map D.str) (ts.map Tr.d)=(r.ps.zip ts).map fun p => .tup [.str p.1,p.2.d]:=by
   unfold Io
   rw [List.zip_map,map_map]
   rfl
  rw [ez]
  refine Gc (c:=fun p:Str × Tr => .str p.1) (c':=fun p:Str × Tr=>p.2.d) (fun p => .tup [.str p.1,.int k,p.2.d]) (by rw [length_zip];omega) (fun p hp N hN=>?_) ?_
  ·walk_at "rd"
   exact ⟨by decide,hN⟩
  ·unfold Qt at hq
   rw [map_map] at hq
   exact hq
-- whether a thing can stand for a part beneath a rule,and all beneath it
mutual
noncomputable def XF (rs:List Ru) (p:Str) (ab:Int):Tr→Bool
 | .lf d => !Uk p
 | .nd k ts=>Uk p && decide (Vo rs p ab (.nd k ts) = "") && Xk rs ((rs[k.toNat]?.map (·.ps)).getD []) k ts
noncomputable def Xk (rs:List Ru):List Str→Int→List Tr→Bool
 | p::ps,k,t::ts=>XF rs p k t && Xk rs ps k ts
 | _,_,_=>true
end
theorem Pt {rs:List Ru}{p:Str}{ab:Int}{d:D}:XF rs p ab (.lf d) = !Uk p:=by unfold XF;rfl
theorem Rl {rs:List Ru}{p:Str}{ab k:Int}{ts:List Tr}:XF rs p ab (.nd k ts)=(Uk p && decide (Vo rs p ab (.nd k ts) = "") && Xk rs ((rs[k.toNat]?.map (·.ps)).getD []) k ts):=by rw [XF]
theorem yg (rs:List Ru) (ps:List Str) (k:Int) (ts:List Tr):Xk rs ps k ts=(Qt ps k ts).all fun s=>XF rs s.1 s.2.1 s.2.2:=by
 induction ps generalizing ts with
 | nil=>cases ts <;> rfl
 | cons p ps ih =>
  cases ts with
  | nil=>rfl
  | cons t ts=>rw [Xk,ih];rfl
theorem yh (ps:List Str) (k:Int) (ts:List Tr):Tr.szs ((Qt ps k ts).map (·.2.2))≤Tr.szs ts:=by
 induction ps generalizing ts with
 | nil=>simp [Qt,Tr.szs]
 | cons p ps ih =>
  cases ts with
  | nil=>simp [Qt,Tr.szs]
  | cons t ts =>
   have:=ih ts
   unfold Qt at this ⊢
   simp only [List.zip_cons_cons,map_cons,Tr.szs]
   omega
theorem Dn {rs:List Ru}{p:Str}{ab k:Int}{ts:List Tr}(h:Vo rs p ab (.nd k ts) = ""):0≤k∧k < rs.length∧∃ r,rs[k.toNat]?=some r∧r.hd=p∧stands rs r ab=true∧ts.length=r.ps.length:=by
 unfold Vo at h
 dsimp only at h
 by_cases hk:0≤k∧k < rs.length
 ·rw [if_pos hk] at h
  obtain ⟨r,hr⟩:∃ r,rs[k.toNat]?=some r:=⟨_,aB (by omega)⟩
  rw [hr] at h
  dsimp only at h
  refine ⟨hk.1,hk.2,r,hr,?_⟩
  by_cases e1:r.hd=p
  ·rw [if_neg (fun z=>z e1)] at h
   cases e2:stands rs r ab with
   | false=>rw [if_pos e2] at h;exact absurd h (by decide +kernel)
   | true =>
    rw [if_neg (by rw [e2];decide)] at h
    by_cases e3:ts.length=r.ps.length
    ·exact ⟨e1,rfl,e3⟩
    ·rw [if_pos e3] at h;exact absurd h (by decide +kernel)
  ·rw [if_pos e1] at h;exact absurd h (by decide +kernel)
 ·rw [if_neg hk] at h;exact absurd h (by decide +kernel)
theorem yi {ps:List Str}{k:Int}{ts:List Tr}{s:Str × Int × Tr}(h:s∈Qt ps k ts):s.1∈ps∧s.2.1=k∧s.2.2∈ts:=by
 obtain ⟨p,hp,rfl⟩:=mem_map.mp h
 have:=of_mem_zip hp
 exact ⟨this.1,rfl,this.2⟩
noncomputable def yj (A:Adr):DSp:=fun xs q _=>∃ (z st:Str) (rs:List Ru) (t:Tr),xs=[Gr A z st rs,t.d]∧st.length≤1000∧Rus rs∧t.pl=true∧t.sz≤1000000∧q (.bl (XF rs st (-1) t))
theorem Bf {A:Adr}(T:Txt K mg A):Zy P w K mg base (CXE P w) 4 A.TL A.La QP (spD K (yj A)):=by
 have Sl:=OH (P:=P) (w:=w) (base:=base) T
 have FG:=Ht (P:=P) (w:=w) (base:=base) T
 have Hv:=IQ (P:=P) (w:=w) (base:=base) T
 haveI:TxC K A:=⟨⟨_,T⟩⟩
 refine T.Pa.F.okJ VU (fun xs q x h=>?_) (fun cdv Ar outer s H E hr=>⟨_,(Za (Xd (i:=2) VU.nd rfl (Or.inl rfl) (Xw (Zc (Xv (Zc (ZL (K:=K) rfl (jv 0)) (Zc (Mx Zd) (Zc (jv 1) Zb)))) Zb)))
   (Za (RV [2] PassesOwn.leaving (ZU (jv 2)) (Za (wH 2 (We (n:=3) (Zw (Zi (i:=3) VU.nd rfl (Or.inl rfl)) (Zw (Zi (i:=4) VU.nd rfl (Or.inl rfl)) (Zw (Zi (i:=5) VU.nd rfl (Or.inl rfl)) Xc)))))
   (Ze (ZO [] (ZU (Zh Sl T.VI (hr.mono (by decide)) Zg (Zc (jv 3) Zb))) (Za (ZO [] (ZC (NI hr.WW) (Zh FG T.VC (hr.mono (by decide)) Zg (Zc (jv 0) (Zc (jv 3) (Zc (jv 4) (Zc (jv 5) Zb))))) Yp (ZF _)) (Ze (Zr [] NB)) Zt)
   (Ze (Cz [] 2 (Zh Hv T.WT (hr.mono (by decide)) Zg (Zc (jv 0) (Zc (jv 5) Zb)))))) (Ze (ZO [] (ZU (Yo (Vi (K:=K) rfl) (by rfl) T.ZQ PyProof.Rows.boot_isinstance (Zc (jv 5) (Zc (Wc (n := "tuple") (by rfl) T.b_tuple PyProof.Rows.boot_tuple) Zb)))) (Ze (Zr [] NB)) Zt))))))
   (Ze (Zr [] NB)))),fun xs q x h=>?_⟩)
 ·obtain ⟨z,st,rs,t,rfl,_⟩:=h
  rfl
 ·obtain ⟨z,st,rs,t,rfl,hst,⟨l1,l2⟩,hp,hs,hq⟩:=h
  have hsz:aA=16777216:=rfl
  walk_at "rd"
  refine ⟨by decide,by decide,fun m ds'=>∃ (ws:List (Str × Int × Tr)) (s3 s4 s5:L2.Slot),ds'=[.v (Gr A z st rs),.v t.d,.own (ws.map Gi),s3,s4,s5]∧m=Tr.szs (ws.map (·.2.2))∧(∀ u∈ws,u.1.length≤1000∧Be rs u.2.1∧u.2.2.pl=true)∧(ws.all fun s=>XF rs s.1 s.2.1 s.2.2)=XF rs st (-1) t∧Tr.szs (ws.map (·.2.2))≤1000000,⟨_,[(st,-1,t)],_,_,_,rfl,rfl,fun u hu=>?_,?_,?_⟩,?_⟩
  ·rw [mem_singleton.mp hu];exact ⟨hst,.inl rfl,hp⟩
  ·simp
  ·simp [Tr.szs];exact hs
  rintro m _ ⟨ws,s3,s4,s5,rfl,rfl,hw,hr,hb⟩
  walk_at "rd"
  cases hl:ws.reverse with
  | nil =>
   have:ws=[]:=by rw [←reverse_reverse ws,hl];rfl
   subst this
   walk_at "rd"
   rw [List.all_nil] at hr
   rw [←hr] at hq
   exact hq
  | cons u rest =>
   have ew:ws=rest.reverse++[u]:=by rw [←reverse_reverse ws,hl,reverse_cons]
   have hu:u∈ws:=by rw [ew];simp
   obtain ⟨hu1,hu2,hu3⟩:=hw u hu
   obtain ⟨p,ab,t'⟩:=u
   have ne:(ws.map Gi).isEmpty=false:=by rw [ew];simp
   rw [ne]
   walk_at "rd"
   refine ⟨rest.reverse.map Gi,Gi (p,ab,t'),by rw [ew];simp,?_⟩
   rw [mG]
   walk_at "rd"
   have hu1:p.length≤1000:=hu1
   have hu2:Be rs ab:=hu2
   have hu3:t'.pl=true:=hu3
   rw [ew,all_append,all_cons,List.all_nil,Bool.and_true] at hr
   dsimp only at hr
   rw [ew,map_append,Tr.Xt] at hb
   have sz1:Tr.szs (([(p,ab,t')]:List (Str × Int × Tr)).map (·.2.2))=t'.sz:=by simp [Tr.szs]
   rw [sz1] at hb
   have ez:Tr.szs (ws.map (·.2.2))=Tr.szs (rest.reverse.map (·.2.2)) + t'.sz:=by rw [ew,map_append,Tr.Xt,sz1]
   have bad:XF rs p ab t'=false→q (.bl false):=fun e=>by
    rw [e,Bool.and_false] at hr
    rw [←hr] at hq
    exact hq
   have okw:∀ u∈rest.reverse,u.1.length≤1000∧Be rs u.2.1∧u.2.2.pl=true:=fun u h=>hw u (by rw [ew];exact mem_append_left _ h)
   refine ⟨by omega,?_⟩
   cases t' with
   | lf d =>
    obtain ⟨i,rfl⟩:=Tr.AA hu3
    refine ifB (fun e=>?_) (fun e=>?_)
    ·refine ⟨z,st,rs,p,ab,.lf (.int i),rfl,hu2,rfl,?_⟩
     walk_at "rd"
     refine Hk (fun _=>bad (by rw [Pt,e];rfl)) (fun z=>absurd z ?_)
     rw [show Vo rs p ab (.lf (.int i)) = "rule" from rfl]
     decide +kernel
    ·walk_at "rd"
     refine ⟨_,?_,rest.reverse,rfl,rfl,okw,?_,by omega⟩
     ·rw [ez];have:=(Tr.lf (.int i)).um;omega
     ·rw [Pt,e,Bool.not_false,Bool.and_true] at hr
      exact hr
   | nd k ts =>
    refine ifB (fun e=>?_) (fun e=>?_)
    ·refine ⟨z,st,rs,p,ab,.nd k ts,rfl,hu2,hu3,?_⟩
     walk_at "rd"
     refine Hk (fun e1=>bad (by rw [Rl,decide_eq_false e1,Bool.and_false,Bool.false_and])) (fun e1=>?_)
     obtain ⟨k0,k1,r,hk,hd,hst',hlen⟩:=Dn e1
     have szt:(Tr.nd k ts).sz=1 + Tr.szs ts:=by unfold Tr.sz;rfl
     have tl:=Tr.Pq ts
     obtain ⟨m1,m2,m3,m4⟩:=l2 r (mem_of_getElem? hk)
     refine ⟨z,st,rs,k,ts,r,by rw [Ba],k0,hk,by omega,?_⟩
     unfold wExt
     simp only [length_map]
     have sl:(Qt r.ps k ts).length≤ts.length:=by unfold Qt;rw [length_map,length_zip];omega
     have rl:=Tr.Pq (rest.reverse.map (·.2.2))
     rw [length_map] at rl
     have ss:=yh r.ps k ts
     refine ⟨by omega,_,?_,rest.reverse++Qt r.ps k ts,by simp,rfl,fun u hu=>?_,?_,?_⟩
     ·rw [ez,map_append,Tr.Xt];omega
     ·rcases mem_append.mp hu with h | h
      ·exact okw u h
      ·obtain ⟨h1,h2,h3⟩:=yi h
       exact ⟨m3.2 _ h1,.inr (by rw [h2];exact ⟨k0,k1⟩),Tr.uo hu3 _ h3⟩
     ·rw [Rl,e,decide_eq_true e1,Bool.true_and,Bool.true_and,hk,Option.map_some,Option.getD_some,yg] at hr
      rw [all_append]
      exact hr
     ·rw [map_append,Tr.Xt];omega
    ·walk_at "rd"
     exact bad (by rw [Rl,e];rfl)
noncomputable def Hw (A:Adr):DSp:=fun xs q x=>∃ (z st:Str) (rs:List Ru) (ts:List Tr),xs=[Gr A z st rs,.lst (ts.map Tr.d)]∧st.length≤1000∧Rus rs∧(∀ t∈ts,t.pl=true∧t.sz≤1000000)∧ts.length≤1000000∧((ts≠[]∧∀ t∈ts,XF rs st (-1) t=true)→q .non)∧(¬ (ts≠[]∧∀ t∈ts,XF rs st (-1) t=true)→x A.VV)
theorem IT {A:Adr}(T:Txt K mg A):Zy P w K mg base (CXE P w) 5 A.XC A.Tc WO (spD K (Hw A)):=by
 have yk:=Bf (P:=P) (w:=w) (base:=base) T
 haveI:TxC K A:=⟨⟨_,T⟩⟩
 refine T.WU.F.okJ Iu (fun xs q x h=>?_) (fun cdv Ar outer s H E hr=>⟨_,(Za (ZO [] (Yl (ZU (jv 1))) (Ze (YX [] T.Md.x T.Md.M (Zc Yp Zb))) Zt)
   (Ze (ZO [] (Yl (ZU (Yo MB (by rfl) T.b_all PyProof.Rows.boot_all (Zc (Yi ["tree"] ["grammar"] [0] (ZY (jv 1)) (fun _=>(Zi (i:=0) (show @Nodup Str ((["tree"]:List Str)++(["grammar"]:List Str)) by decide +kernel) rfl (Or.inl rfl) (Or.inr rfl))) (fun _=>Yu) (fun _=>(Zh yk T.Pa (hr.mono (by decide)) QK (Zc (jv 1) (Zc (jv 0) Zb))))) Zb)))) (Ze (YX [] T.Md.x T.Md.M (Zc Yp Zb))) Zt))),fun xs q x h=>?_⟩)
 ·obtain ⟨z,st,rs,ts,rfl,_⟩:=h
  rfl
 ·obtain ⟨z,st,rs,ts,rfl,hst,hrs,ht,hl,hq,hx⟩:=h
  have hsz:aA=16777216:=rfl
  walk_at "rd"
  have ee:(ts.map Tr.d).isEmpty=ts.isEmpty:=by cases ts <;> rfl
  rw [ee]
  rw [Bool.not_not]
  refine ifB (fun e=>⟨by decide,hx fun z=>z.1 (List.isEmpty_iff.mp e)⟩) (fun e=>?_)
  have ne:ts≠[]:=fun z=>by rw [z] at e;cases e
  refine YG (fun t => .bl (XF rs st (-1) t)) (by omega) (fun t hm N hN=>?_) ?_
  ·walk_at "rd"
   exact ⟨z,st,rs,t,rfl,hst,hrs,(ht t hm).1,(ht t hm).2,hN⟩
  have em:(ts.map fun t=>D.bl (XF rs st (-1) t))=(ts.map fun t=>XF rs st (-1) t).map .bl:=by rw [map_map];rfl
  rw [em]
  walk_at "rd"
  refine KW (fun e1=>⟨by decide,hx fun z=>?_⟩) (fun e1=>hq ⟨ne,fun t hm=>?_⟩)
  ·rw [List.all_eq_false] at e1
   obtain ⟨b,hb,nb⟩:=e1
   obtain ⟨t,hm,rfl⟩:=mem_map.mp hb
   exact nb (z.2 t hm)
  ·rw [all_eq_true] at e1
   exact e1 _ (mem_map.mpr ⟨t,hm,rfl⟩)
noncomputable def bump (cs:List Int) (k:Int):List Int:=cs.set k.toNat (cs.getD k.toNat 0 + 1)
noncomputable def YM (cs:List Int) (ks:List Int):List Int:=ks.foldl bump cs
theorem IU (cs:List Int) (k:Int):(bump cs k).length=cs.length:=by unfold bump;rw [length_set]
theorem Sn (ks cs:List Int):(YM cs ks).length=cs.length:=by
 unfold YM
 induction ks generalizing cs with
 | nil=>rfl
 | cons k ks ih=>rw [foldl_cons,ih,IU]
theorem OO {n:Nat}{k:Int}(h0:0≤k) (h:k < n):ixN n k=some k.toNat:=by
 unfold ixN
 rw [if_pos h0,if_pos h]
mutual
theorem Ml {rs:List Ru}:∀ {p:Str}{ab:Int}{t:Tr},XF rs p ab t=true→∀ k∈t.rl,0≤k∧k < rs.length
 | _,_,.lf _,_=>fun k hk=>by unfold Tr.rl at hk;cases hk
 | p,ab,.nd k ts,h=>fun k' hk=>by
  rw [Rl,aD,aD] at h
  obtain ⟨k0,k1,r,hr,hd,hs,hl⟩:=Dn (of_decide_eq_true h.1.2)
  unfold Tr.rl at hk
  rcases mem_cons.mp hk with e | e
  ·rw [e];exact ⟨k0,k1⟩
  ·have h2:=h.2
   rw [hr,Option.map_some,Option.getD_some] at h2
   exact Dp h2 hl k' e
theorem Dp {rs:List Ru}:∀ {ps:List Str}{k:Int}{ts:List Tr},Xk rs ps k ts=true→ts.length=ps.length→∀ j∈Tr.rls ts,0≤j∧j < rs.length
 | _,_,[],_,_=>fun j hj=>by unfold Tr.rls at hj;cases hj
 | [],_,t::ts,_,hl=>by cases hl
 | p::ps,k,t::ts,h,hl=>fun j hj=>by
  unfold Xk at h
  rw [aD] at h
  unfold Tr.rls at hj
  rcases mem_append.mp hj with e | e
  ·exact Ml h.1 j e
  ·exact Dp h.2 (by simpa using hl) j e
end
noncomputable def Dq (A:Adr):zU:=fun xs q x=>∃ (z st:Str) (rs:List Ru) (ts:List Tr),xs=[Gr A z st rs,.lst (ts.map Tr.d)]∧st.length≤1000∧Rus rs∧(∀ t∈ts,t.pl=true∧t.sz≤1000000)∧ts.length≤1000000∧Uk st=true∧((ts≠[]∧∀ t∈ts,XF rs st (-1) t=true)→q ((YM (replicate rs.length 0) (Tr.rls ts)).map .int))∧(¬ (ts≠[]∧∀ t∈ts,XF rs st (-1) t=true)→x A.VV)
theorem FH {A:Adr}(T:Txt K mg A):Zy P w K mg base (CXE P w) 6 A.Vd A.Qj UG (spF K (Dq A)):=by
 have Hx:=IT (P:=P) (w:=w) (base:=base) T
 have Bg:=Dl (P:=P) (w:=w) (base:=base) T
 haveI:TxC K A:=⟨⟨_,T⟩⟩
 refine T.UL.F.okF Vy (fun xs q x h=>?_) (fun cdv Ar outer s H E hr=>⟨_,(Za (NM (Zh Hx T.WU (hr.mono (by decide)) Zg (Zc (jv 0) (Zc (jv 1) Zb))))
   (Za (wG (i:=2) [] ["rule"] [] [] Vy.nd rfl (Or.inl rfl) (ZY (ZL (K:=K) rfl (jv 0))) (fun _=>(Zi (i:=0) (show @Nodup Str ((["rule"]:List Str)++([]:List Str)) by decide +kernel) rfl (Or.inl rfl) (Or.inr rfl))) (fun _=>Yu) (fun _=>Zd))
   (Za (YQ PassesOwn.leaving (ZY (jv 1)) (Zi (i:=3) Vy.nd rfl (Or.inl rfl)) (Ze (YQ PassesOwn.leaving (ZY (Zh Bg T.Rf (hr.mono (by decide)) Zg (Zc (jv 3) Zb))) (Zi (i:=4) Vy.nd rfl (Or.inl rfl)) (Ze (rP 2 (jv 4) Zd)))))
   (Ze (rK 2))))),fun xs q x h=>?_⟩)
 ·obtain ⟨z,st,rs,ts,rfl,_⟩:=h
  rfl
 ·obtain ⟨z,st,rs,ts,rfl,hst,hrs,ht,hl,hk,hq,hx⟩:=h
  have hsz:aA=16777216:=rfl
  walk_at "rd"
  refine ⟨z,st,rs,ts,rfl,hst,hrs,ht,hl,fun hg=>?_,hx⟩
  walk_at "rd"
  obtain ⟨l1,l2⟩:=hrs
  refine YG (fun _ => .int 0) (by omega) (fun r hr N hN=>?_) ?_
  ·walk_at "rd"
   exact hN
  have e0:(rs.map fun _=>D.int 0)=(replicate rs.length (0:Int)).map .int:=by rw [List.map_replicate,←List.map_const];rfl
  rw [e0]
  refine ⟨[],?_⟩
  walk_at "rd"
  refine Yq (fun i ds'=>∃ s3 s4:L2.Slot,ds'=[.v (Gr A z st rs),.v (.lst (ts.map Tr.d)),.own ((YM (replicate rs.length 0) (Tr.rls (ts.take i))).map .int),s3,s4]) ⟨_,_,by rw [take_zero];rfl⟩ (fun i t ds N hi hd hn=>?_) (fun ds ⟨s3,s4,e⟩=>?_)
  ·obtain ⟨s3,s4,rfl⟩:=hd
   have hm:=mem_of_getElem? hi
   refine ⟨[],?_⟩
   walk_at "rd"
   have it:=hg.2 t hm
   have nd:t.RJ=true:=by
    cases t with
    | lf d=>rw [Pt,hk] at it;cases it
    | nd k us=>rfl
   have inb:=Ml (rs:=rs) it
   refine ⟨t,rfl,nd,(ht t hm).1,(ht t hm).2,?_⟩
   walk_at "rd"
   refine Yq (fun j ds'=>∃ s4:L2.Slot,ds'=[.v (Gr A z st rs),.v (.lst (ts.map Tr.d)),.own ((YM (replicate rs.length 0) (Tr.rls (ts.take i)++t.rl.take j)).map .int),.v t.d,s4]) ⟨_,by rw [take_zero,append_nil]⟩ (fun j k ds N' hj hd' hn'=>?_) (fun ds ⟨s4,e⟩=>hn ds ⟨.v t.d,s4,?_⟩)
   ·obtain ⟨s4,rfl⟩:=hd'
    have kb:=inb k (mem_of_getElem? hj)
    walk_at "rd"
    have lb:=Sn (Tr.rls (ts.take i)++t.rl.take j) (replicate rs.length 0)
    rw [length_replicate] at lb
    generalize hc:YM (replicate rs.length 0) (Tr.rls (ts.take i)++t.rl.take j)=cs at lb
    refine ⟨k.toNat,?_,cs.getD k.toNat 0,?_,hn' _ ⟨.v (.int k),?_⟩⟩
    ·rw [lb]
     exact OO kb.1 kb.2
    ·rw [getElem?_map,getD_eq_getElem?_getD,aB (by rw [lb];omega)]
     rfl
    ·have:YM (replicate rs.length 0) (Tr.rls (ts.take i)++t.rl.take (j + 1))=bump cs k:=by
      rw [take_add_one,hj,←append_assoc,←hc]
      unfold YM
      rw [foldl_append]
      rfl
     rw [this]
     unfold bump
     rw [List.map_set]
   ·rw [e,take_length,take_add_one,hi]
    simp [Tr.Rk,Tr.rls]
  ·subst e
   walk_at "rd"
   rw [take_length]
   exact hq hg
theorem Wn {α:Type}(f:α→D) (xs:List α) {i:Int}(h0:0≤i) (h:i < xs.length):∃ x,x∈xs∧atI (xs.map f) i=some (f x):=by
 have hj:i.toNat < xs.length:=by omega
 refine ⟨xs[i.toNat],getElem_mem hj,?_⟩
 rw [OD (j:=i.toNat) (by omega) (by rw [length_map];exact hj),List.getElem_map]
theorem mod_lt {n:Nat}(i:Int) (h:0 < n):0≤i % (n:Int)∧i % (n:Int) < n:=⟨Int.emod_nonneg i (by omega),Int.emod_lt_of_pos i (by omega)⟩
abbrev s26:Str := "ABCDEFGHIJKLMNOPQRSTUVWXYZ"
abbrev s36:Str := "abcdefghijklmnopqrstuvwxyz0123456789"
theorem qm (xs:List D) {i j:Int}(h0:0≤i) (h1:i≤j):cutD xs (some i) (some j)=(xs.drop i.toNat).take (j - i).toNat:=by
 obtain ⟨f,rfl⟩:=Int.eq_ofNat_of_zero_le h0
 obtain ⟨g,rfl⟩:∃ g:Nat,j=(f:Int) + g:=⟨(j - f).toNat,by omega⟩
 unfold cutD
 rw [show ((f:Int) + (g:Int))=((f + g:Nat):Int) by omega,HT.Gx,HT.Gx,show (((f + g:Nat):Int) - (f:Int)).toNat=g by omega,show (f:Int).toNat=f from rfl]
 refine List.ext_getElem? fun i=>?_
 simp only [List.getElem?_take,List.getElem?_drop]
 by_cases h:f≤xs.length
 ·rw [Nat.min_eq_left h]
  by_cases h1:i < g
  ·rw [if_pos h1]
   by_cases h2:f + i < xs.length
   ·rw [if_pos (by omega)]
   ·rw [List.getElem?_eq_none (by omega)]
    split <;> rfl
  ·rw [if_neg h1,if_neg (by omega)]
 ·rw [Nat.min_eq_right (by omega),if_neg (by omega)]
  rw [List.getElem?_eq_none (show xs.length≤f + i by omega)]
  split <;> rfl
theorem FI (xs:List D) {j:Int}(h0:0≤j):cutD xs none (some j)=xs.take j.toNat:=by
 have:=qm xs (i:=0) (j:=j) (by decide) h0
 unfold cutD at this ⊢
 rw [HT.xh]
 rw [show (0:Int)=((0:Nat):Int) from rfl,HT.Gx,Nat.zero_min] at this
 simpa using this
theorem mH:s62.cps.toList=Yk.cps.toList++Wt.cps.toList++ZG.cps.toList:=by decide +kernel
theorem nmS62 (c:Nat):decide (c∈s62.cps.toList)=nmS c:=by
 unfold nmS
 rw [mH]
 simp only [mem_append,Bool.decide_or,Bool.or_assoc]
 rw [Bool.or_comm (decide (c∈Wt.cps.toList))]
theorem ur:∀ c∈s26.cps.toList,c∈s62.cps.toList∧grS c=true:=by decide +kernel
theorem uv:∀ c∈s36.cps.toList,c∈s62.cps.toList∧grS c=false:=by decide +kernel
theorem AB {z:Str}(h1:1≤z.length) (h2:z.length≤12) (h:∀ c∈z.cps.toList,c∈s62.cps.toList):isNm z=true:=by
 unfold isNm
 rw [decide_eq_true h1,decide_eq_true h2,show z.cps.toList.all nmS=true from all_eq_true.mpr fun c hc=>by rw [←nmS62];exact decide_eq_true (h c hc)]
 rfl
theorem uw {z:Str}{c:Nat}{r:List Nat}(e:z.cps.toList=c::r):fst z=c:=by unfold fst;rw [e];rfl
theorem CW.kd {z:Str}(h:CW s26 z):Uk z=true:=by
 have hl:=h.len
 obtain ⟨c,r,e,hc,hr,_⟩:=h
 unfold Uk
 rw [uw e,(ur c hc).2,AB hl.1 hl.2 (by rw [e];intro d hd;rcases mem_cons.mp hd with rfl | hd;exact (ur _ hc).1;exact hr d hd)]
 rfl
theorem CW.wd {z:Str}(h:CW s36 z):Sg z=true:=by
 have hl:=h.len
 obtain ⟨c,r,e,hc,hr,_⟩:=h
 unfold Sg
 rw [uw e,(uv c hc).2,AB hl.1 hl.2 (by rw [e];intro d hd;rcases mem_cons.mp hd with rfl | hd;exact (uv _ hc).1;exact hr d hd)]
 rfl
theorem Lw {z:Str}(h:Sg z=true):Uk z=false:=by
 unfold Sg at h
 unfold Uk
 rw [aD] at h
 rw [h.1]
 simpa using h.2
theorem Dr {z:Str}(h:Uk z=true):isNm z=true:=by unfold Uk at h;rw [aD] at h;exact h.1
theorem Ds {z:Str}(h:Sg z=true):isNm z=true:=by unfold Sg at h;rw [aD] at h;exact h.1
theorem mI {z:Str}:∀ (rs:List Ru) (seen:List Str),(∀ r∈rs,okW z r.wa=true)→(rs.map (·.ti)).Nodup→(∀ r∈rs,r.ti∉seen)→cwt z seen rs=0:=by
 intro rs
 induction rs with
 | nil=>intro seen _ _ _;rfl
 | cons r rs ih =>
  intro seen h1 h2 h3
  unfold cwt
  rw [if_neg (by rw [h1 r (mem_cons_self ..)];decide),if_neg (h3 r (mem_cons_self ..))]
  rw [map_cons,nodup_cons] at h2
  refine ih _ (fun r' h=>h1 r' (mem_cons_of_mem _ h)) h2.2 (fun r' h z=>?_)
  rcases mem_append.mp z with z | z
  ·exact h3 r' (mem_cons_of_mem _ h) z
  ·exact h2.1 (by rw [←mem_singleton.mp z];exact mem_map.mpr ⟨r',h,rfl⟩)
theorem Jw {z:Str}(h:isNm z=true):z.length≤1000:=by have:=Sh h;omega
theorem fits_of {zs:List Str}(hl:zs.length≤1000) (h:∀ z∈zs,isNm z=true):Fits zs:=⟨hl,fun z hz=>Jw (h z hz)⟩
theorem Hio.all {steps:List (Str × Str)}(rank:Str→Nat):∀ (k:Nat) (w r o:List Str),w.length≤k→(∀ s∈steps,s.2∈w→rank s.1 < rank s.2)→r≠[]→∃ res,Hio steps w r o res∧res.length=o.length + w.length:=by
 intro k
 induction k with
 | zero =>
  intro w r o hk hs hr
  have:w=[]:=List.eq_nil_of_length_eq_zero (by omega)
  subst this
  exact ⟨o++[],.step hr .stop,by simp⟩
 | succ k ih =>
  intro w r o hk hs hr
  by_cases hw:w=[]
  ·subst hw
   exact ⟨o++[],.step hr .stop,by simp⟩
  have ll:=Dg w (fun h=>decide (h∈heldBy steps w))
  obtain ⟨m,hm,hmax⟩:∃ m∈w,∀ x∈w,rank x≤rank m:=by
   clear ll hs ih hk
   induction w with
   | nil=>exact absurd rfl hw
   | cons a w ihw =>
    by_cases e:w=[]
    ·subst e
     exact ⟨a,mem_cons_self ..,fun x hx=>by rw [mem_singleton.mp hx];exact Nat.le_refl _⟩
    ·obtain ⟨m,h1,h2⟩:=ihw e
     by_cases c:rank a≤rank m
     ·exact ⟨m,mem_cons_of_mem _ h1,fun x hx=>by rcases mem_cons.mp hx with rfl | hx;exact c;exact h2 x hx⟩
     ·exact ⟨a,mem_cons_self ..,fun x hx=>by rcases mem_cons.mp hx with rfl | hx;exact Nat.le_refl _;have:=h2 x hx;omega⟩
  have free:m∉heldBy steps w:=fun z=>by
   unfold heldBy at z
   obtain ⟨s,h1,h2⟩:=mem_map.mp z
   obtain ⟨h3,h4⟩:=mem_filter.mp h1
   have h4:=of_decide_eq_true h4
   have:=hs s h3 h4
   have:=hmax _ h4
   rw [h2] at *
   omega
  have mr:m∈w.filter fun h => !decide (h∈heldBy steps w):=mem_filter.mpr ⟨hm,by simp [free]⟩
  have hr':(w.filter fun h => !decide (h∈heldBy steps w))≠[]:=fun z=>by rw [z] at mr;cases mr
  have pos:=List.length_pos_iff.mpr hr'
  obtain ⟨res,h1,h2⟩:=ih (w.filter fun h=>decide (h∈heldBy steps w)) _ (o++w.filter fun h => !decide (h∈heldBy steps w)) (by omega) (fun s h3 h4=>hs s h3 (mem_filter.mp h4).1) hr'
  exact ⟨res,.step hr h1,by rw [h2,length_append];omega⟩
structure Good (z st:Str) (rs:List Ru):Prop where
 fit:Rus rs
 ok:∀ r∈rs,XS r.ti r.hd r.ps r.tg r.t=true
 wt:cwt z [] rs=0
 un:ctu rs=true
 kd:ck st rs=true
 ring:∃ res,Hio (XI rs) (waitOf rs) (waitOf rs) [] res∧(waitOf rs).length≤res.length
theorem Dt (zs:List Str):∀ z,z∈uc zs↔z∈zs:=by
 have go:∀ (zs a:List Str) z,z∈zs.foldl Df a↔z∈a∨z∈zs:=by
  intro zs
  induction zs with
  | nil=>intro a z;simp
  | cons y zs ih =>
   intro a z
   rw [foldl_cons,ih]
   unfold Df
   split
   ·rename_i h
    constructor
    ·rintro (h1 | h1)
     ·exact .inl h1
     ·exact .inr (mem_cons_of_mem _ h1)
    ·rintro (h1 | h1)
     ·exact .inl h1
     ·rcases mem_cons.mp h1 with rfl | h1
      ·exact .inl h
      ·exact .inr h1
   ·simp [or_assoc]
 intro z
 have:=go zs [] z
 simpa [uc] using this
theorem wLow (c k:Int) (z:Str):Low (wP c k z) (wQ c k z)∧Bd 64 (wP c k z)∧Bd 64 (wQ c k z)∧(z = "chance" → 0 < wP c k z):=by
 have w1:=pL c (mix c k) (Qo c k) (by have:=Ln c k;omega)
 have w2:=pM (mix c k) (Qo c k)
 unfold wP wQ lowP UA
 have hT : -(2 ^ 51) < Dj c (mix c k) z∧Dj c (mix c k) z < 2 ^ 51∧(z = "chance" → 0 < Dj c (mix c k) z):=by
  unfold Dj
  generalize wT c (mix c k)=t at w1 ⊢
  by_cases e:z = "chance"
  ·rw [if_pos e]
   refine ⟨?_,?_,fun _=>?_⟩ <;> split <;> omega
  ·rw [if_neg e]
   refine ⟨?_,?_,fun h=>absurd h e⟩ <;> split <;> omega
 generalize Dj c (mix c k) z=t at hT ⊢
 generalize wB (mix c k)=b at w2 ⊢
 have gp:=QH (a:=t) (b:=b) (by omega)
 obtain ⟨l,e,l1,l2⟩:=xR (a:=t) (b:=b) (d:=(Int.gcd t b:Int)) (by omega) (.inl rfl) (Int.mul_pos w2.1 gp)
 refine ⟨l,(Bd.of (n:=64) (i:=t) (by omega) (by omega)).le l1,(Bd.of (n:=64) (i:=b) (by omega) (by omega)).le l2,fun z=>?_⟩
 have:0 < t.fdiv (Int.gcd t b:Int) * b:=by rw [e];exact Int.mul_pos (hT.2.2 z) l.pos
 exact Int.pos_of_mul_pos_left this w2.1
noncomputable def Ye (r:Ru):D := .tup [.str r.ti,.str r.hd,.tup (r.ps.map .str),wD r.wa r.wb,.str r.tg,IJ r.t]
structure RowR (scale:Str) (kinds words tis:List Str) (r:Ru):Prop where
 hd:r.hd∈kinds
 p1:1≤r.ps.length
 p4:r.ps.length≤4
 ps:∀ p∈r.ps,p∈kinds∨p∈words
 one:∀ p,r.ps=[p]→p∈kinds→kinds.idxOf r.hd < kinds.idxOf p
 low:Low r.wa r.wb
 ba:Bd 64 r.wa
 bb:Bd 64 r.wb
 pos:scale = "chance" → 0 < r.wa
 tg:r.tg = "" ∨ r.tg∈words
 un:∀ us,r.t=some us→1≤us.length∧us.length≤2∧∀ u∈us,u∈tis
structure UN (scale:Str) (kinds words:List Str) (rs:List Ru):Prop where
 k:Hs s26 kinds.length kinds
 k1:1≤kinds.length
 k3:kinds.length≤3
 w:Hs s36 3 words
 nk:kinds.length≤rs.length
 len:rs.length≤9
 ti:∃ titles,Hs s36 9 titles∧rs.map (·.ti)=titles.take rs.length
 row:∀ r∈rs,RowR scale kinds words (rs.map (·.ti)) r
 base:∀ k,k < kinds.length→∃ r,rs[k]?=some r∧kinds[k]?=some r.hd∧r.t=none∧∃ w∈words,r.ps=[w]
noncomputable def yl:DSp:=fun xs q _=>∃ ns:List Int,xs=[.scr (ns.map .int)]∧∀ zs,Hs s26 zs.length zs→1≤zs.length→zs.length≤3→q (.lst (zs.map .str))
theorem mJ:s26.cps.toList.Nodup:=by decide +kernel
theorem qo:s26.length=26:=by decide +kernel
theorem ux:s36.cps.toList.Nodup:=by decide +kernel
theorem AD:s36.length=36:=by decide +kernel
theorem Bh {A:Adr}(T:Txt K mg A):Zy P w K mg base (CXE P w) 3 A.TQ A.Lc QR (spD K yl):=by
 have Sq:=OJ (P:=P) (w:=w) (base:=base) T
 have G_l_at:=Ri (P:=P) (w:=w) (base:=base) T
 have G_l_mix:=Sf (P:=P) (w:=w) (base:=base) T
 haveI:TxC K A:=⟨⟨_,T⟩⟩
 refine T.Pb.F.okJ Iy (fun xs q x h=>?_) (fun cdv Ar outer s H E hr=>⟨_,(Za (Zo (i:=1) Iy.nd rfl (Or.inl rfl) (Zn ZK Zd (Zn ZA (Zh G_l_mix T.L_l_mix (hr.mono (by decide)) Zg (Zc (Zh G_l_at T.L_l_at (hr.mono (by decide)) Zg (Zc (jv 0) (Zc Zd Zb))) (Zc Zd Zb))) Zd)))
   (Ze (Zr [] (Zh Sq T.VL (hr.mono (by decide)) Zg (Zc (Zh G_l_at T.L_l_at (hr.mono (by decide)) Zg (Zc (jv 0) (Zc Zd Zb))) (Zc (jv 1) (Zc Yp Zb))))))),fun xs q x h=>?_⟩)
 ·obtain ⟨ns,rfl,_⟩:=h
  rfl
 ·obtain ⟨ns,rfl,hq⟩:=h
  have h1:=qo
  have h2:=mJ
  walk_at "rd"
  refine ⟨_,_,rfl,by decide,_,_,rfl,by decide,by decide,?_⟩
  walk_at "rd"
  have nb:=mod_lt (n:=3) (mix (atZ ns 1) 1) (by decide)
  refine ⟨by decide,_,_,rfl,by decide,?_⟩
  refine ⟨_,(1 + mix (atZ ns 1) 1 % 3).toNat,s26,by rw [Int.toNat_of_nonneg (by omega)],by omega,by omega,by omega,h2,fun zs hz=>?_⟩
  exact hq zs ⟨rfl,hz.2⟩ (by have:=hz.1;omega) (by have:=hz.1;omega)
noncomputable def ym:DSp:=fun xs q _=>∃ ns:List Int,xs=[.scr (ns.map .int)]∧∀ zs,Hs s36 3 zs→q (.lst (zs.map .str))
theorem Bi {A:Adr}(T:Txt K mg A):Zy P w K mg base (CXE P w) 3 A.TR A.Ld QT (spD K ym):=by
 have Sq:=OJ (P:=P) (w:=w) (base:=base) T
 have G_l_at:=Ri (P:=P) (w:=w) (base:=base) T
 haveI:TxC K A:=⟨⟨_,T⟩⟩
 refine T.Pg.F.okJ CL (fun xs q x h=>?_) (fun cdv Ar outer s H E hr=>⟨_,(Ze (Zr [] (Zh Sq T.VL (hr.mono (by decide)) Zg (Zc (Zh G_l_at T.L_l_at (hr.mono (by decide)) Zg (Zc (jv 0) (Zc Zd Zb))) (Zc Zd (Zc Yp Zb)))))),fun xs q x h=>?_⟩)
 ·obtain ⟨ns,rfl,_⟩:=h
  rfl
 ·obtain ⟨ns,rfl,hq⟩:=h
  have h1:=AD
  have h2:=ux
  walk_at "rd"
  exact ⟨_,_,rfl,by decide,_,3,s36,rfl,by omega,by omega,by omega,h2,hq⟩
noncomputable def Bj:DSp:=fun xs q _=>∃ ns:List Int,xs=[.scr (ns.map .int)]∧∀ zs,Hs s36 9 zs→q (.lst (zs.map .str))
theorem Du {A:Adr}(T:Txt K mg A):Zy P w K mg base (CXE P w) 3 A.Ub A.Oz SQ (spD K Bj):=by
 have Sq:=OJ (P:=P) (w:=w) (base:=base) T
 have G_l_at:=Ri (P:=P) (w:=w) (base:=base) T
 haveI:TxC K A:=⟨⟨_,T⟩⟩
 refine T.Rg.F.okJ EZ (fun xs q x h=>?_) (fun cdv Ar outer s H E hr=>⟨_,(Ze (Zr [] (Zh Sq T.VL (hr.mono (by decide)) Zg (Zc (Zh G_l_at T.L_l_at (hr.mono (by decide)) Zg (Zc (jv 0) (Zc Zd Zb))) (Zc Zd (Zc Yp Zb)))))),fun xs q x h=>?_⟩)
 ·obtain ⟨ns,rfl,_⟩:=h
  rfl
 ·obtain ⟨ns,rfl,hq⟩:=h
  have h1:=AD
  have h2:=ux
  walk_at "rd"
  exact ⟨_,_,rfl,by decide,_,9,s36,rfl,by omega,by omega,by omega,h2,hq⟩
noncomputable def mK (kinds words:List Str) (h:Nat) (ps:List Str):Prop:=1≤ps.length∧ps.length≤4∧(∀ p∈ps,p∈kinds∨p∈words)∧∀ p,ps=[p]→p∈kinds→h < kinds.idxOf p
noncomputable def yn:DSp:=fun xs q _=>∃ (kinds words:List Str) (h:Nat) (m:Int),xs=[.lst (kinds.map .str),.lst (words.map .str),.int h,.int m]∧1≤kinds.length∧kinds.length≤3∧words.length=3∧(∀ w∈words,w∉kinds)∧h < kinds.length∧0≤m∧m < 2 ^ 40∧∀ ps,mK kinds words h ps→q (.tup (ps.map .str))
theorem Bk {A:Adr}(T:Txt K mg A):Zy P w K mg base (CXE P w) 1 A.TU A.Le QU (spD K yn):=by
 haveI:TxC K A:=⟨⟨_,T⟩⟩
 refine T.Ph.F.okJ XQ (fun xs q x h=>?_) (fun cdv Ar outer s H E hr=>⟨_,(Za (Zo (i:=4) XQ.nd rfl (Or.inl rfl) (Zm (Sz (Zc Zd (Zc Zd (Zc Zd (Zc Zd (Zc Zd (Zc Zd (Zc Zd Zb)))))))) (Zn ZA (jv 3) Zd)))
   (Za (Zo (i:=3) XQ.nd rfl (Or.inl rfl) (Zn ZT (jv 3) Zd))
   (Za (Xd (i:=5) XQ.nd rfl (Or.inl rfl) (Xw Zb))
   (Za (YQ PassesOwn.leaving (XW (by rfl) T.b_range (Zc (jv 4) Zb)) (Zi (i:=6) XQ.nd rfl (Or.inl rfl)) (Za (ZO [] (ZC Eu (Zn ZA (jv 3) Zd) Zd (ZF _)) (Ze (Vj [] 5 (Zm (jv 0) (Zn ZA (Zn ZA (jv 3) Zd) (Yo Yj (by rfl) T.b_len PySem.boot_len (Zc (jv 0) Zb)))))) (Ze (Vj [] 5 (Zm (jv 1) (Zn ZA (Zn ZT (jv 3) Zd) Zd)))))
   (Ze (Zo (i:=3) XQ.nd rfl (Or.inl rfl) (Zn ZK (Zn ZK (Zn ZT (jv 3) Zd) (Zn Wd Zd (jv 6))) Zd)))))
   (Za (ZO [5] (Oe (Od (ZC (WX hr.WW) (jv 4) Zd (ZF _)) (Sy (ZC Ts (Zm (jv 5) Zd) (Tt (jv 0) QI (UC (Zn ZK (jv 2) Zd))) (by with_unfolding_all rfl))))) (Ze (Xd (i:=5) XQ.nd rfl (Or.inl rfl) (Xw (Zc (Zm (jv 1) (Zn ZA (jv 3) Zd)) Zb)))) Zt)
   (Ze (Zr [5] (Tv Mz (by rfl) T.b_tuple PyProof.Rows.boot_tuple (Zc (jv 5) Zb))))))))),fun xs q x h=>?_⟩)
 ·obtain ⟨kinds,words,h,m,rfl,_⟩:=h
  rfl
 ·obtain ⟨kinds,words,h,m,rfl,k1,k3,w3,wk,hh,m0,m1,hq⟩:=h
  have hsz:aA=16777216:=rfl
  walk_at "rd"
  have nb:=mod_lt (n:=7) m (by decide)
  obtain ⟨sz,hj,ej⟩:=Wn D.int [2,2,1,3,2,4,2] (i:=m % 7) nb.1 nb.2
  have j1:1≤sz∧sz≤4:=by
   simp only [mem_cons,not_mem_nil,or_false] at hj
   omega
  refine ⟨by decide,by decide,_,ej,by decide,XD (by decide) (by decide),by decide,[],?_⟩
  walk_at "rd"
  refine ⟨by omega,by omega,SF (fun i ds'=>∃ (m:Int) (ps:List Str) (s:L2.Slot),ds'=[.v (.lst (kinds.map .str)),.v (.lst (words.map .str)),.v (.int h),.v (.int m),.v (.int sz),.own (ps.map .str),s]∧0≤m∧m < 2 ^ 41∧ps.length=i∧∀ p∈ps,p∈kinds∨p∈words) ⟨_,[],_,rfl,by omega,by omega,rfl,fun p hp=>by cases hp⟩ (fun i ds N hi hd hn=>?_) (fun ds hd=>?_)⟩
  ·obtain ⟨m,ps,s,rfl,m0,m1,hl,hp⟩:=hd
   walk_at "rd"
   have nxt:∀ p,p∈kinds∨p∈words→PK 4099 (0 + (i:Int))∧N [.v (.lst (kinds.map .str)),.v (.lst (words.map .str)),.v (.int h),.v (.int (m / 15 + 4099 * (0 + (i:Int)) + 1)),.v (.int sz),.own (ps.map D.str++[.str p]),.v (.int (0 + (i:Int)))]:=fun p hpp=>by
    refine ⟨.l (by decide) (by decide),hn _ ⟨_,ps++[p],_,by rw [map_append];rfl,by omega,by omega,by rw [length_append,hl];rfl,fun z hz=>?_⟩⟩
    rcases mem_append.mp hz with hz | hz
    ·exact hp z hz
    ·rw [mem_singleton.mp hz];exact hpp
   rw [Xy (show (0:Int) < kinds.length by omega)]
   obtain ⟨g1,g2⟩:=mod_lt (n:=kinds.length) (m % 5) (by omega)
   obtain ⟨p,hp1,hp2⟩:=Wn D.str kinds g1 g2
   have g3:=mod_lt (n:=3) (m / 5) (by decide)
   obtain ⟨p',hp3,hp4⟩:=Wn D.str words (i:=m / 5 % 3) g3.1 (by rw [w3];exact g3.2)
   exact ⟨by decide,Uj (fun _=>⟨by decide,by omega,_,hp2,by omega,by decide,XD (by decide) (by decide),nxt p (.inl hp1)⟩) (fun _=>⟨by decide,XD (by decide) (by decide),by decide,_,hp4,by omega,by decide,XD (by decide) (by decide),nxt p' (.inr hp3)⟩)⟩
  ·obtain ⟨m,ps,s,rfl,m0,m1,hl,hp⟩:=hd
   walk_at "rd"
   have good:(∀ p,ps=[p]→p∈kinds→h < kinds.idxOf p)→q (.tup (ps.map .str)):=fun z=>hq ps ⟨by omega,by omega,hp,z⟩
   refine Uj (fun e=>?_) (fun e=>good fun p z=>by rw [z] at hl;simp at hl;omega)
   obtain ⟨p,rfl⟩:∃ p,ps=[p]:=List.length_eq_one_iff.mp (by omega)
   refine ⟨.str p,rfl,?_⟩
   rw [FI _ (by omega),←List.map_take]
   walk_at "rd"
   have et:((h:Int) + 1).toNat=h + 1:=by omega
   rw [et]
   refine Uj (fun e1=>?_) (fun e1=>good fun p' z hk=>?_)
   ·have g3:=mod_lt (n:=3) m (by decide)
    obtain ⟨p',hp3,hp4⟩:=Wn D.str words (i:=m % 3) g3.1 (by rw [w3];exact g3.2)
    refine ⟨by decide,_,hp4,by decide,hq [p'] ⟨by simp,by simp,fun z hz=>by rw [mem_singleton.mp hz];exact .inr hp3,fun z hz hk=>?_⟩⟩
    cases hz
    exact absurd hk (wk _ hp3)
   ·cases z
    have hi:=idxOf_lt_length_of_mem hk
    refine Nat.lt_of_not_le fun le=>e1 ?_
    have:=List.getElem_idxOf hi
    rw [←this]
    exact List.mem_take_iff_getElem.mpr ⟨_,by omega,rfl⟩
theorem qp {ns:List Int}{k:Int}{q:D→Prop}{x:Addr→Prop}:CN [.scr (ns.map .int),.int k] q x=(0≤k∧q (.int (atZ ns k))):=by
 unfold CN
 refine propext ⟨fun ⟨ns',k',e,h0,h⟩=>?_,fun ⟨h0,h⟩=>⟨ns,k,rfl,h0,h⟩⟩
 simp only [List.cons.injEq,D.scr.injEq,D.int.injEq,and_true] at e
 obtain ⟨e1,e2⟩:=e
 have inj:∀ a b:List Int,a.map D.int=b.map D.int→a=b:=by
  intro a
  induction a with
  | nil=>intro b e;cases b with
   | nil=>rfl
   | cons _ _=>cases e
  | cons u a ih=>intro b e;cases b with
   | nil=>cases e
   | cons v b =>
    simp only [map_cons,List.cons.injEq,D.int.injEq] at e
    rw [e.1,ih b e.2]
 have:ns=ns':=inj _ _ e1
 subst this
 subst e2
 exact ⟨h0,h⟩
theorem uy {c k:Int}{q:D→Prop}{x:Addr→Prop}:Fx [.int c,.int k] q x=(-(2 ^ 20) < k∧k < 2 ^ 20∧q (.int (mix c k))):=by
 unfold Fx
 refine propext ⟨fun ⟨c',k',e,h⟩=>?_,fun h=>⟨c,k,rfl,h⟩⟩
 cases e
 exact h
theorem Dv {c k:Int}{z:Str}{q:D→Prop}{x:Addr→Prop}:OL [.int c,.int k,.str z] q x=(-(2 ^ 20) < k∧k < 2 ^ 20∧q (wD (wP c k z) (wQ c k z))):=by
 unfold OL
 refine propext ⟨fun ⟨c',k',z',e,h⟩=>?_,fun h=>⟨c,k,z,rfl,h⟩⟩
 cases e
 exact h
def rd7:String:=rd6 ++ " qp uy Dv"
local macro_rules | `(tactic| walk_at "rd") => rdM rd7
theorem Hs.notin {kinds words:List Str}{n m:Nat}(hk:Hs s26 n kinds) (hw:Hs s36 m words):∀ w∈words,w∉kinds:=fun w h z=>by
 have a:=(hw.2.1 w h).wd
 have b:=(hk.2.1 w z).kd
 rw [Lw a] at b
 cases b
noncomputable def yo:DSp:=fun xs q _=>∃ (ns:List Int) (scale:Str),xs=[.scr (ns.map .int),.str scale]∧∀ kinds words rs,UN scale kinds words rs→q (.lst (rs.map Ye))
theorem Bl {A:Adr}(T:Txt K mg A):Zy P w K mg base (CXE P w) 4 A.TV A.Lf QV (spD K yo):=by
 have yp:=Bh (P:=P) (w:=w) (base:=base) T
 have yq:=Bi (P:=P) (w:=w) (base:=base) T
 have Bm:=Du (P:=P) (w:=w) (base:=base) T
 have G_l_at:=Ri (P:=P) (w:=w) (base:=base) T
 have G_l_mix:=Sf (P:=P) (w:=w) (base:=base) T
 have yr:=Bk (P:=P) (w:=w) (base:=base) T
 have IV:=Dk (P:=P) (w:=w) (base:=base) T
 haveI:TxC K A:=⟨⟨_,T⟩⟩
 refine T.Pj.F.okJ ZH (fun xs q x h=>?_) (fun cdv Ar outer s H E hr=>⟨_,(Za (Zo (i:=2) ZH.nd rfl (Or.inl rfl) (Zh yp T.Pb (hr.mono (by decide)) Zg (Zc (jv 0) Zb)))
   (Za (Zo (i:=3) ZH.nd rfl (Or.inl rfl) (Zh yq T.Pg (hr.mono (by decide)) Zg (Zc (jv 0) Zb)))
   (Za (Zo (i:=4) ZH.nd rfl (Or.inl rfl) (Zh Bm T.Rg (hr.mono (by decide)) Zg (Zc (jv 0) Zb)))
   (Za (Xd (i:=5) ZH.nd rfl (Or.inl rfl) (Xw Zb))
   (Za (YQ PassesOwn.leaving (XW (by rfl) T.b_range (Zc (Yo Yj (by rfl) T.b_len PySem.boot_len (Zc (jv 2) Zb)) Zb)) (Zi (i:=6) ZH.nd rfl (Or.inl rfl)) (Za (Zo (i:=7) ZH.nd rfl (Or.inl rfl) (Zh G_l_at T.L_l_at (hr.mono (by decide)) Zg (Zc (jv 0) (Zc (Zn ZK Zd (jv 6)) Zb))))
   (Za (Zo (i:=8) ZH.nd rfl (Or.inl rfl) (Zh G_l_mix T.L_l_mix (hr.mono (by decide)) Zg (Zc (jv 7) (Zc Zd Zb))))
   (Za (Zo (i:=9) ZH.nd rfl (Or.inl rfl) (Zm (Sz (Zc Yp (Zc Yp (Zc (Zm (jv 3) (Zn ZA (Zn ZT (jv 8) Zd) Zd)) Zb)))) (Zn ZA (Zn ZT (jv 8) Zd) Zd)))
   (Ze (Vj [] 5 (Xv (Zc (Zm (jv 4) (jv 6)) (Zc (Zm (jv 2) (jv 6)) (Zc (Xv (Zc (Zm (jv 3) (Zn ZA (jv 8) Zd)) Zb)) (Zc (Zh IV T.Ui (hr.mono (by decide)) Zg (Zc (jv 7) (Zc Zd (Zc (jv 1) Zb)))) (Zc (jv 9) (Zc NC Zb)))))))))))))
   (Za (Zo (i:=10) ZH.nd rfl (Or.inl rfl) (Zn ZA (Zh G_l_mix T.L_l_mix (hr.mono (by decide)) Zg (Zc (Zh G_l_at T.L_l_at (hr.mono (by decide)) Zg (Zc (jv 0) (Zc Zd Zb))) (Zc Zd Zb))) Zd))
   (Za (Zo (i:=4) ZH.nd rfl (Or.inl rfl) (Tt (jv 4) QI (UC (Zn ZK (Yo Yj (by rfl) T.b_len PySem.boot_len (Zc (jv 2) Zb)) (jv 10)))))
   (Za (YQ PassesOwn.leaving (XW (by rfl) T.b_range (Zc (jv 10) Zb)) (Zi (i:=6) ZH.nd rfl (Or.inl rfl)) (Za (Zo (i:=7) ZH.nd rfl (Or.inl rfl) (Zh G_l_at T.L_l_at (hr.mono (by decide)) Zg (Zc (jv 0) (Zc (Zn ZK Zd (jv 6)) Zb))))
   (Za (Zo (i:=8) ZH.nd rfl (Or.inl rfl) (Zh G_l_mix T.L_l_mix (hr.mono (by decide)) Zg (Zc (jv 7) (Zc Zd Zb))))
   (Za (Zo (i:=11) ZH.nd rfl (Or.inl rfl) (Zn ZA (jv 8) (Yo Yj (by rfl) T.b_len PySem.boot_len (Zc (jv 2) Zb))))
   (Za (Zo (i:=12) ZH.nd rfl (Or.inl rfl) (Zh yr T.Ph (hr.mono (by decide)) Zg (Zc (jv 2) (Zc (jv 3) (Zc (jv 11) (Zc (Zn ZT (jv 8) Zd) Zb))))))
   (Za (Zo (i:=13) ZH.nd rfl (Or.inl rfl) (Zh G_l_mix T.L_l_mix (hr.mono (by decide)) Zg (Zc (jv 7) (Zc Zd Zb))))
   (Za (Zo (i:=14) ZH.nd rfl (Or.inl rfl) NC)
   (Za (UQ (ZO [] (ZC (WX hr.WW) (Zn ZA (jv 13) Zd) Zd (ZF _)) (Ze (Zo (i:=14) ZH.nd rfl (Or.inl rfl) (zV (Xv (Zc (Zm (jv 4) (Zn ZA (Zn ZT (jv 13) Zd) (Yo Yj (by rfl) T.b_len PySem.boot_len (Zc (jv 4) Zb)))) (Zc (Zm (jv 4) (Zn ZA (Zn ZT (jv 13) Zd) (Yo Yj (by rfl) T.b_len PySem.boot_len (Zc (jv 4) Zb)))) Zb))) QI (UC (Zn ZK Zd (Zn ZA (Zn ZT (jv 13) Zd) Zd)))))) Zt))
   (Za (Zo (i:=9) ZH.nd rfl (Or.inl rfl) (Zm (Sz (Zc Yp (Zc Yp (Zc (Zm (jv 3) (Zn ZA (Zn ZT (jv 13) Zd) Zd)) Zb)))) (Zn ZA (Zn ZT (jv 13) Zd) Zd)))
   (Ze (Vj [] 5 (Xv (Zc (Zm (jv 4) (Zn ZK (Yo Yj (by rfl) T.b_len PySem.boot_len (Zc (jv 2) Zb)) (jv 6))) (Zc (Zm (jv 2) (jv 11)) (Zc (jv 12) (Zc (Zh IV T.Ui (hr.mono (by decide)) Zg (Zc (jv 7) (Zc Zd (Zc (jv 1) Zb)))) (Zc (jv 9) (Zc (jv 14) Zb))))))))))))))))))
   (Ze (Zr [5] (jv 5))))))))))),fun xs q x h=>?_⟩)
 ·obtain ⟨ns,scale,rfl,_⟩:=h
  rfl
 ·obtain ⟨ns,scale,rfl,hq⟩:=h
  have hsz:aA=16777216:=rfl
  walk_at "rd"
  refine ⟨ns,rfl,fun kinds hk k1 k3=>?_⟩
  walk_at "rd"
  refine ⟨ns,rfl,fun words hw=>?_⟩
  walk_at "rd"
  refine ⟨ns,rfl,fun titles ht=>?_⟩
  have w3:=hw.1
  have t9:=ht.1
  have wk:=hk.notin hw
  walk_at "rd"
  refine ⟨by decide,[],?_⟩
  walk_at "rd"
  refine ⟨by omega,by omega,SF (fun i ds'=>∃ (rs:List Ru) (s6 s7 s8 s9 s10 s11 s12 s13 s14:L2.Slot),ds'=[.v (.scr (ns.map .int)),.v (.str scale),.v (.lst (kinds.map .str)),.v (.lst (words.map .str)),.v (.lst (titles.map .str)),.own (rs.map Ye),s6,s7,s8,s9,s10,s11,s12,s13,s14]∧rs.length=i∧rs.map (·.ti)=titles.take i∧(∀ r∈rs,RowR scale kinds words [] r)∧∀ k,k < i→∃ r,rs[k]?=some r∧kinds[k]?=some r.hd∧r.t=none∧∃ w∈words,r.ps=[w]) ⟨[],_,_,_,_,_,_,_,_,_,rfl,rfl,rfl,fun r h=>(by cases h),fun k h=>by omega⟩ (fun i ds N hi hd hn=>?_) (fun ds hd=>?_)⟩
  ·obtain ⟨rs,s6,s7,s8,s9,s10,s11,s12,s13,s14,rfl,hl,hti,hr,hb⟩:=hd
   walk_at "rd"
   have wl:=wLow (atZ ns (4 + (0 + (i:Int)))) 3 scale
   have m0:=Qo (atZ ns (4 + (0 + (i:Int)))) 2
   have m1:=Ln (atZ ns (4 + (0 + (i:Int)))) 2
   generalize mix (atZ ns (4 + (0 + (i:Int)))) 2=m at m0 m1 ⊢
   generalize atZ ns (4 + (0 + (i:Int)))=cell at wl ⊢
   have g1:=mod_lt (n:=3) (m / 3) (by decide)
   obtain ⟨w1,hw1,ew1⟩:=Wn D.str words (i:=m / 3 % 3) g1.1 (by rw [w3];exact g1.2)
   have g2:=mod_lt (n:=3) (m / 9) (by decide)
   obtain ⟨tg,htg,etg⟩:=Wn D.str ["", "",w1] (i:=m / 9 % 3) g2.1 g2.2
   have g3:=mod_lt (n:=3) m (by decide)
   obtain ⟨w2,hw2,ew2⟩:=Wn D.str words (i:=m % 3) g3.1 (by rw [w3];exact g3.2)
   have hit:i < titles.length:=by omega
   have hik:i < kinds.length:=by omega
   have et:atI (titles.map D.str) (0 + (i:Int))=some (.str titles[i]):=by rw [Int.zero_add];exact XZ (by rw [getElem?_map,aB hit];rfl)
   have ek:atI (kinds.map D.str) (0 + (i:Int))=some (.str kinds[i]):=by rw [Int.zero_add];exact XZ (by rw [getElem?_map,aB hik];rfl)
   refine ⟨by omega,by decide,by decide,by decide,XD (by decide) (by decide),by decide,_,ew1,by decide,by decide,XD (by decide) (by decide),by decide,_,etg,_,et,_,ek,by decide,_,ew2,by decide,by decide,by decide,by decide,by omega,hn _ ⟨rs++[⟨titles[i],kinds[i],[w2],wP cell 3 scale,wQ cell 3 scale,tg,none⟩],_,_,_,_,_,_,_,_,_,by rw [map_append];rfl,by rw [length_append,hl];rfl,?_,fun r h=>?_,fun k h=>?_⟩⟩
   ·rw [map_append,hti,take_add_one,aB hit]
    rfl
   ·rcases mem_append.mp h with h | h
    ·exact hr r h
    ·rw [mem_singleton.mp h]
     refine ⟨getElem_mem hik,Nat.le_refl _,by simp,fun p hp=>?_,fun p hp hk'=>?_,wl.1,wl.2.1,wl.2.2.1,wl.2.2.2,?_,fun us hu=>by cases hu⟩
     ·rw [mem_singleton.mp hp];exact .inr hw2
     ·cases hp
      exact absurd hk' (wk _ hw2)
     ·simp only [mem_cons,not_mem_nil,or_false] at htg
      rcases htg with e | e | e
      ·exact .inl e
      ·exact .inl e
      ·exact .inr (e ▸ hw1)
   ·by_cases e:k < i
    ·obtain ⟨r,h1,h2⟩:=hb k e
     exact ⟨r,by rw [getElem?_append_left (by omega)];exact h1,h2⟩
    ·have e:k=i:=by omega
     subst e
     refine ⟨_,by rw [getElem?_append_right (by omega),hl,Nat.sub_self];rfl,aB hik,rfl,w2,hw2,rfl⟩
  ·obtain ⟨rs,s6,s7,s8,s9,s10,s11,s12,s13,s14,rfl,hl,hti,hr,hb⟩:=hd
   walk_at "rd"
   have nb:=mod_lt (n:=7) (mix (atZ ns 0) 4) (by decide)
   generalize hmany:mix (atZ ns 0) 4 % 7=many at nb
   obtain ⟨n6,rfl⟩:∃ n:Nat,many=n:=⟨many.toNat,by omega⟩
   rw [FI _ (by omega),←List.map_take]
   have et2:((kinds.length:Int) + (n6:Int)).toNat=kinds.length + n6:=by omega
   rw [et2]
   have tl:(titles.take (kinds.length + n6)).length=kinds.length + n6:=by rw [length_take];omega
   generalize htt:titles.take (kinds.length + n6)=tis at tl
   refine ⟨by decide,by decide,by decide,by decide,[],?_⟩
   walk_at "rd"
   have hti2:rs.map (·.ti)=tis.take kinds.length:=by rw [hti,←htt,List.take_take];congr 1;omega
   refine ⟨by omega,by omega,SF (fun i ds'=>∃ (rs:List Ru) (s6 s7 s8 s9 s11 s12 s13 s14:L2.Slot),ds'=[.v (.scr (ns.map .int)),.v (.str scale),.v (.lst (kinds.map .str)),.v (.lst (words.map .str)),.v (.lst (tis.map .str)),.own (rs.map Ye),s6,s7,s8,s9,.v (.int n6),s11,s12,s13,s14]∧rs.length=kinds.length + i∧rs.map (·.ti)=tis.take (kinds.length + i)∧(∀ r∈rs,RowR scale kinds words tis r)∧∀ k,k < kinds.length→∃ r,rs[k]?=some r∧kinds[k]?=some r.hd∧r.t=none∧∃ w∈words,r.ps=[w]) ⟨rs,_,_,_,_,_,_,_,_,rfl,hl,hti2,fun r h=>?_,hb⟩ (fun i ds N hi hd hn=>?_) (fun ds hd=>?_)⟩
   ·obtain ⟨a1,a2,a3,a4,a5,a6,a7,a8,a9,a10,a11⟩:=hr r h
    exact ⟨a1,a2,a3,a4,a5,a6,a7,a8,a9,a10,fun us hu=>by
     obtain ⟨b1,b2,b3⟩:=a11 us hu
     cases us with
     | nil=>simp at b1
     | cons u us=>exact absurd (b3 u (mem_cons_self ..)) (by simp)⟩
   ·clear hr hb hl hti hti2 rs
    obtain ⟨rs,s6,s7,s8,s9,s11,s12,s13,s14,rfl,hl,hti,hr,hb⟩:=hd
    walk_at "rd"
    have wl:=wLow (atZ ns (7 + (0 + (i:Int)))) 3 scale
    have m0:=Qo (atZ ns (7 + (0 + (i:Int)))) 5
    have m1:=Ln (atZ ns (7 + (0 + (i:Int)))) 5
    have n0:=Qo (atZ ns (7 + (0 + (i:Int)))) 6
    have n1:=Ln (atZ ns (7 + (0 + (i:Int)))) 6
    generalize mix (atZ ns (7 + (0 + (i:Int)))) 5=m at m0 m1 ⊢
    generalize mix (atZ ns (7 + (0 + (i:Int)))) 6=n at n0 n1 ⊢
    generalize atZ ns (7 + (0 + (i:Int)))=cell at wl ⊢
    rw [Xy (show (0:Int) < kinds.length by omega)]
    obtain ⟨h1,h2⟩:=mod_lt (n:=kinds.length) m (by omega)
    obtain ⟨h,eh⟩:∃ h:Nat,m % (kinds.length:Int)=h:=⟨(m % (kinds.length:Int)).toNat,by omega⟩
    rw [eh] at h1 h2 ⊢
    have hh:h < kinds.length:=by omega
    refine ⟨by omega,by decide,by decide,by omega,by decide,XD (by decide) (by decide),kinds,words,h,m / 3,rfl,k1,k3,w3,wk,hh,by omega,by omega,fun ps hps=>?_⟩
    walk_at "rd"
    refine ⟨by decide,by decide,fun ds'=>∃ t:Option (List Str),ds'=[.v (.scr (ns.map .int)),.v (.str scale),.v (.lst (kinds.map .str)),.v (.lst (words.map .str)),.v (.lst (tis.map .str)),.own (rs.map Ye),.v (.int (0 + (i:Int))),.v (.int cell),.v (.int m),s9,.v (.int n6),.v (.int h),.v (.tup (ps.map .str)),.v (.int n),.v (IJ t)]∧∀ us,t=some us→1≤us.length∧us.length≤2∧∀ u∈us,u∈tis,?_,?_⟩
    ·walk_at "rd"
     refine ⟨by decide,Uj (fun e=>?_) (fun e=>⟨none,rfl,fun us z=>by cases z⟩)⟩
     rw [Xy (show (0:Int) < tis.length by omega),Xy (show (0:Int) < tis.length by omega)]
     obtain ⟨a1,a2⟩:=mod_lt (n:=tis.length) (n / 4) (by omega)
     obtain ⟨u1,hu1,eu1⟩:=Wn D.str tis a1 a2
     obtain ⟨b1,b2⟩:=mod_lt (n:=tis.length) (n / 36) (by omega)
     obtain ⟨u2,hu2,eu2⟩:=Wn D.str tis b1 b2
     have nb2:=mod_lt (n:=2) (n / 324) (by decide)
     refine ⟨by decide,XD (by decide) (by decide),by omega,_,eu1,by decide,XD (by decide) (by decide),by omega,_,eu2,by decide,by decide,XD (by decide) (by decide),by decide,some (([u1,u2]:List Str).take (1 + n / 324 % 2).toNat),?_,fun us z=>?_⟩
     ·rw [FI _ (by omega)]
      show _=D.tup _
      rw [List.map_take]
      rfl
     ·cases z
      rw [length_take]
      simp only [length_cons,length_nil]
      refine ⟨by omega,by omega,fun u hu=>?_⟩
      have:=mem_of_mem_take hu
      simp only [mem_cons,not_mem_nil,or_false] at this
      rcases this with e | e <;> rw [e] <;> assumption
    rintro _ ⟨t,rfl,htt'⟩
    walk_at "rd"
    have g1:=mod_lt (n:=3) (n / 648) (by decide)
    obtain ⟨w1,hw1,ew1⟩:=Wn D.str words (i:=n / 648 % 3) g1.1 (by rw [w3];exact g1.2)
    have g2:=mod_lt (n:=3) (n / 1944) (by decide)
    obtain ⟨tg,htg,etg⟩:=Wn D.str ["", "",w1] (i:=n / 1944 % 3) g2.1 g2.2
    have hit:kinds.length + i < tis.length:=by omega
    have et:atI (tis.map D.str) ((kinds.length:Int) + (0 + (i:Int)))=some (.str tis[kinds.length + i]):=by
     rw [Int.zero_add,show (kinds.length:Int) + (i:Int)=((kinds.length + i:Nat):Int) by omega]
     exact XZ (by rw [getElem?_map,aB hit];rfl)
    have ek:atI (kinds.map D.str) (h:Int)=some (.str kinds[h]):=XZ (by rw [getElem?_map,aB hh];rfl)
    refine ⟨by decide,XD (by decide) (by decide),by decide,_,ew1,by decide,by decide,XD (by decide) (by decide),by decide,_,etg,_,et,_,ek,by decide,by decide,by decide,by omega,hn _ ⟨rs++[⟨tis[kinds.length + i],kinds[h],ps,wP cell 3 scale,wQ cell 3 scale,tg,t⟩],_,_,_,_,_,_,_,_,by rw [map_append];rfl,by rw [length_append,hl];rfl,?_,fun r hm=>?_,fun k hk'=>?_⟩⟩
    ·rw [map_append,hti,←Nat.add_assoc,take_add_one,aB hit]
     rfl
    ·rcases mem_append.mp hm with hm | hm
     ·exact hr r hm
     ·rw [mem_singleton.mp hm]
      obtain ⟨q1,q2,q3,q4⟩:=hps
      refine ⟨getElem_mem hh,q1,q2,q3,fun p hp hk'=>?_,wl.1,wl.2.1,wl.2.2.1,wl.2.2.2,?_,htt'⟩
      ·have:=q4 p hp hk'
       have ei:kinds.idxOf kinds[h]=h:=Nodup.idxOf_getElem hk.2.2 h hh
       show kinds.idxOf kinds[h] < _
       rw [ei]
       exact this
      ·simp only [mem_cons,not_mem_nil,or_false] at htg
       rcases htg with e | e | e
       ·exact .inl e
       ·exact .inl e
       ·exact .inr (e ▸ hw1)
    ·obtain ⟨r,z1,z2⟩:=hb k hk'
     exact ⟨r,by rw [getElem?_append_left (by omega)];exact z1,z2⟩
   ·obtain ⟨rs,s6,s7,s8,s9,s11,s12,s13,s14,rfl,hl,hti,hr,hb⟩:=hd
    walk_at "rd"
    have en:(((n6:Int)).toNat)=n6:=by omega
    refine hq kinds words rs ⟨hk,k1,k3,hw,by omega,?_,⟨titles,ht,?_⟩,?_,hb⟩
    ·omega
    ·rw [hti,←htt,List.take_take,hl];congr 1;omega
    ·have:rs.map (·.ti)=tis:=by rw [hti,List.take_of_length_le (by omega)]
     rw [this]
     exact hr
theorem UN.kd {sc:Str}{kinds words:List Str}{rs:List Ru}(h:UN sc kinds words rs):∀ z∈kinds,Uk z=true:=fun z hz=>(h.k.2.1 z hz).kd
theorem UN.wd {sc:Str}{kinds words:List Str}{rs:List Ru}(h:UN sc kinds words rs):∀ z∈words,Sg z=true:=fun z hz=>(h.w.2.1 z hz).wd
theorem UN.heads {sc:Str}{kinds words:List Str}{rs:List Ru}(h:UN sc kinds words rs):∀ z∈kinds,z∈rs.map (·.hd):=fun z hz=>by
 obtain ⟨r,h1,h2,_⟩:=h.base _ (idxOf_lt_length_of_mem hz)
 have hi:=idxOf_lt_length_of_mem hz
 rw [aB hi,List.getElem_idxOf hi] at h2
 exact mem_map.mpr ⟨r,mem_of_getElem? h1,(Option.some.inj h2).symm⟩
theorem UN.good {sc:Str}{kinds words:List Str}{rs:List Ru}{st:Str}(h:UN sc kinds words rs) (hs:st∈kinds) (hsc:sc = "cost" ∨ sc = "chance"):Good sc st rs:=by
 obtain ⟨titles,ht,hti⟩:=h.ti
 have kk:=h.kd
 have ww:=h.wd
 have tt:∀ z∈titles,Sg z=true:=fun z hz=>(ht.2.1 z hz).wd
 have tr:∀ z∈rs.map (·.ti),Sg z=true:=fun z hz=>tt z (by rw [hti] at hz;exact mem_of_mem_take hz)
 have ti:∀ r∈rs,Sg r.ti=true:=fun r hr=>tr _ (mem_map.mpr ⟨r,hr,rfl⟩)
 have hk:∀ z∈rs.map (·.hd),z∈kinds:=fun z hz=>by obtain ⟨r,hr,rfl⟩:=mem_map.mp hz;exact (h.row r hr).hd
 have pn:∀ r∈rs,∀ p∈r.ps,isNm p=true:=fun r hr p hp=>by
  rcases (h.row r hr).ps p hp with z | z
  ·exact Dr (kk p z)
  ·exact Ds (ww p z)
 have lr:=h.len
 have hn:rs≠[]:=fun z=>by have a:=h.nk;have b:=h.k1;rw [z] at a;simp only [length_nil] at a;omega
 refine ⟨⟨by omega,fun r hr=>?_⟩,fun r hr=>?_,?_,?_,?_,?_⟩
 ·have R:=h.row r hr
  refine ⟨Jw (Ds (ti r hr)),Jw (Dr (kk _ R.hd)),fits_of (by have:=R.p4;omega) (pn r hr),fun us e=>?_⟩
  obtain ⟨x1,x2,x3⟩:=R.un us e
  exact fits_of (by omega) fun u hu=>Ds (tr u (x3 u hu))
 ·have R:=h.row r hr
  unfold XS
  have e3:WV r.ps=true:=by
   unfold WV
   rw [decide_eq_true R.p1,decide_eq_true R.p4,all_eq_true.mpr (pn r hr)]
   rfl
  have e4:(decide (r.tg = "") || Sg r.tg)=true:=by
   rcases R.tg with e | e
   ·rw [decide_eq_true e];rfl
   ·rw [ww _ e];simp
  have e5:Ay r.t=true:=by
   cases e:r.t with
   | none=>rfl
   | some us =>
    obtain ⟨x1,x2,x3⟩:=R.un us e
    show Vg us=true
    unfold Vg
    rw [decide_eq_true x1,all_eq_true.mpr fun u hu=>tr u (x3 u hu)]
    rfl
  rw [ti r hr,kk _ R.hd,e3,e4,e5]
  rfl
 ·refine mI rs [] (fun r hr=>?_) ?_ (fun r _=>by simp)
  ·unfold okW
   rcases hsc with e | e
   ·rw [decide_eq_true e];rfl
   ·rw [decide_eq_true ((h.row r hr).pos e)];simp
  rw [hti]
  exact ht.2.2.sublist (List.take_sublist _ _)
 ·unfold ctu
  rw [all_eq_true]
  intro r hr
  unfold Qq
  cases e:r.t with
  | none=>rfl
  | some us =>
   simp only
   rw [all_eq_true]
   intro u hu
   exact decide_eq_true (((h.row r hr).un us e).2.2 u hu)
 ·unfold ck
  rw [decide_eq_true (h.heads st hs),Bool.true_and,all_eq_true]
  intro r hr
  unfold IK
  rw [all_eq_true]
  intro p hp
  obtain ⟨h1,h2⟩:=mem_filter.mp hp
  rcases (h.row r hr).ps p h1 with z | z
  ·exact decide_eq_true (h.heads p z)
  ·rw [Lw (ww p z)] at h2;cases h2
 ·have wn:waitOf rs≠[]:=fun z=>by
   obtain ⟨r0,e0⟩:∃ r0,r0∈rs:=by
    cases rs with
    | nil=>exact absurd rfl hn
    | cons a b=>exact ⟨a,mem_cons_self ..⟩
   have:r0.hd∈waitOf rs:=(Dt _ _).mpr (mem_map.mpr ⟨r0,e0,rfl⟩)
   rw [z] at this
   cases this
  have up:∀ s∈XI rs,s.2∈waitOf rs→kinds.idxOf s.1 < kinds.idxOf s.2:=fun s hs hw=>by
   unfold XI at hs
   obtain ⟨r,hr,rfl⟩:=mem_map.mp hs
   obtain ⟨hr,hl⟩:=mem_filter.mp hr
   obtain ⟨p,ep⟩:=List.length_eq_one_iff.mp (of_decide_eq_true hl)
   have R:=h.row r hr
   have e:r.ps.getD 0 "" = p:=by rw [ep];rfl
   simp only [e] at hw ⊢
   exact R.one p ep (hk p ((Dt _ _).mp hw))
  obtain ⟨res,h1,h2⟩:=Hio.all (steps:=XI rs) (fun z=>kinds.idxOf z) _ (waitOf rs) (waitOf rs) [] (Nat.le_refl _) up wn
  exact ⟨res,h1,by rw [h2];simp⟩
section
variable {r:Ru}{q:D→Prop}
theorem zt_0:dIx (Ye r) (.int (no_index 0)) q=q (.str r.ti):=by show (∃ d,some (D.str r.ti)=some d∧q d)=_;simp
theorem zt_1:dIx (Ye r) (.int (no_index 1)) q=q (.str r.hd):=by show (∃ d,some (D.str r.hd)=some d∧q d)=_;simp
theorem zt_2:dIx (Ye r) (.int (no_index 2)) q=q (.tup (r.ps.map .str)):=by show (∃ d,some (D.tup (r.ps.map .str))=some d∧q d)=_;simp
theorem zt_3:dIx (Ye r) (.int (no_index 3)) q=q (wD r.wa r.wb):=by show (∃ d,some (wD r.wa r.wb)=some d∧q d)=_;simp
theorem zt_4:dIx (Ye r) (.int (no_index 4)) q=q (.str r.tg):=by show (∃ d,some (D.str r.tg)=some d∧q d)=_;simp
theorem zt_5:dIx (Ye r) (.int (no_index 5)) q=q (IJ r.t):=by show (∃ d,some (IJ r.t)=some d∧q d)=_;simp
theorem yt:(IJ r.t).Vu=r.t.isNone:=by cases r.t <;> rfl
end
def rd8:String:=rd7 ++ " zt_0 zt_1 zt_2 zt_3 zt_4 zt_5 yt"
local macro_rules | `(tactic| walk_at "rd") => rdM rd8
theorem Good.made {A:Adr}{z st:Str}{rs:List Ru}(h:Good z st rs) (hz:z = "cost" ∨ z = "chance") {q:List (Str × D)→Prop}{x:Addr→Prop}(hq:q (ud A z st rs)):Uo A [.str z,.str st,.lst (rs.map (Ru.d A))] q x:=by
 obtain ⟨res,h1,h2⟩:=h.ring
 exact ⟨z,st,rs,rfl,h.fit,.inr ⟨hz,.inr (.inr ⟨h.wt,.inr ⟨h.un,.inr ⟨h.kd,res,h1,.inr ⟨h2,hq⟩⟩⟩⟩)⟩⟩
theorem OQ {A:Adr}{r:Ru}(hf:r.Fit) (ho:XS r.ti r.hd r.ps r.tg r.t=true) (lt:r.tg.length≤1000) {q:List (Str × D)→Prop}{x:Addr→Prop}(hq:q (ua r.ti r.hd r.ps (wD r.wa r.wb) r.tg r.t)) :
  RD A [.str r.ti,.str r.hd,.lst (r.ps.map .str),wD r.wa r.wb,.str r.tg,IJ r.t] q x:=by
 obtain ⟨m1,m2,m3,m4⟩:=hf
 refine ⟨_,_,_,r.ps,_,_,_,r.t,rfl,.inl rfl,m3,?_,m1,m2,lt,fun _=>hq,fun z=>by rw [ho] at z;cases z⟩
 cases e:r.t with
 | none=>rfl
 | some us=>exact ⟨.inr rfl,m4 us e⟩
theorem FJ {r:Ru}(ho:XS r.ti r.hd r.ps r.tg r.t=true):r.tg.length≤1000:=by
 unfold XS at ho
 simp only [aD,Bool.or_eq_true,decide_eq_true_eq] at ho
 rcases ho.1.2 with e | e
 ·rw [e];decide +kernel
 ·exact Jw (Ds e)
noncomputable def Dw (A:Adr):DSp:=fun xs q _=>∃ (sc:Str) (rs:List Ru) (r0:Ru),xs=[.lst (rs.map Ye),.str sc]∧(sc = "cost" ∨ sc = "chance")∧rs[0]?=some r0∧Good sc r0.hd rs∧q (Gr A sc r0.hd rs)
theorem FK {A:Adr}(T:Txt K mg A):Zy P w K mg base (CXE P w) 7 A.Ve A.Ql UH (spD K (Dw A)):=by
 have OS:=Px (P:=P) (w:=w) (base:=base) T
 have RE:=Lq (P:=P) (w:=w) (base:=base) T
 haveI:TxC K A:=⟨⟨_,T⟩⟩
 refine T.UM.F.okJ SV (fun xs q x h=>?_) (fun cdv Ar outer s H E hr=>⟨_,(Za (Xd (i:=2) SV.nd rfl (Or.inl rfl) (Xw Zb))
   (Za (YQ PassesOwn.leaving (ZY (jv 0)) (Zi (i:=3) SV.nd rfl (Or.inl rfl)) (Ze (ZO [] (Oe (Od (ZC (WX hr.WW) (Zm (jv 3) Zd) Yp (ZF _)) (Sy (ZC GX (Zm (jv 3) Zd) NC (ZF _))))) (Ze (Vj [] 2 (Fi (dvs:=[.str "",.non]) (dds:=[.str "",.non]) T.mk_Rule RE (hr.mono (by decide)) (by rfl) T.M_Rule T.Lk (.cons ⟨_,rfl⟩ (.cons rfl .nil)) (fun _=>⟨_,_,rfl,rfl,⟨_,_,rfl,rfl,rfl⟩⟩) Zg (Zc (Zm (jv 3) Zd) (Zc (Zm (jv 3) Zd) (Zc (Tv Fb (by rfl) T.b_list PyProof.Rows.boot_list (Zc (Zm (jv 3) Zd) Zb)) (Zc (Zm (jv 3) Zd) Zb))))))) (Ze (Vj [] 2 (Fi (dvs:=[]) (dds:=[]) T.mk_Rule RE (hr.mono (by decide)) (by rfl) T.M_Rule T.Yx .nil (fun _=>rfl) Zg (Zc (Zm (jv 3) Zd) (Zc (Zm (jv 3) Zd) (Zc (Tv Fb (by rfl) T.b_list PyProof.Rows.boot_list (Zc (Zm (jv 3) Zd) Zb)) (Zc (Zm (jv 3) Zd) (Zc (Zm (jv 3) Zd) (Zc (Zm (jv 3) Zd) Zb))))))))))))
   (Ze (Zr [2] (Fi (dvs:=[]) (dds:=[]) T.Ug OS (hr.mono (by decide)) (by rfl) T.zX T.Yd .nil (fun _=>rfl) Zg (Zc (jv 1) (Zc (Zm (Zm (jv 0) Zd) Zd) (Zc (jv 2) Zb)))))))),fun xs q x h=>?_⟩)
 ·obtain ⟨sc,rs,r0,rfl,_⟩:=h
  rfl
 ·obtain ⟨sc,rs,r0,rfl,hsc,h0,hg,hq⟩:=h
  have hsz:aA=16777216:=rfl
  obtain ⟨l1,l2⟩:=hg.fit
  walk_at "rd"
  refine ⟨by decide,[],?_⟩
  walk_at "rd"
  refine Yq (fun i ds'=>∃ s3:L2.Slot,ds'=[.v (.lst (rs.map Ye)),.v (.str sc),.own ((rs.take i).map (Ru.d A)),s3]) ⟨_,by rw [take_zero];rfl⟩ (fun i r ds N hr hd hn=>?_) (fun ds ⟨s3,e⟩=>?_)
  ·obtain ⟨s3,rfl⟩:=hd
   have hm:=mem_of_getElem? hr
   have ok:=hg.ok r hm
   have lt:(rs.take i).length≤1000:=by rw [length_take];omega
   have nx:(rs.take i).length < aA∧N [.v (.lst (rs.map Ye)),.v (.str sc),.own ((rs.take i).map (Ru.d A)++[r.d A]),.v (Ye r)]:=⟨by omega,hn _ ⟨.v (Ye r),by rw [take_add_one,hr];simp⟩⟩
   walk_at "rd"
   refine Uj (fun e=>?_) (fun e=>OQ (l2 r hm) ok (FJ ok) nx)
   refine ifB (fun e1=>?_) (fun e1=>OQ (l2 r hm) ok (FJ ok) nx)
   have:=OQ (A:=A) (x:=x) (l2 r hm) ok (FJ ok) (q:=fun gs=>(rs.take i).length < aA∧N [.v (.lst (rs.map Ye)),.v (.str sc),.own ((rs.take i).map (Ru.d A)++[.obj A.C_Rule gs]),.v (Ye r)]) nx
   rw [e,Option.isNone_iff_eq_none.mp e1] at this
   exact this
  ·subst e
   walk_at "rd"
   rw [take_length]
   have:atI (rs.map Ye) 0=some (Ye r0):=XZ (j:=0) (by rw [getElem?_map,h0];rfl)
   refine ⟨_,this,?_⟩
   walk_at "rd"
   exact hg.made hsc hq
noncomputable def yu (A:Adr):DSp:=fun xs q _=>∃ ns:List Int,xs=[.scr (ns.map .int)]∧∀ (sc:Str) kinds words rs r0,(sc = "cost" ∨ sc = "chance")→UN sc kinds words rs→rs[0]?=some r0→Good sc r0.hd rs→q (.tup [.lst (rs.map Ye),Gr A sc r0.hd rs])
theorem Bn {A:Adr}(T:Txt K mg A):Zy P w K mg base (CXE P w) 8 A.TZ A.Li QY (spD K (yu A)):=by
 have yw:=Bl (P:=P) (w:=w) (base:=base) T
 have Dx:=FK (P:=P) (w:=w) (base:=base) T
 have G_l_at:=Ri (P:=P) (w:=w) (base:=base) T
 haveI:TxC K A:=⟨⟨_,T⟩⟩
 refine T.Pk.F.okJ Ou (fun xs q x h=>?_) (fun cdv Ar outer s H E hr=>⟨_,(Za (Zo (i:=1) Ou.nd rfl (Or.inl rfl) (Zm (Sz (Zc Yp (Zc Yp Zb))) (Zn ZA (Zh G_l_at T.L_l_at (hr.mono (by decide)) Zg (Zc (jv 0) (Zc Zd Zb))) Zd)))
   (Za (Zo (i:=2) Ou.nd rfl (Or.inl rfl) (Zh yw T.Pj (hr.mono (by decide)) Zg (Zc (jv 0) (Zc (jv 1) Zb))))
   (Ze (Zr [] (Xv (Zc (jv 2) (Zc (Zh Dx T.UM (hr.mono (by decide)) Zg (Zc (jv 2) (Zc (jv 1) Zb))) Zb))))))),fun xs q x h=>?_⟩)
 ·obtain ⟨ns,rfl,_⟩:=h
  rfl
 ·obtain ⟨ns,rfl,hq⟩:=h
  have hsz:aA=16777216:=rfl
  walk_at "rd"
  have nb:=mod_lt (n:=2) (atZ ns 0) (by decide)
  obtain ⟨sc,hsc,esc⟩:=Wn D.str ["cost", "chance"] (i:=atZ ns 0 % 2) nb.1 nb.2
  have hsc:sc = "cost" ∨ sc = "chance" := by simpa using hsc
  refine ⟨by decide,by decide,by decide,_,esc,ns,sc,rfl,fun kinds words rs hR=>?_⟩
  walk_at "rd"
  obtain ⟨r0,h0,hk0,_⟩:=hR.base 0 hR.k1
  have hG:=hR.good (mem_of_getElem? hk0) hsc
  exact ⟨sc,rs,r0,rfl,hsc,h0,hG,by decide,hq sc kinds words rs r0 hsc hR h0 hG⟩
-- depth,and the same shape
mutual
noncomputable def Tr.dp:Tr→Nat
 | .lf _=>0
 | .nd _ ts=>1 + Tr.dps ts
noncomputable def Tr.dps:List Tr→Nat
 | []=>0
 | t::ts=>max t.dp (Tr.dps ts)
end
mutual
noncomputable def Tr.sl:Tr→Bool
 | .lf (.str _)=>true
 | .lf _=>false
 | .nd _ ts=>Tr.sls ts
noncomputable def Tr.sls:List Tr→Bool
 | []=>true
 | t::ts=>t.sl && Tr.sls ts
end
theorem Tr.qq (a b:List Tr):Tr.sls (a++b)=(Tr.sls a && Tr.sls b):=by
 induction a with
 | nil=>simp [Tr.sls]
 | cons t a ih=>rw [cons_append,Tr.sls,Tr.sls,ih,Bool.and_assoc]
theorem Tr.qt (a b:List Tr):Tr.dps (a++b)=max (Tr.dps a) (Tr.dps b):=by
 induction a with
 | nil=>simp [Tr.dps]
 | cons t a ih=>rw [cons_append,Tr.dps,Tr.dps,ih];omega
theorem IW {rs:List Ru}{k:Int}{p:Str}{t:Tr}:∀ {ps:List Str}{ts:List Tr},ps.length=ts.length→Xk rs (ps++[p]) k (ts++[t])=(Xk rs ps k ts && XF rs p k t)
 | [],[],_=>by simp [Xk]
 | [],_::_,h=>by cases h
 | _::_,[],h=>by cases h
 | a::ps,b::ts,h=>by
  rw [cons_append,cons_append,Xk,Xk,IW (by simpa using h),Bool.and_assoc]
noncomputable def cw (kinds:List Str) (p:Str):Nat:=if p∈kinds then 5 - kinds.idxOf p else 1
theorem cw_sum (kinds l:List Str):(l.map (cw kinds)).sum≤5 * l.length:=by
 induction l with
 | nil=>simp
 | cons y l ih =>
  have:cw kinds y≤5:=by unfold cw;split <;> omega
  rw [map_cons,sum_cons,length_cons]
  omega
theorem qu {a:Addr}{m:MO}:List.lookup a ([(a,m)]:Mu)=some m:=by simp [List.lookup]
theorem mL {a:Addr}{m m':MO}:Mu.put [(a,m)] a m'=[(a,m')]:=by simp [Mu.put]
theorem pN {x:D}{xs:List D}:atI (x::xs) (no_index 0)=some x:=by unfold atI;rw [length_cons,OO (by decide) (by omega)];rfl
theorem z_at1 {x y:D}{xs:List D}:atI (x::y::xs) (no_index 1)=some y:=by unfold atI;rw [length_cons,length_cons,OO (by decide) (by omega)];rfl
theorem z_ix0 {n:Nat}:ixN (n + 1) (no_index 0)=some 0:=OO (by decide) (by omega)
theorem z_ix1 {n:Nat}:ixN (n + 1 + 1) (no_index 1)=some 1:=OO (by decide) (by omega)
def rd9:String:=rd8 ++ " beq_self_eq_true pN z_at1 z_ix0 z_ix1 Ir qu mL Slot.st.injEq D.rf.injEq MO.lst.injEq"
local macro_rules | `(tactic| walk_at "rd") => rdM rd9
noncomputable def yx:Nat→Ip
 | 0=>fun _ _ _=>False
 | n + 1=>fun xs μ q=>∃ (sc:Str) (kinds words:List Str) (rs:List Ru) (ns:List Int) (a:Addr) (c sp:Int) (kd:Str) (ab:Int),xs=[.lst (rs.map Ye),.scr (ns.map .int),.rf a,.str kd,.int ab]∧μ=[(a,.lst [.int c,.int sp])] ∧
  UN sc kinds words rs∧kd∈kinds∧Be rs ab∧0≤c∧c + 40 * sp + 5≤100000 + kinds.idxOf kd∧0≤sp∧sp≤11∧3 * sp + 3≤(n:Int) + 1 + kinds.idxOf kd ∧
  ∀ t c' sp',XF rs kd ab t=true→t.RJ=true→t.sl=true→t.dp≤n + 1→c≤c'→c'≤c + t.sz→0≤sp'→sp'≤sp→(t.sz:Int) + kinds.idxOf kd≤40 * (sp - sp') + 5→q t.d [(a,.lst [.int c',.int sp'])]
theorem mM {p:Str}(h:isNm p=true):decide (fst p∈s26.cps.toList)=Uk p:=by
 unfold Uk grS
 rw [h,Bool.true_and]
noncomputable def Lx (rs:List Ru) (kd:Str) (ab:Int) (j:Nat):Bool:=match rs[j]? with
 | some r=>decide (r.hd=kd) && stands rs r ab
 | none=>false
noncomputable def Rm (rs:List Ru) (kd:Str) (ab:Int) (n:Nat):List Nat:=(List.range n).filter (Lx rs kd ab)
theorem qv {rs:List Ru}{kd:Str}{ab:Int}{n j:Nat}(h:j∈Rm rs kd ab n):∃ r,rs[j]?=some r∧r.hd=kd∧stands rs r ab=true:=by
 have:=(mem_filter.mp h).2
 unfold Lx at this
 cases e:rs[j]? with
 | none=>rw [e] at this;cases this
 | some r =>
  rw [e] at this
  simp only [aD,decide_eq_true_eq] at this
  exact ⟨r,rfl,this⟩
theorem UN.first {sc:Str}{kinds words:List Str}{rs:List Ru}(h:UN sc kinds words rs) {kd:Str}(hk:kd∈kinds) (ab:Int):∃ r l,Rm rs kd ab rs.length=kinds.idxOf kd::l∧rs[kinds.idxOf kd]?=some r∧r.hd=kd∧r.t=none∧∃ w∈words,r.ps=[w]:=by
 have hi:=idxOf_lt_length_of_mem hk
 obtain ⟨r,h1,h2,h3,h4⟩:=h.base _ hi
 rw [aB hi,List.getElem_idxOf hi] at h2
 have e2:r.hd=kd:=(Option.some.inj h2).symm
 have hb:Lx rs kd ab (kinds.idxOf kd)=true:=by
  unfold Lx
  rw [h1]
  simp only [e2,decide_true,Bool.true_and]
  unfold stands
  rw [h3]
 have no:∀ j,j < kinds.idxOf kd→Lx rs kd ab j=false:=fun j hj=>by
  obtain ⟨r',g1,g2,_⟩:=h.base j (by omega)
  unfold Lx
  rw [g1]
  have:r'.hd≠kd:=fun e=>by
   have z:=aB hi
   rw [List.getElem_idxOf hi] at z
   exact yd h.k.2.2 hj hi (by rw [z,g2,e])
  simp [this]
 have lt:kinds.idxOf kd < rs.length:=by have:=h.nk;omega
 have er:List.range rs.length=List.range (kinds.idxOf kd)++(List.range (rs.length - kinds.idxOf kd)).map (kinds.idxOf kd + ·):=by rw [←List.range_add];congr 1;omega
 have e0:(List.range (kinds.idxOf kd)).filter (Lx rs kd ab)=[]:=List.filter_eq_nil_iff.mpr fun j hj=>by rw [no j (mem_range.mp hj)];decide
 obtain ⟨m,em⟩:∃ m,rs.length - kinds.idxOf kd=m + 1:=⟨rs.length - kinds.idxOf kd - 1,by omega⟩
 refine ⟨r,((List.range m).map Nat.succ |>.map (kinds.idxOf kd + ·)).filter (Lx rs kd ab),?_,h1,e2,h3,h4⟩
 unfold Rm
 rw [er,List.filter_append,e0,nil_append,em,List.range_succ_eq_map,map_cons,Nat.add_zero,List.filter_cons_of_pos hb]
theorem IX {rs:List Ru}{j:Nat}{r:Ru}(h:rs[j]?=some r):atI (rs.map Ye) (j:Int)=some (Ye r):=XZ (by rw [getElem?_map,h];rfl)
theorem Dy {rs:List Ru}{r:Ru}{ab:Int}(h:Be rs ab) {q:Bool→Prop}(hq:q (stands rs r ab)):if r.t.isNone=true then q true else if decide (0≤ab)=true then ∃ d,atI (rs.map Ye) ab=some d∧dIx d (.int 0) (fun a=>dIn false a (IJ r.t) fun d=>∃ b,d = .bl b∧q b) else q false:=by
 unfold stands at hq
 cases e:r.t with
 | none=>rw [e] at hq;exact hq
 | some us =>
  rw [e] at hq
  simp only at hq
  rw [if_neg (by simp)]
  rcases h with h | ⟨h0,h1⟩
  ·rw [h] at hq ⊢
   exact hq
  ·rw [if_neg (by omega)] at hq
   rw [decide_eq_true h0,if_pos rfl]
   obtain ⟨r',hr'⟩:∃ r',rs[ab.toNat]?=some r':=⟨_,aB (by omega)⟩
   rw [hr'] at hq
   refine ⟨_,by rw [←Int.toNat_of_nonneg h0];exact IX hr',?_⟩
   rw [zt_0]
   show dIn false (.str r'.ti) (.tup (us.map .str)) _
   rw [An]
   exact ⟨_,rfl,hq⟩
theorem Bo {A:Adr}(T:Txt K mg A):∀ n,Zy P w K mg base (CXE P w) (2 + n) A.TX A.Lg QW (spS K 2 (yx n)):=by
 intro n
 induction n with
 | zero=>exact Zy.never fun vs H Q E h=>by first | (obtain ⟨_,_,_,_,_,_,_,_,_,h,_⟩:=h;exact h) | (obtain ⟨_,_,_,_,_,_,h,_⟩:=h;exact h)
 | succ n ih=>?_
 have Ly:=ih
 rw [show 2 + (n + 1)=(2 + n) + 1 by omega]
 have G_l_mix:=Sf (P:=P) (w:=w) (base:=base) T
 have G_l_at:=Ri (P:=P) (w:=w) (base:=base) T
 haveI:TxC K A:=⟨⟨_,T⟩⟩
 refine T.Xr.F.okS YD (fun xs μ q h=>?_) (fun cdv Ar outer s H E hr=>⟨_,(Za (Jr [] 2 (jvS 2) Zd (Zn ZK (VP 2 (jvS 2) Zd) Zd))
   (Za (Zo (i:=5) YD.nd rfl (Or.inl rfl) (Zh G_l_mix T.L_l_mix (hr.mono (by omega)) Zg (Zc (Zh G_l_at T.L_l_at (hr.mono (by omega)) Zg (Zc (jv 1) (Zc (Zn ZK Zd (Zn ZA (VP 2 (jvS 2) Zd) Zd)) Zb))) (Zc (VP 2 (jvS 2) Zd) Zb))))
   (Za (Xd (i:=6) YD.nd rfl (Or.inl rfl) (Xw Zb))
   (Za (UQ (YQ PassesOwn.leaving (tW (by rfl) T.Da (Zc (jv 0) Zb)) (We (n:=2) (Zw (Zi (i:=7) YD.nd rfl (Or.inl rfl)) (Zw (Zi (i:=8) YD.nd rfl (Or.inl rfl)) Xc))) (Ze (ZO [] (Oe (Od (ZC (WX hr.WW) (Zm (jv 8) Zd) (jv 3) (ZF _)) (Sy (Oe (RP (ZC GX (Zm (jv 8) Zd) NC (ZF _)) (RO (Oe (Od (ZC jo_ge (jv 4) Zd (ZF _)) (Sy (ZC Ts (Zm (Zm (jv 0) (jv 4)) Zd) (Zm (jv 8) Zd) (by with_unfolding_all rfl))))))))))) (Ze (Vj [] 6 (jv 7))) Zt))))
   (Za (Ai [6] (i:=7) YD.nd rfl (Or.inl rfl) (Zm (jv 6) (Zn ZA (jv 5) (Yo Yj (by rfl) T.b_len PySem.boot_len (Zc (jv 6) Zb)))))
   (Za (UQ (ZO [] (ZC Et (Zn xU (Yo Yj (by rfl) T.b_len PySem.boot_len (Zc (Zm (Zm (jv 0) (jv 7)) Zd) Zb)) Zd) (VP 2 (jvS 2) Zd) (ZF _)) (Ze (Ai [6] (i:=7) YD.nd rfl (Or.inl rfl) (Zm (jv 6) Zd))) Zt))
   (Za (Jr [] 2 (jvS 2) Zd (Zn ZK (Zn xU (VP 2 (jvS 2) Zd) (Yo Yj (by rfl) T.b_len PySem.boot_len (Zc (Zm (Zm (jv 0) (jv 7)) Zd) Zb))) Zd))
   (Za (Xd (i:=9) YD.nd rfl (Or.inl rfl) (Xw Zb))
   (Za (UQ (YQ PassesOwn.leaving (ZY (Zm (Zm (jv 0) (jv 7)) Zd)) (Zi (i:=10) YD.nd rfl (Or.inl rfl)) (Za (ZO [] (ZC Ts (Zm (jv 10) Zd) Yp (by with_unfolding_all rfl)) (Ze (ER (i:=10) 2 2 Ly (hr.mono (by omega)) (by rfl) T.Xr.m T.Xr.F.kp T.Xr.a Zg (Zc (jv 0) (Zc (jv 1) (Zc (jvS 2) (Zc (jv 10) (Zc (jv 7) Zb))))) YD.nd rfl (Or.inl rfl))) Zt)
   (Ze (Vj [] 9 (jv 10))))))
   (Ze (Av [9] (Xv (Zc (jv 7) (Zc (Tv Mz (by rfl) T.b_tuple PyProof.Rows.boot_tuple (Zc (jv 9) Zb)) Zb)))))))))))))),fun xs μ a q ha h=>?_⟩)
 ·obtain ⟨sc,kinds,words,rs,ns,a',c,sp,kd,ab,rfl,_⟩:=h
  rfl
 ·obtain ⟨sc,kinds,words,rs,ns,a',c,sp,kd,ab,rfl,rfl,hR,hkd,hab,c0,c1,p0,p1,hm,hq⟩:=h
  have ea:a'=a:=by simpa using ha
  subst ea
  have hsz:aA=16777216:=rfl
  have hG:=hR.len
  have ikd0:kinds.idxOf kd < kinds.length:=idxOf_lt_length_of_mem hkd
  have k30:=hR.k3
  walk_at "rd"
  have m0:=Qo (atZ ns (22 + (c + 1) % 41)) (c + 1)
  generalize mix (atZ ns (22 + (c + 1) % 41)) (c + 1)=m at m0
  refine ⟨by decide,by omega,by omega,by omega,by decide,fun ds'=>∃ s7 s8:L2.Slot,ds'=[.v (.lst (rs.map Ye)),.v (.scr (ns.map .int)),.st a' [(a',.lst [.int (c + 1),.int sp])],.v (.str kd),.v (.int ab),.v (.int m),.own ((Rm rs kd ab rs.length).map fun j:Nat => .int j),s7,s8,.un,.un],⟨[],?_⟩,?_⟩
  ·walk_at "rd"
   refine EJ (fun i ds'=>∃ s7 s8:L2.Slot,ds'=[.v (.lst (rs.map Ye)),.v (.scr (ns.map .int)),.st a' [(a',.lst [.int (c + 1),.int sp])],.v (.str kd),.v (.int ab),.v (.int m),.own ((Rm rs kd ab i).map fun j:Nat => .int j),s7,s8,.un,.un]) ⟨_,_,rfl⟩ (fun i y ds N hy hd hn=>?_) (fun ds hd=>?_)
   ·obtain ⟨s7,s8,rfl⟩:=hd
    unfold KC at hy
    rw [List.getElem?_mapIdx,getElem?_map] at hy
    cases hr:rs[i]? with
    | none=>rw [hr] at hy;cases hy
    | some r =>
     rw [hr] at hy
     cases hy
     walk_at "rd"
     have ef:Rm rs kd ab (i + 1)=Rm rs kd ab i++(if Lx rs kd ab i=true then [i] else []):=by
      unfold Rm
      rw [List.range_succ,List.filter_append]
      congr 1
      rw [filter_cons]
      split <;> rfl
     have hfb:Lx rs kd ab i=(decide (r.hd=kd) && stands rs r ab):=by unfold Lx;rw [hr]
     have fl:(Rm rs kd ab i).length≤i:=Nat.le_trans (List.length_filter_le _ _) (by rw [List.length_range];exact Nat.le_refl _)
     have hi:i < rs.length:=(List.getElem?_eq_some_iff.mp hr).1
     have no:Lx rs kd ab i=false→N [.v (.lst (rs.map Ye)),.v (.scr (ns.map .int)),.st a' [(a',.lst [.int (c + 1),.int sp])],.v (.str kd),.v (.int ab),.v (.int m),.own ((Rm rs kd ab i).map fun j:Nat => .int j),.v (.int i),.v (Ye r),.un,.un]:=fun e=>hn _ ⟨.v (.int i),.v (Ye r),by rw [ef,e];simp⟩
     have yes:Lx rs kd ab i=true→(Rm rs kd ab i).length < aA∧N [.v (.lst (rs.map Ye)),.v (.scr (ns.map .int)),.st a' [(a',.lst [.int (c + 1),.int sp])],.v (.str kd),.v (.int ab),.v (.int m),.own (((Rm rs kd ab i).map fun j:Nat => .int j)++[.int i]),.v (.int i),.v (Ye r),.un,.un]:=fun e=>⟨by omega,hn _ ⟨.v (.int i),.v (Ye r),by rw [ef,if_pos e];simp⟩⟩
     refine Uj (fun e=>?_) (fun e=>no (by rw [hfb,decide_eq_false e];rfl))
     refine Dy hab (q:=fun b=>if b=true then _ else _) ?_
     rw [decide_eq_true e,Bool.true_and] at hfb
     rw [hfb] at no yes
     exact ifB yes no
   ·rw [KC,List.length_mapIdx,length_map] at hd
    exact hd
  rintro _ ⟨s7,s8,rfl⟩
  walk_at "rd"
  obtain ⟨rb,l,efl,hrb,hdb,htb,wb,hwb,epb⟩:=hR.first hkd ab
  have fl:0 < (Rm rs kd ab rs.length).length:=by rw [efl];simp
  rw [Xy (show (0:Int) < (Rm rs kd ab rs.length).length by omega)]
  obtain ⟨g1,g2⟩:=mod_lt m fl
  obtain ⟨k1,hk1,ek1⟩:=Wn (fun j:Nat=>D.int j) (Rm rs kd ab rs.length) g1 g2
  obtain ⟨r1,hr1,hd1,hs1⟩:=qv hk1
  refine ⟨by omega,_,ek1,?_⟩
  walk_at "rd"
  refine ⟨fun ds'=>∃ (k:Nat) (r:Ru),ds'=[.v (.lst (rs.map Ye)),.v (.scr (ns.map .int)),.st a' [(a',.lst [.int (c + 1),.int sp])],.v (.str kd),.v (.int ab),.v (.int m),.own ((Rm rs kd ab rs.length).map fun j:Nat => .int j),.v (.int k),s8,.un,.un]∧rs[k]?=some r∧r.hd=kd∧stands rs r ab=true∧(r.ps.length:Int) - 1≤sp,?_,?_⟩
  ·walk_at "rd"
   refine ⟨_,IX hr1,?_⟩
   walk_at "rd"
   refine Uj (fun e=>⟨.int (kinds.idxOf kd:Nat),by rw [efl,map_cons];exact pN,?_⟩) (fun e=>⟨k1,rfl,r1,hr1,hd1,hs1,by omega⟩)
   walk_at "rd"
   refine ⟨kinds.idxOf kd,rfl,rb,hrb,hdb,?_,?_⟩
   ·unfold stands;rw [htb]
   ·rw [epb];simp;exact p0
  rintro _ ⟨k,r,rfl,hr,hd,hst,hle⟩
  have hmem:=mem_of_getElem? hr
  have R:=hR.row r hmem
  have kl:k < rs.length:=(List.getElem?_eq_some_iff.mp hr).1
  have ikd:kinds.idxOf kd < kinds.length:=idxOf_lt_length_of_mem hkd
  have k3:=hR.k3
  have L1:=R.p1
  have L4:=R.p4
  walk_at "rd"
  refine ⟨_,IX hr,?_⟩
  walk_at "rd"
  generalize hsp0:sp - (r.ps.length:Int) + 1=sp0
  have tot:1 + 40 * sp0 + ((r.ps.map (cw kinds)).sum:Nat) + kinds.idxOf kd≤40 * sp + 5:=by
   by_cases hL:r.ps.length=1
   ·obtain ⟨p',ep⟩:=List.length_eq_one_iff.mp hL
    have e2:(([p']:List Str).map (cw kinds)).sum=cw kinds p':=by simp
    rw [ep,e2]
    unfold cw
    split
    ·rename_i hpk
     have:=R.one p' ep hpk
     rw [hd] at this
     have ip:kinds.idxOf p' < kinds.length:=idxOf_lt_length_of_mem hpk
     omega
    ·omega
   ·have:=cw_sum kinds r.ps
    omega
  refine ⟨by decide,fun ds'=>∃ (kids:List Tr) (c2 sp2:Int) (s10:L2.Slot),ds'=[.v (.lst (rs.map Ye)),.v (.scr (ns.map .int)),.st a' [(a',.lst [.int c2,.int sp2])],.v (.str kd),.v (.int ab),.v (.int m),.own ((Rm rs kd ab rs.length).map fun j:Nat => .int j),.v (.int k),s8,.own (kids.map Tr.d),s10]∧kids.length=r.ps.length∧Xk rs r.ps k kids=true∧Tr.sls kids=true∧Tr.dps kids≤n∧c + 1≤c2∧c2≤c + 1 + Tr.szs kids∧0≤sp2∧sp2≤sp0∧(Tr.szs kids:Int)≤40 * (sp0 - sp2) + ((r.ps.map (cw kinds)).sum:Nat),⟨[],?_⟩,?_⟩
  ·walk_at "rd"
   refine ⟨_,IX hr,?_⟩
   walk_at "rd"
   refine Yq (fun i ds'=>∃ (kids:List Tr) (c2 sp2:Int) (s10:L2.Slot),ds'=[.v (.lst (rs.map Ye)),.v (.scr (ns.map .int)),.st a' [(a',.lst [.int c2,.int sp2])],.v (.str kd),.v (.int ab),.v (.int m),.own ((Rm rs kd ab rs.length).map fun j:Nat => .int j),.v (.int k),s8,.own (kids.map Tr.d),s10]∧kids.length=i∧Xk rs (r.ps.take i) k kids=true∧Tr.sls kids=true∧Tr.dps kids≤n∧c + 1≤c2∧c2≤c + 1 + Tr.szs kids∧0≤sp2∧sp2≤sp0∧(Tr.szs kids:Int)≤40 * (sp0 - sp2) + (((r.ps.take i).map (cw kinds)).sum:Nat)) ⟨[],c + 1,sp0,_,rfl,rfl,by simp [Xk],rfl,by simp [Tr.dps],by omega,by simp [Tr.szs],by omega,by omega,by simp [Tr.szs]⟩ (fun i p ds N hp hd' hn=>?_) (fun ds hd'=>?_)
   ·obtain ⟨kids,c2,sp2,s10,rfl,kl',ht,hsl,hdp,b1,b2,b3,b4,b5⟩:=hd'
    have hpm:=mem_of_getElem? hp
    have il:i < r.ps.length:=(List.getElem?_eq_some_iff.mp hp).1
    have nm:isNm p=true:=by
     rcases R.ps p hpm with z | z
     ·exact Dr (hR.kd p z)
     ·exact Ds (hR.wd p z)
    have pl:=Sh nm
    have etk:r.ps.take (i + 1)=r.ps.take i++[p]:=by rw [take_add_one,hp];rfl
    have tlen:(r.ps.take i).length=kids.length:=by rw [length_take,kl'];omega
    have szb:Tr.szs kids≤1000:=by
     have:=cw_sum kinds (r.ps.take i)
     rw [tlen,kl'] at this
     omega
    have nxt:∀ (t:Tr) (c3 sp3:Int),XF rs p k t=true→t.sl=true→t.dp≤n→c2≤c3→c3≤c2 + t.sz→0≤sp3→sp3≤sp2→(t.sz:Int)≤40 * (sp2 - sp3) + (cw kinds p:Nat)→kids.length < aA∧N [.v (.lst (rs.map Ye)),.v (.scr (ns.map .int)),.st a' [(a',.lst [.int c3,.int sp3])],.v (.str kd),.v (.int ab),.v (.int m),.own ((Rm rs kd ab rs.length).map fun j:Nat => .int j),.v (.int k),s8,.own (kids.map Tr.d++[t.d]),.v t.d]:=fun t c3 sp3 a1 a2 a3 a4 a5 a6 a7 a8=>by
     refine ⟨by omega,hn _ ⟨kids++[t],c3,sp3,_,by rw [map_append];rfl,by rw [length_append,kl'];rfl,by rw [etk,IW tlen,ht,a1];rfl,by rw [Tr.qq,hsl];simp [Tr.sls,a2],by rw [Tr.qt];simp [Tr.dps];omega,by omega,?_,a6,by omega,?_⟩⟩
     ·rw [Tr.Xt];simp [Tr.szs];omega
     ·have e1:Tr.szs [t]=t.sz:=by simp [Tr.szs]
      have e2:(([p]:List Str).map (cw kinds)).sum=cw kinds p:=by simp
      rw [Tr.Xt,etk,map_append,sum_append,e1,e2]
      omega
    walk_at "rd"
    refine ⟨by omega,fst p,at0 pl.1,?_⟩
    rw [Pl,mM nm]
    refine ifB (fun e=>?_) (fun e=>?_)
    ·have hpk:p∈kinds:=by
      rcases R.ps p hpm with z | z
      ·exact z
      ·rw [Lw (hR.wd p z)] at e;cases e
     have ip:kinds.idxOf p < kinds.length:=idxOf_lt_length_of_mem hpk
     have meas:3 * sp2 + 3≤(n:Int) + kinds.idxOf p:=by
      by_cases hL:r.ps.length=1
      ·obtain ⟨p',ep⟩:=List.length_eq_one_iff.mp hL
       have:p'=p:=by rw [ep] at hpm;exact (mem_singleton.mp hpm).symm
       subst this
       have:=R.one p' ep hpk
       rw [hd] at this
       omega
      ·omega
     obtain ⟨n',rfl⟩:∃ n',n=n' + 1:=⟨n - 1,by omega⟩
     have pre:((r.ps.take i).map (cw kinds)).sum + cw kinds p≤(r.ps.map (cw kinds)).sum:=by
      have e:=List.take_append_drop (i + 1) r.ps
      have:(r.ps.map (cw kinds)).sum=((r.ps.take (i + 1)).map (cw kinds)).sum + ((r.ps.drop (i + 1)).map (cw kinds)).sum:=by rw [←sum_append,←map_append,e]
      rw [this,etk,map_append,sum_append]
      simp
     have ecw:cw kinds p=5 - kinds.idxOf p:=by unfold cw;rw [if_pos hpk]
     refine ⟨⟨_,rfl⟩,sc,kinds,words,rs,ns,a',c2,sp2,p,k,rfl,rfl,hR,hpk,.inr (by omega),by omega,by omega,b3,by omega,by omega,fun t c3 sp3 a1 a2 a3 a4 a5 a6 a7 a8 a9=>?_⟩
     exact nxt t c3 sp3 a1 a3 (by omega) a5 a6 a7 a8 (by unfold cw;rw [if_pos hpk];omega)
    ·have hpk:p∉kinds:=fun z=>by rw [hR.kd p z] at e;cases e
     have:=nxt (.lf (.str p)) c2 sp2 (by rw [Pt,e];rfl) rfl (by simp [Tr.dp]) (by omega) (by simp [Tr.sz];omega) b3 (by omega) (by unfold cw;rw [if_neg hpk];simp [Tr.sz])
     exact this
   ·obtain ⟨kids,c2,sp2,s10,rfl,kl',ht,hsl,hdp,b1,b2,b3,b4,b5⟩:=hd'
    rw [take_length] at ht b5
    exact ⟨kids,c2,sp2,s10,rfl,kl',ht,hsl,hdp,b1,b2,b3,b4,b5⟩
  rintro _ ⟨kids,c2,sp2,s10,rfl,kl',ht,hsl,hdp,b1,b2,b3,b4,b5⟩
  walk_at "rd"
  refine ⟨by decide,?_⟩
  have szt:(Tr.nd k kids).sz=1 + Tr.szs kids:=by simp [Tr.sz]
  have hf:Vo rs kd ab (.nd k kids) = "" := by
   unfold Vo
   dsimp only
   rw [if_pos ⟨by omega,by omega⟩,show ((k:Int)).toNat=k by omega,hr]
   dsimp only
   rw [if_neg (fun z=>z hd),if_neg (by rw [hst];decide),if_neg (fun z=>z kl')]
  have:=hq (.nd k kids) c2 sp2 ?_ rfl ?_ ?_ (by omega) (by rw [szt];omega) b3 (by omega) ?_
  ·rw [Ba] at this
   exact this
  ·rw [Rl,hR.kd kd hkd,hf,show ((k:Int)).toNat=k by omega,hr]
   simpa using ht
  ·unfold Tr.sl;exact hsl
  ·unfold Tr.dp;omega
  ·rw [szt];omega
-- the same shape
mutual
noncomputable def Sim:Tr→Tr→Prop
 | .lf _,.lf _=>True
 | .nd k ts,.nd j us=>k=j∧Ur ts us
 | _,_=>False
noncomputable def Ur:List Tr→List Tr→Prop
 | [],[]=>True
 | t::ts,u::us=>Sim t u∧Ur ts us
 | _,_=>False
end
theorem Ur.snoc {t u:Tr}:∀ {ts us:List Tr},Ur ts us→Sim t u→Ur (ts++[t]) (us++[u])
 | [],[],_,h=>⟨h,trivial⟩
 | [],_::_,h,_=>h.elim
 | _::_,[],h,_=>h.elim
 | a::ts,b::us,h,k=>by
  obtain ⟨h1,h2⟩:=h
  exact ⟨h1,Ur.snoc h2 k⟩
theorem Ur.length:∀ {ts us:List Tr},Ur ts us→us.length=ts.length
 | [],[],_=>rfl
 | [],_::_,h=>h.elim
 | _::_,[],h=>h.elim
 | a::ts,b::us,h=>by
  obtain ⟨h1,h2⟩:=h
  rw [length_cons,length_cons,Ur.length h2]
theorem Bp {rs:List Ru}{p:Str}{ab k:Int}{ts us:List Tr}(h:us.length=ts.length):Vo rs p ab (.nd k us)=Vo rs p ab (.nd k ts):=by
 unfold Vo
 dsimp only
 rw [h]
mutual
theorem Sim.XF {rs:List Ru}:∀ {p:Str}{ab:Int}{t u:Tr},Sim t u→XF rs p ab u=XF rs p ab t
 | _,_,.lf _,.lf _,_=>by rw [Pt,Pt]
 | _,_,.lf _,.nd _ _,h=>h.elim
 | _,_,.nd _ _,.lf _,h=>h.elim
 | p,ab,.nd k ts,.nd j us,h=>by
  obtain ⟨rfl,h2⟩:=h
  rw [Rl,Rl,Bp h2.length,Ur.Xk h2]
theorem Ur.Xk {rs:List Ru}:∀ {ps:List Str}{k:Int}{ts us:List Tr},Ur ts us→Xk rs ps k us=Xk rs ps k ts
 | [],_,ts,us,_=>by unfold My.Xk;rfl
 | p::ps,_,[],[],_=>rfl
 | p::ps,_,[],_::_,h=>h.elim
 | p::ps,_,_::_,[],h=>h.elim
 | p::ps,k,t::ts,u::us,h=>by
  obtain ⟨h1,h2⟩:=h
  rw [My.Xk,My.Xk,Sim.XF h1,Ur.Xk h2]
end
mutual
theorem Sim.sz:∀ {t u:Tr},Sim t u→u.sz=t.sz
 | .lf _,.lf _,_=>by rw [Tr.sz,Tr.sz]
 | .lf _,.nd _ _,h=>h.elim
 | .nd _ _,.lf _,h=>h.elim
 | .nd k ts,.nd j us,h=>by rw [Tr.sz,Tr.sz,Ur.szs h.2]
theorem Ur.szs:∀ {ts us:List Tr},Ur ts us→Tr.szs us=Tr.szs ts
 | [],[],_=>rfl
 | [],_::_,h=>h.elim
 | _::_,[],h=>h.elim
 | a::ts,b::us,h=>by rw [Tr.szs,Tr.szs,Sim.sz h.1,Ur.szs h.2]
end
mutual
theorem Sim.dp:∀ {t u:Tr},Sim t u→u.dp=t.dp
 | .lf _,.lf _,_=>by rw [Tr.dp,Tr.dp]
 | .lf _,.nd _ _,h=>h.elim
 | .nd _ _,.lf _,h=>h.elim
 | .nd k ts,.nd j us,h=>by rw [Tr.dp,Tr.dp,Ur.dps h.2]
theorem Ur.dps:∀ {ts us:List Tr},Ur ts us→Tr.dps us=Tr.dps ts
 | [],[],_=>rfl
 | [],_::_,h=>h.elim
 | _::_,[],h=>h.elim
 | a::ts,b::us,h=>by rw [Tr.dps,Tr.dps,Sim.dp h.1,Ur.dps h.2]
end
theorem Sim.nd {t u:Tr}(h:Sim t u):u.RJ=t.RJ:=by
 cases t with
 | lf _=>cases u with
  | lf _=>rfl
  | nd _ _=>exact h.elim
 | nd _ _=>cases u with
  | lf _=>exact h.elim
  | nd _ _=>rfl
theorem Tr.AF {ts:List Tr}{t:Tr}(h:t∈ts):t.dp≤Tr.dps ts:=by
 induction ts with
 | nil=>cases h
 | cons a ts ih =>
  rw [Tr.dps]
  rcases mem_cons.mp h with e | e
  ·rw [e];omega
  ·have:=ih e;omega
theorem Tr.qw {ts:List Tr}{t:Tr}(h:t∈ts):t.sz≤Tr.szs ts:=by
 induction ts with
 | nil=>cases h
 | cons a ts ih =>
  rw [Tr.szs]
  rcases mem_cons.mp h with e | e
  ·rw [e];omega
  ·have:=ih e;omega
theorem Tr.qx {ts:List Tr}{t:Tr}(hs:Tr.sls ts=true) (h:t∈ts):t.sl=true:=by
 induction ts with
 | nil=>cases h
 | cons a ts ih =>
  rw [Tr.sls,aD] at hs
  rcases mem_cons.mp h with e | e
  ·rw [e];exact hs.1
  ·exact ih hs.2 e
theorem Tr.qy (a b:List Tr):Tr.pls (a++b)=(Tr.pls a && Tr.pls b):=by rw [Tr.Ju,Tr.Ju,Tr.Ju,all_append]
def rd10:String:=rd9 ++ " pJ dLenS qX dRevL"
local macro_rules | `(tactic| walk_at "rd") => rdM rd10
noncomputable def yy:Nat→Ip
 | 0=>fun _ _ _=>False
 | n + 1=>fun xs μ q=>∃ (t:Tr) (cell:Int) (a:Addr) (c:Int),xs=[t.d,.int cell,.rf a]∧μ=[(a,.lst [.int c])]∧t.RJ=true∧t.sl=true∧t.dp≤n + 1∧0≤c∧c + t.sz≤100000 ∧
  ∀ u c',Sim t u→u.pl=true→c≤c'→c'≤c + t.sz→q u.d [(a,.lst [.int c'])]
theorem Bq {A:Adr}(T:Txt K mg A):∀ n,Zy P w K mg base (CXE P w) (1 + n) A.TY A.Lh QX (spS K 2 (yy n)):=by
 intro n
 induction n with
 | zero=>exact Zy.never fun vs H Q E h=>by first | (obtain ⟨_,_,_,_,_,_,_,_,_,h,_⟩:=h;exact h) | (obtain ⟨_,_,_,_,_,_,h,_⟩:=h;exact h)
 | succ n ih=>?_
 have Lz:=ih
 rw [show 1 + (n + 1)=(1 + n) + 1 by omega]
 haveI:TxC K A:=⟨⟨_,T⟩⟩
 refine T.Xs.F.okS Ot (fun xs μ q h=>?_) (fun cdv Ar outer s H E hr=>⟨_,(Za (Xd (i:=3) Ot.nd rfl (Or.inl rfl) (Xw Zb))
   (Za (UQ (YQ PassesOwn.leaving (ZY (Zm (jv 0) Zd)) (Zi (i:=4) Ot.nd rfl (Or.inl rfl)) (Ze (ZO [] (ZU (Yo (Vi (K:=K) rfl) (by rfl) T.ZQ PyProof.Rows.boot_isinstance (Zc (jv 4) (Zc (Wc (n := "str") (by rfl) T.b_str PyProof.Rows.boot_str) Zb)))) (Za (Jr [] 2 (jvS 2) Zd (Zn ZK (VP 2 (jvS 2) Zd) Zd))
   (Ze (Vj [] 3 (Zn ZA (Zn ZK (Zn ZA (jv 1) (Zn GW Zd Zd)) (Zn Wd (Zn Wd (VP 2 (jvS 2) Zd) (VP 2 (jvS 2) Zd)) Zd)) (Zm (Sz (Zc Zd (Zc (Zn GW Zd Zd) Zb))) (Zn ZA (VP 2 (jvS 2) Zd) Zd)))))) (Ze (rN 3 2 2 (by decide) Lz (hr.mono (by omega)) (by rfl) T.Xs.m T.Xs.F.kp T.Xs.a Zg (Zc (jv 4) (Zc (jv 1) (Zc (jvS 2) Zb)))))))))
   (Ze (Av [3] (Xv (Zc (Zm (jv 0) Zd) (Zc (Tv Mz (by rfl) T.b_tuple PyProof.Rows.boot_tuple (Zc (jv 3) Zb)) Zb))))))),fun xs μ a q ha h=>?_⟩)
 ·obtain ⟨t,cell,a',c,rfl,_⟩:=h
  rfl
 ·obtain ⟨t,cell,a',c,rfl,rfl,hnd,hsl,hdp,c0,c1,hq⟩:=h
  have ea:a'=a:=by simpa using ha
  subst ea
  have hsz:aA=16777216:=rfl
  obtain ⟨k,ts,rfl⟩:=uq hnd
  have szt:(Tr.nd k ts).sz=1 + Tr.szs ts:=by simp [Tr.sz]
  have dpt:(Tr.nd k ts).dp=1 + Tr.dps ts:=by simp [Tr.dp]
  have slt:Tr.sls ts=true:=by unfold Tr.sl at hsl;exact hsl
  walk_at "rd"
  refine ⟨by decide,fun ds'=>∃ (us:List Tr) (c2:Int) (s4:L2.Slot),ds'=[.v (Tr.nd k ts).d,.v (.int cell),.st a' [(a',.lst [.int c2])],.own (us.map Tr.d),s4]∧Ur ts us∧Tr.pls us=true∧c≤c2∧c2≤c + Tr.szs ts,⟨[],?_⟩,?_⟩
  ·walk_at "rd"
   refine Yq (fun i ds'=>∃ (us:List Tr) (c2:Int) (s4:L2.Slot),ds'=[.v (.tup [.int k,.tup (ts.map Tr.d)]),.v (.int cell),.st a' [(a',.lst [.int c2])],.own (us.map Tr.d),s4]∧Ur (ts.take i) us∧Tr.pls us=true∧c≤c2∧c2≤c + Tr.szs (ts.take i)) ⟨[],c,_,rfl,trivial,rfl,by omega,by simp [Tr.szs]⟩ (fun i t ds N ht hd hn=>?_) (fun ds hd=>?_)
   ·obtain ⟨us,c2,s4,rfl,h1,h2,h3,h4⟩:=hd
    have hm:=mem_of_getElem? ht
    have il:i < ts.length:=(List.getElem?_eq_some_iff.mp ht).1
    have etk:ts.take (i + 1)=ts.take i++[t]:=by rw [take_add_one,ht];rfl
    have ul:us.length=i:=by rw [h1.length,length_take];omega
    have tl:=Tr.Pq ts
    have ssum:Tr.szs (ts.take (i + 1))≤Tr.szs ts:=by
     have e:Tr.szs ts=Tr.szs (ts.take (i + 1)) + Tr.szs (ts.drop (i + 1)):=by rw [←Tr.Xt,List.take_append_drop]
     omega
    have e1:Tr.szs (ts.take (i + 1))=Tr.szs (ts.take i) + t.sz:=by rw [etk,Tr.Xt];simp [Tr.szs]
    have nxt:∀ (u:Tr) (c3:Int),Sim t u→u.pl=true→c2≤c3→c3≤c2 + t.sz→N [.v (.tup [.int k,.tup (ts.map Tr.d)]),.v (.int cell),.st a' [(a',.lst [.int c3])],.own (us.map Tr.d++[u.d]),.v t.d]:=fun u c3 a1 a2 a3 a4=>by
     refine hn _ ⟨us++[u],c3,_,by rw [map_append];rfl,by rw [etk];exact h1.snoc a1,by rw [Tr.qy,h2];simp [Tr.pls,a2],by omega,by rw [e1];omega⟩
    have tsl:=Tr.qx slt hm
    cases t with
    | lf d =>
     cases d with
     | str w' =>
      walk_at "rd"
      have e1:(Tr.lf (.str w')).sz=1:=by simp [Tr.sz]
      have e30:¬ (10:Int) ^ Int.toNat 30=0:=by decide
      have cp:CPow 10 30:=⟨by decide,by decide,by decide⟩
      have nb:=mod_lt (n:=2) (c2 + 1) (by decide)
      obtain ⟨v,hv,ev⟩:=Wn D.int [10,(10:Int) ^ Int.toNat 30] (i:=(c2 + 1) % 2) nb.1 nb.2
      have hv0:¬ v=0:=by
       simp only [mem_cons,not_mem_nil,or_false] at hv
       rcases hv with e | e <;> rw [e]
       ·decide
       ·exact e30
      refine ⟨cp,e30,.l (by omega) (by omega),.r (by decide) (by decide),cp,by decide,by decide,_,ev,?_⟩
      walk_at "rd"
      refine ⟨hv0,by omega,?_⟩
      exact nxt (.lf (.int _)) (c2 + 1) trivial rfl (by omega) (by omega)
     | _=>unfold Tr.sl at tsl;cases tsl
    | nd k' ts' =>
     walk_at "rd"
     have:=Tr.AF hm
     have:=Tr.qw hm
     have szn:(Tr.nd k' ts').sz=1 + Tr.szs ts':=by simp [Tr.sz]
     have dpn:(Tr.nd k' ts').dp=1 + Tr.dps ts':=by simp [Tr.dp]
     obtain ⟨n',rfl⟩:∃ n',n=n' + 1:=⟨n - 1,by omega⟩
     refine ⟨by omega,⟨_,rfl⟩,.nd k' ts',cell,a',c2,by rw [Ba],rfl,rfl,tsl,by omega,by omega,by omega,fun u c3 a1 a2 a3 a4=>?_⟩
     have:=nxt u c3 a1 a2 a3 a4
     rw [Ba] at this
     exact this
   ·obtain ⟨us,c2,s4,rfl,h1,h2,h3,h4⟩:=hd
    rw [take_length] at h1 h4
    exact ⟨us,c2,s4,rfl,h1,h2,h3,h4⟩
  rintro _ ⟨us,c2,s4,rfl,h1,h2,h3,h4⟩
  walk_at "rd"
  refine ⟨by decide,?_⟩
  have:=hq (.nd k us) c2 ⟨rfl,h1⟩ (by unfold Tr.pl;exact h2) h3 (by rw [szt];omega)
  rw [Ba] at this
  exact this
noncomputable def Dz:Nat→Ip
 | 0=>fun _ _ _=>False
 | n + 1=>fun xs μ q=>∃ (t:Tr) (a:Addr) (cs:List Int),xs=[t.d,.rf a]∧μ=[(a,.lst (cs.map .int))]∧t.RJ=true∧t.pl=true∧t.dp≤n + 1∧(∀ k∈t.rl,0≤k∧k < cs.length)∧q .non [(a,.lst ((YM cs t.rl).map .int))]
theorem FL {A:Adr}(T:Txt K mg A):∀ n,Zy P w K mg base (CXE P w) (1 + n) A.Vf A.Qm UI (spS K 1 (Dz n)):=by
 intro n
 induction n with
 | zero=>exact Zy.never fun vs H Q E h=>by first | (obtain ⟨_,_,_,_,_,_,_,_,_,h,_⟩:=h;exact h) | (obtain ⟨_,_,_,_,_,_,h,_⟩:=h;exact h)
 | succ n ih=>?_
 have Qu:=ih
 rw [show 1 + (n + 1)=(1 + n) + 1 by omega]
 haveI:TxC K A:=⟨⟨_,T⟩⟩
 refine T.YC.F.okS NV (fun xs μ q h=>?_) (fun cdv Ar outer s H E hr=>⟨_,(Za (Jr [] 1 (jvS 1) (Zm (jv 0) Zd) (Zn ZK (VP 1 (jvS 1) (Zm (jv 0) Zd)) Zd))
   (Ze (YQ PassesOwn.leaving (ZY (Zm (jv 0) Zd)) (Zi (i:=2) NV.nd rfl (Or.inl rfl)) (Ze (ZO [] (Yl (ZU (Yo (Vi (K:=K) rfl) (by rfl) T.ZQ PyProof.Rows.boot_isinstance (Zc (jv 2) (Zc (Wc (n := "int") (by rfl) T.b_int PyProof.Rows.boot_int) Zb))))) (Ze (EV 1 1 Qu (hr.mono (by omega)) (by rfl) T.YC.m T.YC.F.kp T.YC.a Zg (Zc (jv 2) (Zc (jvS 1) Zb)))) Zt))))),fun xs μ a q ha h=>?_⟩)
 ·obtain ⟨t,a',cs,rfl,_⟩:=h
  rfl
 ·obtain ⟨t,a',cs,rfl,rfl,hnd,hpl,hdp,hb,hq⟩:=h
  have ea:a'=a:=by simpa using ha
  subst ea
  have hsz:aA=16777216:=rfl
  obtain ⟨k,ts,rfl⟩:=uq hnd
  have dpt:(Tr.nd k ts).dp=1 + Tr.dps ts:=by simp [Tr.dp]
  have hpk:=Tr.uo hpl
  have hrl:(Tr.nd k ts).rl=k::Tr.rls ts:=by simp [Tr.rl]
  rw [hrl] at hb hq
  obtain ⟨k0,k1⟩:=hb k (mem_cons_self ..)
  have hk:k.toNat < cs.length:=by omega
  have eat:atI (cs.map D.int) k=some (.int (cs.getD k.toNat 0)):=by
   unfold atI
   rw [length_map,OO k0 k1]
   show (cs.map D.int)[k.toNat]?=_
   rw [getElem?_map,getD_eq_getElem?_getD,aB hk]
   rfl
  walk_at "rd"
  refine ⟨_,eat,?_⟩
  walk_at "rd"
  refine ⟨_,OO k0 k1,[],?_⟩
  walk_at "rd"
  refine Yq (fun i ds'=>∃ s2:L2.Slot,ds'=[.v (.tup [.int k,.tup (ts.map Tr.d)]),.st a' [(a',.lst ((YM (bump cs k) (Tr.rls (ts.take i))).map .int))],s2]) ⟨.un,?_⟩ (fun i t ds N ht hd hn=>?_) (fun ds hd=>?_)
  ·rw [take_zero]
   show _=[_,Slot.st a' [(a',.lst ((bump cs k).map .int))],_]
   unfold bump
   rw [List.map_set]
  ·obtain ⟨s2,rfl⟩:=hd
   have hm:=mem_of_getElem? ht
   have il:i < ts.length:=(List.getElem?_eq_some_iff.mp ht).1
   have etk:ts.take (i + 1)=ts.take i++[t]:=by rw [take_add_one,ht];rfl
   have e1:YM (bump cs k) (Tr.rls (ts.take (i + 1)))=YM (YM (bump cs k) (Tr.rls (ts.take i))) t.rl:=by
    rw [etk,Tr.Rk]
    unfold YM
    rw [foldl_append]
    simp [Tr.rls]
   cases t with
   | lf d =>
    obtain ⟨j,rfl⟩:=Tr.AA (hpk _ hm)
    walk_at "rd"
    refine hn _ ⟨.v (.int j),?_⟩
    rw [e1];simp [Tr.rl,YM]
   | nd k' ts' =>
    walk_at "rd"
    have:=Tr.AF hm
    have dpn:(Tr.nd k' ts').dp=1 + Tr.dps ts':=by simp [Tr.dp]
    obtain ⟨n',rfl⟩:∃ n',n=n' + 1:=⟨n - 1,by omega⟩
    refine ⟨⟨_,rfl⟩,.nd k' ts',a',_,by rw [Ba],rfl,rfl,hpk _ hm,by omega,fun j hj=>?_,hn _ ⟨.v (.tup [.int k',.tup (ts'.map Tr.d)]),?_⟩⟩
    ·rw [Sn,IU]
     refine hb j (mem_cons_of_mem _ ?_)
     have:Tr.rls ts=Tr.rls (ts.take (i + 1))++Tr.rls (ts.drop (i + 1)):=by rw [←Tr.Rk,List.take_append_drop]
     rw [this,etk,Tr.Rk]
     refine mem_append_left _ (mem_append_right _ ?_)
     simpa [Tr.rls] using hj
    ·rw [e1]
  ·obtain ⟨s2,rfl⟩:=hd
   rw [take_length]
   exact ⟨_,_,rfl,hq⟩
noncomputable def Br:zU:=fun xs q _=>∃ (rs:List Ru) (ts:List Tr),xs=[.lst (rs.map Ye),.lst (ts.map Tr.d)]∧rs.length≤1000∧(∀ t∈ts,t.RJ=true∧t.pl=true∧t.dp≤40∧∀ k∈t.rl,0≤k∧k < rs.length)∧q ((YM (replicate rs.length 0) (Tr.rls ts)).map .int)
theorem DB {A:Adr}(T:Txt K mg A):Zy P w K mg base (CXE P w) 42 A.Ue A.OC SW (spF K Br):=by
 have Qu:=FL (P:=P) (w:=w) (base:=base) T 40
 haveI:TxC K A:=⟨⟨_,T⟩⟩
 refine T.Rh.F.okF Qg (fun xs q x h=>?_) (fun cdv Ar outer s H E hr=>⟨_,(Za (Au [] (i:=2) Qg.nd rfl (Or.inl rfl) (nE (Sz (Zc Zd Zb)) (Yo Yj (by rfl) T.b_len PySem.boot_len (Zc (jv 0) Zb))))
   (Za (YQ PassesOwn.leaving (ZY (jv 1)) (Zi (i:=3) Qg.nd rfl (Or.inl rfl)) (Ze (EV 1 2 Qu (hr.mono (by decide)) (by rfl) T.YC.m T.YC.F.kp T.YC.a Zg (Zc (jv 3) (Zc (jvS 2) Zb)))))
   (Ze (rQ 2)))),fun xs q x h=>?_⟩)
 ·obtain ⟨rs,ts,rfl,_⟩:=h
  rfl
 ·obtain ⟨rs,ts,rfl,hl,ht,hq⟩:=h
  have hsz:aA=16777216:=rfl
  walk_at "rd"
  have er:(replicate ((rs.length:Int)).toNat [D.int 0]).flatten=(replicate rs.length (0:Int)).map .int:=by
   rw [show ((rs.length:Int)).toNat=rs.length by omega]
   generalize rs.length=m
   induction m with
   | zero=>rfl
   | succ m ih=>rw [replicate_succ,replicate_succ,flatten_cons,ih];rfl
  rw [er]
  refine ⟨by decide,by omega,by omega,by omega,?_,fun a=>⟨[],?_⟩⟩
  ·generalize replicate rs.length (0:Int)=l
   induction l with
   | nil=>rfl
   | cons y l ih=>rw [map_cons,D.GO,ih];rfl
  walk_at "rd"
  refine Yq (fun i ds'=>∃ s3:L2.Slot,ds'=[.v (.lst (rs.map Ye)),.v (.lst (ts.map Tr.d)),.st a [(a,.lst ((YM (replicate rs.length 0) (Tr.rls (ts.take i))).map .int))],s3]) ⟨.un,by rw [take_zero];rfl⟩ (fun i t ds N hi hd hn=>?_) (fun ds hd=>?_)
  ·obtain ⟨s3,rfl⟩:=hd
   have hm:=mem_of_getElem? hi
   obtain ⟨t1,t2,t3,t4⟩:=ht t hm
   have etk:ts.take (i + 1)=ts.take i++[t]:=by rw [take_add_one,hi];rfl
   walk_at "rd"
   refine ⟨⟨_,rfl⟩,t,a,_,rfl,rfl,t1,t2,by omega,fun k hk=>?_,hn _ ⟨.v t.d,?_⟩⟩
   ·rw [Sn,length_replicate]
    exact t4 k hk
   ·rw [etk,Tr.Rk]
    unfold YM
    rw [foldl_append]
    simp [Tr.rls]
  ·obtain ⟨s3,rfl⟩:=hd
   rw [take_length]
   walk_at "rd"
   exact hq
noncomputable def yz:DSp:=fun xs q _=>∃ i:Int,xs=[.int i]∧q (.bl true)
theorem Bs {A:Adr}(T:Txt K mg A):Zy P w K mg base (CXE P w) 1 A.Sa A.Lj QZ (spD K yz):=by
 haveI:TxC K A:=⟨⟨_,T⟩⟩
 refine T.Se.F.okJ CM (fun xs q x h=>?_) (fun cdv Ar outer s H E hr=>⟨_,(Ze (Zr [] (Mw (Yo (Vi (K:=K) rfl) (by rfl) T.ZQ PyProof.Rows.boot_isinstance (Zc (jv 0) (Zc (Wc (n := "int") (by rfl) T.b_int PyProof.Rows.boot_int) Zb))) (Mv (nr (Yo (Vi (K:=K) rfl) (by rfl) T.ZQ PyProof.Rows.boot_isinstance (Zc (jv 0) (Zc (Wc (n := "bool") (by rfl) T.b_bool PyProof.Rows.boot_bool) Zb)))))))),fun xs q x h=>?_⟩)
 ·obtain ⟨i,rfl,_⟩:=h
  rfl
 ·obtain ⟨i,rfl,hq⟩:=h
  walk_at "rd"
  exact hq
noncomputable def qz (sc:Str) (kinds words:List Str) (rs:List Ru) (st:Str) (ts:List Tr):Prop:=ts≠[]∧ts.length≤6∧∀ t∈ts,XF rs st (-1) t=true∧t.RJ=true∧t.pl=true∧t.dp≤40∧t.sz≤445
noncomputable def KZ:DSp:=fun xs q _=>∃ (ns:List Int) (sc:Str) (kinds words:List Str) (rs:List Ru) (r0:Ru),xs=[.scr (ns.map .int),.lst (rs.map Ye)]∧UN sc kinds words rs∧rs[0]?=some r0∧∀ ts,qz sc kinds words rs r0.hd ts→q (.lst (ts.map Tr.d))
theorem LA {A:Adr}(T:Txt K mg A):Zy P w K mg base (CXE P w) 43 A.YZ A.Vm XG (spD K KZ):=by
 have Ly:=Bo (P:=P) (w:=w) (base:=base) T 40
 have G_l_mix:=Sf (P:=P) (w:=w) (base:=base) T
 have Lz:=Bq (P:=P) (w:=w) (base:=base) T 40
 have G_l_at:=Ri (P:=P) (w:=w) (base:=base) T
 haveI:TxC K A:=⟨⟨_,T⟩⟩
 refine T.XH.F.okJ Yb (fun xs q x h=>?_) (fun cdv Ar outer s H E hr=>⟨_,(Za (Xd (i:=2) Yb.nd rfl (Or.inl rfl) (Xw Zb))
   (Za (Xd (i:=3) Yb.nd rfl (Or.inl rfl) (Xw (Zc Zd Zb)))
   (Za (YQ PassesOwn.leaving (XW (by rfl) T.b_range (Zc (Zn ZK Zd (Zn ZA (Zh G_l_mix T.L_l_mix (hr.mono (by decide)) Zg (Zc (Zh G_l_at T.L_l_at (hr.mono (by decide)) Zg (Zc (jv 0) (Zc Zd Zb))) (Zc Zd Zb))) Zd)) Zb)) (Zi (i:=4) Yb.nd rfl (Or.inl rfl)) (Za (Zo (i:=5) Yb.nd rfl (Or.inl rfl) (Zn ZA (Zh G_l_mix T.L_l_mix (hr.mono (by decide)) Zg (Zc (Zh G_l_at T.L_l_at (hr.mono (by decide)) Zg (Zc (jv 0) (Zc (Zn ZK Zd (jv 4)) Zb))) (Zc Zd Zb))) Zd))
   (Za (Au [3] (i:=6) Yb.nd rfl (Or.inl rfl) (Xw (Zc (Zm (jv 3) Zd) (Zc (jv 5) Zb))))
   (Za (ER (i:=7) 2 6 Ly (hr.mono (by decide)) (by rfl) T.Xr.m T.Xr.F.kp T.Xr.a Zg (Zc (jv 1) (Zc (jv 0) (Zc (jvS 6) (Zc (Zm (Zm (jv 1) Zd) Zd) (Zc (Mx Zd) Zb))))) Yb.nd rfl (Or.inl rfl))
   (Za (tY [] 3 Zd (VP 6 (jvS 6) Zd))
   (Ze (Vj [] 2 (vR 2 Lz (hr.mono (by decide)) (by rfl) T.Xs.m T.Xs.F.kp T.Xs.a Zg (jn_c (jv 7) (jn_c (Zh G_l_at T.L_l_at (hr.mono (by decide)) Zg (Zc (jv 0) (Zc (Zn ZK Zd (jv 4)) Zb))) (rO (Xw (Zc Zd Zb)))))))))))))
   (Ze (Zr [2] (jv 2)))))),fun xs q x h=>?_⟩)
 ·obtain ⟨ns,sc,kinds,words,rs,r0,rfl,_⟩:=h
  rfl
 ·obtain ⟨ns,sc,kinds,words,rs,r0,rfl,hR,h0,hq⟩:=h
  have hsz:aA=16777216:=rfl
  walk_at "rd"
  refine ⟨by decide,by decide,[],?_⟩
  walk_at "rd"
  have nb:=mod_lt (n:=6) (mix (atZ ns 21) 2) (by decide)
  obtain ⟨_,hb0,hk0,_⟩:=hR.base 0 hR.k1
  rw [h0] at hb0
  cases hb0
  have hkd:r0.hd∈kinds:=mem_of_getElem? hk0
  have k3:=hR.k3
  have k1:=hR.k1
  have ikd:kinds.idxOf r0.hd < kinds.length:=idxOf_lt_length_of_mem hkd
  have nk:=hR.nk
  refine ⟨by decide,by decide,by decide,by decide,by omega,by omega,SF (fun i ds'=>∃ (ts:List Tr) (c:Int) (s4 s5 s6 s7:L2.Slot),ds'=[.v (.scr (ns.map .int)),.v (.lst (rs.map Ye)),.own (ts.map Tr.d),.own [.int c],s4,s5,s6,s7]∧ts.length=i∧0≤c∧c≤1000 * i∧∀ t∈ts,XF rs r0.hd (-1) t=true∧t.RJ=true∧t.pl=true∧t.dp≤40∧t.sz≤445) ⟨[],0,_,_,_,_,rfl,rfl,by omega,by omega,fun t h=>by cases h⟩ (fun i ds N hi hd hn=>?_) (fun ds hd=>?_)⟩
  ·obtain ⟨ts,c,s4,s5,s6,s7,rfl,tl,c0,c1,hts⟩:=hd
   walk_at "rd"
   have sb:=mod_lt (n:=12) (mix (atZ ns (14 + (0 + (i:Int)))) 3) (by decide)
   generalize mix (atZ ns (14 + (0 + (i:Int)))) 3 % 12=sp at sb
   generalize atZ ns (14 + (0 + (i:Int)))=cell
   refine ⟨by omega,by decide,by decide,by decide,by decide,fun a=>⟨_,IX h0,?_⟩⟩
   walk_at "rd"
   refine ⟨⟨_,rfl⟩,sc,kinds,words,rs,ns,a,c,sp,r0.hd,-1,rfl,rfl,hR,hkd,.inl rfl,c0,by omega,sb.1,by omega,by show 3 * sp + 3≤(39:Int) + 1 + _;omega,fun t c' sp' a1 a2 a3 a4 a5 a6 a7 a8 a9=>?_⟩
   walk_at "rd"
   refine ⟨by omega,by decide,fun a'=>⟨t,cell,a',0,rfl,rfl,a2,a3,by omega,by omega,by omega,fun u c2 b1 b2 b3 b4=>?_⟩⟩
   refine ⟨by omega,hn _ ⟨ts++[u],c',_,_,_,_,by rw [map_append];rfl,by rw [length_append,tl];rfl,by omega,by omega,fun v hv=>?_⟩⟩
   rcases mem_append.mp hv with h | h
   ·exact hts v h
   ·rw [mem_singleton.mp h,Sim.XF b1,Sim.nd b1,Sim.dp b1,Sim.sz b1]
    exact ⟨a1,a2,b2,by omega,by omega⟩
  ·obtain ⟨ts,c,s4,s5,s6,s7,rfl,tl,c0,c1,hts⟩:=hd
   walk_at "rd"
   exact hq ts ⟨fun e=>by rw [e] at tl;simp at tl;omega,by omega,hts⟩
-- SPLIT
noncomputable def LD:DSp:=fun xs q _=>∃ a b:Int,xs=[.int a,.int b]∧q (.int (Int.gcd a b:Int))
theorem Mm {A:Adr}(T:Txt K mg A):Zy P w K mg base (CXE P w) 1 A.YK A.Ww Xn (spD K LD):=by
 haveI:TxC K A:=⟨⟨_,T⟩⟩
 refine T.Xp.F.okJ Wf (fun xs q x h=>?_) (fun cdv Ar outer s H E hr=>⟨_,(Za (RV [] PassesOwn.leaving (ZC (NI hr.WW) (jv 1) Zd (ZF _)) (Ze (nA (i:=0) (j:=1) Wf.nd rfl rfl (by decide) rfl rfl (Zc (jv 1) (Zc (Zn ZA (jv 0) (jv 1)) Zb)) (fun _ p=>oh rfl Wf.nd rfl rfl (by decide) rfl rfl p rfl))))
   (Ze (Zr [] (Yo xZ (by rfl) T.b_abs PyProof.Rows.boot_abs (Zc (jv 0) Zb))))),fun xs q x h=>?_⟩)
 ·obtain ⟨a,b,rfl,_⟩:=h
  rfl
 ·obtain ⟨a,b,rfl,hq⟩:=h
  walk_at "rd"
  refine ⟨fun m ds=>∃ x y:Int,ds=[.v (.int x),.v (.int y)]∧Int.gcd x y=Int.gcd a b∧m=y.natAbs,⟨_,a,b,rfl,rfl,rfl⟩,?_⟩
  rintro m _ ⟨x,y,rfl,e,rfl⟩
  walk_at "rd"
  refine Hk (fun hp=>?_) (fun hp=>?_)
  ·rw [GV]
   exact ⟨hp,_,BP x y hp,(Em x y).trans e,rfl⟩
  ·subst hp
   rw [Int.gcd_zero_right] at e
   have:(if x < 0 then -x else x)=(Int.gcd a b:Int):=by rw [←e];split <;> omega
   rw [this]
   exact hq
noncomputable def Bt:DSp:=fun xs q _=>∃ a b:Int,xs=[.int a,.int b]∧0 < b∧Bd 9000 b∧q (wD (lowP a b) (UA a b))
theorem DC {A:Adr}(T:Txt K mg A):Zy P w K mg base (CXE P w) 2 A.VX A.Ow SJ (spD K Bt):=by
 have LI:=Mm (P:=P) (w:=w) (base:=base) T
 haveI:TxC K A:=⟨⟨_,T⟩⟩
 refine T.Rc.F.okJ RZ (fun xs q x h=>?_) (fun cdv Ar outer s H E hr=>⟨_,(Za (Zo (i:=2) RZ.nd rfl (Or.inl rfl) (Zh LI T.Xp (hr.mono (by decide)) Zg (Zc (jv 0) (Zc (jv 1) Zb))))
   (Za (ZO [] (ZC Eu (jv 1) Zd (ZF _)) (Ze (Zo (i:=2) RZ.nd rfl (Or.inl rfl) (Mx (jv 2)))) Zt)
   (Ze (Zr [] (Xv (Zc (Zn ZT (jv 0) (jv 2)) (Zc (Zn ZT (jv 1) (jv 2)) Zb))))))),fun xs q x h=>?_⟩)
 ·obtain ⟨a,b,rfl,_⟩:=h
  rfl
 ·obtain ⟨a,b,rfl,hb,hB,hq⟩:=h
  have gp:=QH (a:=a) (b:=b) (by omega)
  have gB:Bd 9000 (Int.gcd a b:Int):=hB.le (by
   have:=Int.le_of_dvd hb (Int.gcd_dvd_right a b)
   omega)
  walk_at "rd"
  refine ⟨_,_,rfl,?_⟩
  walk_at "rd"
  refine Uj (fun e=>by omega) (fun e=>?_)
  rw [NF,NF]
  exact ⟨by omega,.inr gB,by omega,.inr gB,by decide,hq⟩
def rd11:String:=rd10 ++ " pz pA pB vU EW Aa Slot.od.injEq D.dic.injEq"
local macro_rules | `(tactic| walk_at "rd") => rdM rd11
theorem uz {cs:List Int}{k:Int}(h:∀ c∈cs,0≤c):∀ c∈bump cs k,0≤c:=fun c hc=>by
 unfold bump at hc
 rcases List.mem_or_eq_of_mem_set hc with e | e
 ·exact h c e
 ·rw [e,getD_eq_getElem?_getD]
  cases q:cs[k.toNat]? with
  | none=>simp
  | some v=>have:=h v (mem_of_getElem? q);simp;omega
theorem Gj (ks:List Int) {cs:List Int}(h:∀ c∈cs,0≤c):∀ c∈YM cs ks,0≤c:=by
 unfold YM
 induction ks generalizing cs with
 | nil=>exact h
 | cons k ks ih=>rw [foldl_cons];exact ih (uz h)
theorem sum_set {l:List Int}{i:Nat}(h:i < l.length) (v:Int):(l.set i v).sum=l.sum - l[i] + v:=by
 induction l generalizing i with
 | nil=>simp at h
 | cons a l ih =>
  cases i with
  | zero=>simp;omega
  | succ i=>simp only [List.set_cons_succ,sum_cons,List.getElem_cons_succ];rw [ih (by simpa using h)];omega
theorem Gk (ks:List Int) {cs:List Int}(h:∀ k∈ks,0≤k∧k < cs.length):(YM cs ks).sum=cs.sum + ks.length:=by
 unfold YM
 induction ks generalizing cs with
 | nil=>simp
 | cons k ks ih =>
  obtain ⟨k0,k1⟩:=h k (mem_cons_self ..)
  have hk:k.toNat < cs.length:=by omega
  rw [foldl_cons,ih fun j hj=>by rw [IU];exact h j (mem_cons_of_mem _ hj)]
  unfold bump
  rw [sum_set hk,getD_eq_getElem?_getD,aB hk]
  simp
  omega
noncomputable def hsum (ps:List (Ru × Int)) (h:Str):Int:=((ps.filter fun p=>decide (p.1.hd=h)).map (·.2)).sum
theorem Gm (ps:List (Ru × Int)) (p:Ru × Int) (h:Str):hsum (ps++[p]) h=hsum ps h + if p.1.hd=h then p.2 else 0:=by
 unfold hsum
 rw [List.filter_append,map_append,sum_append]
 congr 1
 rw [filter_cons]
 by_cases e:p.1.hd=h <;> simp [e]
theorem AG {ps:List (Ru × Int)}(h:∀ p∈ps,0≤p.2) (hd:Str):0≤hsum ps hd∧hsum ps hd≤(ps.map (·.2)).sum:=by
 unfold hsum
 induction ps with
 | nil=>simp
 | cons p ps ih =>
  obtain ⟨h1,h2⟩:=ih fun q hq=>h q (mem_cons_of_mem _ hq)
  have:=h p (mem_cons_self ..)
  rw [filter_cons]
  split <;> simp only [map_cons,sum_cons] <;> omega
noncomputable def hmx (ps:List (Ru × Int)) (h:Str):Int:=if 1 > hsum ps h then 1 else hsum ps h
noncomputable def Wo (ps:List (Ru × Int)) (p:Ru × Int):D:=wD (lowP p.2 (hmx ps p.1.hd)) (UA p.2 (hmx ps p.1.hd))
theorem uA (kvs:List (Key × D)) (k k':Key) (d:D):Uz (Tz kvs k d) k'=if k'=k then some d else Uz kvs k':=by
 unfold Tz
 by_cases h:kvs.any (fun kv=>decide (kv.1=k))=true
 ·rw [if_pos h]
  induction kvs with
  | nil=>simp at h
  | cons kv kvs ih =>
   obtain ⟨j,g⟩:=kv
   rw [map_cons]
   unfold Uz at ih ⊢
   by_cases hj:j=k
   ·subst hj
    rw [if_pos rfl]
    by_cases e:k'=j
    ·subst e;simp
    ·rw [if_neg e,find?_cons_of_neg (by simpa using Ne.symm e),find?_cons_of_neg (by simpa using Ne.symm e)]
     by_cases h2:kvs.any (fun kv=>decide (kv.1=j))=true
     ·have:=ih h2
      rw [if_neg e] at this
      exact this
     ·have:kvs.map (fun kv=>if kv.1=j then (kv.1,d) else kv)=kvs:=by
       conv=>rhs;rw [←List.map_id kvs]
       refine List.map_congr_left fun x hx=>?_
       rw [if_neg (fun z=>h2 (List.any_eq_true.mpr ⟨x,hx,by simpa using z⟩))]
       rfl
      rw [this]
   ·rw [if_neg hj]
    have h2:kvs.any (fun kv=>decide (kv.1=k))=true:=by simpa [hj] using h
    by_cases e:k'=j
    ·subst e
     rw [if_neg hj]
     simp
    ·rw [find?_cons_of_neg (by simpa using Ne.symm e),ih h2,find?_cons_of_neg (by simpa using Ne.symm e)]
 ·rw [if_neg h]
  unfold Uz
  rw [List.find?_append]
  by_cases e:k'=k
  ·subst e
   rw [if_pos rfl]
   have:kvs.find? (fun kv=>decide (kv.1=k'))=none:=List.find?_eq_none.mpr fun x hx z=>h (List.any_eq_true.mpr ⟨x,hx,z⟩)
   rw [this]
   simp
  ·rw [if_neg e]
   cases kvs.find? (fun kv=>decide (kv.1=k')) with
   | none=>simp [Ne.symm e]
   | some v=>simp
theorem yA (kvs:List (Key × D)) (k:Key) (d:D):(Tz kvs k d).length≤kvs.length + 1:=by
 unfold Tz
 split <;> simp
noncomputable def uB (A:Adr):zU:=fun xs q x=>∃ (z st:Str) (rs:List Ru) (ts:List Tr),xs=[Gr A z st rs,.lst (ts.map Tr.d)]∧st.length≤1000∧Rus rs∧(∀ t∈ts,t.pl=true∧t.sz≤1000000)∧ts.length≤1000∧Uk st=true ∧
 ((ts≠[]∧∀ t∈ts,XF rs st (-1) t=true)→q ((rs.zip (YM (replicate rs.length 0) (Tr.rls ts))).map (Wo (rs.zip (YM (replicate rs.length 0) (Tr.rls ts))))))∧(¬ (ts≠[]∧∀ t∈ts,XF rs st (-1) t=true)→x A.VV)
theorem yB {A:Adr}(T:Txt K mg A):Zy P w K mg base (CXE P w) 7 A.Qk A.IA NU (spF K (uB A)):=by
 have DF:=FH (P:=P) (w:=w) (base:=base) T
 have Bu:=DC (P:=P) (w:=w) (base:=base) T
 haveI:TxC K A:=⟨⟨_,T⟩⟩
 refine T.Mf.F.okF TB (fun xs q x h=>?_) (fun cdv Ar outer s H E hr=>⟨_,(Za (Zo (i:=2) TB.nd rfl (Or.inl rfl) (Zh DF.fz T.UL (hr.mono (by decide)) Zg (Zc (jv 0) (Zc (jv 1) Zb))))
   (Za (rG (i:=3) TB.nd rfl (Or.inr rfl))
   (Za (YQ PassesOwn.leaving (Jq (by rfl) T.b_zip (Zc (ZL (K:=K) rfl (jv 0)) (Zc (jv 2) Zb))) (We (n:=2) (Zw (Zi (i:=4) TB.nd rfl (Or.inl rfl)) (Zw (Zi (i:=5) TB.nd rfl (Or.inl rfl)) Xc))) (Ze (rH [3] 3 (xu hr) (ZL (K:=K) rfl (jv 4)) (Zn ZK (vV (xu hr) (jv 3) (ZL (K:=K) rfl (jv 4)) Zd) (jv 5)))))
   (Ze (rL [3] (Ah ["rule", "count"] ["heads"] [3] (Jq (by rfl) T.b_zip (Zc (ZL (K:=K) rfl (jv 0)) (Zc (jv 2) Zb))) (fun _=>(We (n:=2) (Zw (Zi (i:=0) (show @Nodup Str ((["rule", "count"]:List Str)++(["heads"]:List Str)) by decide +kernel) rfl (Or.inl rfl) (Or.inr rfl)) (Zw (Zi (i:=1) (show @Nodup Str ((["rule", "count"]:List Str)++(["heads"]:List Str)) by decide +kernel) rfl (Or.inl rfl) (Or.inr rfl)) Xc)))) (fun _=>Yu) (fun _=>(Zh Bu T.Rc (hr.mono (by decide)) QK (Zc (jv 1) (Zc (Yo wc (by rfl) T.b_max PyProof.Rows.boot_max (Zc (rJ (xu hr) (jv 2) (ZL (K:=K) rfl (jv 0))) (Zc Zd Zb))) Zb)))))))))),fun xs q x h=>?_⟩)
 ·obtain ⟨z,st,rs,ts,rfl,_⟩:=h
  rfl
 ·obtain ⟨z,st,rs,ts,rfl,hst,hrs,ht,hl,hk,hq,hx⟩:=h
  have hsz:aA=16777216:=rfl
  walk_at "rd"
  refine ⟨z,st,rs,ts,rfl,hst,hrs,ht,by omega,hk,fun hg=>?_,hx⟩
  have hq:=hq hg
  have inb:∀ k∈Tr.rls ts,0≤k∧k < (replicate rs.length (0:Int)).length:=by
   rw [length_replicate]
   intro k hk
   have:∀ us:List Tr,(∀ t∈us,XF rs st (-1) t=true)→∀ k∈Tr.rls us,0≤k∧k < rs.length:=by
    intro us
    induction us with
    | nil=>intro _ k hk;unfold Tr.rls at hk;cases hk
    | cons t us ih =>
     intro h k hk
     unfold Tr.rls at hk
     rcases mem_append.mp hk with e | e
     ·exact Ml (h t (mem_cons_self ..)) k e
     ·exact ih (fun u hu=>h u (mem_cons_of_mem _ hu)) k e
   exact this ts hg.2 k hk
  have bs:=Gk (Tr.rls ts) inb
  have bp:=Gj (Tr.rls ts) (cs:=replicate rs.length 0) (fun c hc=>by rw [List.eq_of_mem_replicate hc];omega)
  have bl:=Sn (Tr.rls ts) (replicate rs.length 0)
  rw [length_replicate] at bl
  have rl:(Tr.rls ts).length≤1000 * 1000000:=by
   have:∀ us:List Tr,(∀ t∈us,t.sz≤1000000)→Tr.szs us≤us.length * 1000000:=by
    intro us
    induction us with
    | nil=>intro _;simp [Tr.szs]
    | cons t us ih =>
     intro h
     have:=ih fun u hu=>h u (mem_cons_of_mem _ hu)
     have:=h t (mem_cons_self ..)
     rw [Tr.szs,length_cons]
     omega
   have a:=this ts fun t h=>(ht t h).2
   have b:=Tr.Jv ts
   omega
  generalize YM (replicate rs.length 0) (Tr.rls ts)=cs at hq bs bp bl
  have s0:(replicate rs.length (0:Int)).sum=0:=by simp
  rw [s0] at bs
  have zs:(rs.zip cs).map (·.2)=cs:=by rw [List.map_snd_zip (by omega)]
  have zp:∀ p∈rs.zip cs,0≤p.2:=fun p hp=>bp _ (of_mem_zip hp).2
  have zl:(rs.zip cs).length=rs.length:=by rw [length_zip];omega
  have hm:∀ h,0≤hsum (rs.zip cs) h∧hsum (rs.zip cs) h≤1000000000:=fun h=>by
   obtain ⟨a,b⟩:=AG zp h
   rw [zs] at b
   exact ⟨a,by omega⟩
  have ez:Io (rs.map (Ru.d A)) (cs.map D.int)=(rs.zip cs).map fun p => .tup [p.1.d A,.int p.2]:=by
   unfold Io
   rw [List.zip_map,map_map]
   rfl
  obtain ⟨l1,l2⟩:=hrs
  walk_at "rd"
  refine ⟨[],?_⟩
  walk_at "rd"
  refine ⟨_,rfl,_,rfl,?_⟩
  rw [ez]
  refine Yq (fun i ds'=>∃ (kvs:List (Key × D)) (s4 s5:L2.Slot),ds'=[.v (Gr A z st rs),.v (.lst (ts.map Tr.d)),.v (.lst (cs.map .int)),.od kvs,s4,s5]∧kvs.length≤i∧∀ h,Uz kvs (.inr h)=if h∈((rs.zip cs).take i).map (·.1.hd) then some (.int (hsum ((rs.zip cs).take i) h)) else none) ⟨[],_,_,rfl,by simp,fun h=>by simp [Uz]⟩ (fun i p ds N hp hd hn=>?_) (fun ds hd=>?_)
  ·obtain ⟨kvs,s4,s5,rfl,kl,hv⟩:=hd
   have il:i < rs.length:=by rw [←zl];exact (List.getElem?_eq_some_iff.mp hp).1
   walk_at "rd"
   have ev:(Uz kvs (.inr p.1.hd)).getD (.int 0) = .int (hsum ((rs.zip cs).take i) p.1.hd):=by
    rw [hv]
    split
    ·rfl
    ·rename_i e
     have:hsum ((rs.zip cs).take i) p.1.hd=0:=by
      unfold hsum
      rw [List.filter_eq_nil_iff.mpr fun y hy z=>e (mem_map.mpr ⟨y,hy,of_decide_eq_true z⟩)]
      rfl
     rw [this]
     rfl
   refine ⟨.inr p.1.hd,rfl,?_⟩
   rw [ev]
   walk_at "rd"
   refine ⟨.inr p.1.hd,rfl,by omega,hn _ ⟨_,_,_,rfl,by have:=yA kvs (.inr p.1.hd) (.int (hsum ((rs.zip cs).take i) p.1.hd + p.2));omega,fun h=>?_⟩⟩
   have etk:(rs.zip cs).take (i + 1)=(rs.zip cs).take i++[p]:=by rw [take_add_one,hp];rfl
   have mem:h∈((rs.zip cs).take (i + 1)).map (·.1.hd)↔h∈((rs.zip cs).take i).map (·.1.hd)∨h=p.1.hd:=by rw [etk];simp
   rw [uA,etk,Gm,←etk]
   by_cases e:h=p.1.hd
   ·rw [if_pos (by rw [e]),if_pos (mem.mpr (.inr e)),e,if_pos rfl]
   ·have e0:(if p.1.hd=h then p.2 else 0)=0:=if_neg (fun z=>e z.symm)
    rw [if_neg (fun z=>e (by cases z;rfl)),hv,e0,Int.add_zero]
    by_cases e2:h∈((rs.zip cs).take i).map (·.1.hd)
    ·rw [if_pos e2,if_pos (mem.mpr (.inl e2))]
    ·rw [if_neg e2,if_neg (fun z=>(mem.mp z).elim e2 e)]
  ·obtain ⟨kvs,s4,s5,rfl,kl,hv⟩:=hd
   rw [take_length] at hv
   walk_at "rd"
   refine ⟨_,rfl,_,rfl,?_⟩
   rw [ez]
   refine Gc (c:=fun p:Ru × Int=>p.1.d A) (c':=fun p:Ru × Int => .int p.2) (Wo (rs.zip cs)) (by omega) (fun p hp N hN=>?_) hq
   walk_at "rd"
   obtain ⟨a1,a2⟩:=hm p.1.hd
   refine ⟨.inr p.1.hd,rfl,.int (hsum (rs.zip cs) p.1.hd),by rw [hv,if_pos (mem_map.mpr ⟨p,hp,rfl⟩)],?_⟩
   walk_at "rd"
   have e:(if 1 > hsum (rs.zip cs) p.1.hd then (1:Int) else hsum (rs.zip cs) p.1.hd)=hmx (rs.zip cs) p.1.hd:=rfl
   refine ⟨p.2,hmx (rs.zip cs) p.1.hd,rfl,?_,?_,hN⟩
   ·unfold hmx;split <;> omega
   ·have hb:0 < hmx (rs.zip cs) p.1.hd∧hmx (rs.zip cs) p.1.hd < 2 ^ 64:=by unfold hmx;split <;> omega
    exact (Bd.of (by omega) hb.2).mono (by decide)
def rd12:String:=rd11 ++ " pK"
local macro_rules | `(tactic| walk_at "rd") => rdM rd12
theorem yC {R:D→D→Bool}{xs:List D}(h:∀ d∈xs,R d d=true):RT R xs xs=true:=by
 induction xs with
 | nil=>rfl
 | cons x xs ih=>rw [RT,h x (mem_cons_self ..),ih fun d hd=>h d (mem_cons_of_mem _ hd)];rfl
theorem uC {xs:List D}(h:∀ d∈xs,D.eqb d d=true):D.SC xs xs=true:=by
 induction xs with
 | nil=>unfold D.SC;rfl
 | cons x xs ih=>rw [D.SC,h x (mem_cons_self ..),ih fun d hd=>h d (mem_cons_of_mem _ hd)];rfl
theorem AH (i:Int):D.eqb (.int i) (.int i)=true:=by unfold D.eqb;simp [D.toV,eqV]
theorem DH (n:Nat) (i:Int):D.JZ n (.int i) (.int i)=true:=by cases n <;> rfl
theorem yD {c N:Int}(hN:0 < N):0 < (Int.gcd c N:Int)∧c=(Int.gcd c N:Int) * lowP c N∧N=(Int.gcd c N:Int) * UA c N:=by
 have gp:=QH (a:=c) (b:=N) (by omega)
 refine ⟨gp,?_,?_⟩
 ·unfold lowP
  rw [Int.fdiv_eq_ediv_of_nonneg _ (by omega),Int.mul_ediv_cancel' (Int.gcd_dvd_left ..)]
 ·unfold UA
  rw [Int.fdiv_eq_ediv_of_nonneg _ (by omega),Int.mul_ediv_cancel' (Int.gcd_dvd_right ..)]
theorem IY {c N:Int}(hN:0 < N) (h0:0≤c) (h1:c≤N):0≤lowP c N∧lowP c N≤UA c N∧1≤UA c N∧UA c N≤N:=by
 obtain ⟨g,e1,e2⟩:=yD (c:=c) hN
 generalize (Int.gcd c N:Int)=d at *
 generalize lowP c N=p at *
 generalize UA c N=q at *
 have p0:0≤p:=by
  refine Int.le_of_not_gt fun z=>?_
  have:=Int.mul_neg_of_pos_of_neg g z
  omega
 have q0:0 < q:=by
  refine Int.lt_of_not_ge fun z=>?_
  have:=Int.mul_nonpos_of_nonneg_of_nonpos (by omega:0≤d) z
  omega
 refine ⟨p0,?_,by omega,?_⟩
 ·refine Int.le_of_mul_le_mul_left (a:=d) ?_ g
  omega
 ·have:=Int.mul_le_mul_of_nonneg_right (show 1≤d by omega) (show 0≤q by omega)
  omega
theorem DJ {c N:Int}(hN:0 < N):Low (lowP c N) (UA c N)∧lowP c N * N=c * UA c N:=by
 have gp:=QH (a:=c) (b:=N) (by omega)
 obtain ⟨l,e,_,_⟩:=xR (a:=c) (b:=N) (d:=(Int.gcd c N:Int)) (by omega) (.inl rfl) (Int.mul_pos hN gp)
 exact ⟨l,e⟩
theorem LJ {α β:Type}(f:α→D) (g:α × β→D) (h:β→D):∀ (xs:List α) (ys:List β),Fs (xs.map f) ((xs.zip ys).map g) (ys.map h)=(xs.zip ys).map fun p => .tup [f p.1,g p,h p.2]
 | [],_=>rfl
 | _::_,[]=>rfl
 | x::xs,y::ys=>by
  have:=LJ f g h xs ys
  unfold Fs at this ⊢
  simp only [map_cons,List.zip_cons_cons,this]
theorem uD {T B M S a b c:Int}(hT:T * M=B * S) (el:a * M=c * b):(T * b + a * B) * M=B * b * (S + c):=by grind
noncomputable def FM:DSp:=fun xs q _=>∃ t N:Int,xs=[wD (lowP t N) (UA t N),.int t,.int N]∧0≤t∧t≤N∧0 < N∧N < 2 ^ 40∧q (.bl true)
theorem Hy {A:Adr}(T:Txt K mg A):Zy P w K mg base (CXE P w) 2 A.Wj A.Rb Vz (spD K FM):=by
 have Gn:=Bs (P:=P) (w:=w) (base:=base) T
 have OM:=KL (P:=P) (w:=w) (base:=base) T
 haveI:TxC K A:=⟨⟨_,T⟩⟩
 refine T.VD.F.okJ Hi (fun xs q x h=>?_) (fun cdv Ar outer s H E hr=>⟨_,(Za (ZO [] (Oe (RP (Yl (ZU (Yo (Vi (K:=K) rfl) (by rfl) T.ZQ PyProof.Rows.boot_isinstance (Zc (jv 0) (Zc (Wc (n := "tuple") (by rfl) T.b_tuple PyProof.Rows.boot_tuple) Zb))))) (RP (ZC (NI hr.WW) (Yo Yj (by rfl) T.b_len PySem.boot_len (Zc (jv 0) Zb)) Zd (ZF _)) (RP (Yl (ZU (Zh Gn T.Se (hr.mono (by decide)) Zg (Zc (Zm (jv 0) Zd) Zb)))) (RO (Yl (ZU (Zh Gn T.Se (hr.mono (by decide)) Zg (Zc (Zm (jv 0) Zd) Zb))))))))) (Ze (Zr [] NB)) Zt)
   (Ze (Zr [] (Mw (VN Et (Zm (jv 0) Zd) Zd (ZF _)) (Mw (VN (WX hr.WW) (Zh OM T.Uh (hr.mono (by decide)) Zg (Zc (Zm (jv 0) Zd) (Zc (Zm (jv 0) Zd) Zb))) (jv 0) (ZF _)) (Mv (VN (WX hr.WW) (Zn Wd (Zm (jv 0) Zd) (jv 2)) (Zn Wd (jv 1) (Zm (jv 0) Zd)) (ZF _)))))))),fun xs q x h=>?_⟩)
 ·obtain ⟨t,N,rfl,_⟩:=h
  rfl
 ·obtain ⟨t,N,rfl,t0,t1,hN,hN2,hq⟩:=h
  obtain ⟨l,e⟩:=DJ (c:=t) hN
  obtain ⟨b1,b2,b3,b4⟩:=IY (c:=t) hN t0 t1
  have self:=l.self
  have s1:lowP (lowP t N) (UA t N)=lowP t N:=self.1
  have s2:UA (lowP t N) (UA t N)=UA t N:=self.2
  unfold wD
  walk_at "rd"
  rw [if_neg (show ¬ ((!decide (((2:Nat):Int)=2))=true) by decide)]
  refine ⟨_,rfl,?_⟩
  walk_at "rd"
  refine ⟨_,rfl,?_⟩
  walk_at "rd"
  rw [decide_eq_true (show 0 < UA t N by omega)]
  walk_at "rd"
  refine ⟨_,_,rfl,by omega,(Bd.of (n:=40) (by omega) (by omega)).mono (by decide),?_⟩
  rw [s1,s2]
  unfold wD
  walk_at "rd"
  have mi:∀ d∈[D.int (lowP t N),D.int (UA t N)],D.JZ 80 d d=true∧D.eqb d d=true:=fun d hd=>by
   rcases mem_cons.mp hd with e | e
   ·rw [e];exact ⟨DH _ _,AH _⟩
   ·rw [mem_singleton.mp e];exact ⟨DH _ _,AH _⟩
  refine ⟨yC fun d hd=>(mi d hd).1,?_⟩
  rw [if_pos (uC fun d hd=>(mi d hd).2),decide_eq_true e]
  exact ⟨.r (by omega) (by omega),.r (by omega) (by omega),hq⟩
noncomputable def uE:DSp:=fun xs q _=>∃ (rs:List Ru) (cs:List Int),xs=[.lst (rs.map Ye),.lst ((rs.zip cs).map (Wo (rs.zip cs))),.lst (cs.map .int)]∧rs.length=cs.length∧rs.length≤9∧(∀ r∈rs,r.hd.length≤12)∧(∀ h,0≤hsum (rs.zip cs) h∧hsum (rs.zip cs) h≤2670) ∧
 (∀ p∈rs.zip cs,0≤p.2∧p.2≤hsum (rs.zip cs) p.1.hd)∧q (.bl true)
theorem yE {A:Adr}(T:Txt K mg A):Zy P w K mg base (CXE P w) 1 A.Qn A.IB NW (spD K uE):=by
 haveI:TxC K A:=⟨⟨_,T⟩⟩
 refine T.Mg.F.okJ YJ (fun xs q x h=>?_) (fun cdv Ar outer s H E hr=>⟨_,(Za (UQ (YQ PassesOwn.leaving (ZY (Yi ["_law_row"] [] [] (ZY (jv 0)) (fun _=>(Zi (i:=0) (show @Nodup Str ((["_law_row"]:List Str)++([]:List Str)) by decide +kernel) rfl (Or.inl rfl) (Or.inr rfl))) (fun _=>Yu) (fun _=>(Zm (jv 0) Zd)))) (Zi (i:=3) YJ.nd rfl (Or.inl rfl)) (Za (Fg (Xv (Zc Zd (Zc Zd (Zc Zd Zb)))) (We (n:=3) (Zw (Zi (i:=4) YJ.nd rfl (Or.inl rfl)) (Zw (Zi (i:=5) YJ.nd rfl (Or.inl rfl)) (Zw (Zi (i:=6) YJ.nd rfl (Or.inl rfl)) Xc)))))
   (Za (UQ (YQ PassesOwn.leaving (Ax (by rfl) T.b_zip (Zc (jv 0) (Zc (jv 1) (Zc (jv 2) Zb)))) (We (n:=3) (Zw (Zi (i:=7) YJ.nd rfl (Or.inl rfl)) (Zw (Zi (i:=8) YJ.nd rfl (Or.inl rfl)) (Zw (Zi (i:=9) YJ.nd rfl (Or.inl rfl)) Xc)))) (Ze (ZO [] (ZC (WX hr.WW) (Zm (jv 7) Zd) (jv 3) (ZF _)) (Za (Zo (i:=4) YJ.nd rfl (Or.inl rfl) (Zn ZK (Zn Wd (jv 4) (Zm (jv 8) Zd)) (Zn Wd (Zm (jv 8) Zd) (jv 5))))
   (Za (Zo (i:=5) YJ.nd rfl (Or.inl rfl) (Zn Wd (jv 5) (Zm (jv 8) Zd)))
   (Ze (Zo (i:=6) YJ.nd rfl (Or.inl rfl) (Zn ZK (jv 6) (jv 9)))))) Zt))))
   (Ze (ZO [] (ZC (NI hr.WW) (jv 4) (Zn Wd (jv 5) (Tv we (by rfl) T.b_int PyProof.Rows.boot_int (Zc (VN Et (jv 6) Zd (ZF _)) Zb))) (ZF _)) (Ze (Zr [] NB)) Zt))))))
   (Ze (Zr [] NB))),fun xs q x h=>?_⟩)
 ·obtain ⟨rs,cs,rfl,_⟩:=h
  rfl
 ·obtain ⟨rs,cs,rfl,hl,l9,hh,hm,hp,hq⟩:=h
  have hsz:aA=16777216:=rfl
  have ez:Fs (rs.map Ye) ((rs.zip cs).map (Wo (rs.zip cs))) (cs.map D.int)=(rs.zip cs).map fun p => .tup [Ye p.1,Wo (rs.zip cs) p,.int p.2]:=LJ _ _ _ _ _
  walk_at "rd"
  refine ⟨fun _=>True,⟨[],?_⟩,fun _ _=>hq⟩
  walk_at "rd"
  refine YG (fun r:Ru => .str r.hd) (by omega) (fun r hr N hN=>?_) ?_
  ·walk_at "rd"
   exact hN
  refine Yq (fun i ds'=>∃ s3 s4 s5 s6 s7 s8 s9:L2.Slot,ds'=[.v (.lst (rs.map Ye)),.v (.lst ((rs.zip cs).map (Wo (rs.zip cs)))),.v (.lst (cs.map .int)),s3,s4,s5,s6,s7,s8,s9]) ⟨_,_,_,_,_,_,_,rfl⟩ (fun i r ds N hr hd hn=>?_) (fun _ _=>trivial)
  obtain ⟨s3,s4,s5,s6,s7,s8,s9,rfl⟩:=hd
  walk_at "rd"
  have hM:0 < hmx (rs.zip cs) r.hd:=by unfold hmx;split <;> omega
  refine ⟨by decide,fun ds'=>∃ (T B:Int) (s7 s8 s9:L2.Slot),ds'=[.v (.lst (rs.map Ye)),.v (.lst ((rs.zip cs).map (Wo (rs.zip cs)))),.v (.lst (cs.map .int)),.v (.str r.hd),.v (.int T),.v (.int B),.v (.int (hsum (rs.zip cs) r.hd)),s7,s8,s9]∧T * hmx (rs.zip cs) r.hd=B * hsum (rs.zip cs) r.hd,⟨[],?_⟩,?_⟩
  ·walk_at "rd"
   refine ⟨_,rfl,_,rfl,_,rfl,?_⟩
   rw [ez]
   refine Yq (fun i ds'=>∃ (T B:Int) (s7 s8 s9:L2.Slot),ds'=[.v (.lst (rs.map Ye)),.v (.lst ((rs.zip cs).map (Wo (rs.zip cs)))),.v (.lst (cs.map .int)),.v (.str r.hd),.v (.int T),.v (.int B),.v (.int (hsum ((rs.zip cs).take i) r.hd)),s7,s8,s9]∧T * hmx (rs.zip cs) r.hd=B * hsum ((rs.zip cs).take i) r.hd) ⟨0,1,_,_,_,rfl,by simp [hsum]⟩ (fun i p ds N hi hd hn=>?_) (fun ds hd=>by rw [take_length] at hd;exact hd)
   obtain ⟨T,B,s7,s8,s9,rfl,hT⟩:=hd
   have hpm:=mem_of_getElem? hi
   have etk:(rs.zip cs).take (i + 1)=(rs.zip cs).take i++[p]:=by rw [take_add_one,hi];rfl
   have hs:=Gm ((rs.zip cs).take i) p r.hd
   rw [←etk] at hs
   unfold Wo wD
   walk_at "rd"
   have hN:hmx (rs.zip cs) p.1.hd > 0∧hsum (rs.zip cs) p.1.hd≤hmx (rs.zip cs) p.1.hd∧hmx (rs.zip cs) p.1.hd≤2670:=by have:=hm p.1.hd;unfold hmx;split <;> omega
   obtain ⟨_,el⟩:=DJ (c:=p.2) hN.1
   obtain ⟨c0,c1⟩:=hp p hpm
   obtain ⟨b1,b2,b3,b4⟩:=IY (c:=p.2) hN.1 c0 (by omega)
   refine Uj (fun e=>?_) (fun e=>?_)
   ·refine ⟨.r (by omega) (by omega),.l (by omega) (by omega),.r (by omega) (by omega),hn _ ⟨T * UA p.2 (hmx (rs.zip cs) p.1.hd) + lowP p.2 (hmx (rs.zip cs) p.1.hd) * B,B * UA p.2 (hmx (rs.zip cs) p.1.hd),.v (Ye p.1),.v (Wo (rs.zip cs) p),.v (.int p.2),?_⟩⟩
    rw [hs,if_pos e]
    refine ⟨rfl,?_⟩
    rw [e] at el ⊢
    exact uD hT el
   ·refine hn _ ⟨T,B,.v (Ye p.1),.v (Wo (rs.zip cs) p),.v (.int p.2),?_⟩
    rw [hs,if_neg e,Int.add_zero]
    exact ⟨rfl,hT⟩
  rintro _ ⟨T,B,s7,s8,s9,rfl,hT⟩
  walk_at "rd"
  have key:T=B * (if decide (0 < hsum (rs.zip cs) r.hd)=true then 1 else 0):=by
   have h0:=hm r.hd
   by_cases z:0 < hsum (rs.zip cs) r.hd
   ·rw [decide_eq_true z,if_pos rfl,Int.mul_one]
    have hx:hmx (rs.zip cs) r.hd=hsum (rs.zip cs) r.hd:=by unfold hmx;split <;> omega
    rw [hx] at hT
    exact Int.eq_of_mul_eq_mul_right (by omega) hT
   ·rw [decide_eq_false z,if_neg (by decide),Int.mul_zero]
    have hx:hmx (rs.zip cs) r.hd=1:=by unfold hmx;split <;> omega
    have h1:hsum (rs.zip cs) r.hd=0:=by omega
    rw [hx,h1,Int.mul_one,Int.mul_zero] at hT
    exact hT
  refine ⟨.r (by split <;> decide) (by split <;> decide),?_⟩
  rw [if_neg (by rw [decide_eq_true key];decide)]
  exact hn _ ⟨_,_,_,_,_,_,_,rfl⟩
theorem mO {A:Adr}(T:Txt K mg A):Zy P w K mg base (CXE P w) 44 A.f_law A.d_law vX (spD K gLaw):=by
 have yF:=Bn (P:=P) (w:=w) (base:=base) T
 have Ja:=LA (P:=P) (w:=w) (base:=base) T
 have uF:=yB (P:=P) (w:=w) (base:=base) T
 have Bv:=DB (P:=P) (w:=w) (base:=base) T
 have uG:=yE (P:=P) (w:=w) (base:=base) T
 have FN:=Hy (P:=P) (w:=w) (base:=base) T
 haveI:TxC K A:=⟨⟨_,T⟩⟩
 refine T.L_law.F.okJ UY (fun xs q x h=>?_) (fun cdv Ar outer s H E hr=>⟨_,(Za (Fg (Zh yF T.Pk (hr.mono (by decide)) Zg (Zc (jv 0) Zb)) (We (n:=2) (Zw (Zi (i:=1) UY.nd rfl (Or.inl rfl)) (Zw (Zi (i:=2) UY.nd rfl (Or.inl rfl)) Xc))))
   (Za (Zo (i:=3) UY.nd rfl (Or.inl rfl) (Zh Ja T.XH (hr.mono (by decide)) Zg (Zc (jv 0) (Zc (jv 1) Zb))))
   (Za (Zo (i:=4) UY.nd rfl (Or.inl rfl) (Zh uF.fz T.Mf (hr.mono (by decide)) Zg (Zc (jv 2) (Zc (Tv Fb (by rfl) T.b_list PyProof.Rows.boot_list (Zc (jv 3) Zb)) Zb))))
   (Za (Zo (i:=5) UY.nd rfl (Or.inl rfl) (Zh Bv.fz T.Rh (hr.mono (by decide)) Zg (Zc (jv 1) (Zc (jv 3) Zb))))
   (Za (ZO [] (Oe (RP (Yl (ZU (Yo (Vi (K:=K) rfl) (by rfl) T.ZQ PyProof.Rows.boot_isinstance (Zc (jv 4) (Zc (Wc (n := "list") (by rfl) T.b_list PyProof.Rows.boot_list) Zb))))) (RO (ZC (NI hr.WW) (Yo Yj (by rfl) T.b_len PySem.boot_len (Zc (jv 4) Zb)) (Yo Yj (by rfl) T.b_len PySem.boot_len (Zc (jv 1) Zb)) (ZF _))))) (Ze (Zr [] NB)) Zt)
   (Za (YQ PassesOwn.leaving (Ax (by rfl) T.b_zip (Zc (jv 1) (Zc (jv 4) (Zc (jv 5) Zb)))) (We (n:=3) (Zw (Zi (i:=6) UY.nd rfl (Or.inr rfl)) (Zw (Zi (i:=7) UY.nd rfl (Or.inl rfl)) (Zw (Zi (i:=8) UY.nd rfl (Or.inl rfl)) Xc)))) (Za (Zo (i:=9) UY.nd rfl (Or.inl rfl) (Yo mq (by rfl) T.b_sum PyProof.Rows.boot_sum (Zc (Yi ["_law_one", "_law_other"] ["_law_row"] [6] (Jq (by rfl) T.b_zip (Zc (jv 1) (Zc (jv 5) Zb))) (fun _=>(We (n:=2) (Zw (Zi (i:=0) (show @Nodup Str ((["_law_one", "_law_other"]:List Str)++(["_law_row"]:List Str)) by decide +kernel) rfl (Or.inl rfl) (Or.inr rfl)) (Zw (Zi (i:=1) (show @Nodup Str ((["_law_one", "_law_other"]:List Str)++(["_law_row"]:List Str)) by decide +kernel) rfl (Or.inl rfl) (Or.inr rfl)) Xc)))) (fun _=>(Og (ZC (WX hr.WW) (Zm (jv 0) Zd) (Zm (jv 2) Zd) (ZF _)))) (fun _=>(jv 1))) Zb)))
   (Ze (ZO [] (Yl (ZU (Zh FN T.VD (hr.mono (by decide)) Zg (Zc (jv 7) (Zc (jv 8) (Zc (Yo wc (by rfl) T.b_max PyProof.Rows.boot_max (Zc Zd (Zc (jv 9) Zb))) Zb)))))) (Ze (Zr [] NB)) Zt))))
   (Ze (Zr [] (Zh uG T.Mg (hr.mono (by decide)) Zg (Zc (jv 1) (Zc (jv 4) (Zc (jv 5) Zb)))))))))))),fun xs q x h=>?_⟩)
 ·obtain ⟨ns,rfl,_⟩:=h
  rfl
 ·obtain ⟨ns,rfl,hl,hq⟩:=h
  have hsz:aA=16777216:=rfl
  walk_at "rd"
  refine ⟨ns,rfl,fun sc kinds words rs r0 hsc hR h0 hG=>?_⟩
  walk_at "rd"
  refine ⟨ns,sc,kinds,words,rs,r0,rfl,hR,h0,fun ts hts=>?_⟩
  walk_at "rd"
  obtain ⟨tn,t6,tt⟩:=hts
  have hkd:Uk r0.hd=true:=hR.kd _ (hR.row r0 (mem_of_getElem? h0)).hd
  have hnm:=Sh (Dr hkd)
  have rl9:=hR.len
  have rl1:1≤rs.length:=by have:=hR.nk;have:=hR.k1;omega
  have inb:∀ us:List Tr,(∀ t∈us,XF rs r0.hd (-1) t=true)→∀ k∈Tr.rls us,0≤k∧k < (replicate rs.length (0:Int)).length:=by
   intro us
   rw [length_replicate]
   induction us with
   | nil=>intro _ k hk;unfold Tr.rls at hk;cases hk
   | cons t us ih =>
    intro h k hk
    unfold Tr.rls at hk
    rcases mem_append.mp hk with e | e
    ·exact Ml (h t (mem_cons_self ..)) k e
    ·exact ih (fun u hu=>h u (mem_cons_of_mem _ hu)) k e
  have szb:∀ us:List Tr,(∀ t∈us,t.sz≤445)→Tr.szs us≤us.length * 445:=by
   intro us
   induction us with
   | nil=>intro _;simp [Tr.szs]
   | cons t us ih =>
    intro h
    have:=ih fun u hu=>h u (mem_cons_of_mem _ hu)
    have:=h t (mem_cons_self ..)
    rw [Tr.szs,length_cons]
    omega
  have bs:=Gk (Tr.rls ts) (inb ts fun t h=>(tt t h).1)
  have bp:=Gj (Tr.rls ts) (cs:=replicate rs.length 0) (fun c hc=>by rw [List.eq_of_mem_replicate hc];omega)
  have bl:=Sn (Tr.rls ts) (replicate rs.length 0)
  rw [length_replicate] at bl
  have rtot:(Tr.rls ts).length≤2670:=by
   have a:=szb ts fun t h=>(tt t h).2.2.2.2
   have b:=Tr.Jv ts
   omega
  refine ⟨sc,r0.hd,rs,ts,rfl,by omega,hG.fit,fun t h=>?_,by omega,hkd,fun _=>?_,fun z=>absurd ⟨tn,fun t h=>(tt t h).1⟩ z⟩
  ·obtain ⟨a1,a2,a3,a4,a5⟩:=tt t h
   exact ⟨a3,by omega⟩
  generalize hcs:YM (replicate rs.length 0) (Tr.rls ts)=cs at bs bp bl
  have s0:(replicate rs.length (0:Int)).sum=0:=by simp
  rw [s0] at bs
  refine ⟨rs,ts,rfl,by omega,fun t h=>?_,?_⟩
  ·obtain ⟨a1,a2,a3,a4,a5⟩:=tt t h
   exact ⟨a2,a3,a4,Ml a1⟩
  rw [hcs]
  have zl:(rs.zip cs).length=rs.length:=by rw [length_zip];omega
  have zp:∀ p∈rs.zip cs,0≤p.2:=fun p hp=>bp _ (of_mem_zip hp).2
  have zs:(rs.zip cs).map (·.2)=cs:=by rw [List.map_snd_zip (by omega)]
  rw [length_map,zl]
  walk_at "rd"
  have ez:Fs (rs.map Ye) ((rs.zip cs).map (Wo (rs.zip cs))) (cs.map D.int)=(rs.zip cs).map fun p => .tup [Ye p.1,Wo (rs.zip cs) p,.int p.2]:=LJ _ _ _ _ _
  have ez2:Io (rs.map Ye) (cs.map D.int)=(rs.zip cs).map fun p => .tup [Ye p.1,.int p.2]:=by
   unfold Io
   rw [List.zip_map,map_map]
   rfl
  generalize hps:rs.zip cs=ps at *
  have hm:∀ h,0≤hsum ps h∧hsum ps h≤2670:=fun h=>by
   obtain ⟨a,b⟩:=AG zp h
   rw [zs] at b
   exact ⟨a,by omega⟩
  have cle:∀ p∈ps,p.2≤hsum ps p.1.hd:=by
   intro p hp
   unfold hsum
   have:p.2∈(ps.filter fun q=>decide (q.1.hd=p.1.hd)).map (·.2):=mem_map.mpr ⟨p,mem_filter.mpr ⟨hp,by simp⟩,rfl⟩
   have nn:∀ x∈(ps.filter fun q=>decide (q.1.hd=p.1.hd)).map (·.2),0≤x:=fun x hx=>by
    obtain ⟨q,hq,rfl⟩:=mem_map.mp hx
    exact zp q (mem_filter.mp hq).1
   revert this nn
   generalize (ps.filter fun q=>decide (q.1.hd=p.1.hd)).map (·.2)=l
   intro h nn
   induction l with
   | nil=>cases h
   | cons x l ih =>
    have s0:0≤l.sum:=by
     clear ih h
     induction l with
     | nil=>simp
     | cons y l ih=>rw [sum_cons];have:=nn y (by simp);have:=ih fun z hz=>nn z (by simp at hz ⊢;rcases hz with e | e <;> simp [e]);omega
    rw [sum_cons]
    rcases mem_cons.mp h with e | e
    ·omega
    ·have:=ih e fun z hz=>nn z (mem_cons_of_mem _ hz)
     have:=nn x (mem_cons_self ..)
     omega
  refine ⟨[],?_⟩
  walk_at "rd"
  refine ⟨_,rfl,_,rfl,_,rfl,?_⟩
  rw [ez]
  refine Yq (fun i ds'=>∃ s6 s7 s8 s9:L2.Slot,ds'=[.v (.scr (ns.map .int)),.v (.lst (rs.map Ye)),.v (Gr A sc r0.hd rs),.v (.lst (ts.map Tr.d)),.v (.lst (ps.map (Wo ps))),.v (.lst (cs.map D.int)),s6,s7,s8,s9]) ⟨_,_,_,_,rfl⟩ (fun i p ds N hi hd hn=>?_) (fun ds hd=>?_)
  ·obtain ⟨s6,s7,s8,s9,rfl⟩:=hd
   have hpm:=mem_of_getElem? hi
   walk_at "rd"
   refine ⟨_,rfl,_,rfl,?_⟩
   rw [ez2]
   refine Ig (c:=fun p:Ru × Int=>Ye p.1) (c':=fun p:Ru × Int => .int p.2) (fun o=>decide (o.1.hd=p.1.hd)) (fun o => .int o.2) (by omega) (fun o ho N hN=>?_) (fun o ho _ N hN=>?_) ?_
   ·walk_at "rd"
    exact hN
   ·walk_at "rd"
    exact hN
   have es:(ps.filter fun o=>decide (o.1.hd=p.1.hd)).map (fun o=>D.int o.2)=((ps.filter fun o=>decide (o.1.hd=p.1.hd)).map (·.2)).map .int:=by rw [map_map];rfl
   rw [es]
   walk_at "rd"
   have h0:=hm p.1.hd
   have hN:hmx ps p.1.hd > 0∧hsum ps p.1.hd≤hmx ps p.1.hd∧hmx ps p.1.hd≤2670:=by unfold hmx;split <;> omega
   have em:(if ((ps.filter fun o=>decide (o.1.hd=p.1.hd)).map (·.2)).sum > 1 then ((ps.filter fun o=>decide (o.1.hd=p.1.hd)).map (·.2)).sum else 1)=hmx ps p.1.hd:=by
    show (if hsum ps p.1.hd > 1 then hsum ps p.1.hd else 1)=hmx ps p.1.hd
    unfold hmx
    split <;> split <;> omega
   rw [em]
   have c0:=zp p hpm
   have c1:=cle p hpm
   refine ⟨p.2,hmx ps p.1.hd,rfl,c0,by omega,hN.1,by omega,?_⟩
   walk_at "rd"
   exact hn _ ⟨_,_,_,_,rfl⟩
  obtain ⟨s6,s7,s8,s9,rfl⟩:=hd
  walk_at "rd"
  refine ⟨rs,cs,by rw [hps],by omega,by omega,fun r hr=>(Sh (Dr (hR.kd _ (hR.row r hr).hd))).2,by rw [hps];exact hm,by rw [hps];exact fun p h=>⟨zp p h,cle p h⟩,hq⟩
end
theorem all_mk {l:PySem.W.OpenLaw}{w:World}{K:aj}{h:Heap}{mg:Str→Option Value}{fa:Addr}(X:K.In h) (G:h.Ns mainGlobals mg) (hfa:mg "law" = some (.ref fa))
  {VG:Addr}
  {TC:Addr}
  {Wu:Addr}
  {C_Twice:Addr}
  {Wv:Addr}
  {TF:Addr}
  {C_Ring:Addr}
  {VV:Addr}
  {C_Cost:Addr}
  {Yg:Addr}
  {C_Rule:Addr}
  {ZI:Addr}
  {ZJ:Addr}{LK LL:Option Addr}{LN:Array (Option Value)}{LO LQ LR LU Sr LV:Value}
  {ZD:Addr}{Py Pz:Option Addr}{PB:Array (Option Value)}{PC PD PF PH Vv PJ:Value}
  {Yn:Addr}{Hz HA:Option Addr}{HB:Array (Option Value)}{HC HD HE HF PQ HG:Value}
  {ZW:Addr}{Jb Jc:Option Addr}{Jd:Array (Option Value)}{Je Jf Jg Jh RF Ji:Value}
  {YK:Addr}
  {VX:Addr}
  {VY:Addr}
  {Xh:Addr}
  {TH:Addr}
  {TJ:Addr}
  {TK:Addr}
  {Vb:Addr}
  {Wh:Addr}
  {ZM:Addr}
  {Yh:Addr}
  {Xz:Addr}
  {XA:Addr}
  {YL:Addr}
  {Vc:Addr}
  {Ua:Addr}
  {Wi:Addr}
  {XB:Addr}
  {Vd:Addr}
  {XC:Addr}
  {TL:Addr}
  {Qk:Addr}
  {f_l_at:Addr}
  {f_l_mix:Addr}
  {TN:Addr}
  {TQ:Addr}
  {TR:Addr}
  {Ub:Addr}
  {Uc:Addr}
  {Ud:Addr}
  {TU:Addr}
  {TV:Addr}
  {TX:Addr}
  {Ve:Addr}
  {TY:Addr}
  {YZ:Addr}
  {TZ:Addr}
  {Vf:Addr}
  {Ue:Addr}
  {Sa:Addr}
  {Wj:Addr}
  {Qn:Addr}
  {f_law:Addr}{od_law an_law:Option Addr}{sl_law:Array (Option Value)}{oc_law kV_law dc_law pm_law cd_law ct_law:Value}
  (aC_Cost:PySem.W.nsIn K mainGlobals "Cost" = some (some (.ref C_Cost))) (pg_Cost:plainGet K C_Cost Str.empty=true) (hd_Cost:hasDictIn K C_Cost=true) (po_Cost:plainOver K C_Cost=true) (sa_Cost:findIn K (.ref C_Cost) "__setattr__" = some (some (.builtin "object.__setattr__"))) (mk_Cost:makesIn K C_Cost=true) (in_Cost:findIn K (.ref C_Cost) "__init__" = some (some (.builtin "object.__init__"))) (kc_Cost:keepIn K (.ref C_Cost)=true)
  (LW:PySem.W.nsIn K mainGlobals "Chance" = some (some (.ref Yg))) (LX:plainGet K Yg Str.empty=true) (LY:hasDictIn K Yg=true) (LZ:plainOver K Yg=true) (Ka:findIn K (.ref Yg) "__setattr__" = some (some (.builtin "object.__setattr__"))) (Sb:makesIn K Yg=true) (Kb:findIn K (.ref Yg) "__init__" = some (some (.builtin "object.__init__"))) (Kc:keepIn K (.ref Yg)=true)
  (aC_Rule:PySem.W.nsIn K mainGlobals "Rule" = some (some (.ref C_Rule))) (pg_Rule:plainGet K C_Rule Str.empty=true) (hd_Rule:hasDictIn K C_Rule=true) (po_Rule:plainOver K C_Rule=true) (sa_Rule:findIn K (.ref C_Rule) "__setattr__" = some (some (.builtin "object.__setattr__"))) (mk_Rule:makesIn K C_Rule=true) (kc_Rule:keepIn K (.ref C_Rule)=true) (Td:findIn K (.ref C_Rule) "title" = some none) (Rn:findIn K (.ref C_Rule) "head" = some none) (Te:findIn K (.ref C_Rule) "parts" = some none) (Us:findIn K (.ref C_Rule) "weight" = some none) (Qv:findIn K (.ref C_Rule) "tag" = some none) (Tf:findIn K (.ref C_Rule) "under" = some none)
  (OT:PySem.W.nsIn K mainGlobals "Grammar" = some (some (.ref ZI))) (OU:plainGet K ZI Str.empty=true) (OV:hasDictIn K ZI=true) (OW:plainOver K ZI=true) (OX:findIn K (.ref ZI) "__setattr__" = some (some (.builtin "object.__setattr__"))) (Ug:makesIn K ZI=true) (OY:keepIn K (.ref ZI)=true) (Wz:findIn K (.ref ZI) "scale" = some none) (WB:findIn K (.ref ZI) "start" = some none) (WC:findIn K (.ref ZI) "rules" = some none)
  (OZ:ExK K "NoScale" VG)
  (Kd:ExK K "NoRule" TC)
  (Qw:ExK K "NoWeight" Wu)
  (xk_Twice:ExK K "Twice" C_Twice)
  (Nb:ExK K "NoTitle" Wv)
  (Ke:ExK K "NoKind" TF)
  (xk_Ring:ExK K "Ring" C_Ring)
  (Kf:ExK K "NoTree" VV)
  {WD:Addr}{Kg:Option Addr}{dn_Rule___init__:Nat}{dsl_Rule___init__:Array (Option Value)}{Yc:Tok}
  (Yx:findIn K (.ref C_Rule) "__init__" = some (some (.ref ZJ))) (XJ:isFn K (.ref ZJ)=true) (Vp:K.lookup ZJ=some ⟨LO,LK,.func (PySem.W.fnOf "__init__" "Rule.__init__" (Xb Yv) (ZR Yv) (Zf Yv) (.ref WD) LQ LR LU LL Sr LV),LN⟩) (Vq:PySem.W.codeIn K Sr "Rule.__init__" = true) (XM:keepIn K (.ref ZJ)=true)
  (WG:K.lookup WD=some ⟨.type "tuple",Kg,.seq ([.str "" Yc,.none]:List Value).toArray dn_Rule___init__,dsl_Rule___init__⟩)
  (Yd:findIn K (.ref ZI) "__init__" = some (some (.ref ZD))) (YT:isFn K (.ref ZD)=true) (XT:K.lookup ZD=some ⟨PC,Py,.func (PySem.W.fnOf "__init__" "Grammar.__init__" (Xb Ya) (ZR Ya) (Zf Ya) .none PD PF PH Pz Vv PJ),PB⟩) (XU:PySem.W.codeIn K Vv "Grammar.__init__" = true) (YV:keepIn K (.ref ZD)=true)
  (Wk:findIn K (.ref C_Cost) "takes" = some (some (.ref Yn))) (Ro:isFn K (.ref Yn)=true) (Rq:K.lookup Yn=some ⟨HC,Hz,.func (PySem.W.fnOf "takes" "Cost.takes" (Xb Xm) (ZR Xm) (Zf Xm) .none HD HE HF HA PQ HG),HB⟩) (Rr:PySem.W.codeIn K PQ "Cost.takes" = true) (VF:keepIn K (.ref Yn)=true)
  (Xj:findIn K (.ref Yg) "takes" = some (some (.ref ZW))) (Ut:isFn K (.ref ZW)=true) (Uu:K.lookup ZW=some ⟨Je,Jb,.func (PySem.W.fnOf "takes" "Chance.takes" (Xb YH) (ZR YH) (Zf YH) .none Jf Jg Jh Jc RF Ji),Jd⟩) (Uv:PySem.W.codeIn K RF "Chance.takes" = true) (Wp:keepIn K (.ref ZW)=true)
  (WH:LkB K "common_divisor" Wr Xn YK)
  (Nf:LkB K "fraction" Oi SJ VX)
  (Ng:LkB K "scale_of" Oj SK VY)
  (Uw:LkB K "is_name_sign" VQ Wg Xh)
  (Kh:LkB K "is_name" MI QM TH)
  (Ki:LkB K "is_kind" MJ QN TJ)
  (Kj:LkB K "is_word" MK QO TK)
  (Qx:LkB K "are_parts" Qa UE Vb)
  (Rt:LkB K "are_titles" SL Vw Wh)
  (Yt:LkB K "check_weights_and_titles" Yr ZV ZM)
  (Xl:LkB K "check_titles_under" Xg Yz Yh)
  (Tg:LkB K "check_kinds" UR WL Xz)
  (Th:LkB K "check_rings" UT WM XA)
  (WK:LkB K "heads_in_order" Ws Xo YL)
  (Qy:LkB K "may_stand" Qc UF Vc)
  (Nh:LkB K "rules_in" Ol SM Ua)
  (Rv:LkB K "rule_fault" SN Vx Wi)
  (Ti:LkB K "seated_kids" UW WN XB)
  (Qz:LkB K "counts_of" Qd UG Vd)
  (Tj:LkB K "check_trees" UX WO XC)
  (Kk:LkB K "is_tree" ML QP TL)
  (IZ:LkB K "learnt" Iv NU Qk)
  (h_l_at:LkB K "_law_at" CK Fu f_l_at)
  (h_l_mix:LkB K "_law_mix" Fv Js f_l_mix)
  (Kl:LkB K "_law_names" MM QQ TN)
  (Km:LkB K "_law_kinds" MN QR TQ)
  (Kn:LkB K "_law_words" MP QT TR)
  (Ni:LkB K "_law_titles" Om SQ Ub)
  (Nj:LkB K "_law_lowest" Oo SR Uc)
  (Nk:LkB K "_law_weight" Oq SU Ud)
  (Ko:LkB K "_law_parts" MQ QU TU)
  (Kq:LkB K "_law_rules" MR QV TV)
  (Kr:LkB K "_law_grown" MS QW TX)
  (QB:LkB K "_law_grammar" Qe UH Ve)
  (Ks:LkB K "_law_edged" MT QX TY)
  (Vr:LkB K "_law_drawn_trees" Vl XG YZ)
  (Kt:LkB K "_law_start" MU QY TZ)
  (QC:LkB K "_law_counted" Qf UI Vf)
  (Nm:LkB K "_law_counts" Ov SW Ue)
  (Ku:LkB K "_law_whole" MV QZ Sa)
  (Rx:LkB K "_law_fraction" SX Vz Wj)
  (Ha:LkB K "_law_sums" Iz NW Qn)
  (a_law:PySem.W.nsIn K mainGlobals "law" = some (some (.ref f_law))) (l_law:K.lookup f_law=some ⟨oc_law,od_law,.func (PySem.W.fnOf "law" "law" (Xb NX) (ZR NX) (Zf NX) .none kV_law dc_law pm_law an_law cd_law ct_law),sl_law⟩) (c_law:PySem.W.codeIn K cd_law "law" = true) (k_law:keepIn K (.ref f_law)=true)
  {Jj:Tok}(Vs:PySem.W.nsIn K mainGlobals "SMALL_LETTERS" = some (some (.str Yk Jj)))
  {Jk:Tok}(Vt:PySem.W.nsIn K mainGlobals "GREAT_LETTERS" = some (some (.str ZG Jk)))
  {yG:Tok}(Kv:PySem.W.nsIn K mainGlobals "FIGURES" = some (some (.str Wt yG)))
  {Hb:Tok}(Ux:PySem.W.nsIn K mainGlobals "LONGEST_NAME" = some (some (.int 12 Hb)))
  {FO:Tok}(Ry:PySem.W.nsIn K mainGlobals "MOST_PARTS" = some (some (.int 4 FO)))
  (z_tuple:PySem.W.nsIn K mainGlobals "tuple" = some none) (EE:PySem.W.nsIn K mainGlobals "abs" = some none) (Gb:PySem.W.nsIn K mainGlobals "all" = some none) (Rz:PySem.W.nsIn K mainGlobals "isinstance" = some none) (EH:PySem.W.nsIn K mainGlobals "str" = some none) (z_len:PySem.W.nsIn K mainGlobals "len" = some none) (z_list:PySem.W.nsIn K mainGlobals "list" = some none) (z_set:PySem.W.nsIn K mainGlobals "set" = some none) (z_dict:PySem.W.nsIn K mainGlobals "dict" = some none) (z_zip:PySem.W.nsIn K mainGlobals "zip" = some none) (EF:PySem.W.nsIn K mainGlobals "max" = some none) (z_range:PySem.W.nsIn K mainGlobals "range" = some none) (EG:PySem.W.nsIn K mainGlobals "int" = some none) (QD:PySem.W.nsIn K mainGlobals "enumerate" = some none) (z_bool:PySem.W.nsIn K mainGlobals "bool" = some none) (EW:PySem.W.nsIn K mainGlobals "sum" = some none) :
  ∃ fd:FuncData,(∀ (s:Shared) (v:Value),BindsTo s fd ⟨[v],[]⟩ [("_law_script",v)])∧∀ base:Heap,K.In base→base.Ns mainGlobals mg→Zy l.prog w K mg base CX0 44 fa fd ["_law_script"] (Am K):=by
 have e:=hfa.symm.trans (mg_of X G a_law)
 cases e
 have Yw:El K "__init__" "Rule.__init__" Yv ZJ _ [.str "" Yc,.none]:=⟨⟨_,_,_,_,_,_,_,_,_,WD,_,_,rfl,Vp,Vq,WG,rfl⟩,XM⟩
 have Jl:=Yw.binds (ps:=["self", "title", "head", "parts", "weight", "tag", "under"]) (ds':=[]) fun D o n kV doc pm an cdv ct s us hD ho hl=>match us,(show us.length=7 by simpa using hl) with | [_,_,_,_,_,_,_],_=>BindsTo.of_defaults rfl hD ho rfl rfl
 have Kw:=Yw.binds (ps:=["self", "title", "head", "parts", "weight", "tag", "under"]) (ds':=[.none]) fun D o n kV doc pm an cdv ct s us hD ho hl=>match us,(show us.length=6 by simpa using hl) with | [_,_,_,_,_,_],_=>BindsTo.of_defaults rfl hD ho rfl rfl
 have Kx:=Yw.binds (ps:=["self", "title", "head", "parts", "weight", "tag", "under"]) (ds':=[.str "" Yc,.none]) fun D o n kV doc pm an cdv ct s us hD ho hl=>match us,(show us.length=5 by simpa using hl) with | [_,_,_,_,_],_=>BindsTo.of_defaults rfl hD ho rfl rfl
 have YS:=Ms (st:=Ya) XT XU YV
 have Nn:=YS.binds (ps:=["self", "scale", "start", "rules"]) fun _ _ _ _ _ _=>us4 fun _ _ _ _=>rfl
 have VA:=Ms (st:=Xm) Rq Rr VF
 have FP:=VA.binds (ps:=["self", "weight"]) fun _ _ _ _ _ _=>us2 fun _ _=>rfl
 have Wl:=Ms (st:=YH) Uu Uv Wp
 have Hc:=Wl.binds (ps:=["self", "weight"]) fun _ _ _ _ _ _=>us2 fun _ _=>rfl
 obtain ⟨Ww,Xp⟩:=WH.get X G
 obtain ⟨Ow,Rc⟩:=Nf.get X G
 obtain ⟨Ox,Re⟩:=Ng.get X G
 obtain ⟨VZ,Wm⟩:=Uw.get X G
 obtain ⟨MX,VH⟩:=Kh.get X G
 obtain ⟨MY,VI⟩:=Ki.get X G
 obtain ⟨MZ,VJ⟩:=Kj.get X G
 obtain ⟨Qh,UJ⟩:=Qx.get X G
 obtain ⟨SZ,VB⟩:=Rt.get X G
 obtain ⟨Ys,ZX⟩:=Yt.get X G
 obtain ⟨Xi,YB⟩:=Xl.get X G
 obtain ⟨UZ,WQ⟩:=Tg.get X G
 obtain ⟨Ta,WR⟩:=Th.get X G
 obtain ⟨Wx,Xq⟩:=WK.get X G
 obtain ⟨Qi,UK⟩:=Qy.get X G
 obtain ⟨Oy,Rf⟩:=Nh.get X G
 obtain ⟨Ra,VC⟩:=Rv.get X G
 obtain ⟨Tb,WT⟩:=Ti.get X G
 obtain ⟨Qj,UL⟩:=Qz.get X G
 obtain ⟨Tc,WU⟩:=Tj.get X G
 obtain ⟨La,Pa⟩:=Kk.get X G
 obtain ⟨IA,Mf⟩:=IZ.get X G
 obtain ⟨d_l_at,L_l_at⟩:=h_l_at.get X G
 obtain ⟨d_l_mix,L_l_mix⟩:=h_l_mix.get X G
 obtain ⟨Lb,VL⟩:=Kl.get X G
 obtain ⟨Lc,Pb⟩:=Km.get X G
 obtain ⟨Ld,Pg⟩:=Kn.get X G
 obtain ⟨Oz,Rg⟩:=Ni.get X G
 obtain ⟨OA,Uh⟩:=Nj.get X G
 obtain ⟨OB,Ui⟩:=Nk.get X G
 obtain ⟨Le,Ph⟩:=Ko.get X G
 obtain ⟨Lf,Pj⟩:=Kq.get X G
 obtain ⟨Lg,Xr⟩:=Kr.get X G
 obtain ⟨Ql,UM⟩:=QB.get X G
 obtain ⟨Lh,Xs⟩:=Ks.get X G
 obtain ⟨Vm,XH⟩:=Vr.get X G
 obtain ⟨Li,Pk⟩:=Kt.get X G
 obtain ⟨Qm,YC⟩:=QC.get X G
 obtain ⟨OC,Rh⟩:=Nm.get X G
 obtain ⟨Lj,Se⟩:=Ku.get X G
 obtain ⟨Rb,VD⟩:=Rx.get X G
 obtain ⟨IB,Mg⟩:=Ha.get X G
 have F_law:=Ms (st:=NX) l_law c_law k_law
 have b_law:=F_law.binds (ps:=["_law_script"]) fun _ _ _ _ _ _=>us1 fun _=>rfl
 have T:Txt K mg ⟨VG,TC,Wu,C_Twice,Wv,TF,C_Ring,VV,C_Cost,Yg,C_Rule,ZI,ZJ,_,ZD,_,Yn,_,ZW,_,YK,_,VX,_,VY,_,Xh,_,TH,_,TJ,_,TK,_,Vb,_,Wh,_,ZM,_,Yh,_,Xz,_,XA,_,YL,_,Vc,_,Ua,_,Wi,_,XB,_,Vd,_,XC,_,TL,_,Qk,_,f_l_at,_,f_l_mix,_,TN,_,TQ,_,TR,_,Ub,_,Uc,_,Ud,_,TU,_,TV,_,TX,_,Ve,_,TY,_,YZ,_,TZ,_,Vf,_,Ue,_,Sa,_,Wj,_,Qn,_,fa,_,Yc⟩:=⟨⟨pg_Cost,hd_Cost,po_Cost,sa_Cost⟩,mg_of X G aC_Cost,⟨mk_Cost,in_Cost,kc_Cost⟩,⟨LX,LY,LZ,Ka⟩,mg_of X G LW,⟨Sb,Kb,Kc⟩,⟨pg_Rule,hd_Rule,po_Rule,sa_Rule⟩,mg_of X G aC_Rule,⟨mk_Rule,Yx,XJ,kc_Rule⟩,Td,Rn,Te,Us,Qv,Tf,⟨OU,OV,OW,OX⟩,mg_of X G OT,⟨Ug,Yd,YT,OY⟩,Wz,WB,WC,OZ.get X G,Kd.get X G,Qw.get X G,xk_Twice.get X G,Nb.get X G,Ke.get X G,xk_Ring.get X G,Kf.get X G,Yw,Kw,Kx,⟨Yx,XJ,XM⟩,Jl,YS,⟨Yd,YT,YV⟩,Nn,VA,⟨Wk,Ro,VF⟩,FP,Wl,⟨Xj,Ut,Wp⟩,Hc,Xp,Rc,Re,Wm,VH,VI,VJ,UJ,VB,ZX,YB,WQ,WR,Xq,UK,Rf,VC,WT,UL,WU,Pa,Mf,L_l_at,L_l_mix,VL,Pb,Pg,Rg,Uh,Ui,Ph,Pj,Xr,UM,Xs,XH,Pk,YC,Rh,Se,VD,Mg,⟨F_law,mg_of X G a_law,b_law⟩,⟨_,mg_of X G Vs⟩,⟨_,mg_of X G Vt⟩,⟨_,mg_of X G Kv⟩,⟨_,mg_of X G Ux⟩,⟨_,mg_of X G Ry⟩,mg_none_of X G z_tuple,mg_none_of X G EE,mg_none_of X G Gb,mg_none_of X G Rz,mg_none_of X G EH,mg_none_of X G z_len,mg_none_of X G z_list,mg_none_of X G z_set,mg_none_of X G z_dict,mg_none_of X G z_zip,mg_none_of X G EF,mg_none_of X G z_range,mg_none_of X G EG,mg_none_of X G QD,mg_none_of X G z_bool,mg_none_of X G EW⟩
 exact ⟨PySem.W.fnOf "law" "law" (Xb NX) (ZR NX) (Zf NX) .none kV_law dc_law pm_law an_law cd_law ct_law,fun s v => .of_eq rfl,fun base _ _=>(mO T).law⟩
theorem walk {l:PySem.W.OpenLaw}{q:Program}{loose:List Str}{XP:(Str→Option Value)→Heap→Prop}{YP:World→Heap→Prop}{d:DefRec}{K:Params→aj}(hn:l.most=some 63) (hdf:d.params.defaults=[])
  (hY:∀ (w:World) (h:Heap),YP w h→(K w.params).In h)
  (F:∀ (w:World) (mg:Str→Option Value) (fa:Addr) (h:Heap),(K w.params).In h→h.Ns mainGlobals mg→mg d.name=some (.ref fa) →
   ∃ fd:FuncData,(∀ (s:Shared) (u:Value),BindsTo s fd ⟨[u],[]⟩ [("_law_script",u)])∧∀ base:Heap,(K w.params).In base→base.Ns mainGlobals mg→Zy l.prog w (K w.params) mg base CX0 44 fa fd ["_law_script"] (Am (K w.params))) :
  PySem.W.WalkO q loose XP YP l.row.toRowW d [] (fun f vs=>PySem.call f vs) :=
 L2.BI (n:=63) (k:=44) (x := "_law_script") (CX:=fun _=>CX0) (sp:=fun w=>Am (K w.params)) hn (by decide) hdf ⟨rfl,by decide,by decide⟩ hY F (fun _ _ a ns hl _ hS=>⟨a,ns,rfl,hS,hl,fun _=>rfl⟩) fun _ _ _ _ _ z=>z
end My
local macro_rules | `(tactic| walk_at "lk") => `(tactic| (refine' L2.mw ?a ?l ?c ?k ?b; (case a => k_is); (case l => k_is); (case c => k_is); (case k => k_is); (case b => (intro _ _ _ _ _ _; first | (refine L2.us1 fun _ => ?_; rfl) | (refine L2.us2 fun _ _ => ?_; rfl) | (refine L2.us3 fun _ _ _ => ?_; rfl) | (refine L2.us4 fun _ _ _ _ => ?_; rfl) | (refine L2.us5 fun _ _ _ _ _ => ?_; rfl) | (refine L2.us6 fun _ _ _ _ _ _ => ?_; rfl)))))
local macro_rules | `(tactic| walk_at "xk") => `(tactic| (refine' L2.mx ?a ?b ?c ?d ?e ?f ?g ?h; (case a => k_is); (case b => k_exc); (case c => k_is); (case d => k_is); (case e => k_is); (case f => k_is); (case g => k_is); (case h => k_is)))
namespace PySem.W.Fast
def tw13004975058163098601:=0
def tw1486347460105834471:=0
def tw4287822384042784818:=0
def tw4266433199913389670:=0
def tw7128665020578298689:=0
def tw9725553981891896069:=0
def tw11099764756239593381:=0
def tw3901373972720686325:=0
def tw17403718765676706940:=0
def tw10474333152023120717:=0
def tw13754523506481196072:=0
def tw10329786190544480445:=0
def tw4210898659167693888:=0
def tw7965679748869564200:=0
def tw12688663132502048520:=0
def tw17969403523850004918:=0
def tw10056580543014320449:=0
def tw17226348006208186784:=0
def tw1488219681971181881:=0
def tw11651327787024840591:=0
def tw9740438781047229924:=0
def tw13433910225303430868:=0
def tw11030855703610958205:=0
def tw17813223830669022300:=0
def tw1010567059719962263:=0
def tw4439494379811707198:=0
def tw8599098061443712084:=0
def tw4104697971171145690:=0
def tw17772530885828435590:=0
def tw6835694897554243354:=0
def tw3174281987012394562:=0
def tw4276574077623656684:=0
def tw11569672528850140937:=0
def tw1323796983870515308:=0
def tw6131950449043539828:=0
def tw7013993963626215831:=0
def tw8989476883757232247:=0
def tw12168842222747837118:=0
def tw11228984123120664755:=0
def tw12154961629454609047:=0
def tw9884446933296331171:=0
def tw6150746261237711397:=0
def tw1543619907810227291:=0
def tw11833069709240355874:=0
def tw4703225404164735190:=0
def tw10591064830905845601:=0
def tw16328073620962130955:=0
def tw7444330151617339349:=0
def tw13143175555595755726:=0
def tw7334150834827809203:=0
def tw8309008180135707412:=0
def tw5563350786941518118:=0
def tw8766682955872168203:=0
def tw18200336222676528771:=0
def tw15593024947763324747:=0
def tw14523171886731839797:=0
def tw16909676459905300765:=0
def tw9061907221697564681:=0
def tw634174510883528864:=0
def tw2309401289064404111:=0
def tw10599928669232539799:=0
def tw7282701540147928689:=0
def tw11657309274116234935:=0
def tw15457580306926849992:=0
def tw16326608622423527472:=0
def tw11344932022204271858:=0
def tw2168647398137837834:=0
def tw3414739601019288073:=0
def tw7357580056654669284:=0
def tw5265379175130531528:=0
def tw9845384717168759193:=0
def tw10509417270510973177:=0
def tw14607374926027767952:=0
def tw6689229374688716280:=0
def tw14486421414468687099:=0
def tw18215061582148264347:=0
def tw9572471909811407893:=0
def tw13015156240826200162:=0
def tw857512867693749263:=0
def tw15909655632109383224:=0
def tw17386682984916896800:=0
def tw4356531737422292894:=0
def tw6183285608982645773:=0
def tw16119592088012030273:=0
def tw4999255958658414866:=0
def tw11171363511582256401:=0
def tw282182141187992267:=0
def tw1811622265726331072:=0
def tw4801183537526414695:=0
def tw16768600034721297997:=0
def tw1741336957112551619:=0
def tw16115172942098649058:=0
def tw15902094183485245172:=0
def tw9713651296231519855:=0
def tw4966677260536436419:=0
def tw4605635055086148113:=0
def tw14344064248616010680:=0
def tw14871387688643469865:=0
def tw12838802395804500345:=0
def tw6300590286159046668:=0
def tw4785373821001786872:=0
def tw4721663190545481950:=0
def tw13882306305277708625:=0
def tw9843505747243738389:=0
def tw15601552227245832630:=0
def tw657388080845198999:=0
def tw9570918584045982491:=0
def tw1582876689728270025:=0
def tw2458909892443618873:=0
def tw4630559268915288878:=0
def tw15735807410064464868:=0
def tw1875553670340847887:=0
def tw2323796171813568498:=0
def tw855869163093930833:=0
def tw18022129953120694493:=0
def tw6197303272225566322:=0
def tw9528587801198665561:=0
def tw14672460649425842968:=0
def tw5632644611048468943:=0
def tw326699761775074095:=0
def tw3254864077008332348:=0
def tw5898476783608883465:=0
def tw18288372950682087692:=0
def tw16735348688734676340:=0
def tw2293145661053730864:=0
def tw13547286059888101178:=0
def tw13431639792447779608:=0
def tw16904964022644242809:=0
def tw1674015883634224659:=0
def tw154375277138388307:=0
def tw17593160411720015207:=0
def tw13504454542314250019:=0
def tw18370829852994865052:=0
def tw1014922467971438956:=0
def tw12199963248521395195:=0
def tw9266715301989171685:=0
def tw8686164665279332236:=0
def tw9779654127824074424:=0
def tw3169803574953735626:=0
def tw10304844398174565973:=0
def tw10785662619413091463:=0
def tw15669375563120824167:=0
def tw16987317098220050708:=0
def tw3467390255964478284:=0
def tw5360740501081443158:=0
def tw8619408472767493600:=0
def tw2815259273380704142:=0
def tw9898332314674343618:=0
def tw18192077663938168743:=0
def tw17748603503881571263:=0
def tw1259897468553534281:=0
def tw8555955774058445401:=0
def tw4025012454136620817:=0
def tw4659757431688662219:=0
def tw5455648890120630520:=0
def tw7692216252428736128:=0
def tw14515465935050988548:=0
def tw758889828467560569:=0
def tw4884078875401768093:=0
def tw17501548148158908987:=0
def tw10647094359241375176:=0
def tw11449107352180599959:=0
def tw11024802058715611810:=0
def tw14482858568041371169:=0
def tw1347720774543368030:=0
def tw16721086500070163730:=0
def tw6305478717898731551:=0
def tw7626855488384178282:=0
def tw11376892189585205040:=0
def tw13080472094061972116:=0
def tw6713848499290538444:=0
def tw4691150734321482870:=0
def tw17061792851070303825:=0
def tw6344180583360926112:=0
def tw6762414691972490740:=0
def tw10224511892393369655:=0
def tw14581567089481181873:=0
def tw7316191458760767703:=0
def tw5783456557583673115:=0
def tw6485400366935145212:=0
def tw1930731320895761765:=0
def tw10894754036498274273:=0
def tw6510539000361458148:=0
def tw14860511390979463337:=0
def tw12746412899113405920:=0
def tw3509361977138421054:=0
def tw470632317901961139:=0
def tw6371118984912266968:=0
def tw11224616998729939900:=0
def tw16094988282926456943:=0
def tw9744326388229216933:=0
def tw9318330416440812680:=0
def tw17795618535074205381:=0
def tw510659776779333021:=0
def tw6784446895935953278:=0
def tw6422427782317890159:=0
def tw9235245304725266274:=0
def tw5190596663622814391:=0
def tw1638708834385364459:=0
def tw5655190983729413592:=0
def tw4601131849399465474:=0
def tw9904601598152758372:=0
def tw3824870889724280769:=0
def tw891562575735324968:=0
def tw18106168024974981163:=0
def tw2340123241757526880:=0
def tw16059866303917269822:=0
def tw12863804184758090887:=0
def tw14108508095008600331:=0
def tw2800763519564824122:=0
def tw13628146469092333644:=0
def tw3692973355912167687:=0
def tw7342534345627691936:=0
def tw6917964416287806471:=0
def tw2316818285718419128:=0
def tw2275874023556753245:=0
def tw11538685284899326206:=0
def tw5712825695448861402:=0
def tw3242705152565662869:=0
def tw3834559514146698327:=0
def tw15038764663544616008:=0
def tw6858428026180447102:=0
def tw2288551963573355329:=0
def tw165621549809605953:=0
def tw3255638023648321870:=0
def tw10681634859389264063:=0
def tw6863087380338195260:=0
def tw10411158679899577441:=0
def tw14759889022715523668:=0
def tw5851061305736408814:=0
def tw8710873708279114235:=0
def tw9015080488361473873:=0
def tw15204587863255746188:=0
def tw14357053812493368020:=0
def tw6040390175082659337:=0
def tw431481428530504555:=0
def tw18379075492853661584:=0
def tw7206616853464324441:=0
def tw7937506451393394406:=0
def tw3700239741569820278:=0
def tw13685778874162518784:=0
def tw6074456104268478928:=0
def tw2212071639057383047:=0
def tw262953712547435561:=0
def tw3260251039937028940:=0
def tw9870058637545013365:=0
def tw8398570898355260349:=0
def tw16152266797759645715:=0
def tw2541378978559605638:=0
def tw10768719933494146925:=0
def tw18393310437560149706:=0
def tw1134185537180997582:=0
def tw1826982942677366541:=0
def tw10391339961618159606:=0
def tw8009573188271058240:=0
def tw17456484629280183485:=0
def tw10380207101869615715:=0
def tw9109581438749029307:=0
def tw14307777988531822785:=0
def tw18353237163919264374:=0
def tw1359367459635497286:=0
def tw15765973773127332048:=0
def tw6147490109049934122:=0
def tw8617324776074741055:=0
def tw11652575093344617246:=0
def tw14465279968500814547:=0
def tw15979239063187657440:=0
def tw2036257597423938254:=0
def tw12097183303239204034:=0
def tw3871726920481296514:=0
def tw3065273716487626634:=0
def tw10913981970431446938:=0
def tw16085303673480512944:=0
def tw10047612436277097095:=0
def tw14650551331925628666:=0
def tw12721231254233653900:=0
def tw3329386624488153669:=0
def tw15795984464574818720:=0
def tw10114444381612199590:=0
def tw5237357128446718739:=0
def tw18302870717345682174:=0
def tw12123427476675782771:=0
def tw2806512461148391317:=0
def tw12340022129677388930:=0
def tw3945075781091049120:=0
def tw14447269391728997056:=0
def tw18363982748033915506:=0
def tw13342389822304238863:=0
def tw6725826397908192425:=0
def tw18434179166701344914:=0
def tw6456792380108662249:=0
def tw3406819537798427699:=0
def tw11337439330691788429:=0
def tw6390418350564847355:=0
def tw10702214421583843885:=0
def tw9635722100975041078:=0
def tw9165927681656432293:=0
def tw15850258151398502728:=0
def tw2941682246727834187:=0
def tw9205887321616856751:=0
def tw5223265541913220127:=0
def tw5458770956631176727:=0
def tw688949784217201620:=0
def tw12614167801672490684:=0
def tw11400078388791977669:=0
def tw7197567041688683327:=0
def tw2807392735206235813:=0
def tw7817238002740011805:=0
def tw18083880190243687387:=0
def tw10827922749535984206:=0
def tw12278941912938861784:=0
def tw11595881786981514134:=0
def tw2753530889936844238:=0
def tw598214215291935692:=0
def tw14206696094155678262:=0
def tw51385725110325340:=0
def tw10275786977470954050:=0
def tw5931678710771230320:=0
def tw4244540657152810126:=0
def tw3037324928194963409:=0
def tw5061724831585814239:=0
def tw11462788343508822120:=0
def tw9609788879089405827:=0
def tw3368577591997643755:=0
def tw10124433819140366543:=0
def tw11004464765337096991:=0
def tw11430057876102386962:=0
def tw1114362733239529374:=0
def tw11948486362550972778:=0
def tw9155329489603898411:=0
def tw1500578429410087578:=0
def tw6049638739614261325:=0
def tw14052126033259229085:=0
def tw3517780713498576612:=0
def tw12525342994190211124:=0
def tw14013858073279702033:=0
def tw17741119741063090528:=0
def tw14719829455488900981:=0
def tw6419798275172165861:=0
def tw11610796500227498343:=0
def tw16120221263487429285:=0
def tw17120451324018808777:=0
def tw8102614460415416967:=0
def tw15728786794424655636:=0
def tw10077788595318318144:=0
def tw4701792211242412041:=0
def tw16166784178190817285:=0
def tw8888198230106852677:=0
def tw863381895169707046:=0
def tw4596095629140527299:=0
def tw4788378026776831966:=0
def tw16779587166991542724:=0
def tw182358072356065980:=0
def tw14159988376569431118:=0
def tw15079981505979224660:=0
def tw3219267498314004290:=0
def tw16623218564021397896:=0
def tw1352351969732684985:=0
def tw2391810662311812549:=0
def tw17068516899478928994:=0
def tw3293056473734285701:=0
def tw16735611872548456881:=0
def tw5401737191754261435:=0
def tw16068276658888098764:=0
def tw3659578618174288693:=0
def tw11843372455051066838:=0
def tw12593890192971835226:=0
def tw2957841597236018625:=0
def tw7681050342036634428:=0
def tw16382303035519374161:=0
def tw14285340486227932198:=0
def tw8758425179516596526:=0
def tw3399581184544086538:=0
def tw3326214068338629288:=0
def tw17674749323049252905:=0
def tw224583982532596666:=0
def tw6670816058097211713:=0
def tw1216544787171986972:=0
def tw10955870943135404061:=0
def tw12677028125691194215:=0
def tw2869714043232605376:=0
def tw14438441615027679331:=0
def tw3538982863674144064:=0
def tw18171841117665814483:=0
def tw9228022009928549561:=0
def tw171378900717524015:=0
def tw10334374936373814016:=0
def tw16668517764846936775:=0
def tw8366901186318793323:=0
def tw7161926651392782262:=0
def tw3673837028433992331:=0
def tw11245158430900320581:=0
def tw6551275222528613309:=0
def tw4934260776113913813:=0
def tw7641218344174547535:=0
def tw2220614533418428751:=0
def tw3565228617178163639:=0
def tw9795787947193663567:=0
def tw18154885368794298422:=0
def tw7967643271075458342:=0
def tw17581512302537132280:=0
def tw849506188506929944:=0
def tw4387446095338726531:=0
def tw7369188098614392660:=0
def tw10578677463701588010:=0
def tw322422082425175570:=0
def tw13484444102204584517:=0
def tw2742387384014872963:=0
def tw9665467945288155393:=0
def tw15365805774560738237:=0
def tw1485845391701255914:=0
def tw5736797028628380009:=0
def tw13802819478242466876:=0
def tw3783977759560489245:=0
def tw12325994294989087713:=0
def tw10705475278278675878:=0
def tw2998698590888870947:=0
def tw6764407209521214734:=0
def tw848337899919249264:=0
def tw8288428215468571928:=0
def tw18331712212573115070:=0
def tw10330374708191376410:=0
def tw17713509147800124265:=0
def tw17537099596194821480:=0
def tw286712484277232919:=0
def tw7961449901020968576:=0
def tw207076829170013765:=0
def tw2586649015226250547:=0
def tw8972294566462755360:=0
def tw4824968556762357310:=0
def tw3890650911651698268:=0
def tw10197918148878280788:=0
def tw12270238548867302045:=0
def tw8025490289302684124:=0
def tw4964663178533259837:=0
def tw6947854335252966447:=0
def tw6099663748609424804:=0
def tw3028149931313869958:=0
def tw10889735504547841587:=0
def tw8362859273234916664:=0
def tw14918907783307170133:=0
def tw15135443665403715459:=0
def tw15922021081757375163:=0
def tw546303449662453459:=0
def tw2657261957976195336:=0
def tw4711723536762671908:=0
def tw2336823825200987336:=0
def tw16834407628520903253:=0
def tw2608304161555414434:=0
def tw6711369503815545748:=0
def tw6523991195826702605:=0
def tw5538116258041531885:=0
def tw11235353731675469838:=0
def tw17048918859652645816:=0
def tw14327560205783719915:=0
def tw16489282564008613265:=0
def tw16454958873187571455:=0
def tw12817874302817710961:=0
def tw1742674655853324026:=0
def tw1723250455623724443:=0
def tw5252983034550794665:=0
def tw13258278412295002694:=0
def tw11984203500109238094:=0
def tw16750657751968778616:=0
def tw1658280573754098660:=0
def tw1368989115101208947:=0
def tw11374796684065821526:=0
def tw6498207815331215630:=0
def tw9126113047862271080:=0
def tw14564535032179498223:=0
def tw5808259019529599133:=0
def tw2217955165091434552:=0
def tw10337364369725357250:=0
def tw17321231845289135668:=0
def tw14949156388674842229:=0
def tw6311064006762759693:=0
def tw1268195654366579513:=0
def tw10681371724333215769:=0
def tw10176309547805069015:=0
def tw9270381205017489985:=0
def tw2196531529895508267:=0
def tw17502543958785824832:=0
def tw8718739544279835607:=0
def tw6145044375454928341:=0
def tw4530940817273050554:=0
def tw7864550327819470179:=0
def tw8166849396996838912:=0
def tw2771163866467833956:=0
def tw9943311099349921294:=0
def tw17036142440519847632:=0
def tw13868631200941909805:=0
def tw2258922651155451897:=0
def tw384854314353830837:=0
def tw14557480441822108259:=0
def tw7086669049787291051:=0
def tw15119029193772011557:=0
def tw15691125106957054688:=0
def tw1686521513538684041:=0
def tw12199655020807528542:=0
def tw3813866490889724935:=0
def tw9346383393717247702:=0
def tw3995377500884427712:=0
def tw11933484325009203545:=0
def tw1267680645094736969:=0
def tw9163372079269947198:=0
def tw4275949024501704096:=0
def tw2183536451585609198:=0
def tw4472451317101626853:=0
def tw15023160363195017178:=0
def tw5144558312992399706:=0
def tw6085665711182062992:=0
def tw11317117917071540227:=0
def tw18412768995325970067:=0
def tw494345166144220472:=0
def tw11723615518700715825:=0
def tw18175944110263353553:=0
def tw10638138706629662203:=0
def tw65360940248444167:=0
def tw16426490776272782329:=0
def tw11583553116864121100:=0
def tw16764162383596004579:=0
def tw11495997239787889787:=0
def tw2213664079766074071:=0
def tw4328280471960719715:=0
def tw13091020173809769640:=0
def tw9464116773569955304:=0
def tw6137462829015625247:=0
def tw13239493352151544850:=0
def tw4746118294673899681:=0
def tw8079736897886020053:=0
def tw16628230942589838581:=0
def tw13596162898879997607:=0
def tw1744905165968074386:=0
def tw11491663908587253503:=0
def tw8806709409839310629:=0
def tw15244155047107258097:=0
def tw9657905160321749580:=0
def tw395718484353170983:=0
def tw2918204516355413727:=0
def tw10641341783456592205:=0
def tw3003242832329551009:=0
def tw10116638990488357327:=0
def tw10803938487893106328:=0
def tw574195989264231665:=0
def tw16880513468653385428:=0
def tw10346512531128315158:=0
def tw16656360930983377387:=0
def tw9496228604443642141:=0
def tw7277543397159633346:=0
def tw18138513568270476278:=0
def tw18266947385062703744:=0
def tw8819936157200216354:=0
def tw13926286066284951838:=0
def tw13159543567226810422:=0
def tw16528890790213718100:=0
def tw3245075043885281442:=0
def tw2430484583827087426:=0
def tw11940480743058098558:=0
def tw14911022760991712403:=0
def tw12775167714786865699:=0
def tw7842572157204812917:=0
def tw13117980981873572092:=0
def tw9835650091139590551:=0
def tw2424456424214937684:=0
def tw7133508734774241903:=0
def tw17760380796182199069:=0
def tw831986396293101505:=0
def tw5435411654401648191:=0
def tw422637942266455306:=0
def tw6531354023525854032:=0
def tw2310943970355878516:=0
def tw2890297868064257497:=0
def tw4694048421087328188:=0
def tw14795963773510953556:=0
def tw5829041755801632051:=0
def tw6475187994250008813:=0
def tw7221144158323849397:=0
def tw3202026352825028462:=0
def tw7931084798520735559:=0
def tw14657664733773434125:=0
def tw1561207511200444659:=0
def tw7287732251593310346:=0
def tw12867248194128113088:=0
def tw4650505379471581298:=0
def tw10558645644303199293:=0
def tw16905585482921577288:=0
def tw16143703211564355531:=0
def tw2994394467099460823:=0
def tw6582902187980849419:=0
def tw18196975717014818645:=0
def tw7456608148462027568:=0
def tw14610401733635210638:=0
def tw1949312990697587587:=0
def tw12896127977899574734:=0
def tw14845272595251553077:=0
def tw9280198619413927375:=0
def tw1819588518064998313:=0
def tw15270552471440991533:=0
def tw712874074584902801:=0
def tw12174750817221618840:=0
def tw2551018137705203017:=0
def tw16003097483583364677:=0
def tw5798864017237395920:=0
def tw1641601014762548116:=0
def tw4772053061611675145:=0
def tw7551167552654974344:=0
def tw1851857351256366859:=0
def tw10061897878508853513:=0
def tw12045802434267829465:=0
def tw5854462992374654261:=0
def tw14507849749945229188:=0
def tw10393970506721218389:=0
def tw3356101188040353903:=0
def tw3187974928620054720:=0
def tw5554862916335542689:=0
def tw2656480840357856749:=0
def tw16425611041423877748:=0
def tw6030207077550502485:=0
def tw15030384157322561146:=0
def tw10304916672497231689:=0
def tw7754710402857407361:=0
end PySem.W.Fast
open PySem PySem.W PyProof.Rows
set_option maxRecDepth 100000 in
set_option maxHeartbeats 0 in
theorem PySem.Challenge.cw_kbestwood_k44_shares_learnt_holds : PySem.Challenge.rw_kbestwood_k44_shares_learnt.Holds := by
  w_on; o_law; k_head; (case hw => w_witness2)
  k_fill
  refine My.walk (l := PySem.Challenge.rw_kbestwood_k44_shares_learnt) rfl rfl (fun w h Y => PySem.W.kIn_of Y) ?F
  case F =>
    intro w mg fa h KX G hmg
    refine' My.all_mk KX G hmg ?aC_Cost ?pg_Cost ?hd_Cost ?po_Cost ?sa_Cost ?mk_Cost ?in_Cost ?kc_Cost ?LW ?LX ?LY ?LZ ?Ka ?Sb ?Kb ?Kc ?aC_Rule ?pg_Rule ?hd_Rule ?po_Rule ?sa_Rule ?mk_Rule ?kc_Rule ?Td ?Rn ?Te ?Us ?Qv ?Tf ?OT ?OU ?OV ?OW ?OX ?Ug ?OY ?Wz ?WB ?WC ?OZ ?Kd ?Qw ?xk_Twice ?Nb ?Ke ?xk_Ring ?Kf ?Yx ?XJ ?Vp ?Vq ?XM ?WG ?Yd ?YT ?XT ?XU ?YV ?Wk ?Ro ?Rq ?Rr ?VF ?Xj ?Ut ?Uu ?Uv ?Wp ?WH ?Nf ?Ng ?Uw ?Kh ?Ki ?Kj ?Qx ?Rt ?Yt ?Xl ?Tg ?Th ?WK ?Qy ?Nh ?Rv ?Ti ?Qz ?Tj ?Kk ?IZ ?h_l_at ?h_l_mix ?Kl ?Km ?Kn ?Ni ?Nj ?Nk ?Ko ?Kq ?Kr ?QB ?Ks ?Vr ?Kt ?QC ?Nm ?Ku ?Rx ?Ha ?a_law ?l_law ?c_law ?k_law ?Vs ?Vt ?Kv ?Ux ?Ry ?z_tuple ?EE ?Gb ?Rz ?EH ?z_len ?z_list ?z_set ?z_dict ?z_zip ?EF ?z_range ?EG ?QD ?z_bool ?EW
    (case aC_Cost => k_is)
    (case pg_Cost => k_is)
    (case hd_Cost => k_is)
    (case po_Cost => k_is)
    (case sa_Cost => k_is)
    (case mk_Cost => k_is)
    (case in_Cost => k_is)
    (case kc_Cost => k_is)
    (case LW => k_is)
    (case LX => k_is)
    (case LY => k_is)
    (case LZ => k_is)
    (case Ka => k_is)
    (case Sb => k_is)
    (case Kb => k_is)
    (case Kc => k_is)
    (case aC_Rule => k_is)
    (case pg_Rule => k_is)
    (case hd_Rule => k_is)
    (case po_Rule => k_is)
    (case sa_Rule => k_is)
    (case mk_Rule => k_is)
    (case kc_Rule => k_is)
    (case Td => k_is)
    (case Rn => k_is)
    (case Te => k_is)
    (case Us => k_is)
    (case Qv => k_is)
    (case Tf => k_is)
    (case OT => k_is)
    (case OU => k_is)
    (case OV => k_is)
    (case OW => k_is)
    (case OX => k_is)
    (case Ug => k_is)
    (case OY => k_is)
    (case Wz => k_is)
    (case WB => k_is)
    (case WC => k_is)
    (case OZ => walk_at "xk")
    (case Kd => walk_at "xk")
    (case Qw => walk_at "xk")
    (case xk_Twice => walk_at "xk")
    (case Nb => walk_at "xk")
    (case Ke => walk_at "xk")
    (case xk_Ring => walk_at "xk")
    (case Kf => walk_at "xk")
    (case Yx => k_is)
    (case XJ => k_is)
    (case Vp => k_is)
    (case Vq => k_is)
    (case XM => k_is)
    (case WG => k_is)
    (case Yd => k_is)
    (case YT => k_is)
    (case XT => k_is)
    (case XU => k_is)
    (case YV => k_is)
    (case Wk => k_is)
    (case Ro => k_is)
    (case Rq => k_is)
    (case Rr => k_is)
    (case VF => k_is)
    (case Xj => k_is)
    (case Ut => k_is)
    (case Uu => k_is)
    (case Uv => k_is)
    (case Wp => k_is)
    (case WH => walk_at "lk")
    (case Nf => walk_at "lk")
    (case Ng => walk_at "lk")
    (case Uw => walk_at "lk")
    (case Kh => walk_at "lk")
    (case Ki => walk_at "lk")
    (case Kj => walk_at "lk")
    (case Qx => walk_at "lk")
    (case Rt => walk_at "lk")
    (case Yt => walk_at "lk")
    (case Xl => walk_at "lk")
    (case Tg => walk_at "lk")
    (case Th => walk_at "lk")
    (case WK => walk_at "lk")
    (case Qy => walk_at "lk")
    (case Nh => walk_at "lk")
    (case Rv => walk_at "lk")
    (case Ti => walk_at "lk")
    (case Qz => walk_at "lk")
    (case Tj => walk_at "lk")
    (case Kk => walk_at "lk")
    (case IZ => walk_at "lk")
    (case h_l_at => walk_at "lk")
    (case h_l_mix => walk_at "lk")
    (case Kl => walk_at "lk")
    (case Km => walk_at "lk")
    (case Kn => walk_at "lk")
    (case Ni => walk_at "lk")
    (case Nj => walk_at "lk")
    (case Nk => walk_at "lk")
    (case Ko => walk_at "lk")
    (case Kq => walk_at "lk")
    (case Kr => walk_at "lk")
    (case QB => walk_at "lk")
    (case Ks => walk_at "lk")
    (case Vr => walk_at "lk")
    (case Kt => walk_at "lk")
    (case QC => walk_at "lk")
    (case Nm => walk_at "lk")
    (case Ku => walk_at "lk")
    (case Rx => walk_at "lk")
    (case Ha => walk_at "lk")
    (case a_law => k_is)
    (case l_law => k_is)
    (case c_law => k_is)
    (case k_law => k_is)
    (case Vs => k_is)
    (case Vt => k_is)
    (case Kv => k_is)
    (case Ux => k_is)
    (case Ry => k_is)
    (case z_tuple => k_is)
    (case EE => k_is)
    (case Gb => k_is)
    (case Rz => k_is)
    (case EH => k_is)
    (case z_len => k_is)
    (case z_list => k_is)
    (case z_set => k_is)
    (case z_dict => k_is)
    (case z_zip => k_is)
    (case EF => k_is)
    (case z_range => k_is)
    (case EG => k_is)
    (case QD => k_is)
    (case z_bool => k_is)
    (case EW => k_is)
